/-
  TURNS: whose turn it is at a tick, in which round, and how many: the program's, and the document's.
  WHEN A PLACE'S TURN IS NEXT: the document's answer.
  TURNS, plain: the slots come again; whose turn is next, without a bound.
  THE TICKS: the program's All hands back a function over a copy of the slots of its own.
  THE TICKS, GONE THROUGH: the function that the program's All hands back, for every loop body that keeps the slots.
  WHEN A PLACE'S TURN IS NEXT: the program's Next, a range over the ticks.
-/
import Derived.Test.YtokljdaofjgihaaGreatDoorPolC
import Derived.Test.YtokljdaofjgihaaGreatDoorParF
import Derived.Test.YtokljdaofjgihaaGreatDoorShelfPol
import Derived.RangeFuncNested
import Derived.RangeFuncBound
import Derived.RangeFuncCalls
import Derived.RangeFuncLeaves
import Derived.Shelf.Abstract
import Derived.Shelf.RegionOpen
import Derived.WalkKit
import Derived.OwnWalkIn
import Derived.TacticsInMore
import Derived.LoopNIn
import Derived.LoopIn
import Derived.RangeFuncBox
namespace Go.Proofs.YtokljdaofjgihaaGreatDoor
open Go.ChangeShapes Go.WideShapes Go.ChangeAt Go.RowKit

def Sl.at_ (sl : List Int) (t : Nat) : Int := sl.getD (t % sl.length) 0
theorem Sl.tmod (t n : Nat) : Int.tmod (t : Int) (n : Int) = ((t % n : Nat) : Int) := by rw [Int.ofNat_tmod]
theorem Sl.tdiv (t n : Nat) : Int.tdiv (t : Int) (n : Int) = ((t / n : Nat) : Int) := by rw [Int.ofNat_tdiv]
set_option maxRecDepth 100000 in
set_option maxHeartbeats 1000000 in
theorem sat_any (p : Pl.Pol) (pa : Option Addr) (pc : Nat) (sa : Option Addr) (sc : Nat) (ga : Option Addr) (gc : Nat) (t : Nat) (w : World) (hl : p.slots.length ≤ 1000) (h0 : 0 < p.slots.length) (ht : t < 18446744073709551616) (hs : Ints w sa p.slots) :
    Calls Tryz.prog 29 #[polV p pa pc sa sc ga gc, .int .u64 (t : Int)] w fun e w' => e = .returned (.int .i64 (Sl.at_ p.slots t)) ∧ Below w.heap.size w w' := by
  obtain ⟨wk, gv, pl, sl, gr⟩ := p
  simp only [polV] at *
  have hm := Nat.mod_lt t h0
  obtain ⟨b, o, rfl, hb, hc⟩ := hs.at_ (t % sl.length) hm
  clear hs
  have HE := Lib.hid (show Sl.at_ sl t = sl.getD (t % sl.length) 0 from rfl)
  have e1 := Sl.tmod t sl.length
  rw [← HE.out] at hc
  clear HE
  generalize Sl.at_ sl t = X at *
  generalize t % sl.length = r at *
  generalize sl.length = n at *
  have hn : (n : Int) ≠ 0 := by omega
  have hn2 : 0 < (n : Int) := by omega
  have hn3 : (n : Int) ≤ 1000 := by omega
  have ht2 : (t : Int) < 18446744073709551616 := by omega
  have hr : (r : Int) < n := by omega
  have e2 : IntKind.u64.wrap (n : Int) = n := by rw [IntKind.wrap_u64]; omega
  have e3 : IntKind.u64.wrap (r : Int) = r := by rw [IntKind.wrap_u64]; omega
  clear ht ht2
  have hB0 := Lib.hid (show Below w.heap.size w (w.alloc (.cells #[.int .i64 wk, .int .i64 gv, .slice pa pl.length pc, .slice (some ⟨b, o, none⟩) n sc, .slice ga gr.length gc] 26)) from (Below.refl _ _).alloc (Nat.le_refl _) _)
  obtain ⟨c0, c1, c2, c3, c4⟩ := Cell5.new w (.int .i64 wk) (.int .i64 gv) (.slice pa pl.length pc) (.slice (some ⟨b, o, none⟩) n sc) (.slice ga gr.length gc) 26
  have hc2 := (hB0.out.cell (p := ⟨b, o + r, none⟩) hb).trans hc
  go_enter Tryz.func29, Tryz.ntmps29
  go_wp2_with fail
  go_quiet (fail)
  go_wp2_with fail
  go_ret
  exact ⟨rfl, drewN_below hB0.out _⟩
set_option maxRecDepth 100000 in
set_option maxHeartbeats 1000000 in
theorem sround_any (p : Pl.Pol) (pa : Option Addr) (pc : Nat) (sa : Option Addr) (sc : Nat) (ga : Option Addr) (gc : Nat) (t : Nat) (w : World) (hl : p.slots.length ≤ 1000) (h0 : 0 < p.slots.length) (ht : t < 18446744073709551616) :
    Calls Tryz.prog 31 #[polV p pa pc sa sc ga gc, .int .u64 (t : Int)] w fun e w' => e = .returned (.int .u64 ((t / p.slots.length : Nat) : Int)) ∧ Below w.heap.size w w' := by
  obtain ⟨wk, gv, pl, sl, gr⟩ := p
  simp only [polV] at *
  have e1 := Sl.tdiv t sl.length
  have hle : t / sl.length ≤ t := Nat.div_le_self _ _
  generalize t / sl.length = r at *
  generalize sl.length = n at *
  have hn : (n : Int) ≠ 0 := by omega
  have hn2 : 0 < (n : Int) := by omega
  have hn3 : (n : Int) ≤ 1000 := by omega
  have ht2 : (t : Int) < 18446744073709551616 := by omega
  have e2 : IntKind.u64.wrap (n : Int) = n := by rw [IntKind.wrap_u64]; omega
  have e3 : IntKind.u64.wrap (r : Int) = r := by rw [IntKind.wrap_u64]; omega
  clear ht ht2
  have hB0 := Lib.hid (show Below w.heap.size w (w.alloc (.cells #[.int .i64 wk, .int .i64 gv, .slice pa pl.length pc, .slice sa n sc, .slice ga gr.length gc] 26)) from (Below.refl _ _).alloc (Nat.le_refl _) _)
  go_enter Tryz.func31, Tryz.ntmps31
  go_wp2_with fail
  go_ret
  exact ⟨rfl, hB0.out⟩
def STu (sl : List Int) (x : Int) (w : World) (x0 x1 x2 x3 x4 : Value) (g : Nat) (i t : Value) (wr : World) : Prop :=
  ∃ k : Nat, k + g = sl.length ∧ i = .int .i64 (k : Int) ∧ t = .int .i64 (((sl.take k).count x : Nat) : Int) ∧ wr = w.alloc (.cells #[x0, x1, x2, x3, x4] 26)
theorem count_take (sl : List Int) (x : Int) (k : Nat) (h : k < sl.length) : (sl.take (k + 1)).count x = (sl.take k).count x + (if sl.getD k 0 == x then 1 else 0) := by
  rw [List.take_succ_eq_append_getElem h, List.count_append, List.getD_eq_getElem?_getD, List.getElem?_eq_getElem h]
  simp [List.count_cons]
theorem count_le_len (sl : List Int) (x : Int) (k : Nat) : (sl.take k).count x ≤ sl.length := by
  have := List.count_le_length (a := x) (l := sl.take k)
  rw [List.length_take] at this
  omega
set_option maxRecDepth 100000 in
set_option maxHeartbeats 1000000 in
theorem sturns_any (p : Pl.Pol) (pa : Option Addr) (pc : Nat) (sa : Option Addr) (sc : Nat) (ga : Option Addr) (gc : Nat) (x : Int) (w : World) (hl : p.slots.length ≤ 1000) (hs : Ints w sa p.slots) :
    Calls Tryz.prog 33 #[polV p pa pc sa sc ga gc, .int .i64 x] w fun e w' => e = .returned (.int .i64 ((p.slots.count x : Nat) : Int)) ∧ Below w.heap.size w w' := by
  obtain ⟨wk, gv, pl, sl, gr⟩ := p
  simp only [polV] at *
  have HI := Lib.hid hs
  clear hs
  have HT := Lib.hid (count_take sl x)
  have HLE := Lib.hid (count_le_len sl x)
  have HFULL := Lib.hid (show (sl.take sl.length).count x = sl.count x by rw [List.take_length])
  have hB0 := Lib.hid (show Below w.heap.size w (w.alloc (.cells #[.int .i64 wk, .int .i64 gv, .slice pa pl.length pc, .slice sa sl.length sc, .slice ga gr.length gc] 26)) from (Below.refl _ _).alloc (Nat.le_refl _) _)
  have hn3 : (sl.length : Int) ≤ 1000 := by omega
  go_enter Tryz.func33, Tryz.ntmps33
  go_wp2_with fail
  go_loopg [11, 5] sl.length (fun g i t wr => STu sl x w (.int .i64 wk) (.int .i64 gv) (.slice pa pl.length pc) (.slice sa sl.length sc) (.slice ga gr.length gc) g i t wr)
  case atStart => exact ⟨0, by omega, rfl, rfl, rfl⟩
  case round =>
    obtain ⟨k, hk, rfl, rfl, rfl⟩ := hrel
    have HK := Lib.hid hk
    clear hk
    have hle := HLE.out k
    by_cases hlt : k < sl.length
    · obtain ⟨b, o, rfl, hb, hc⟩ := HI.out.at_ k hlt
      have hc2 := (hB0.out.cell (p := ⟨b, o + k, none⟩) hb).trans hc
      have HN := Lib.hid (HT.out k hlt)
      have HG : Hid (∀ C' : Nat, C' = (sl.take (k + 1)).count x → STu sl x w (.int .i64 wk) (.int .i64 gv) (.slice pa pl.length pc) (.slice (some ⟨b, o, none⟩) sl.length sc) (.slice ga gr.length gc) (gk - 1) (.int .i64 ((k + 1 : Nat) : Int)) (.int .i64 (C' : Int)) _) := fun C' h => ⟨k + 1, by have := HK.out; omega, rfl, by rw [h], rfl⟩
      rw [HN.out] at HG
      clear HN
      generalize (sl.take k).count x = C at *
      generalize sl.getD k 0 = y at *
      cases hy : y == x with
      | true =>
        rw [hy] at HG
        clear hc
        go_wp2_with fail
        go_roundg (gk - 1)
        case rel => have := HG.out (C + 1) rfl; simpa using this
        case measure => have := HK.out; omega
      | false =>
        rw [hy] at HG
        clear hc
        go_wp2_with fail
        go_roundg (gk - 1)
        case rel => have := HG.out C rfl; simpa using this
        case measure => have := HK.out; omega
    · have HE := Lib.hid (show (sl.take k).count x = sl.count x by rw [show k = sl.length by have := HK.out; omega]; exact HFULL.out)
      go_wp2_with fail
      go_ret
      exact ⟨ret_nat (by rw [HE.out]), hB0.out⟩
set_option maxRecDepth 100000 in
set_option maxHeartbeats 1000000 in
theorem rat_any (p : Pl.Pol) (pa : Option Addr) (pc : Nat) (sa : Option Addr) (sc : Nat) (ga : Option Addr) (gc : Nat) (t : Nat) (w : World) (hl : p.slots.length ≤ 1000) (h0 : 0 < p.slots.length) (ht : t < 18446744073709551616) (hs : Ints w sa p.slots) :
    Calls Tryz.prog 30 #[polV p pa pc sa sc ga gc, .int .u64 (t : Int)] w fun e w' => e = .returned (.int .i64 (Sl.at_ p.slots t)) ∧ Below w.heap.size w w' := by
  obtain ⟨wk, gv, pl, sl, gr⟩ := p
  simp only [polV] at *
  have hm := Nat.mod_lt t h0
  obtain ⟨b, o, rfl, hb, hc⟩ := hs.at_ (t % sl.length) hm
  clear hs
  have HE := Lib.hid (show Sl.at_ sl t = sl.getD (t % sl.length) 0 from rfl)
  have e1 := Sl.tmod t sl.length
  rw [← HE.out] at hc
  clear HE
  generalize Sl.at_ sl t = X at *
  generalize t % sl.length = r at *
  generalize sl.length = n at *
  have hn : (n : Int) ≠ 0 := by omega
  have hn2 : 0 < (n : Int) := by omega
  have hn3 : (n : Int) ≤ 1000 := by omega
  have ht2 : (t : Int) < 18446744073709551616 := by omega
  have hr : (r : Int) < n := by omega
  have e2 : IntKind.u64.wrap (n : Int) = n := by rw [IntKind.wrap_u64]; omega
  have e3 : IntKind.u64.wrap (r : Int) = r := by rw [IntKind.wrap_u64]; omega
  have e4 : IntKind.i64.wrap (r : Int) = r := by rw [IntKind.wrap_i64]; omega
  clear ht ht2
  have hB0 := Lib.hid (show Below w.heap.size w (w.alloc (.cells #[.int .i64 wk, .int .i64 gv, .slice pa pl.length pc, .slice (some ⟨b, o, none⟩) n sc, .slice ga gr.length gc] 32)) from (Below.refl _ _).alloc (Nat.le_refl _) _)
  obtain ⟨c0, c1, c2, c3, c4⟩ := Cell5.new w (.int .i64 wk) (.int .i64 gv) (.slice pa pl.length pc) (.slice (some ⟨b, o, none⟩) n sc) (.slice ga gr.length gc) 32
  have hc2 := (hB0.out.cell (p := ⟨b, o + r, none⟩) hb).trans hc
  go_enter Tryz.func30, Tryz.ntmps30
  go_wp2_with fail
  go_quiet (fail)
  go_wp2_with fail
  go_ret
  exact ⟨rfl, drewN_below hB0.out _⟩
set_option maxRecDepth 100000 in
set_option maxHeartbeats 1000000 in
theorem rround_any (p : Pl.Pol) (pa : Option Addr) (pc : Nat) (sa : Option Addr) (sc : Nat) (ga : Option Addr) (gc : Nat) (t : Nat) (w : World) (hl : p.slots.length ≤ 1000) (h0 : 0 < p.slots.length) (ht : t < 18446744073709551616) :
    Calls Tryz.prog 32 #[polV p pa pc sa sc ga gc, .int .u64 (t : Int)] w fun e w' => e = .returned (.int .u64 ((t / p.slots.length : Nat) : Int)) ∧ Below w.heap.size w w' := by
  obtain ⟨wk, gv, pl, sl, gr⟩ := p
  simp only [polV] at *
  have e1 := Sl.tmod t sl.length
  have hmm := Nat.mod_le t sl.length
  have e5 := Sl.tdiv (t - t % sl.length) sl.length
  have e6 : (t - t % sl.length) / sl.length = t / sl.length := by
    conv => lhs; rw [show t - t % sl.length = sl.length * (t / sl.length) by have := Nat.div_add_mod t sl.length; omega]
    exact Nat.mul_div_cancel_left _ h0
  rw [e6] at e5
  clear e6
  have e7 : (t : Int) - ((t % sl.length : Nat) : Int) = ((t - t % sl.length : Nat) : Int) := by omega
  have hle : t / sl.length ≤ t := Nat.div_le_self _ _
  generalize t / sl.length = r at *
  generalize t % sl.length = m at *
  generalize sl.length = n at *
  have e9 : t - m ≤ t := Nat.sub_le _ _
  generalize t - m = q at *
  have e8 : IntKind.u64.wrap (q : Int) = q := by rw [IntKind.wrap_u64]; omega
  have hn : (n : Int) ≠ 0 := by omega
  have hn2 : 0 < (n : Int) := by omega
  have hn3 : (n : Int) ≤ 1000 := by omega
  have ht2 : (t : Int) < 18446744073709551616 := by omega
  have e2 : IntKind.u64.wrap (n : Int) = n := by rw [IntKind.wrap_u64]; omega
  have e3 : IntKind.u64.wrap (r : Int) = r := by rw [IntKind.wrap_u64]; omega
  clear ht ht2
  have hB0 := Lib.hid (show Below w.heap.size w (w.alloc (.cells #[.int .i64 wk, .int .i64 gv, .slice pa pl.length pc, .slice sa n sc, .slice ga gr.length gc] 32)) from (Below.refl _ _).alloc (Nat.le_refl _) _)
  go_enter Tryz.func32, Tryz.ntmps32
  go_wp2_with fail
  go_ret
  exact ⟨rfl, hB0.out⟩
end Go.Proofs.YtokljdaofjgihaaGreatDoor
namespace Go.Proofs.YtokljdaofjgihaaGreatDoor
open Go.ChangeShapes Go.WideShapes Go.ChangeAt Go.RowKit

def Sl.ok (sl : List Int) (x : Int) (t k : Nat) : Bool := decide (t + k < 18446744073709551616) && (Sl.at_ sl (t + k) == x)
def Sl.next (sl : List Int) (x : Int) (t : Nat) : Nat × Bool := match (List.range sl.length).find? (Sl.ok sl x t) with | some k => (t + k, true) | none => (0, false)
theorem Sl.next_at {sl : List Int} {x : Int} {t k : Nat} (hk : k < sl.length) (hno : ∀ j, j < k → Sl.ok sl x t j = false) (h : Sl.ok sl x t k = true) : Sl.next sl x t = (t + k, true) := by
  have e : (List.range sl.length).find? (Sl.ok sl x t) = some k := by
    rw [List.find?_range_eq_some]
    exact ⟨h, List.mem_range.2 hk, fun j hj => by rw [hno j hj]; rfl⟩
  unfold Sl.next
  rw [e]
theorem Sl.next_none {sl : List Int} {x : Int} {t : Nat} (hno : ∀ j, j < sl.length → Sl.ok sl x t j = false) : Sl.next sl x t = (0, false) := by
  have e : (List.range sl.length).find? (Sl.ok sl x t) = none := by
    rw [List.find?_range_eq_none]
    exact fun j hj => by rw [hno j hj]; rfl
  unfold Sl.next
  rw [e]
def RNx (sl : List Int) (x : Int) (t : Nat) (w : World) (x0 x1 x2 x3 x4 : Value) (g : Nat) (i : Value) (wr : World) : Prop :=
  ∃ k : Nat, k + g = sl.length ∧ i = .int .i64 (k : Int) ∧ (∀ j, j < k → Sl.ok sl x t j = false) ∧ Below w.heap.size w wr ∧ Cell5 wr w.heap.size x0 x1 x2 x3 x4
set_option maxRecDepth 100000 in
set_option maxHeartbeats 2000000 in
theorem rnext_any (p : Pl.Pol) (pa : Option Addr) (pc : Nat) (sa : Option Addr) (sc : Nat) (ga : Option Addr) (gc : Nat) (x : Int) (t : Nat) (w : World) (hl : p.slots.length ≤ 1000) (h0 : 0 < p.slots.length) (ht : t < 18446744073709551616) (hs : Ints w sa p.slots) :
    Calls Tryz.prog 28 #[polV p pa pc sa sc ga gc, .int .i64 x, .int .u64 (t : Int)] w fun e w' => e = .returned (.tuple #[.int .u64 ((Sl.next p.slots x t).1 : Int), .bool (Sl.next p.slots x t).2]) ∧ Below w.heap.size w w' := by
  have HI := Lib.hid hs
  have HA := Lib.hid (fun q W hq h => rat_any p pa pc sa sc ga gc q W hl h0 hq h)
  clear hs
  obtain ⟨wk, gv, pl, sl, gr⟩ := p
  simp only [polV] at *
  try simp only at HI HA
  have HT := Lib.hid ht
  have HAT := Lib.hid (fun (k : Nat) (hk : k < sl.length) hno h => Sl.next_at (sl := sl) (x := x) (t := t) hk hno h)
  have HNN := Lib.hid (fun h => Sl.next_none (sl := sl) (x := x) (t := t) h)
  have HOK := Lib.hid (show ∀ k, Sl.ok sl x t k = (decide (t + k < 18446744073709551616) && (Sl.at_ sl (t + k) == x)) from fun k => rfl)
  have hl3 : (sl.length : Int) ≤ 1000 := by omega
  clear ht
  generalize Sl.next sl x t = M at *
  have HB0 := Lib.hid (show Below w.heap.size w (w.alloc (.cells #[.int .i64 wk, .int .i64 gv, .slice pa pl.length pc, .slice sa sl.length sc, .slice ga gr.length gc] 32)) from (Below.refl _ _).alloc (Nat.le_refl _) _)
  have HC0 := Lib.hid (Cell5.new w (.int .i64 wk) (.int .i64 gv) (.slice pa pl.length pc) (.slice sa sl.length sc) (.slice ga gr.length gc) 32)
  go_enter Tryz.func28, Tryz.ntmps28
  go_wp2_with fail
  go_loopg [8] sl.length (fun g i wr => RNx sl x t w (.int .i64 wk) (.int .i64 gv) (.slice pa pl.length pc) (.slice sa sl.length sc) (.slice ga gr.length gc) g i wr)
  case atStart => exact ⟨0, by omega, rfl, fun j hj => absurd hj (by omega), HB0.out, HC0.out⟩
  case round =>
    obtain ⟨k, hk, rfl, hno, hB, hC⟩ := hrel
    have HK := Lib.hid hk
    have HNO := Lib.hid hno
    have HB := Lib.hid hB
    have HC := Lib.hid hC
    clear hk hno hB hC
    by_cases hlt : k < sl.length
    · obtain ⟨c0, c1, c2, c3, c4⟩ := HC.out
      have e0 : IntKind.u64.wrap (k : Int) = k := by rw [IntKind.wrap_u64]; omega
      have HNX : Hid (Sl.ok sl x t k = false → ∀ j, j < k + 1 → Sl.ok sl x t j = false) := fun h j hj => by
        by_cases e : j = k
        · rw [e]; exact h
        · exact HNO.out j (by omega)
      by_cases hov : t + k < 18446744073709551616
      · have HQ := Lib.hid hov
        have e1 : (t : Int) + (k : Int) = ((t + k : Nat) : Int) := by omega
        have HCALL := Lib.hid (fun W h => HA.out (t + k) W hov h)
        have HO := Lib.hid (HOK.out k)
        have HAT := Lib.hid (HAT.out k hlt HNO.out)
        have hge : (t : Int) ≤ ((t + k : Nat) : Int) := by omega
        rw [decide_eq_true hov, Bool.true_and] at HO
        have e2 : IntKind.u64.wrap ((t + k : Nat) : Int) = ((t + k : Nat) : Int) := by rw [IntKind.wrap_u64]; omega
        clear hov
        generalize t + k = q at *
        generalize Sl.at_ sl q = y at *
        cases hy : y == x with
        | true =>
          have HM := Lib.hid (HAT.out (by rw [HO.out, hy]))
          go_wp2_with fail
          (with_reducible refine (HCALL.out _ (HI.out.on HB.out)).mono ?_)
          rintro e w1 ⟨rfl, hB1⟩
          have HB1 := Lib.hid (bthen HB.out hB1 (Nat.le_refl _))
          clear hB1
          go_wp2_with fail
          go_ret2
          exact ⟨by rw [HM.out]; rfl, HB1.out⟩
        | false =>
          have HN := Lib.hid (HNX.out (by rw [HO.out, hy]))
          go_wp2_with fail
          (with_reducible refine (HCALL.out _ (HI.out.on HB.out)).mono ?_)
          rintro e w1 ⟨rfl, hB1⟩
          have HB1 := Lib.hid (bthen HB.out hB1 (Nat.le_refl _))
          have HC1 := Lib.hid (HC.out.on hB1)
          clear hB1
          go_wp2_with fail
          go_roundg (gk - 1)
          case rel => exact ⟨k + 1, by have := HK.out; omega, by go_num, HN.out, HB1.out, HC1.out⟩
          case measure => have := HK.out; omega
      · have HN := Lib.hid (HNX.out (by rw [HOK.out, decide_eq_false hov, Bool.false_and]))
        have e2 : IntKind.u64.wrap ((t : Int) + (k : Int)) = ((t + k - 18446744073709551616 : Nat) : Int) := by have := HT.out; rw [IntKind.wrap_u64]; omega
        have hge : ¬ ((t : Int) ≤ ((t + k - 18446744073709551616 : Nat) : Int)) := by have := HT.out; omega
        clear hov
        generalize t + k - 18446744073709551616 = q at *
        go_wp2_with fail
        go_roundg (gk - 1)
        case rel => exact ⟨k + 1, by have := HK.out; omega, by go_num, HN.out, HB.out, HC.out⟩
        case measure => have := HK.out; omega
    · have HM := Lib.hid (HNN.out (fun j hj => HNO.out j (by have := HK.out; omega)))
      obtain ⟨c0, c1, c2, c3, c4⟩ := HC.out
      go_wp2_with fail
      go_ret2
      exact ⟨by rw [HM.out]; rfl, HB.out⟩
end Go.Proofs.YtokljdaofjgihaaGreatDoor
namespace Go.Proofs.YtokljdaofjgihaaGreatDoor.Sl

theorem at_again (sl : List Int) (t : Nat) : at_ sl (t + sl.length) = at_ sl t := by unfold at_; rw [Nat.add_mod_right]
theorem ok_iff {sl : List Int} {x : Int} {t k : Nat} : ok sl x t k = true ↔ t + k < 18446744073709551616 ∧ at_ sl (t + k) = x := by
  unfold ok
  rw [Bool.and_eq_true, decide_eq_true_iff, beq_iff_eq]
theorem next_first {sl : List Int} {x : Int} {t k : Nat} (h0 : 0 < sl.length) (hno : ∀ j, j < k → ok sl x t j = false) (h : ok sl x t k = true) : next sl x t = (t + k, true) := by
  by_cases hk : k < sl.length
  · exact next_at hk hno h
  · exfalso
    obtain ⟨h1, h2⟩ := ok_iff.1 h
    have e : ok sl x t (k - sl.length) = true := ok_iff.2 ⟨by omega, by
      have := at_again sl (t + (k - sl.length))
      rw [show t + (k - sl.length) + sl.length = t + k by omega] at this
      rw [← this, h2]⟩
    rw [hno (k - sl.length) (by omega)] at e
    cases e
theorem at_any {sl : List Int} {x : Int} (h : x ∈ sl) (t : Nat) : ∃ k, k < sl.length ∧ at_ sl (t + k) = x := by
  obtain ⟨m, hm, e⟩ := List.getElem_of_mem h
  have h0 : 0 < sl.length := by omega
  have hr := Nat.mod_lt t h0
  have key : ∀ k, (t + k) % sl.length = m → at_ sl (t + k) = x := fun k hk => by
    unfold at_
    rw [hk, List.getD_eq_getElem?_getD, List.getElem?_eq_getElem hm]
    exact e
  by_cases hle : t % sl.length ≤ m
  · refine ⟨m - t % sl.length, by omega, key _ ?_⟩
    rw [Nat.add_mod, Nat.mod_eq_of_lt (a := m - t % sl.length) (by omega), show t % sl.length + (m - t % sl.length) = m by omega, Nat.mod_eq_of_lt hm]
  · refine ⟨m + sl.length - t % sl.length, by omega, key _ ?_⟩
    rw [Nat.add_mod, Nat.mod_eq_of_lt (a := m + sl.length - t % sl.length) (by omega), show t % sl.length + (m + sl.length - t % sl.length) = m + sl.length by omega, Nat.add_mod_right, Nat.mod_eq_of_lt hm]
/-- in each round each place that has a slot has its turn -/
theorem next_some {sl : List Int} {x : Int} {t : Nat} (h : x ∈ sl) (ht : t + sl.length ≤ 18446744073709551616) : ∃ k, k < sl.length ∧ next sl x t = (t + k, true) ∧ at_ sl (t + k) = x := by
  obtain ⟨k0, hk0, e0⟩ := at_any h t
  cases e : (List.range sl.length).find? (ok sl x t) with
  | none =>
    rw [List.find?_range_eq_none] at e
    have := e k0 hk0
    rw [ok_iff.2 ⟨by omega, e0⟩] at this
    cases this
  | some k =>
    refine ⟨k, ?_, by unfold next; rw [e], ?_⟩
    · exact List.mem_range.1 ((List.find?_range_eq_some.1 e).2.1)
    · exact (ok_iff.1 (List.find?_range_eq_some.1 e).1).2
theorem round_next {n t : Nat} (h0 : 0 < n) : (t + n) / n = t / n + 1 := Nat.add_div_right t h0
theorem count_zero {sl : List Int} {x : Int} (h : sl.count x = 0) (h0 : 0 < sl.length) (t : Nat) : next sl x t = (0, false) := by
  refine next_none fun j _ => ?_
  rw [Bool.eq_false_iff]
  intro hk
  have h2 := (ok_iff.1 hk).2
  have hm := Nat.mod_lt (t + j) h0
  have : x ∈ sl := by
    unfold at_ at h2
    rw [List.getD_eq_getElem?_getD, List.getElem?_eq_getElem hm] at h2
    rw [← h2]
    exact List.getElem_mem hm
  exact absurd h (by have := List.count_pos_iff.2 this; omega)
end Go.Proofs.YtokljdaofjgihaaGreatDoor.Sl
namespace Go.Proofs.YtokljdaofjgihaaGreatDoor
open Go.ChangeShapes Go.WideShapes Go.ChangeAt Go.RowKit

/-- what the function that All hands back goes by: the policy's box b, the first tick's b + 1, a row of slots of its own -/
structure AllSt (W : World) (b : Nat) (sl : List Int) (t : Nat) (x0 x1 x2 x4 : Value) : Prop where
  box : ∃ A c, Cell5 W b x0 x1 x2 (.slice A sl.length c) x4 ∧ Ints W A sl ∧ ∀ a, A = some a → b + 2 ≤ a.block
  tick : W.cell? ⟨b + 1, 0, none⟩ = some (.int .u64 (t : Int))
theorem AllSt.on {W W' : World} {b : Nat} {sl : List Int} {t : Nat} {x0 x1 x2 x4 : Value} (h : AllSt W b sl t x0 x1 x2 x4) (hb : Below W.heap.size W W') : AllSt W' b sl t x0 x1 x2 x4 := by
  obtain ⟨A, c, h1, h2, h3⟩ := h.box
  have := World.block_lt_of_cell? W _ h.tick
  exact ⟨⟨A, c, h1.on hb, h2.on hb, h3⟩, (hb.cell (p := ⟨b + 1, 0, none⟩) this).trans h.tick⟩
/-- a store into a block of which it doesn't go leaves it -/
theorem AllSt.set {W : World} {b : Nat} {sl : List Int} {t : Nat} {x0 x1 x2 x4 : Value} (h : AllSt W b sl t x0 x1 x2 x4) {k : Nat} (hk : k < b) (j : Nat) (v : Value) : AllSt (W.setCell ⟨k, j, none⟩ v) b sl t x0 x1 x2 x4 := by
  obtain ⟨A, c, h1, h2, h3⟩ := h.box
  have ho : ∀ p : Addr, b ≤ p.block → (W.setCell ⟨k, j, none⟩ v).cell? p = W.cell? p := fun p hp => World.cell?_setCell_other W ⟨k, j, none⟩ p v (fun e => by have := congrArg Addr.block e; simp at this; omega)
  refine ⟨⟨A, c, ⟨(ho _ (by simp)).trans h1.c0, (ho _ (by simp)).trans h1.c1, (ho _ (by simp)).trans h1.c2, (ho _ (by simp)).trans h1.c3, (ho _ (by simp)).trans h1.c4⟩, ⟨fun i hi => ?_⟩, h3⟩, (ho _ (by simp)).trans h.tick⟩
  obtain ⟨b', off, e, hb, hc⟩ := h2.at_ i hi
  have hb' := h3 _ e
  exact ⟨b', off, e, by simpa [World.setCell] using hb, (ho _ (by simp at hb' ⊢; omega)).trans hc⟩
theorem clone_any (sl : List Int) (sa : Option Addr) (c : Nat) (w : World) (h0 : 0 < sl.length) (hl : sl.length ≤ 1000) (hs : Ints w sa sl) :
    Calls Tryz.prog 62 #[.slice sa sl.length c] w fun e w' => ∃ A c', e = .returned (.slice A sl.length c') ∧ Ints w' A sl ∧ (∀ a, A = some a → w.heap.size ≤ a.block) ∧ Below w.heap.size w w' := by
  obtain ⟨b, off, rfl, hb, -⟩ := hs.at_ 0 h0
  refine (Tryz.slices_Clone_int b off sl.length c sl w (Nat.le_refl _) (by omega) (fun j hj => ?_)).mono ?_
  · obtain ⟨b', off', e, -, hc⟩ := hs.at_ j hj
    obtain ⟨rfl, rfl⟩ : b = b' ∧ off = off' := by simpa using e
    exact hc
  · rintro e w' ⟨v', rfl, hown, -, hB⟩
    rw [List.take_length] at hown
    have hown' : w'.ownsRow w.heap.size 3 1 v' sl.length (ics sl) := hown
    obtain ⟨A, c', rfl, -, hbl, hI⟩ := own_ints hown'
    refine ⟨A, c', rfl, hI, fun a ha => ?_, hB⟩
    have e := hbl a ha
    obtain ⟨-, h1 | ⟨g, cap, cur, hv, hB', -, -⟩⟩ := hown'
    · obtain ⟨h1, -⟩ := h1
      injection h1 with h1 h2 h3
      exact absurd h2 (by omega)
    · injection hv with h1 h2 h3
      rw [ha] at h1
      injection h1 with h1
      rw [h1]
      exact hB'
theorem one_cell (W : World) (v : Value) (ty : TypeId) (n : Nat) (h : W.heap.size = n) : (W.alloc (.cells #[v] ty)).cell? ⟨n, 0, none⟩ = some v := by subst h; simp
set_option maxRecDepth 100000 in
set_option maxHeartbeats 2000000 in
theorem all_any (p : Pl.Pol) (pa : Option Addr) (pc : Nat) (sa : Option Addr) (sc : Nat) (ga : Option Addr) (gc : Nat) (t : Nat) (w : World) (hl : p.slots.length ≤ 1000) (h0 : 0 < p.slots.length) (hs : Ints w sa p.slots) :
    Calls Tryz.prog 34 #[polV p pa pc sa sc ga gc, .int .u64 (t : Int)] w fun e w' => e = .returned (.func (.func 63) #[] #[.pointer (some ⟨w.heap.size + 1, 0, none⟩), .pointer (some ⟨w.heap.size, 0, none⟩)]) ∧ AllSt w' w.heap.size p.slots t (.int .i64 p.work) (.int .i64 p.give) (.slice pa p.places.length pc) (.slice ga p.grants.length gc) ∧ Below w.heap.size w w' := by
  have HI := Lib.hid hs
  have HCL := Lib.hid (fun W h => clone_any p.slots sa sc W h0 hl h)
  clear hs
  obtain ⟨wk, gv, pl, sl, gr⟩ := p
  simp only [polV] at *
  try simp only at HI HCL
  have HB0 := Lib.hid (show Below w.heap.size w (w.alloc (.cells #[.int .i64 wk, .int .i64 gv, .slice pa pl.length pc, .slice sa sl.length sc, .slice ga gr.length gc] 26)) from (Below.refl _ _).alloc (Nat.le_refl _) _)
  have HB1 := Lib.hid (show Below (w.alloc (.cells #[.int .i64 wk, .int .i64 gv, .slice pa pl.length pc, .slice sa sl.length sc, .slice ga gr.length gc] 26)).heap.size (w.alloc (.cells #[.int .i64 wk, .int .i64 gv, .slice pa pl.length pc, .slice sa sl.length sc, .slice ga gr.length gc] 26)) ((w.alloc (.cells #[.int .i64 wk, .int .i64 gv, .slice pa pl.length pc, .slice sa sl.length sc, .slice ga gr.length gc] 26)).alloc (.cells #[.int .u64 (t : Int)] 54)) from (Below.refl _ _).alloc (Nat.le_refl _) _)
  have HC0 := Lib.hid ((Cell5.new w (.int .i64 wk) (.int .i64 gv) (.slice pa pl.length pc) (.slice sa sl.length sc) (.slice ga gr.length gc) 26).on HB1.out)
  have HF0 : Hid (∀ j, ((w.alloc (.cells #[.int .i64 wk, .int .i64 gv, .slice pa pl.length pc, .slice sa sl.length sc, .slice ga gr.length gc] 26)).alloc (.cells #[.int .u64 (t : Int)] 54)).frozen? ⟨w.heap.size, j, none⟩ = false) := fun j => by simp
  have HT0 : Hid (((w.alloc (.cells #[.int .i64 wk, .int .i64 gv, .slice pa pl.length pc, .slice sa sl.length sc, .slice ga gr.length gc] 26)).alloc (.cells #[.int .u64 (t : Int)] 54)).cell? ⟨w.heap.size + 1, 0, none⟩ = some (.int .u64 (t : Int))) := one_cell _ _ _ _ (by simp)
  have HBB := Lib.hid (bthen HB0.out HB1.out (Nat.le_refl _))
  go_enter Tryz.func34, Tryz.ntmps34
  obtain ⟨c0, c1, c2, c3, c4⟩ := HC0.out
  go_wp2_with fail
  (with_reducible refine (HCL.out _ ((HI.out.on HB0.out).on HB1.out)).mono ?_)
  rintro e w1 ⟨A, c', rfl, hI, hA, hB⟩
  have HC1 := Lib.hid (HC0.out.on hB)
  have hlt := HC1.out.lt
  have hfz := (hB.frozen (p := ⟨w.heap.size, 3, none⟩) HC0.out.lt).trans (HF0.out 3)
  obtain ⟨d0, d1, d2, d3, d4⟩ := HC1.out
  have HB2 := Lib.hid (bthen HBB.out hB (Nat.le_refl _))
  have HT1 := Lib.hid ((hB.cell (p := ⟨w.heap.size + 1, 0, none⟩) (by simp)).trans HT0.out)
  have HI1 := Lib.hid hI
  have HA := Lib.hid hA
  clear hB hI hA c0 c1 c2 c3 c4
  go_wp2_with fail
  go_ret
  refine ⟨rfl, ⟨⟨A, c', HC1.out.set3 _, ⟨fun i hi => ?_⟩, fun a ha => by have := HA.out a ha; simp at this; omega⟩, ?_⟩, HB2.out.setCell (p := ⟨w.heap.size, 3, none⟩) (Nat.le_refl _) _⟩
  · obtain ⟨b, off, e, hb, hc⟩ := HI1.out.at_ i hi
    have h1 := HA.out _ e
    refine ⟨b, off, e, by simpa [World.setCell] using hb, (World.cell?_setCell_other w1 ⟨w.heap.size, 3, none⟩ ⟨b, off + i, none⟩ _ (fun h => ?_)).trans hc⟩
    have h2 := congrArg Addr.block h
    simp at h1 h2
    omega
  · exact (World.cell?_setCell_other w1 ⟨w.heap.size, 3, none⟩ ⟨w.heap.size + 1, 0, none⟩ _ (fun h => by have h2 := congrArg Addr.block h; simp at h2)).trans HT1.out
end Go.Proofs.YtokljdaofjgihaaGreatDoor
namespace Go.Proofs.YtokljdaofjgihaaGreatDoor
open Go.ChangeShapes Go.WideShapes Go.ChangeAt Go.RowKit Go.Shelf
attribute [local go_sem] Oper.semAt_some

/-- a tick, and whose turn it is -/
abbrev Tk := { x : Nat × Int // x.1 < 18446744073709551616 }
def tk (sl : List Int) (t k : Nat) : Tk := ⟨((t + k) % 18446744073709551616, Sl.at_ sl ((t + k) % 18446744073709551616)), Nat.mod_lt _ (by decide)⟩
def tks (sl : List Int) (t k : Nat) : List Tk := (List.range k).map (tk sl t)
theorem tks_succ (sl : List Int) (t k : Nat) : tks sl t (k + 1) = tks sl t k ++ [tk sl t k] := by simp [tks, List.range_succ]
theorem tks_length (sl : List Int) (t k : Nat) : (tks sl t k).length = k := by simp [tks]
theorem tk_of {sl : List Int} {t k : Nat} (h : t + k < 18446744073709551616) : (tk sl t k).1 = (t + k, Sl.at_ sl (t + k)) := by unfold tk; simp only; rw [Nat.mod_eq_of_lt h]
abbrev tkV (x : Tk) : Array Value := #[.int .u64 (x.1.1 : Int), .int .i64 x.1.2]
theorem grown_of {W W' : World} (h : Below W.heap.size W W') : W.grownBy W' none := ⟨h.os, h.tape, h.output, h.size, fun k hk _ => h.block k hk⟩
set_option maxRecDepth 100000 in
set_option maxHeartbeats 4000000 in
/-- THE FUNCTION THAT All HANDS BACK: each tick from the first on, with whose turn it is, as long as it is asked for more, up to the last tick there is -/
theorem all1_any (n : Nat) (hn : 1 ≤ n) (l b : Nat) (p : Pl.Pol) (pa : Option Addr) (pc : Nat) (ga : Option Addr) (gc : Nat) (t : Nat) (h0 : 0 < p.slots.length) (hl : p.slots.length ≤ 1000) (ht : t < 18446744073709551616) (J Jx : List Tk → World → Prop) (B : Nat) (hJ : AbidesFrom B J)
    (hY : ∀ pre x W, J pre W → pre.length < 18446744073709551616 - t → YieldAt Fence.wide (n - 1) Tryz.prog l (tkV x) W fun e W' =>
      (e = .returned (.bool true) ∧ J (pre ++ [x]) W' ∧ (AllSt W b p.slots t (.int .i64 p.work) (.int .i64 p.give) (.slice pa p.places.length pc) (.slice ga p.grants.length gc) → AllSt W' b p.slots t (.int .i64 p.work) (.int .i64 p.give) (.slice pa p.places.length pc) (.slice ga p.grants.length gc))) ∨ (e = .returned (.bool false) ∧ Jx (pre ++ [x]) W'))
    (W : World) (hS : AllSt W b p.slots t (.int .i64 p.work) (.int .i64 p.give) (.slice pa p.places.length pc) (.slice ga p.grants.length gc)) (hJ0 : J [] W) :
    CallsIn Fence.wide n Tryz.prog 63 #[.func (.yield l) #[] #[], .pointer (some ⟨b + 1, 0, none⟩), .pointer (some ⟨b, 0, none⟩)] W fun e W' => (∃ v, e = .returned v) ∧
      ((∃ ys, ys = tks p.slots t (18446744073709551616 - t) ∧ J ys W') ∨ (∃ pre, (∃ k, k ≤ 18446744073709551616 - t ∧ pre = tks p.slots t k) ∧ Jx pre W')) := by
  have HA := Lib.hid (fun A c q W' (hq : q < 18446744073709551616) (h : Ints W' A p.slots) => sat_any p pa pc A c ga gc q W' hl h0 hq h)
  obtain ⟨wk, gv, pl, sl, gr⟩ := p
  simp only [polV] at *
  have HY := Lib.hid hY
  have HJ := Lib.hid hJ
  have HS := Lib.hid hS
  have HJ0 := Lib.hid hJ0
  clear hY hJ hS hJ0
  refine callsIn_of_wp Tryz.func63 rfl trivial ?_ rfl
  simp only [Tryz.ntmps63, List.size_toArray, List.length_cons, List.length_nil, Nat.reduceAdd, Nat.reduceSub, Array.replicate_succ, Array.replicate_zero, List.push_toArray, List.append_toArray, List.nil_append, List.cons_append]
  have htick := HS.out.tick
  gi_wp2
  clear htick
  gi_loopw [4] (fun i wr => ∃ k : Nat, t + k < 18446744073709551616 ∧ i = .int .u64 ((t + k : Nat) : Int) ∧ J (tks sl t k) wr ∧ AllSt wr b sl t (.int .i64 wk) (.int .i64 gv) (.slice pa pl.length pc) (.slice ga gr.length gc))
    (fun i _ => 18446744073709551616 - (intOf i).toNat)
  case atStart => exact ⟨0, by simpa using ht, by simp, HJ0.out, HS.out⟩
  case round =>
    obtain ⟨k, hk, rfl, hJk, hSk⟩ := hrel
    obtain ⟨A, c, hC, hI, hlo⟩ := hSk.box
    have HK := Lib.hid hk
    have HSk := Lib.hid hSk
    have HJk := Lib.hid hJk
    have HCALL := Lib.hid (HA.out A c (t + k) wr hk hI)
    have HYK := Lib.hid (fun w1 (hb : Below wr.heap.size wr w1) => HY.out (tks sl t k) (tk sl t k) w1 (HJ.out _ _ _ none HJk.out (grown_of hb) (fun r e => by cases e)) (by rw [tks_length]; omega))
    have HTK := Lib.hid (tk_of (sl := sl) hk)
    have hlen : decide (0 < (sl.length : Int)) = true := decide_eq_true (by omega)
    clear hk hSk hJk hI hlo
    obtain ⟨c0, c1, c2, c3, c4⟩ := hC
    generalize hq : t + k = q at *
    have HQ := Lib.hid hq
    clear hq
    gi_wp2_with (refine ⟨trivial, ?_⟩; gi_at_call 29; refine (callsIn_wide.2 (HCALL.out)).mono ?_; rintro e w1 ⟨rfl, hB1⟩; have HB1 := Lib.hid hB1; clear hB1; obtain ⟨fn, tmps, assign, body, hy, hR⟩ := HYK.out w1 HB1.out; rw [tkV, HTK.out] at hy)
    refine hR.mono ?_
    rintro e W3 (⟨rfl, hJ3, hk3⟩ | ⟨rfl, hJx3⟩)
    · have HJ3 := Lib.hid hJ3
      have HS3 := Lib.hid (hk3 (HSk.out.on HB1.out))
      clear hJ3 hk3 hy hR
      rw [← tks_succ] at HJ3
      by_cases hlast : q < 18446744073709551615
      · have e2 : decide ((q : Int) < 18446744073709551615) = true := decide_eq_true (by omega)
        have e3 : IntKind.u64.wrap ((q : Int) + 1) = ((q + 1 : Nat) : Int) := by rw [IntKind.wrap_u64]; omega
        have HL := Lib.hid hlast
        clear hlast
        gi_wp2
        go_roundw
        case rel => exact ⟨k + 1, by have := HL.out; have := HQ.out; omega, by have := HQ.out; rw [← this]; rfl, HJ3.out, HS3.out⟩
        case measure => have := HL.out; simp [intOf]; omega
      · have e2 : decide ((q : Int) < 18446744073709551615) = false := decide_eq_false (by omega)
        have HN := Lib.hid (show k + 1 = 18446744073709551616 - t by have := HQ.out; have := HK.out; omega)
        clear hlast
        gi_wp2
        go_end0
        exact ⟨⟨_, rfl⟩, .inl ⟨_, by rw [HN.out], HJ3.out⟩⟩
    · have HJx3 := Lib.hid hJx3
      clear hJx3 hy hR
      rw [← tks_succ] at HJx3
      gi_wp2
      go_end0
      exact ⟨⟨_, rfl⟩, .inr ⟨_, ⟨k + 1, by have := HQ.out; have := HK.out; omega, rfl⟩, HJx3.out⟩⟩
end Go.Proofs.YtokljdaofjgihaaGreatDoor
namespace Go.Proofs.YtokljdaofjgihaaGreatDoor
open Go.ChangeShapes Go.WideShapes Go.ChangeAt Go.RowKit Go.Shelf
attribute [local go_sem] Oper.semAt_some

theorem AllSt.kept {W W' : World} {row : Option Nat} {b : Nat} {sl : List Int} {t : Nat} {x0 x1 x2 x4 : Value} (h : AllSt W b sl t x0 x1 x2 x4) (hg : W.grownBy W' row) (hr : ∀ r, row = some r → ∃ o : Obj, W.heap[r]? = some o ∧ o.isCells = false) : AllSt W' b sl t x0 x1 x2 x4 := by
  obtain ⟨A, c, h1, h2, h3⟩ := h.box
  refine ⟨⟨A, c, ⟨cell_kept h1.c0 hg hr, cell_kept h1.c1 hg hr, cell_kept h1.c2 hg hr, cell_kept h1.c3 hg hr, cell_kept h1.c4 hg hr⟩, ⟨fun i hi => ?_⟩, h3⟩, cell_kept h.tick hg hr⟩
  obtain ⟨b', off, e, hb, hc⟩ := h2.at_ i hi
  exact ⟨b', off, e, Nat.lt_of_lt_of_le hb hg.size, cell_kept hc hg hr⟩
/-- what a loop body over the ticks keeps -/
def AllKp (b : Nat) (sl : List Int) (t : Nat) (x0 x1 x2 x4 : Value) (W W' : World) : Prop := AllSt W b sl t x0 x1 x2 x4 → AllSt W' b sl t x0 x1 x2 x4
theorem allKp_t {b : Nat} {sl : List Int} {t : Nat} {x0 x1 x2 x4 : Value} {A B C : World} (h : AllKp b sl t x0 x1 x2 x4 A B) (k : AllKp b sl t x0 x1 x2 x4 B C) : AllKp b sl t x0 x1 x2 x4 A C := fun x => k (h x)
theorem allKp_b {b : Nat} {sl : List Int} {t : Nat} {x0 x1 x2 x4 : Value} (W : World) (l : Nat) (o o' : Obj) (hl : W.heap[l]? = some o) (ho : o.isCells = false) : AllKp b sl t x0 x1 x2 x4 W (W.putObj l o') :=
  fun h => h.kept (grownBy_putObj' W l o') (fun r e => by cases e; exact ⟨o, hl, ho⟩)
theorem all_stops (n : Nat) (hn : 1 ≤ n) (b : Nat) (p : Pl.Pol) (pa : Option Addr) (pc : Nat) (ga : Option Addr) (gc : Nat) (t : Nat) (h0 : 0 < p.slots.length) (hl : p.slots.length ≤ 1000) (ht : t < 18446744073709551616) (w : World) (hS : AllSt w b p.slots t (.int .i64 p.work) (.int .i64 p.give) (.slice pa p.places.length pc) (.slice ga p.grants.length gc)) :
    SeqStopsK Fence.wide n Tryz.prog 63 #[.pointer (some ⟨b + 1, 0, none⟩), .pointer (some ⟨b, 0, none⟩)] tkV (AllKp b p.slots t (.int .i64 p.work) (.int .i64 p.give) (.slice pa p.places.length pc) (.slice ga p.grants.length gc))
      (fun ys => ys = tks p.slots t (18446744073709551616 - t)) (fun pre => ∃ k, k ≤ 18446744073709551616 - t ∧ pre = tks p.slots t k) (18446744073709551616 - t) w := fun l J Jx W hW hJ _ hY hJ0 =>
  all1_any n hn l b p pa pc ga gc t h0 hl ht J Jx _ hJ hY W (hS.on hW) hJ0
/-- no turn of x's among the first k ticks -/
theorem tks_none {sl : List Int} {x : Int} {t k : Nat} (_hk : k ≤ 18446744073709551616 - t) (h : ∀ y ∈ tks sl t k, y.1.2 ≠ x) : ∀ j, j < k → Sl.ok sl x t j = false := fun j hj => by
  rw [Bool.eq_false_iff]
  intro e
  obtain ⟨h1, h2⟩ := Sl.ok_iff.1 e
  refine h (tk sl t j) (List.mem_map.2 ⟨j, List.mem_range.2 hj, rfl⟩) ?_
  rw [tk_of h1]
  exact h2
theorem next_done {sl : List Int} {x : Int} {t : Nat} (h : ∀ y ∈ tks sl t (18446744073709551616 - t), y.1.2 ≠ x) : Sl.next sl x t = (0, false) := by
  refine Sl.next_none fun j _ => ?_
  by_cases hj : j < 18446744073709551616 - t
  · exact tks_none (Nat.le_refl _) h j hj
  · rw [Bool.eq_false_iff]
    intro e
    have := (Sl.ok_iff.1 e).1
    omega
theorem next_stop {sl : List Int} {x : Int} {t k : Nat} (h0 : 0 < sl.length) (hk : k ≤ 18446744073709551616 - t) {ini : List Tk} {last : Tk} (e : tks sl t k = ini ++ [last]) (hn : ∀ y ∈ ini, y.1.2 ≠ x) (hx : last.1.2 = x) : Sl.next sl x t = (last.1.1, true) := by
  cases k with
  | zero => have := congrArg List.length e; rw [tks_length, List.length_append] at this; simp at this
  | succ k =>
    rw [tks_succ] at e
    obtain ⟨rfl, e2⟩ := List.append_inj' e rfl
    simp only [List.cons.injEq, and_true] at e2
    subst e2
    have ht : t + k < 18446744073709551616 := by omega
    rw [tk_of ht] at hx ⊢
    exact Sl.next_first h0 (tks_none (by omega) hn) (Sl.ok_iff.2 ⟨ht, hx⟩)
/-- the boxes of a call of Next's -/
structure NxIn (b : Nat) (v0 v1 v2 v3 v4 : Value) (x : Int) (u u' : Value) (W : World) : Prop where
  pol : Cell5 W b v0 v1 v2 v3 v4
  plc : W.cell? ⟨b + 1, 0, none⟩ = some (.int .i64 x)
  r0 : W.cell? ⟨b + 1 + 1, 0, none⟩ = some u
  f0 : W.frozen? ⟨b + 1 + 1, 0, none⟩ = false
  r1 : W.cell? ⟨b + 1 + 1 + 1, 0, none⟩ = some u'
  f1 : W.frozen? ⟨b + 1 + 1 + 1, 0, none⟩ = false
theorem NxIn.kept {b : Nat} {v0 v1 v2 v3 v4 : Value} {x : Int} {u u' : Value} {W W' : World} {row : Option Nat} (h : NxIn b v0 v1 v2 v3 v4 x u u' W) (hg : W.grownBy W' row) (hr : ∀ r, row = some r → ∃ o : Obj, W.heap[r]? = some o ∧ o.isCells = false) : NxIn b v0 v1 v2 v3 v4 x u u' W' :=
  ⟨⟨cell_kept h.pol.c0 hg hr, cell_kept h.pol.c1 hg hr, cell_kept h.pol.c2 hg hr, cell_kept h.pol.c3 hg hr, cell_kept h.pol.c4 hg hr⟩, cell_kept h.plc hg hr, cell_kept h.r0 hg hr, (frozen_kept h.r0 hg hr).trans h.f0, cell_kept h.r1 hg hr, (frozen_kept h.r1 hg hr).trans h.f1⟩
theorem NxIn.on {b : Nat} {v0 v1 v2 v3 v4 : Value} {x : Int} {u u' : Value} {W W' : World} (h : NxIn b v0 v1 v2 v3 v4 x u u' W) (hb : Below W.heap.size W W') : NxIn b v0 v1 v2 v3 v4 x u u' W' := h.kept (grown_of hb) (fun r e => by cases e)
theorem NxIn.new (w : World) (v0 v1 v2 v3 v4 : Value) (x : Int) (u u' : Value) (t0 t1 t2 t3 : TypeId) : NxIn w.heap.size v0 v1 v2 v3 v4 x u u' ((((w.alloc (.cells #[v0, v1, v2, v3, v4] t0)).alloc (.cells #[.int .i64 x] t1)).alloc (.cells #[u] t2)).alloc (.cells #[u'] t3)) := by
  have a1 := ((Boxed.new (w.alloc (.cells #[v0, v1, v2, v3, v4] t0)) t1 (.int .i64 x)).alloc (.cells #[u] t2)).alloc (.cells #[u'] t3)
  have a2 := (Boxed.new ((w.alloc (.cells #[v0, v1, v2, v3, v4] t0)).alloc (.cells #[.int .i64 x] t1)) t2 u).alloc (.cells #[u'] t3)
  have a3 := Boxed.new (((w.alloc (.cells #[v0, v1, v2, v3, v4] t0)).alloc (.cells #[.int .i64 x] t1)).alloc (.cells #[u] t2)) t3 u'
  simp only [World.size_alloc] at a1 a2 a3
  exact ⟨(((Cell5.new w v0 v1 v2 v3 v4 t0).on ((Below.refl _ _).alloc (Nat.le_refl _) _)).on ((Below.refl _ _).alloc (Nat.le_refl _) _)).on ((Below.refl _ _).alloc (Nat.le_refl _) _), a1.cell, a2.cell, a2.frozen, a3.cell, a3.frozen⟩
theorem NxIn.set {b : Nat} {v0 v1 v2 v3 v4 : Value} {x : Int} {u u' : Value} {W : World} (h : NxIn b v0 v1 v2 v3 v4 x u u' W) (y y' : Value) : NxIn b v0 v1 v2 v3 v4 x y y' ((W.setCell ⟨b + 1 + 1, 0, none⟩ y).setCell ⟨b + 1 + 1 + 1, 0, none⟩ y') := by
  have ho : ∀ p : Addr, p.block < b + 1 + 1 → ((W.setCell ⟨b + 1 + 1, 0, none⟩ y).setCell ⟨b + 1 + 1 + 1, 0, none⟩ y').cell? p = W.cell? p := fun p hp =>
    (World.cell?_setCell_other _ ⟨b + 1 + 1 + 1, 0, none⟩ p _ (fun e => by have := congrArg Addr.block e; simp at this; omega)).trans (World.cell?_setCell_other W ⟨b + 1 + 1, 0, none⟩ p _ (fun e => by have := congrArg Addr.block e; simp at this; omega))
  refine ⟨⟨(ho _ (by simp; omega)).trans h.pol.c0, (ho _ (by simp; omega)).trans h.pol.c1, (ho _ (by simp; omega)).trans h.pol.c2, (ho _ (by simp; omega)).trans h.pol.c3, (ho _ (by simp; omega)).trans h.pol.c4⟩, (ho _ (by simp)).trans h.plc, ?_, ?_, ?_, ?_⟩
  · exact (World.cell?_setCell_other _ ⟨b + 1 + 1 + 1, 0, none⟩ ⟨b + 1 + 1, 0, none⟩ _ (fun e => by have := congrArg Addr.block e; simp at this)).trans (World.cell?_setCell_same' _ _ _ (by rw [h.r0]; rfl))
  · rw [World.frozen?_setCell, World.frozen?_setCell]; exact h.f0
  · refine World.cell?_setCell_same' _ _ _ ?_
    rw [World.cell?_setCell_other W ⟨b + 1 + 1, 0, none⟩ ⟨b + 1 + 1 + 1, 0, none⟩ _ (fun e => by have := congrArg Addr.block e; simp at this), h.r1]; rfl
  · rw [World.frozen?_setCell, World.frozen?_setCell]; exact h.f1
set_option maxRecDepth 100000 in
set_option maxHeartbeats 4000000 in
theorem next_any (p : Pl.Pol) (pa : Option Addr) (pc : Nat) (sa : Option Addr) (sc : Nat) (ga : Option Addr) (gc : Nat) (x : Int) (t : Nat) (w : World) (hl : p.slots.length ≤ 1000) (h0 : 0 < p.slots.length) (ht : t < 18446744073709551616) (hs : Ints w sa p.slots) :
    Calls Tryz.prog 27 #[polV p pa pc sa sc ga gc, .int .i64 x, .int .u64 (t : Int)] w fun e w' => e = .returned (.tuple #[.int .u64 ((Sl.next p.slots x t).1 : Int), .bool (Sl.next p.slots x t).2]) ∧ Below w.heap.size w w' := by
  have HI := Lib.hid hs
  have HTU := Lib.hid (fun W h => sturns_any p pa pc sa sc ga gc x W hl h)
  have HAL := Lib.hid (fun W h => all_any p pa pc sa sc ga gc t W hl h0 h)
  have HST := Lib.hid (fun n hn b W h => all_stops n hn b p pa pc ga gc t h0 hl ht W h)
  have HZ := Lib.hid (fun h => Sl.count_zero (sl := p.slots) (x := x) h h0 t)
  have HDN := Lib.hid (fun h => next_done (sl := p.slots) (x := x) (t := t) h)
  have HSP := Lib.hid (fun k (hk : k ≤ 18446744073709551616 - t) ini last e hn hx => next_stop (sl := p.slots) (x := x) (t := t) (k := k) h0 hk (ini := ini) (last := last) e hn hx)
  clear hs
  obtain ⟨wk, gv, pl, sl, gr⟩ := p
  simp only [polV] at *
  clear h0 hl ht
  generalize Sl.next sl x t = M at *
  have hw0 : Below w.heap.size w ((((w.alloc (.cells #[.int .i64 wk, .int .i64 gv, .slice pa pl.length pc, .slice sa sl.length sc, .slice ga gr.length gc] 26)).alloc (.cells #[.int .i64 x] 3)).alloc (.cells #[.int .u64 0] 54)).alloc (.cells #[.bool false] 4)) := ((((Below.refl _ _).alloc (Nat.le_refl _) _).alloc (by simp) _).alloc (by simp; omega) _).alloc (by simp; omega) _
  refine (callsIn_wide (n := 5)).1 ?_
  refine callsIn_of_wp_marks Tryz.func27 rfl trivial ?_ rfl
  simp only [Tryz.ntmps27, List.size_toArray, List.length_cons, List.length_nil, Nat.reduceAdd, Nat.reduceSub, Array.replicate_succ, Array.replicate_zero, List.push_toArray, List.append_toArray, List.nil_append, List.cons_append]
  have HN0 := Lib.hid (NxIn.new w (.int .i64 wk) (.int .i64 gv) (.slice pa pl.length pc) (.slice sa sl.length sc) (.slice ga gr.length gc) x (.int .u64 0) (.bool false) 26 3 54 4)
  have HB0 := Lib.hid hw0
  clear hw0
  gi_wp2_with fail
  generalize (((w.alloc (.cells #[.int .i64 wk, .int .i64 gv, .slice pa pl.length pc, .slice sa sl.length sc, .slice ga gr.length gc] 26)).alloc (.cells #[.int .i64 x] 3)).alloc (.cells #[.int .u64 0] 54)).alloc (.cells #[.bool false] 4) = W0 at *
  refine ⟨trivial, ?_⟩
  refine (callsIn_wide.2 (HTU.out W0 (HI.out.on HB0.out))).mono ?_
  rintro e w1 ⟨rfl, hB1⟩
  have HN1 := Lib.hid (HN0.out.on hB1)
  have HB1 := Lib.hid (bthen HB0.out hB1 (Nat.le_refl _))
  have HI1 := Lib.hid ((HI.out.on HB0.out).on hB1)
  clear hB1
  generalize sl.count x = C at *
  cases hz : ((C : Int) == 0) with
  | true =>
    have HM := Lib.hid (HZ.out (by simpa using hz))
    obtain ⟨-, -, r0, f0, r1, f1⟩ := HN1.out
    have HN9 := HN1.out.set (.int .u64 0) (.bool false)
    have q0 := HN9.r0
    have q1 := HN9.r1
    gi_wp2_with fail
    refine ⟨.tuple #[.int .u64 0, .bool false], ?_, by rw [HM.out]; rfl, (HB1.out.setCell (p := ⟨w.heap.size + 1 + 1, 0, none⟩) (by simp; omega) _).setCell (p := ⟨w.heap.size + 1 + 1 + 1, 0, none⟩) (by simp; omega) _⟩
    simp [results, Tryz.f27, go_sem, q0, q1]
  | false =>
    obtain ⟨⟨c0, c1, c2, c3, c4⟩, -, -, -, -, -⟩ := HN1.out
    gi_wp2_with fail
    refine ⟨trivial, ?_⟩
    refine (callsIn_wide.2 (HAL.out w1 HI1.out)).mono ?_
    rintro e w2 ⟨rfl, hS, hB2⟩
    have HS := Lib.hid hS
    have HN2 := Lib.hid (HN1.out.on hB2)
    have HB2 := Lib.hid (bthen HB1.out hB2 (Nat.le_refl _))
    clear hS hB2 c0 c1 c2 c3 c4
    gi_wp2_with fail
    refine wpIn_rangeFunc_ownF rfl (by omega) (gf := 63) (lb := #[.pointer (some ⟨w1.heap.size + 1, 0, none⟩), .pointer (some ⟨w1.heap.size, 0, none⟩)]) rfl trivial (enters_of Tryz.func63 (by kernel_rfl) rfl)
      (HST.out _ (by omega) w1.heap.size w2 HS.out) allKp_t (fun W l o o' _ hl ho _ => allKp_b W l o o' hl ho) (Below.refl _ _) (fun _ => rfl)
      (fun pre W => ((∀ y ∈ pre, y.1.2 ≠ x) ∧ NxIn w.heap.size (.int .i64 wk) (.int .i64 gv) (.slice pa pl.length pc) (.slice sa sl.length sc) (.slice ga gr.length gc) x (.int .u64 0) (.bool false) W) ∧ Below w.heap.size w W)
      (fun c pre W => (c = .ret ∧ ∃ ini last, pre = ini ++ [last] ∧ (∀ y ∈ ini, y.1.2 ≠ x) ∧ last.1.2 = x ∧ NxIn w.heap.size (.int .i64 wk) (.int .i64 gv) (.slice pa pl.length pc) (.slice sa sl.length sc) (.slice ga gr.length gc) x (.int .u64 (last.1.1 : Int)) (.bool true) W) ∧ Below w.heap.size w W)
      (OwnFrom.and (Own.from (fun s A B row hs hg hr => ⟨hs.1, hs.2.kept hg hr⟩) _) (ownFrom_below (Nat.le_refl _) HB2.out.size))
      (fun c => OwnFrom.and (Own.from (fun s A B row hs hg hr => by obtain ⟨hc, ini, last, e1, e2, e3, e4⟩ := hs; exact ⟨hc, ini, last, e1, e2, e3, e4.kept hg hr⟩) _) (ownFrom_below (Nat.le_refl _) HB2.out.size))
      ⟨⟨fun y hy => by simp at hy, HN2.out⟩, HB2.out⟩
      (fun y => { tmps := #[.agg #[.int .i64 wk, .int .i64 gv, .slice pa pl.length pc, .slice sa sl.length sc, .slice ga gr.length gc], .int .i64 x, .int .u64 (t : Int), .pointer (some ⟨w.heap.size, 0, none⟩), .pointer (some ⟨w.heap.size + 1, 0, none⟩), undef, .pointer (some ⟨w.heap.size + 1 + 1, 0, none⟩), .pointer (some ⟨w.heap.size + 1 + 1 + 1, 0, none⟩), .int .u64 (y.1.1 : Int), .int .i64 y.1.2,
          .agg #[.int .i64 wk, .int .i64 gv, .slice pa pl.length pc, .slice sa sl.length sc, .slice ga gr.length gc], .int .i64 x, .int .i64 (C : Int), .bool false, .agg #[.int .i64 wk, .int .i64 gv, .slice pa pl.length pc, .slice sa sl.length sc, .slice ga gr.length gc], .int .u64 (t : Int), .func (.func 63) #[] #[.pointer (some ⟨w1.heap.size + 1, 0, none⟩), .pointer (some ⟨w1.heap.size, 0, none⟩)], .int .u64 (y.1.1 : Int), .int .i64 y.1.2, undef, undef, undef, undef], defers := [] }) ?assign ?body ?done ?stop
    case assign =>
      intro l y W K hK
      gi_wp2
      exact hK
    case body =>
      rintro l pre y W ⟨⟨hp, hN⟩, hB⟩ _
      have HP := Lib.hid hp
      have HN := Lib.hid hN
      have HB := Lib.hid hB
      obtain ⟨-, cx, r0, f0, r1, f1⟩ := hN
      clear hp hB
      cases hy : (y.1.2 == x) with
      | true =>
        have hyx : y.1.2 = x := by simpa using hy
        have HS9 := Lib.hid (HN.out.set (.int .u64 (y.1.1 : Int)) (.bool true))
        gi_wp2
        exact ⟨(KeepsOthers.setCell _ _ _).trans (KeepsOthers.setCell _ _ _), ⟨rfl, pre, y, rfl, HP.out, hyx, HS9.out⟩, (HB.out.setCell (p := ⟨w.heap.size + 1 + 1, 0, none⟩) (by simp; omega) _).setCell (p := ⟨w.heap.size + 1 + 1 + 1, 0, none⟩) (by simp; omega) _⟩
      | false =>
        gi_wp2
        exact ⟨KeepsOthers.refl _, fun h => h, ⟨fun z hz => (List.mem_append.1 hz).elim (HP.out z) (fun e => by rw [List.mem_singleton.1 e]; simpa using hy), HN.out⟩, HB.out⟩
    case done =>
      rintro D ys W hD rfl ⟨⟨hne, hN⟩, hB⟩ hK
      have HM := Lib.hid (HDN.out hne)
      have HN9 := Lib.hid (hN.set (.int .u64 0) (.bool false))
      have HB9 := Lib.hid ((hB.setCell (p := ⟨w.heap.size + 1 + 1, 0, none⟩) (by simp; omega) (.int .u64 0)).setCell (p := ⟨w.heap.size + 1 + 1 + 1, 0, none⟩) (by simp; omega) (.bool false))
      obtain ⟨-, -, r0, f0, r1, f1⟩ := hN
      clear hne hB
      gi_wp2
      have hK' := ((KeepsOthers.setCell W ⟨w.heap.size + 1 + 1, 0, none⟩ (.int .u64 0)).trans (KeepsOthers.setCell _ ⟨w.heap.size + 1 + 1 + 1, 0, none⟩ (.bool false))).same D _ hK rfl
      refine ⟨by simp, .inl ⟨_, _, rfl, run_takeDeferred hK', ?_⟩⟩
      have q0 := cell_kept HN9.out.r0 (grownBy_putObj' _ D (.deferred none)) (fun r e => by cases e; exact ⟨_, hK', rfl⟩)
      have q1 := cell_kept HN9.out.r1 (grownBy_putObj' _ D (.deferred none)) (fun r e => by cases e; exact ⟨_, hK', rfl⟩)
      refine ⟨.tuple #[.int .u64 0, .bool false], ?_, by rw [HM.out]; rfl, HB9.out.trans (belowK_b (w := w) (Nat.le_refl _) _ D _ _ (Nat.le_trans HB2.out.size hD) hK' rfl rfl)⟩
      simp [results, Tryz.f27, go_sem, q0, q1]
    case stop =>
      rintro D c pre W hD ⟨k, hk, hpre⟩ ⟨⟨rfl, ini, last, he, hn, hx, hN⟩, hB⟩ hK
      have HM := Lib.hid (HSP.out k hk ini last (hpre.symm.trans he) hn hx)
      gi_wp2
      refine ⟨by simp, .inl ⟨_, _, rfl, run_takeDeferred hK, ?_⟩⟩
      have q0 := cell_kept hN.r0 (grownBy_putObj' _ D (.deferred none)) (fun r e => by cases e; exact ⟨_, hK, rfl⟩)
      have q1 := cell_kept hN.r1 (grownBy_putObj' _ D (.deferred none)) (fun r e => by cases e; exact ⟨_, hK, rfl⟩)
      refine ⟨.tuple #[.int .u64 (last.1.1 : Int), .bool true], ?_, by rw [HM.out], hB.trans (belowK_b (w := w) (Nat.le_refl _) W D _ _ (Nat.le_trans HB2.out.size hD) hK rfl rfl)⟩
      simp [results, Tryz.f27, go_sem, q0, q1]
end Go.Proofs.YtokljdaofjgihaaGreatDoor
