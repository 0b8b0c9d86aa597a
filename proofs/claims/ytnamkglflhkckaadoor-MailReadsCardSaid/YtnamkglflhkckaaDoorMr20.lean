/-
  WHAT IS WRONG WITH A HEAD: walked, the program's and the document's; what is gone through.
-/
import Derived.Test.YtnamkglflhkckaaDoorMr19
import Derived.Deep.RegionWith
section
namespace Go.Proofs.YtnamkglflhkckaaDoor
open Go.ChangeShapes Go.WideShapes Go.ChangeAt Go.RowKit
/-- texts of a length that can be walked -/
def Lite (l : List Hd.Pr) : Prop := ∀ i, i < l.length → (Hd.pr l i).key.length ≤ 100000 ∧ (Hd.pr l i).txt.length ≤ 100000
theorem hcode_many {l : List Hd.Pr} (h : 8 < l.length) : Hd.hcode l = 6 := by unfold Hd.hcode; rw [if_pos h]
theorem hcode_all {l : List Hd.Pr} (h : ¬ 8 < l.length) (g : ∀ i, i < l.length → Hd.pcode (Hd.pr l i) (l.take i) = 0) : Hd.hcode l = 0 := by unfold Hd.hcode; rw [if_neg h]; exact Hd.scan_zero g
theorem hcode_at {l : List Hd.Pr} {k : Nat} (h : ¬ 8 < l.length) (hk : k < l.length) (g : ∀ i, i < k → Hd.pcode (Hd.pr l i) (l.take i) = 0) (hb : Hd.pcode (Hd.pr l k) (l.take k) ≠ 0) : Hd.hcode l = Hd.pcode (Hd.pr l k) (l.take k) := by
  unfold Hd.hcode
  rw [if_neg h]
  exact Hd.scan_at (f := fun i => Hd.pcode (Hd.pr l i) (l.take i)) hk g hb
theorem hcheck_any_at (l : List Hd.Pr) (b off c k : Nat) (x : Hd.Pr) (hx : Hd.pr l k = x) (hk : k < l.length) (hl : l.length ≤ 8) (hL : Lite l) (W : World) (h : Prs W (some ⟨b, off, none⟩) l) :
    Calls Tryd.prog 84 #[.agg #[.string (ofL x.key), .int .u8 (x.kind : Int), .int .i64 x.num, .string (ofL x.txt)], .slice (some ⟨b, off, none⟩) k c] W fun e w' => e = .returned (.int .i64 (Hd.pcode (Hd.pr l k) (l.take k) : Int)) ∧ Below W.heap.size W w' := by
  have := hcheck_any x.key x.kind x.num x.txt (l.take k) (some ⟨b, off, none⟩) c W (by rw [← hx]; exact (hL k hk).1) (by rw [← hx]; exact (hL k hk).2) (by rw [List.length_take]; omega) (h.take k)
  rw [List.length_take, Nat.min_eq_left (by omega)] at this
  rw [hx]
  exact this
set_option maxRecDepth 100000 in
set_option maxHeartbeats 4000000 in
theorem hCheck_any (l : List Hd.Pr) (A : Option Addr) (c : Nat) (w : World) (hl : l.length ≤ 100000) (hc : l.length ≤ c) (hL : Lite l) (hp : Prs w A l) :
    Calls Tryd.prog 58 #[.slice A l.length c] w fun e w' => e = .returned (.int .i64 (Hd.hcode l : Int)) ∧ Below w.heap.size w w' := by
  have HP := Lib.hid hp
  have HLT := Lib.hid hL
  clear hp hL
  obtain ⟨n, hn⟩ : ∃ n, n = l.length := ⟨_, rfl⟩
  by_cases h8 : 8 < l.length
  · have HC := Lib.hid (hcode_many h8)
    go_enter Tryd.func58, Tryd.ntmps58
    go_wp2_with fail
    go_ret
    exact ⟨ret_nat (by rw [HC.out]; rfl), Below.refl _ _⟩
  · have HALL := Lib.hid (fun g => hcode_all (l := l) h8 g)
    have HAT := Lib.hid (fun k hk g hb => hcode_at (l := l) (k := k) h8 hk g hb)
    have HN := Lib.hid hn
    rw [← hn]
    rw [← hn] at h8 hl hc
    clear hn
    go_enter Tryd.func58, Tryd.ntmps58
    go_wp2_with fail
    go_loopg [11] n (fun g i wr => ∃ k : Nat, k + g = n ∧ i = .int .i64 (k : Int) ∧ (∀ j, j < k → Hd.pcode (Hd.pr l j) (l.take j) = 0) ∧ Below w.heap.size w wr)
    case atStart => exact ⟨0, by omega, rfl, fun j hj => absurd hj (by omega), Below.refl _ _⟩
    case round =>
      obtain ⟨k, hk, rfl, hno, hBl⟩ := hrel
      have HBL := Lib.hid hBl
      have HNO := Lib.hid hno
      clear hBl hno
      by_cases hlt : k < n
      · have hkl : k < l.length := by have := HN.out; omega
        obtain ⟨b, off, rfl, hbl, hat⟩ := (HP.out.on HBL.out).at_ k hkl
        obtain ⟨x, hx⟩ : ∃ x, Hd.pr l k = x := ⟨_, rfl⟩
        have HCALL := Lib.hid (fun W h => hcheck_any_at l b off c k x hx hkl (by have := HN.out; omega) HLT.out W h)
        have HPR := Lib.hid (HP.out.on HBL.out)
        have HBX := Lib.hid (PrAt.new x wr)
        have HQ := Lib.hid (fun hb => HAT.out k hkl HNO.out hb)
        have HNX : Hid (Hd.pcode (Hd.pr l k) (l.take k) = 0 → ∀ j, j < k + 1 → Hd.pcode (Hd.pr l j) (l.take j) = 0) := fun h j hj => by
          by_cases e : j = k
          · rw [e]; exact h
          · exact HNO.out j (by omega)
        rw [hx] at hat
        generalize Hd.pcode (Hd.pr l k) (l.take k) = D at *
        clear hx
        obtain ⟨x1, x2, x3, x4⟩ := x
        obtain ⟨c0, c1, c2, c3⟩ := hat
        simp only at HCALL c0 c1 c2 c3
        try simp only at HBX
        have hkc : k ≤ c := by omega
        clear hkl
        go_wp2_with fail
        refine region_tail 4 (by kernel_rfl) (by kernel_rfl) ?_
        simp only [List.take_succ_cons, List.take_zero, List.drop_succ_cons, List.drop_zero]
        obtain ⟨y0, y1, y2, y3⟩ := HBX.out
        repeat still_step
        refine wpStill_nil ?_
        go_wp2_with fail
        have HS0 := Lib.hid (((Below.refl wr.heap.size wr).alloc (Nat.le_refl _) (.cells #[.string (ofL x1), .int .u8 (x2 : Int), .int .i64 x3, .string (ofL x4)] 63)).drew)
        with_reducible refine (HCALL.out _ (HPR.out.on HS0.out)).mono ?_
        rintro e w1 ⟨rfl, hB⟩
        have HB1 := Lib.hid (bthen (bthen HBL.out HS0.out (Nat.le_refl _)) hB (Nat.le_refl _))
        clear hB
        by_cases hD : D = 0
        · have hne2 := code_eq hD
          have HNX := Lib.hid (HNX.out hD)
          clear hD
          go_wp2_with fail
          go_roundg (gk - 1)
          case rel => exact ⟨k + 1, by omega, by go_num, HNX.out, HB1.out⟩
          case measure => omega
        · have hne2 := code_ne hD
          have HE := Lib.hid (HQ.out hD)
          clear hD
          go_wp2_with fail
          go_ret
          exact ⟨ret_nat (by rw [HE.out]), HB1.out⟩
      · have HE := Lib.hid (HALL.out (fun i hi => HNO.out i (by have := HN.out; omega)))
        go_wp2_with fail
        go_ret
        exact ⟨ret_nat (by rw [HE.out]; rfl), HBL.out⟩
theorem rpair_any_at (l : List Hd.Pr) (b off c k : Nat) (x : Hd.Pr) (hx : Hd.pr l k = x) (hk : k < l.length) (hl : l.length ≤ 8) (hL : Lite l) (W : World) (h : Prs W (some ⟨b, off, none⟩) l) :
    Calls Tryd.prog 76 #[.agg #[.string (ofL x.key), .int .u8 (x.kind : Int), .int .i64 x.num, .string (ofL x.txt)], .slice (some ⟨b, off, none⟩) k c] W fun e w' => e = .returned (.int .i64 (Hd.pcode (Hd.pr l k) (l.take k) : Int)) ∧ Below W.heap.size W w' := by
  have := rpair_any x.key x.kind x.num x.txt (l.take k) (some ⟨b, off, none⟩) c W (by rw [← hx]; exact (hL k hk).1) (by rw [← hx]; exact (hL k hk).2) (by rw [List.length_take]; omega) (h.take k)
  rw [List.length_take, Nat.min_eq_left (by omega)] at this
  rw [hx]
  exact this
set_option maxRecDepth 100000 in
set_option maxHeartbeats 4000000 in
theorem rCheck9_any (l : List Hd.Pr) (A : Option Addr) (c : Nat) (w : World) (hl : l.length ≤ 100000) (hc : l.length ≤ c) (hL : Lite l) (hp : Prs w A l) :
    Calls Tryd.prog 51 #[.slice A l.length c] w fun e w' => e = .returned (.int .i64 (Hd.hcode l : Int)) ∧ Below w.heap.size w w' := by
  have HP := Lib.hid hp
  have HLT := Lib.hid hL
  clear hp hL
  obtain ⟨n, hn⟩ : ∃ n, n = l.length := ⟨_, rfl⟩
  by_cases h8 : 8 < l.length
  · have HC := Lib.hid (hcode_many h8)
    go_enter Tryd.func51, Tryd.ntmps51
    go_wp2_with fail
    go_ret
    exact ⟨ret_nat (by rw [HC.out]; rfl), Below.refl _ _⟩
  · have HALL := Lib.hid (fun g => hcode_all (l := l) h8 g)
    have HAT := Lib.hid (fun k hk g hb => hcode_at (l := l) (k := k) h8 hk g hb)
    have HN := Lib.hid hn
    rw [← hn]
    rw [← hn] at h8 hl hc
    clear hn
    go_enter Tryd.func51, Tryd.ntmps51
    go_wp2_with fail
    go_loopg [11] n (fun g i wr => ∃ k : Nat, k + g = n ∧ i = .int .i64 (k : Int) ∧ (∀ j, j < k → Hd.pcode (Hd.pr l j) (l.take j) = 0) ∧ Below w.heap.size w wr)
    case atStart => exact ⟨0, by omega, rfl, fun j hj => absurd hj (by omega), Below.refl _ _⟩
    case round =>
      obtain ⟨k, hk, rfl, hno, hBl⟩ := hrel
      have HBL := Lib.hid hBl
      have HNO := Lib.hid hno
      clear hBl hno
      by_cases hlt : k < n
      · have hkl : k < l.length := by have := HN.out; omega
        obtain ⟨b, off, rfl, hbl, hat⟩ := (HP.out.on HBL.out).at_ k hkl
        obtain ⟨x, hx⟩ : ∃ x, Hd.pr l k = x := ⟨_, rfl⟩
        have HCALL := Lib.hid (fun W h => rpair_any_at l b off c k x hx hkl (by have := HN.out; omega) HLT.out W h)
        have HPR := Lib.hid (HP.out.on HBL.out)
        have HBX := Lib.hid (PrAt.new x wr)
        have HQ := Lib.hid (fun hb => HAT.out k hkl HNO.out hb)
        have HNX : Hid (Hd.pcode (Hd.pr l k) (l.take k) = 0 → ∀ j, j < k + 1 → Hd.pcode (Hd.pr l j) (l.take j) = 0) := fun h j hj => by
          by_cases e : j = k
          · rw [e]; exact h
          · exact HNO.out j (by omega)
        rw [hx] at hat
        generalize Hd.pcode (Hd.pr l k) (l.take k) = D at *
        clear hx
        obtain ⟨x1, x2, x3, x4⟩ := x
        obtain ⟨c0, c1, c2, c3⟩ := hat
        simp only at HCALL c0 c1 c2 c3
        try simp only at HBX
        have hkc : k ≤ c := by omega
        clear hkl
        go_wp2_with fail
        refine region_tail 4 (by kernel_rfl) (by kernel_rfl) ?_
        simp only [List.take_succ_cons, List.take_zero, List.drop_succ_cons, List.drop_zero]
        obtain ⟨y0, y1, y2, y3⟩ := HBX.out
        repeat still_step
        refine wpStill_nil ?_
        go_wp2_with fail
        have HS0 := Lib.hid (((Below.refl wr.heap.size wr).alloc (Nat.le_refl _) (.cells #[.string (ofL x1), .int .u8 (x2 : Int), .int .i64 x3, .string (ofL x4)] 63)).drew)
        with_reducible refine (HCALL.out _ (HPR.out.on HS0.out)).mono ?_
        rintro e w1 ⟨rfl, hB⟩
        have HB1 := Lib.hid (bthen (bthen HBL.out HS0.out (Nat.le_refl _)) hB (Nat.le_refl _))
        clear hB
        by_cases hD : D = 0
        · have hne2 := code_eq hD
          have HNX := Lib.hid (HNX.out hD)
          clear hD
          go_wp2_with fail
          go_roundg (gk - 1)
          case rel => exact ⟨k + 1, by omega, by go_num, HNX.out, HB1.out⟩
          case measure => omega
        · have hne2 := code_ne hD
          have HE := Lib.hid (HQ.out hD)
          clear hD
          go_wp2_with fail
          go_ret
          exact ⟨ret_nat (by rw [HE.out]), HB1.out⟩
      · have HE := Lib.hid (HALL.out (fun i hi => HNO.out i (by have := HN.out; omega)))
        go_wp2_with fail
        go_ret
        exact ⟨ret_nat (by rw [HE.out]; rfl), HBL.out⟩
end Go.Proofs.YtnamkglflhkckaaDoor
end
