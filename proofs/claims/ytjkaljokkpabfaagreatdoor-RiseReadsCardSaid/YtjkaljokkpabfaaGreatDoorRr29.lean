/-
  WHETHER A KEY MATCHES A PATTERN, walked: the program's, whole. THE CHAPTER'S EXAMPLE, walked. THE CHAPTER's EXAMPLE; two heads held against each other: THE LAW HeadSame, walked.
-/
import Derived.Test.YtjkaljokkpabfaaGreatDoorRr20
import Derived.Test.YtjkaljokkpabfaaGreatDoorRr28

section
namespace Go.Proofs.YtjkaljokkpabfaaGreatDoor
open Go.ChangeShapes Go.WideShapes Go.ChangeAt Go.RowKit
def made0 (n : Nat) : Obj := .cells ((madeCells #[.bool false] n).setIfInBounds 0 (.bool true)) 4
theorem row_start (w : World) (n : Nat) (ks : List (List UInt8)) : Row (w.alloc (made0 n)) w.heap.size n (Wrd.row ks []) := by
  have hs : ((madeCells #[Value.bool false] n).setIfInBounds 0 (.bool true)).size = n := by rw [Array.size_setIfInBounds, size_madeCells]
  have := World.rowIs_alloc w ((madeCells #[Value.bool false] n).setIfInBounds 0 (.bool true)) 4 (fun j => .bool (Wrd.row ks [] j)) (fun i hi => by
    rw [hs] at hi
    rw [Array.getElem?_setIfInBounds]
    cases i with
    | zero => rw [if_pos rfl, if_pos (by rw [size_madeCells]; exact hi)]; rfl
    | succ i => rw [if_neg (by omega)]; simp [madeCells, hi, Nat.mod_one, Wrd.row])
  rw [hs] at this
  exact this
theorem start_below {w w1 : World} {B n : Nat} (h : Below B w w1) (hB : B ≤ w1.heap.size) : Below B w (w1.alloc (made0 n)) := h.alloc hB _
theorem start_cell (w1 : World) (n : Nat) (hn : 0 < n) : (w1.alloc (.cells (madeCells #[.bool false] n) 4)).cell? ⟨w1.heap.size, 0, none⟩ = some (.bool false) := by
  have := (Row.made w1 n (fun _ => false)).cell (j := 0) hn
  exact this
theorem start_free (w1 : World) (n : Nat) : (w1.alloc (.cells (madeCells #[.bool false] n) 4)).frozen? ⟨w1.heap.size, 0, none⟩ = false := (Row.made w1 n (fun _ => false)).free 0
theorem behind_n (one : List UInt8) (ws : List (List UInt8)) (f : Nat → Bool) (p : Option Addr) (cap gb cf n : Nat) (hn : n = ws.length + 1) (w : World) (hws : ws.length ≤ 100000) (hr : Reads w p ws) (hf : Row w gb n f) :
    Calls Tryz.prog 91 #[.string (ofL one), .slice p ws.length cap, .slice (some ⟨gb, 0, none⟩) n cf] w fun e w' =>
      e = .returned (.slice (some ⟨w.heap.size, 0, none⟩) n n) ∧ Row w' w.heap.size n (Wrd.nx one ws f) ∧ Below w.heap.size w w' := by
  subst hn
  exact behind_any one ws f p cap gb cf w hws hr hf
/-- the row behind the first k words -/
def RowSt (ps ks : List (List UInt8)) (w : World) (n g : Nat) (o i : Value) (wr : World) : Prop :=
  ∃ k gb : Nat, k + g = ps.length ∧ i = .int .i64 (k : Int) ∧ o = .slice (some ⟨gb, 0, none⟩) n n ∧ Row wr gb n (Wrd.row ks (ps.take k).reverse) ∧ Below w.heap.size w wr
theorem row_next (ps ks : List (List UInt8)) (k : Nat) (h : k < ps.length) : Wrd.nx ps[k] ks (Wrd.row ks (ps.take k).reverse) = Wrd.row ks (ps.take (k + 1)).reverse := by
  rw [List.take_succ_eq_append_getElem h, List.reverse_append]; rfl
theorem row_end {ps ks : List (List UInt8)} {k : Nat} (h : k = ps.length) : Wrd.row ks (ps.take k).reverse ks.length = Wrd.matches' ps ks := by
  rw [h, List.take_length, Wrd.row_all]
set_option maxRecDepth 8000 in
set_option maxHeartbeats 4000000 in
theorem matches_any (pt ky : List UInt8) (w : World) (hp : pt.length ≤ 99999) (hk : ky.length ≤ 99999) (hL : Len w) :
    Calls Tryz.prog 87 #[.string (ofL pt), .string (ofL ky)] w fun e w' => e = .returned (.bool (Wrd.matches' (Wrd.words pt) (Wrd.words ky))) ∧ Below w.heap.size w w' := by
  have HS1 := Lib.hid (split_any ky w (by omega) hL)
  have HS2 := Lib.hid (fun W h => split_any pt W (by omega) h)
  have HL := Lib.hid hL
  have hkl := Wrd.words_len ky
  have hpl := Wrd.words_len pt
  have HEND := Lib.hid (fun k h => row_end (ps := Wrd.words pt) (ks := Wrd.words ky) (k := k) h)
  generalize Wrd.words ky = ks at *
  generalize Wrd.words pt = ps at *
  generalize Wrd.matches' ps ks = M at *
  generalize ofL ky = sk at *
  generalize ofL pt = sp at *
  obtain ⟨n, hn⟩ : ∃ n, n = ks.length + 1 := ⟨_, rfl⟩
  have HNN := Lib.hid hn
  have hn1 : ks.length < n := by omega
  have hn2 : n ≤ ks.length + 1 := by omega
  have hmk : ∀ w : World, Sem.run Tryz.prog (Instr.makeSlice 119 (.int .i64 ((ks.length : Int) + 1)) (.int .i64 ((ks.length : Int) + 1))) w = .ok (.slice (some ⟨w.heap.size, 0, none⟩) n n) (w.alloc (.cells (madeCells #[.bool false] n) 4)) := by
    intro W
    have := run_make_row' (P := Tryz.prog) 119 4 (.bool false) 1 Tryz.underlying119 info4 rfl .i64 .i64 n (by omega) (by omega) W
    rw [← this]
    have e : ((ks.length : Int) + 1) = (n : Int) := by omega
    rw [e]
  clear hn hL
  go_enter Tryz.func87, Tryz.ntmps87
  go_wp2_with fail
  refine HS1.out.mono ?_
  rintro e w1 ⟨v, rfl, hown, hB⟩
  obtain ⟨q, cq, rfl, hq⟩ := reads_own hown
  have HQ := Lib.hid hq
  have HB1 := Lib.hid hB
  have HL1 := Lib.hid (HL.out.on hB)
  clear hown hB hq
  have HBS := Lib.hid (start_below (n := n) (Below.refl w1.heap.size w1) (Nat.le_refl _))
  have HRS := Lib.hid (row_start w1 n ks)
  have HLS := Lib.hid (HL1.out.on HBS.out)
  have HQS := Lib.hid (HQ.out.on HBS.out)
  have HBW := Lib.hid (start_below (n := n) HB1.out HB1.out.size)
  have HS3 := HS2.out _ HLS.out
  unfold made0 at HS3 HBS HRS HLS HQS HBW
  have HS4 := Lib.hid HS3
  clear HS3 HS2
  have hc0 := start_cell w1 n (by omega)
  have hf0 := start_free w1 n
  go_wp2_with fail
  clear hc0 hf0
  generalize hW : w1.alloc (Obj.cells ((madeCells #[Value.bool false] n).setIfInBounds 0 (Value.bool true)) 4) = w2 at *
  clear hW
  refine HS4.out.mono ?_
  rintro e w3 ⟨v, rfl, hown, hB⟩
  obtain ⟨pp, cp, rfl, hpp⟩ := reads_own hown
  have HP := Lib.hid hpp
  have HR3 := Lib.hid (HRS.out.on hB HRS.out.lt)
  have HQ3 := Lib.hid (HQS.out.on hB)
  have HB3 := Lib.hid (HBW.out.trans (hB.mono HBW.out.size))
  clear hown hB hpp
  generalize w1.heap.size = g1 at *
  go_wp2_with fail
  go_loopg [6, 20] ps.length (fun g o i wr => RowSt ps ks w3 n g o i wr)
  case atStart => exact ⟨0, g1, by omega, rfl, rfl, by rw [List.take_zero]; exact HR3.out, Below.refl _ _⟩
  case round =>
    obtain ⟨k, gb, hk, rfl, rfl, hrow, hB⟩ := hrel
    have HROW := Lib.hid hrow
    have HBR := Lib.hid hB
    have HPR := Lib.hid (HP.out.on hB)
    have HQR := Lib.hid (HQ3.out.on hB)
    clear hrow hB
    by_cases hlt : k < ps.length
    · obtain ⟨gp, rfl, hcp⟩ := HPR.out k hlt
      have HBH := Lib.hid (behind_n ps[k] ks _ q cq gb n n HNN.out wr (by omega) HQR.out HROW.out)
      have HNX := Lib.hid (row_next ps ks k hlt)
      generalize ps[k] = one at *
      go_wp2_with fail
      refine HBH.out.mono ?_
      rintro e w4 ⟨rfl, hrow4, hB4⟩
      have HROW4 := Lib.hid hrow4
      have HB4 := Lib.hid hB4
      clear hrow4 hB4
      go_wp2_with fail
      go_roundg (gk - 1)
      case rel => exact ⟨k + 1, _, by omega, by go_num, rfl, by have := HROW4.out; rw [HNX.out] at this; exact this, HBR.out.trans (HB4.out.mono HBR.out.size)⟩
      case measure => omega
    · have hkl : k = ps.length := by omega
      have HE := Lib.hid (HEND.out k hkl)
      have hcl := HROW.out.cell hn1
      rw [HE.out] at hcl
      clear hkl
      go_wp2_with fail
      go_ret
      exact ⟨rfl, HB3.out.trans (HBR.out.mono HB3.out.size)⟩
end Go.Proofs.YtjkaljokkpabfaaGreatDoor
end
section
namespace Go.Proofs.YtjkaljokkpabfaaGreatDoor
open Go.ChangeShapes Go.WideShapes Go.ChangeAt Go.RowKit
def exP : List UInt8 := [97, 46, 42, 46, 35]
def exA : List UInt8 := [97, 46, 98]
def exB : List UInt8 := [97, 46, 98, 46, 99, 46, 100]
def exC : List UInt8 := [97]
def exN : List UInt8 := [97, 45, 49]
theorem ex_a : Wrd.matches' (Wrd.words exP) (Wrd.words exA) = true := by rw [← Wrd.row_all]; decide
theorem ex_b : Wrd.matches' (Wrd.words exP) (Wrd.words exB) = true := by rw [← Wrd.row_all]; decide
theorem ex_c : Wrd.matches' (Wrd.words exP) (Wrd.words exC) = false := by rw [← Wrd.row_all]; decide
theorem ex_n : Wrd.nameCode exN = 0 := by decide
theorem ex_a_at (w : World) (hL : Len w) : Calls Tryz.prog 87 #[.string ⟨#[97, 46, 42, 46, 35]⟩, .string ⟨#[97, 46, 98]⟩] w fun e w' => e = .returned (.bool true) ∧ Below w.heap.size w w' := by
  have h := matches_any exP exA w (by decide) (by decide) hL
  rw [ex_a] at h
  exact h
theorem ex_b_at (w : World) (hL : Len w) : Calls Tryz.prog 87 #[.string ⟨#[97, 46, 42, 46, 35]⟩, .string ⟨#[97, 46, 98, 46, 99, 46, 100]⟩] w fun e w' => e = .returned (.bool true) ∧ Below w.heap.size w w' := by
  have h := matches_any exP exB w (by decide) (by decide) hL
  rw [ex_b] at h
  exact h
theorem ex_c_at (w : World) (hL : Len w) : Calls Tryz.prog 87 #[.string ⟨#[97, 46, 42, 46, 35]⟩, .string ⟨#[97]⟩] w fun e w' => e = .returned (.bool false) ∧ Below w.heap.size w w' := by
  have h := matches_any exP exC w (by decide) (by decide) hL
  rw [ex_c] at h
  exact h
theorem ex_n_at (w : World) : Calls Tryz.prog 47 #[.string ⟨#[97, 45, 49]⟩] w fun e w' => e = .returned (.int .i64 0) ∧ w = w' := by
  have h := name_any exN w (by decide)
  rw [ex_n] at h
  exact h
set_option maxHeartbeats 1000000 in
theorem wawake_any (w : World) (hL : Len w) : Calls Tryz.prog 85 #[] w fun e w' => e = .returned (.bool true) ∧ Below w.heap.size w w' := by
  have HA := Lib.hid (ex_a_at w hL)
  have HL := Lib.hid hL
  clear hL
  go_enter Tryz.func85, Tryz.ntmps85
  go_wp2_with fail
  refine HA.out.mono ?_
  rintro e w1 ⟨rfl, hB1⟩
  have HL1 := Lib.hid (HL.out.on hB1)
  have HB1 := Lib.hid hB1
  clear hB1
  go_wp2_with fail
  refine (ex_b_at _ HL1.out).mono ?_
  rintro e w2 ⟨rfl, hB⟩
  have HL2 := Lib.hid (HL1.out.on hB)
  have HB2 := Lib.hid (HB1.out.trans (hB.mono HB1.out.size))
  clear hB
  go_wp2_with fail
  refine (ex_c_at _ HL2.out).mono ?_
  rintro e w3 ⟨rfl, hB⟩
  have HB3 := Lib.hid (HB2.out.trans (hB.mono HB2.out.size))
  clear hB
  go_wp2_with fail
  refine (ex_n_at _).mono ?_
  rintro e w' ⟨rfl, rfl⟩
  go_wp2_with fail
  go_ret
  exact ⟨rfl, HB3.out⟩
end Go.Proofs.YtjkaljokkpabfaaGreatDoor
end
section
namespace Go.Proofs.YtjkaljokkpabfaaGreatDoor
open Go.ChangeShapes Go.WideShapes Go.ChangeAt Go.RowKit
theorem law4Awake_any (w : World) (hL : Len w) : Calls Tryz.prog 80 #[] w fun e w' => e = .returned (.bool true) ∧ Below w.heap.size w w' := by
  have HA := Lib.hid (wawake_any w hL)
  go_enter Tryz.func80, Tryz.ntmps80
  go_wp2_with fail
  refine HA.out.mono ?_
  rintro x w1 ⟨rfl, b1⟩
  have B1 := Lib.hid b1
  clear b1
  go_wp2_with fail
  go_ret
  exact ⟨rfl, B1.out⟩
theorem lite_nil : Lite [] := fun i hi => absurd hi (by simp)
theorem hbytes_nil (w : World) : Calls Tryz.prog 66 #[.slice none 0 0] w fun e w' => e = .returned (.tuple #[.string ⟨#[0]⟩, .int .i64 0]) ∧ Below w.heap.size w w' := by
  have h := hbytes_any [] none 0 w (by simp) (by simp) lite_nil (Prs.nil _ _)
  rw [show hbytesV [] = .tuple #[.string ⟨#[0]⟩, .int .i64 0] from rfl] at h
  exact h
set_option maxHeartbeats 1000000 in
theorem awake9_any (w : World) (hL : Len w) : Calls Tryz.prog 71 #[] w fun e w' => e = .returned (.bool true) ∧ Below w.heap.size w w' := by
  have HL := Lib.hid hL
  clear hL
  have he : (({ data := #[0] } : ByteArray).toList == [0]) = true := by rw [ByteArray.toList_eq]; rfl
  go_enter Tryz.func71, Tryz.ntmps71
  go_wp2_with fail
  refine (hbytes_nil _).mono ?_
  rintro e w1 ⟨rfl, b1⟩
  have HL1 := Lib.hid (HL.out.on b1)
  have HB1 := Lib.hid b1
  clear b1
  go_wp2_with fail
  refine (octAwake2_any _).mono ?_
  rintro e w2 ⟨rfl, b2⟩
  have HL2 := Lib.hid (HL1.out.on b2)
  have HB2 := Lib.hid (bthen HB1.out b2 (Nat.le_refl _))
  clear b2
  go_wp2_with fail
  refine (law4Awake_any _ HL2.out).mono ?_
  rintro e w3 ⟨rfl, b3⟩
  have HB3 := Lib.hid (bthen HB2.out b3 (Nat.le_refl _))
  clear b3
  go_wp2_with fail
  go_ret
  exact ⟨rfl, HB3.out⟩
end Go.Proofs.YtjkaljokkpabfaaGreatDoor
end
