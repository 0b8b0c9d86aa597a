/-
  WHAT A KIND TELLS, in memory: the programs' rows of parts; whether a part is in a row: walked.
-/
import Derived.Test.YtnjlhafhgfpfiaaGreatDoorRb12
import Derived.Test.YtnjlhafhgfpfiaaGreatDoorRb13
import Derived.Test.YtnjlhafhgfpfiaaGreatDoorRb14

section
namespace Go.Proofs.YtnjlhafhgfpfiaaGreatDoor
open Go.ChangeShapes Go.WideShapes Go.ChangeAt Go.RowKit
theorem emp_eq (l : List UInt8) : l.isEmpty = (l == []) := by cases l <;> rfl
/-- a row of parts -/
def Parts (w : World) (A : Option Addr) (l : List Nat) : Prop := l = [] ∨ ∃ b, A = some ⟨b, 0, none⟩ ∧ b < w.heap.size ∧ Cels w b (l.map fun (p : Nat) => Value.int .i64 (p : Int))
def TellPost (w : World) (l : List Nat) (e : Ending) (w' : World) : Prop := ∃ A c, e = .returned (.slice A l.length c) ∧ Parts w' A l ∧ Below w.heap.size w w' ∧ ∀ a, A = some a → w.heap.size ≤ a.block
theorem Parts.on {w w' : World} {A : Option Addr} {l : List Nat} (h : Parts w A l) (hb : Below w.heap.size w w') : Parts w' A l := by
  rcases h with h | ⟨b, e, hl, hc⟩
  · exact Or.inl h
  · exact Or.inr ⟨b, e, Nat.lt_of_lt_of_le hl hb.size, hc.on hb hl⟩
theorem Parts.at_ {w : World} {A : Option Addr} {l : List Nat} (h : Parts w A l) {k : Nat} (hk : k < l.length) : ∃ b, A = some ⟨b, 0, none⟩ ∧ b < w.heap.size ∧ w.cell? ⟨b, k, none⟩ = some (.int .i64 ((l.getD k 0 : Nat) : Int)) := by
  rcases h with rfl | ⟨b, e, hl, hc⟩
  · simp at hk
  · refine ⟨b, e, hl, ?_⟩
    refine hc k _ ?_
    rw [List.getElem?_map, List.getElem?_eq_getElem hk]
    simp [List.getD_eq_getElem?_getD, List.getElem?_eq_getElem hk]
theorem Parts.aside {w : World} {A : Option Addr} {l : List Nat} (h : Parts w A l) {g : Nat} (hne : ∀ a, A = some a → g ≠ a.block) (j : Nat) (v : Value) : Parts (w.setCell ⟨g, j, none⟩ v) A l := by
  rcases h with h | ⟨b, e, hl, hc⟩
  · exact Or.inl h
  · exact Or.inr ⟨b, e, by simpa [World.setCell] using hl, hc.aside (hne _ e) j v⟩
theorem Parts.grown {w w' : World} {A : Option Addr} {l : List Nat} {row : Option Nat} (h : Parts w A l) (hg : w.grownBy w' row) (hne : ∀ a, A = some a → some a.block ≠ row) : Parts w' A l := by
  rcases h with h | ⟨b, e, hl, hc⟩
  · exact Or.inl h
  · exact Or.inr ⟨b, e, Nat.lt_of_lt_of_le hl hg.size, hc.grown hg (hne _ e)⟩
theorem rtells_0 (w : World) : Calls Tryz.prog 32 #[.int .u8 0] w (TellPost w [3]) := by
  have HB := Lib.hid (show Below w.heap.size w (w.alloc (.cells #[.int .i64 3] 79)) from (Below.refl _ _).alloc (Nat.le_refl _) _)
  have HC := Lib.hid (Cels.new w #[.int .i64 3] 79)
  go_enter Tryz.func32, Tryz.ntmps32
  go_wp2_with fail
  go_ret
  exact ⟨_, _, rfl, Or.inr ⟨_, rfl, by simp, HC.out⟩, HB.out, fun a ha => by cases ha; exact Nat.le_refl _⟩
theorem rtells_2 (w : World) : Calls Tryz.prog 32 #[.int .u8 2] w (TellPost w [0]) := by
  have HB := Lib.hid (show Below w.heap.size w (w.alloc (.cells #[.int .i64 0] 79)) from (Below.refl _ _).alloc (Nat.le_refl _) _)
  have HC := Lib.hid (Cels.new w #[.int .i64 0] 79)
  go_enter Tryz.func32, Tryz.ntmps32
  go_wp2_with fail
  go_ret
  exact ⟨_, _, rfl, Or.inr ⟨_, rfl, by simp, HC.out⟩, HB.out, fun a ha => by cases ha; exact Nat.le_refl _⟩
theorem rtells_3 (w : World) : Calls Tryz.prog 32 #[.int .u8 3] w (TellPost w [0, 1, 2, 4, 5, 6, 7]) := by
  have HB := Lib.hid (show Below w.heap.size w (w.alloc (.cells #[.int .i64 0, .int .i64 1, .int .i64 2, .int .i64 4, .int .i64 5, .int .i64 6, .int .i64 7] 79)) from (Below.refl _ _).alloc (Nat.le_refl _) _)
  have HC := Lib.hid (Cels.new w #[.int .i64 0, .int .i64 1, .int .i64 2, .int .i64 4, .int .i64 5, .int .i64 6, .int .i64 7] 79)
  go_enter Tryz.func32, Tryz.ntmps32
  go_wp2_with fail
  go_ret
  exact ⟨_, _, rfl, Or.inr ⟨_, rfl, by simp, HC.out⟩, HB.out, fun a ha => by cases ha; exact Nat.le_refl _⟩
theorem rtells_5 (w : World) : Calls Tryz.prog 32 #[.int .u8 5] w (TellPost w [0]) := by
  have HB := Lib.hid (show Below w.heap.size w (w.alloc (.cells #[.int .i64 0] 79)) from (Below.refl _ _).alloc (Nat.le_refl _) _)
  have HC := Lib.hid (Cels.new w #[.int .i64 0] 79)
  go_enter Tryz.func32, Tryz.ntmps32
  go_wp2_with fail
  go_ret
  exact ⟨_, _, rfl, Or.inr ⟨_, rfl, by simp, HC.out⟩, HB.out, fun a ha => by cases ha; exact Nat.le_refl _⟩
theorem rtells_6 (w : World) : Calls Tryz.prog 32 #[.int .u8 6] w (TellPost w [0, 1]) := by
  have HB := Lib.hid (show Below w.heap.size w (w.alloc (.cells #[.int .i64 0, .int .i64 1] 79)) from (Below.refl _ _).alloc (Nat.le_refl _) _)
  have HC := Lib.hid (Cels.new w #[.int .i64 0, .int .i64 1] 79)
  go_enter Tryz.func32, Tryz.ntmps32
  go_wp2_with fail
  go_ret
  exact ⟨_, _, rfl, Or.inr ⟨_, rfl, by simp, HC.out⟩, HB.out, fun a ha => by cases ha; exact Nat.le_refl _⟩
theorem rtells_7 (w : World) : Calls Tryz.prog 32 #[.int .u8 7] w (TellPost w [0]) := by
  have HB := Lib.hid (show Below w.heap.size w (w.alloc (.cells #[.int .i64 0] 79)) from (Below.refl _ _).alloc (Nat.le_refl _) _)
  have HC := Lib.hid (Cels.new w #[.int .i64 0] 79)
  go_enter Tryz.func32, Tryz.ntmps32
  go_wp2_with fail
  go_ret
  exact ⟨_, _, rfl, Or.inr ⟨_, rfl, by simp, HC.out⟩, HB.out, fun a ha => by cases ha; exact Nat.le_refl _⟩
set_option maxRecDepth 20000 in
theorem rtells_no (n : Nat) (h0 : n ≠ 0) (h2 : n ≠ 2) (h3 : n ≠ 3) (h5 : n ≠ 5) (h6 : n ≠ 6) (h7 : n ≠ 7) (w : World) : Calls Tryz.prog 32 #[.int .u8 (n : Int)] w (TellPost w []) := by
  have z0 : ((n : Int) == 0) = false := beq_eq_false_iff_ne.2 (by omega)
  have z2 : ((n : Int) == 2) = false := beq_eq_false_iff_ne.2 (by omega)
  have z3 : ((n : Int) == 3) = false := beq_eq_false_iff_ne.2 (by omega)
  have z5 : ((n : Int) == 5) = false := beq_eq_false_iff_ne.2 (by omega)
  have z6 : ((n : Int) == 6) = false := beq_eq_false_iff_ne.2 (by omega)
  have z7 : ((n : Int) == 7) = false := beq_eq_false_iff_ne.2 (by omega)
  clear h0 h2 h3 h5 h6 h7
  go_enter Tryz.func32, Tryz.ntmps32
  go_wp2_with fail
  go_ret
  exact ⟨none, 0, rfl, Or.inl rfl, Below.refl _ _, fun a ha => by cases ha⟩
theorem Re_tells_any (n : Nat) (w : World) : Calls Tryz.prog 32 #[.int .u8 (n : Int)] w (TellPost w (Re.tells n)) := by
  by_cases hn : n = 0 ∨ n = 2 ∨ n = 3 ∨ n = 5 ∨ n = 6 ∨ n = 7
  · rcases hn with rfl | rfl | rfl | rfl | rfl | rfl
    · exact rtells_0 w
    · exact rtells_2 w
    · exact rtells_3 w
    · exact rtells_5 w
    · exact rtells_6 w
    · exact rtells_7 w
  · have he : Re.tells n = [] := by
      unfold Re.tells
      split <;> first | rfl | (exfalso; omega)
    rw [he]
    exact rtells_no n (by omega) (by omega) (by omega) (by omega) (by omega) (by omega) w
set_option maxHeartbeats 1000000 in
theorem Re_index_any (l : List Nat) (A : Option Addr) (c x : Nat) (w : World) (hl : l.length ≤ 100000) (hp : Parts w A l) :
    Calls Tryz.prog 76 #[.slice A l.length c, .int .i64 (x : Int)] w fun e w' => e = .returned (.int .i64 (idx (fun y => y == x) l)) ∧ w = w' := by
  have HP := Lib.hid hp
  have HNONE := Lib.hid (fun h => idx_none (q := fun y => y == x) (l := l) 0 h)
  have HSOME := Lib.hid (fun k (hk : k < l.length) h hq => idx_some (q := fun y => y == x) (l := l) 0 hk h hq)
  clear hp
  generalize idx (fun y => y == x) l = M at *
  obtain ⟨n, hn⟩ : ∃ n, n = l.length := ⟨_, rfl⟩
  rw [← hn]
  have HN := Lib.hid hn
  have hnl : n ≤ 100000 := by omega
  clear hn hl
  go_enter Tryz.func76, Tryz.ntmps76
  go_wp2_with fail
  go_loopg [8] n (fun g i wr => ∃ k : Nat, k + g = n ∧ i = .int .i64 (k : Int) ∧ (∀ j, j < k → (l.getD j 0 == x) = false) ∧ w = wr)
  case atStart => exact ⟨0, by omega, rfl, fun j hj => absurd hj (by omega), rfl⟩
  case round =>
    obtain ⟨k, hk, rfl, hno, rfl⟩ := hrel
    have HNO := Lib.hid hno
    clear hno
    by_cases hlt : k < n
    · obtain ⟨b, rfl, hbl, hat⟩ := HP.out.at_ (k := k) (by have := HN.out; omega)
      cases hq : l.getD k 0 == x with
      | true =>
        have hM := HSOME.out k (by have := HN.out; omega) HNO.out hq
        have hy : ((x : Int) == ((l.getD k 0 : Nat) : Int)) = true := by rw [cast_beq, Bool.beq_comm]; exact hq
        generalize l.getD k 0 = y at *
        clear hq
        go_wp2_with fail
        go_ret
        exact ⟨ret_nat hM.symm, rfl⟩
      | false =>
        have HNX := Lib.hid (show ∀ j, j < k + 1 → (l.getD j 0 == x) = false from fun j hj => by
          by_cases e : j = k
          · rw [e]; exact hq
          · exact HNO.out j (by omega))
        have hy : ((x : Int) == ((l.getD k 0 : Nat) : Int)) = false := by rw [cast_beq, Bool.beq_comm]; exact hq
        generalize l.getD k 0 = y at *
        clear hq
        go_wp2_with fail
        go_roundg (gk - 1)
        case rel => exact ⟨k + 1, by omega, by go_num, HNX.out, rfl⟩
        case measure => omega
    · have hM := HNONE.out (fun i hi => HNO.out i (by have := HN.out; omega))
      go_wp2_with fail
      go_ret
      exact ⟨ret_nat hM.symm, rfl⟩
theorem Re_contains_any (l : List Nat) (A : Option Addr) (c x : Nat) (w : World) (hl : l.length ≤ 100000) (hp : Parts w A l) :
    Calls Tryz.prog 58 #[.slice A l.length c, .int .i64 (x : Int)] w fun e w' => e = .returned (.bool (l.contains x)) ∧ w = w' := by
  have HI := Lib.hid (Re_index_any l A c x w hl hp)
  have HA := Lib.hid (show decide (idx (fun y => y == x) l ≥ 0) = l.contains x by rw [idx_any, List.contains_eq_any_beq]; congr 1; funext y; exact Bool.beq_comm)
  generalize l.contains x = C at *
  generalize idx (fun y => y == x) l = M at *
  obtain ⟨n, hn⟩ : ∃ n, n = l.length := ⟨_, rfl⟩
  rw [← hn] at hl HI ⊢
  clear hn hp
  go_enter Tryz.func58, Tryz.ntmps58
  go_wp2_with fail
  refine HI.out.mono ?_
  rintro e w1 ⟨rfl, rfl⟩
  go_wp2_with fail
  go_ret
  exact ⟨ret_bool HA.out, rfl⟩
end Go.Proofs.YtnjlhafhgfpfiaaGreatDoor
end
