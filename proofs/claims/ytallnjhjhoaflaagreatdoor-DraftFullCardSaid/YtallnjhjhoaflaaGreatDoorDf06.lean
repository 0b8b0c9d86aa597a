/-
  NAMES, walked: the program's and the document's. WHAT ROWS AND TEXTS ARE ASKED ALIKE: the first for which something holds; texts held against each other; a region whose order is drawn.
-/
import Derived.Test.YtallnjhjhoaflaaGreatDoorDf03
import Derived.Test.YtallnjhjhoaflaaGreatDoorDf05
import Derived.WalkKit
import Derived.ProofKit
import Derived.Deep.RegionWith
import Derived.StillTailTactics
section
namespace Go.Proofs.YtallnjhjhoaflaaGreatDoor
open Go.ChangeShapes Go.WideShapes Go.ChangeAt Go.RowKit
theorem ret_nat {a b : Int} (h : a = b) : Ending.returned (.int .i64 a) = .returned (.int .i64 b) := by rw [h]
theorem name_0 {l : List UInt8} (h : l.length = 0) : Wrd.nameCode l = 15 := by unfold Wrd.nameCode; rw [if_pos h]
theorem name_long {l : List UInt8} (h : 16 < l.length) : Wrd.nameCode l = 5 := by unfold Wrd.nameCode; rw [if_neg (by omega), if_pos h]
theorem name_ok {l : List UInt8} (h0 : l.length ≠ 0) (h : ¬ 16 < l.length) (ha : l.all Wrd.mark = true) : Wrd.nameCode l = 0 := by unfold Wrd.nameCode; rw [if_neg h0, if_neg h, if_pos ha]
theorem name_form {l : List UInt8} (h0 : l.length ≠ 0) (h : ¬ 16 < l.length) (ha : l.all Wrd.mark = false) : Wrd.nameCode l = 4 := by unfold Wrd.nameCode; rw [if_neg h0, if_neg h, if_neg (by rw [ha]; simp)]
set_option maxHeartbeats 1000000 in
theorem name_any (l : List UInt8) (w : World) (hl : l.length ≤ 100000) : Calls Tryz.prog 57 #[.string (ofL l)] w fun e w' => e = .returned (.int .i64 (Wrd.nameCode l : Int)) ∧ w = w' := by
  have hsz : (ofL l).size = l.length := ofL_size l
  have HPL := Lib.hid (fun W => plain_any l W hl)
  by_cases h0 : l.length = 0
  · have HC := Lib.hid (name_0 h0)
    rw [ofL_nil h0]
    clear HPL
    go_enter Tryz.func57, Tryz.ntmps57
    go_wp2_with fail
    go_ret
    exact ⟨ret_nat (by rw [HC.out]; rfl), rfl⟩
  · have he := str_ne h0
    by_cases h1 : 16 < l.length
    · have HC := Lib.hid (name_long h1)
      have hs : 16 < (ofL l).size := by omega
      go_enter Tryz.func57, Tryz.ntmps57
      go_wp2_with fail
      go_ret
      exact ⟨ret_nat (by rw [HC.out]; rfl), rfl⟩
    · have hs : ¬ 16 < (ofL l).size := by omega
      cases ha : l.all Wrd.mark with
      | true =>
        have HC := Lib.hid (name_ok h0 h1 ha)
        have hp : Wrd.plain l = true := by unfold Wrd.plain; rw [ha]; simp; intro h; exact h0 (by rw [h]; rfl)
        rw [hp] at HPL
        clear ha hp
        go_enter Tryz.func57, Tryz.ntmps57
        go_wp2_with fail
        refine (HPL.out _).mono ?_
        rintro e w' ⟨rfl, rfl⟩
        go_wp2_with fail
        go_ret
        exact ⟨ret_nat (by rw [HC.out]; rfl), rfl⟩
      | false =>
        have HC := Lib.hid (name_form h0 h1 ha)
        have hp : Wrd.plain l = false := by unfold Wrd.plain; rw [ha]; rfl
        rw [hp] at HPL
        clear ha hp
        go_enter Tryz.func57, Tryz.ntmps57
        go_wp2_with fail
        refine (HPL.out _).mono ?_
        rintro e w' ⟨rfl, rfl⟩
        go_wp2_with fail
        go_ret
        exact ⟨ret_nat (by rw [HC.out]; rfl), rfl⟩
set_option maxHeartbeats 1000000 in
theorem rname_any (l : List UInt8) (w : World) (hl : l.length ≤ 100000) : Calls Tryz.prog 33 #[.string (ofL l)] w fun e w' => e = .returned (.int .i64 (Wrd.nameCode l : Int)) ∧ w = w' := by
  have hsz : (ofL l).size = l.length := ofL_size l
  by_cases h0 : l.length = 0
  · have HC := Lib.hid (name_0 h0)
    have hs : (ofL l).size = 0 := by omega
    go_enter Tryz.func33, Tryz.ntmps33
    go_wp2_with fail
    go_ret
    exact ⟨ret_nat (by rw [HC.out]; rfl), rfl⟩
  · by_cases h1 : 16 < l.length
    · have HC := Lib.hid (name_long h1)
      have hs : 16 < (ofL l).size := by omega
      have hs0 : (((ofL l).size : Int) == 0) = false := beq_eq_false_iff_ne.2 (by omega)
      clear h0
      go_enter Tryz.func33, Tryz.ntmps33
      go_wp2_with fail
      go_ret
      exact ⟨ret_nat (by rw [HC.out]; rfl), rfl⟩
    · have hs : ¬ 16 < (ofL l).size := by omega
      have hs0 : ((l.length : Int) == 0) = false := beq_eq_false_iff_ne.2 (by omega)
      have HG : Hid (∀ p (h : p < l.length), (ofL l)[p]'(by rw [hsz]; exact h) = l[p]) := fun p h => rfl
      have HA := Lib.hid (fun k h => all_take l k h)
      have HN := Lib.hid (fun k (h : k < l.length) => all_not (l := l) (k := k) h)
      have HOK := Lib.hid (name_ok h0 h1)
      have HBAD := Lib.hid (name_form h0 h1)
      generalize Wrd.nameCode l = C at *
      clear h0
      go_enter Tryz.func33, Tryz.ntmps33
      go_wp2_with fail
      go_loopg [3] l.length (fun g i wr => ∃ k : Nat, k + g = l.length ∧ i = .int .i64 k ∧ (l.take k).all Wrd.mark = true ∧ wr = w)
      case atStart => exact ⟨0, by omega, rfl, by simp, rfl⟩
      case round =>
        obtain ⟨k, hk, rfl, hall, rfl⟩ := hrel
        have HALL := Lib.hid hall
        clear hall
        by_cases hlt : k < l.length
        · have hks : k < (ofL l).size := by omega
          have HGK := Lib.hid (HG.out k hlt)
          have HM := Lib.hid (fun W => letter_any (ofL l)[k] W)
          cases hm : Wrd.mark (l[k]'hlt) with
          | true =>
            have HT := Lib.hid (show (l.take (k + 1)).all Wrd.mark = true by rw [HA.out k hlt, HALL.out, hm]; rfl)
            rw [← HGK.out] at hm
            rw [hm] at HM
            clear hm
            go_wp2_with fail
            refine (HM.out _).mono ?_
            rintro e w' ⟨rfl, rfl⟩
            go_wp2_with fail
            go_roundg (gk - 1)
            case rel => exact ⟨k + 1, by omega, by go_num, HT.out, rfl⟩
            case measure => omega
          | false =>
            have HF := Lib.hid (HBAD.out (HN.out k hlt hm))
            rw [← HGK.out] at hm
            rw [hm] at HM
            clear hm
            go_wp2_with fail
            refine (HM.out _).mono ?_
            rintro e w' ⟨rfl, rfl⟩
            go_wp2_with fail
            go_ret
            exact ⟨ret_nat (by rw [HF.out]; rfl), rfl⟩
        · have hkl : k = l.length := by omega
          have HF := Lib.hid (HOK.out (by have := HALL.out; rw [hkl, List.take_length] at this; exact this))
          have hks : ¬ k < (ofL l).size := by omega
          clear hkl
          go_wp2_with fail
          go_ret
          exact ⟨ret_nat (by rw [HF.out]; rfl), rfl⟩
end Go.Proofs.YtallnjhjhoaflaaGreatDoor
end
section
namespace Go.Proofs.YtallnjhjhoaflaaGreatDoor
open Go.ChangeShapes Go.WideShapes Go.ChangeAt Go.RowKit
theorem str_list (x : List UInt8) : (ofL x).toList = x := by rw [ByteArray.toList_eq]; rfl
theorem str_same (x y : List UInt8) : ((ofL x).toList == (ofL y).toList) = (x == y) := by rw [str_list, str_list]
theorem cast_beq (a b : Nat) : (((a : Int)) == (b : Int)) = (a == b) := by rw [Bool.eq_iff_iff]; simp only [beq_iff_eq]; omega
/-! ### the first for which something holds -/
def idx {α : Type} (q : α → Bool) (l : List α) : Int := match l.findIdx? q with | some i => (i : Int) | none => -1
theorem idx_none {α : Type} {q : α → Bool} {l : List α} (z : α) (h : ∀ i, i < l.length → q (l.getD i z) = false) : idx q l = -1 := by
  unfold idx
  rw [List.findIdx?_eq_none_iff.2]
  intro x hx
  obtain ⟨i, hi, rfl⟩ := List.getElem_of_mem hx
  have := h i hi
  rwa [List.getD_eq_getElem?_getD, List.getElem?_eq_getElem hi] at this
theorem idx_some {α : Type} {q : α → Bool} {l : List α} (z : α) {k : Nat} (hk : k < l.length) (h : ∀ i, i < k → q (l.getD i z) = false) (hq : q (l.getD k z) = true) : idx q l = k := by
  unfold idx
  have : l.findIdx? q = some k := by
    rw [List.findIdx?_eq_some_iff_getElem]
    refine ⟨hk, ?_, fun j hj => ?_⟩
    · rwa [List.getD_eq_getElem?_getD, List.getElem?_eq_getElem hk] at hq
    · have := h j hj
      rw [List.getD_eq_getElem?_getD, List.getElem?_eq_getElem (by omega)] at this
      have h2 : q l[j] = false := this
      rw [h2]; simp
  rw [this]
theorem idx_any {α : Type} (q : α → Bool) (l : List α) : decide (idx q l ≥ 0) = l.any q := by
  unfold idx
  cases h : l.findIdx? q with
  | none =>
    have := List.findIdx?_eq_none_iff.1 h
    have h2 : l.any q = false := by rw [List.any_eq_false]; intro x hx; rw [this x hx]; simp
    rw [h2]; simp
  | some i =>
    obtain ⟨hi, hq, _⟩ := List.findIdx?_eq_some_iff_getElem.1 h
    have h2 : l.any q = true := List.any_eq_true.2 ⟨_, List.getElem_mem hi, hq⟩
    rw [h2]; simp
theorem idx_lt {α : Type} (q : α → Bool) (l : List α) : -1 ≤ idx q l ∧ idx q l < l.length := by
  unfold idx
  cases h : l.findIdx? q with
  | none => simp; omega
  | some i =>
    obtain ⟨hi, _⟩ := List.findIdx?_eq_some_iff_getElem.1 h
    simp only; omega
/-- a region whose order is drawn, all of whose operations but the last ones only read -/
theorem region_tail {P : Program} {id : Nat} {Q : Exit → Act → World → Prop} {a : Act} {w : World} {l : List Oper} (n : Nat) (hm : P.follows .mixedOrders = true) (hB : Region.lexTailB .any l.toArray n = true)
    (h : wpStill P l.toArray w.drew (fun a' => wpList P l.toArray Q (l.drop n) a' w.drew) (l.take n) a) : (Code.region id l.toArray true).wp P Q a w := wp_region_still_tail n hm hB h
end Go.Proofs.YtallnjhjhoaflaaGreatDoor
end
