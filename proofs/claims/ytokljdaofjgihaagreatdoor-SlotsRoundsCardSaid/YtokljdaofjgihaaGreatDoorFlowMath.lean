/-
  PLAIN: what flows in a policy that may be: an order without a place to itself; what flows is not granted. No program is spoken of here.
-/
import Derived.Test.YtokljdaofjgihaaGreatDoorPolMath
namespace Go.Proofs.YtokljdaofjgihaaGreatDoor.Pl

theorem check_parts {p : Pol} (h : check p = 0) : placesCode p.places = 0 ∧ slotsCode p.places.length p.slots = 0 ∧ grantsCode p.places p.grants = 0 ∧ turnsCode p.places.length p.slots = 0 := by
  unfold check at h
  split at h
  · by_cases h1 : placesCode p.places ≠ 0
    · rw [if_pos h1] at h; exact absurd h h1
    · rw [if_neg h1] at h
      by_cases h2 : slotsCode p.places.length p.slots ≠ 0
      · rw [if_pos h2] at h; exact absurd h h2
      · rw [if_neg h2] at h
        by_cases h3 : grantsCode p.places p.grants ≠ 0
        · rw [if_pos h3] at h; exact absurd h h3
        · rw [if_neg h3] at h
          exact ⟨by omega, by omega, by omega, h⟩
  · cases h
theorem places_apart {l : List Plc} (h : placesCode l = 0) {i j : Nat} (hij : i < j) (hj : j < l.length) : ¬ ((plc l i).lv = (plc l j).lv ∧ (plc l i).set = (plc l j).set) := by
  rintro ⟨h1, h2⟩
  unfold placesCode at h
  by_cases hc : counted l.length 16 ≠ 0
  · rw [if_pos hc] at h; exact hc h
  · rw [if_neg hc] at h
    have hs := scan_none h j hj
    unfold plcCode at hs
    split at hs
    · rename_i hn; exact hn hs
    · split at hs
      · split at hs
        · cases hs
        · rename_i _ _ hany
          apply hany
          rw [List.any_eq_true]
          refine ⟨plc l i, ?_, ?_⟩
          · unfold plc
            rw [List.getD_eq_getElem?_getD, List.getElem?_eq_getElem (by omega)]
            exact List.mem_take_iff_getElem.2 ⟨i, by omega, rfl⟩
          · unfold plcSame
            simp [h1, h2]
      · cases hs
theorem flows_parts {p : Pol} {i j : Int} (h : flows p i j = true) : i ≠ j ∧ has p.places.length i = true ∧ has p.places.length j = true ∧ under p.places i j = true := by
  unfold flows at h
  simp only [Bool.and_eq_true, decide_eq_true_eq] at h
  exact ⟨h.1.1.1, h.1.1.2, h.1.2, h.2⟩
theorem flows_self (p : Pol) (i : Int) : flows p i i = false := by unfold flows; simp
theorem flows_one {p : Pol} (h : check p = 0) (hset : ∀ i, i < p.places.length → (plc p.places i).set < 4294967296) {i j : Int} (h1 : flows p i j = true) : flows p j i = false := by
  cases h2 : flows p j i with
  | false => rfl
  | true =>
    exfalso
    obtain ⟨hne, hi, hj, u1⟩ := flows_parts h1
    obtain ⟨-, -, -, u2⟩ := flows_parts h2
    have hi' := within_iff.1 hi
    have hj' := within_iff.1 hj
    obtain ⟨e1, e2⟩ := Lat.under_antisymm (hset i.toNat (by omega)) (hset j.toNat (by omega)) u1 u2
    have hp := (check_parts h).1
    rcases Nat.lt_trichotomy i.toNat j.toNat with hlt | heq | hgt
    · exact places_apart hp hlt (by omega) ⟨e1, e2⟩
    · omega
    · exact places_apart hp hgt (by omega) ⟨e1.symm, e2.symm⟩
theorem flows_trans {p : Pol} (h : check p = 0) (hset : ∀ i, i < p.places.length → (plc p.places i).set < 4294967296) {i j k : Int} (h1 : flows p i j = true) (h2 : flows p j k = true) : flows p i k = true := by
  obtain ⟨-, hi, hj, u1⟩ := flows_parts h1
  obtain ⟨-, -, hk, u2⟩ := flows_parts h2
  by_cases e : i = k
  · exfalso
    subst e
    rw [flows_one h hset h1] at h2
    cases h2
  · unfold flows
    have u3 : under p.places i k = true := Lat.under_trans u1 u2
    rw [hi, hk, u3]
    simp [e]
theorem flows_grant {p : Pol} (h : check p = 0) {i j : Int} (h1 : flows p i j = true) : grant p i j = -1 := by
  unfold grant
  cases hf : p.grants.findIdx? (fun x => grnSame ⟨i, j, 0⟩ x) with
  | none => rfl
  | some k =>
    exfalso
    obtain ⟨-, -, -, u1⟩ := flows_parts h1
    obtain ⟨hk, hp, -⟩ := List.findIdx?_eq_some_iff_getElem.1 hf
    have hg := (check_parts h).2.2.1
    unfold grantsCode at hg
    split at hg
    · cases hg
    · have hs := scan_none hg k hk
      have e : grn p.grants k = p.grants[k] := by unfold grn; rw [List.getD_eq_getElem?_getD, List.getElem?_eq_getElem hk]; rfl
      unfold grnSame at hp
      simp only [Bool.and_eq_true, beq_iff_eq] at hp
      unfold grnCode at hs
      rw [e, ← hp.1, ← hp.2, u1] at hs
      split at hs
      · cases hs
      · cases hs
end Go.Proofs.YtokljdaofjgihaaGreatDoor.Pl
