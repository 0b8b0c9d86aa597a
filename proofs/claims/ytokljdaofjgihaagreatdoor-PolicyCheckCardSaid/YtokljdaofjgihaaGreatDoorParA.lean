/-
  A POLICY'S TEXT: its words, its numbers, walked: the program's.
-/
import Derived.Test.YtokljdaofjgihaaGreatDoorParMath
import Derived.Test.YtokljdaofjgihaaGreatDoorPolF
import Derived.Test.YtokljdaofjgihaaGreatDoorWordR
import Derived.Test.YtokljdaofjgihaaGreatDoorShelfNum
import Derived.Lib.MapLaws
import Derived.Shelf.Abstract
namespace Go.Proofs.YtokljdaofjgihaaGreatDoor
open Go.ChangeShapes Go.WideShapes Go.ChangeAt Go.RowKit

/-! ### the library's fields are the words -/
theorem get_at (l : List UInt8) (i : Nat) (h : i < l.length) : (ofL l).get! i = l[i] := by
  show (l.toArray)[i]! = l[i]
  rw [getElem!_pos l.toArray i (by simpa using h)]
  simp
theorem dec_blank (l : List UInt8) (pos : Nat) (h : pos < l.length) :
    ((Utf8.decode (ofL l) pos).1 = 32 ∧ l.getD pos 0 = 32 ∧ (Utf8.decode (ofL l) pos).2 = 1) ∨
    ((Utf8.decode (ofL l) pos).1 ≠ 32 ∧ 1 ≤ (Utf8.decode (ofL l) pos).2 ∧ pos + (Utf8.decode (ofL l) pos).2 ≤ l.length ∧ ∀ j, j < (Utf8.decode (ofL l) pos).2 → l.getD (pos + j) 0 ≠ 32) := by
  have hgd : ∀ i, i < l.length → ((ofL l).get! i) = l.getD i 0 := fun i hi => by rw [get_at l i hi, List.getD_eq_getElem?_getD, List.getElem?_eq_getElem hi]; rfl
  rw [Lib.decode_at, ofL_size]
  have g0 := hgd pos h
  have ne : ∀ b : UInt8, b.toNat ≠ 32 → b ≠ 32 := fun b hb e => hb (by rw [e]; rfl)
  have eq : ∀ b : UInt8, b.toNat = 32 → b = 32 := fun b hb => UInt8.toNat_inj.1 (by rw [hb]; rfl)
  by_cases hb : ((ofL l).get! pos).toNat < 128
  · have e : Lib.decodeN (l.length - pos) ((ofL l).get! pos).toNat ((ofL l).get! (pos + 1)).toNat ((ofL l).get! (pos + 2)).toNat ((ofL l).get! (pos + 3)).toNat = (((ofL l).get! pos).toNat, 1) := by
      unfold Lib.decodeN; rw [if_pos hb]
    rw [e]
    by_cases h32 : ((ofL l).get! pos).toNat = 32
    · left
      exact ⟨h32, by rw [← g0]; exact eq _ h32, rfl⟩
    · right
      refine ⟨h32, Nat.le_refl _, by simp only; omega, fun j hj => ?_⟩
      simp only at hj
      obtain rfl : j = 0 := by omega
      rw [Nat.add_zero, ← g0]
      exact ne _ h32
  · right
    rcases Lib.decodeN_shape (l.length - pos) ((ofL l).get! pos).toNat ((ofL l).get! (pos + 1)).toNat ((ofL l).get! (pos + 2)).toNat ((ofL l).get! (pos + 3)).toNat with ⟨h1, _⟩ | ⟨h1, h2, h3, h4, e⟩ | ⟨h1, h2, h3, h4, h5, _, e⟩ | ⟨h1, h2, h3, h4, h5, h6, _, e⟩ | e
    · omega
    · rw [e]
      refine ⟨by simp only; omega, by simp, by simp only; omega, fun j hj => ?_⟩
      simp only at hj
      rcases (show j = 0 ∨ j = 1 by omega) with rfl | rfl
      · rw [Nat.add_zero, ← g0]; exact ne _ (by omega)
      · rw [← hgd (pos + 1) (by omega)]; exact ne _ (by omega)
    · rw [e]
      refine ⟨by simp only; omega, by simp, by simp only; omega, fun j hj => ?_⟩
      simp only at hj
      rcases (show j = 0 ∨ j = 1 ∨ j = 2 by omega) with rfl | rfl | rfl
      · rw [Nat.add_zero, ← g0]; exact ne _ (by omega)
      · rw [← hgd (pos + 1) (by omega)]; exact ne _ (by omega)
      · rw [← hgd (pos + 2) (by omega)]; exact ne _ (by omega)
    · rw [e]
      refine ⟨by simp only; omega, by simp, by simp only; omega, fun j hj => ?_⟩
      simp only at hj
      rcases (show j = 0 ∨ j = 1 ∨ j = 2 ∨ j = 3 by omega) with rfl | rfl | rfl | rfl
      · rw [Nat.add_zero, ← g0]; exact ne _ (by omega)
      · rw [← hgd (pos + 1) (by omega)]; exact ne _ (by omega)
      · rw [← hgd (pos + 2) (by omega)]; exact ne _ (by omega)
      · rw [← hgd (pos + 3) (by omega)]; exact ne _ (by omega)
    · rw [e]
      refine ⟨by simp, by simp, by simp only; omega, fun j hj => ?_⟩
      simp only at hj
      obtain rfl : j = 0 := by omega
      rw [Nat.add_zero, ← g0]
      exact ne _ (by omega)
def isBlank (r : Nat) : Bool := r == 32
def openAt (l : List UInt8) (st : Option Nat) (pos : Nat) : List UInt8 := match st with | none => [] | some a => (l.drop a).take (pos - a)
theorem open_more (l : List UInt8) (a pos n : Nat) (h : a ≤ pos) : openAt l (some a) (pos + n) = openAt l (some a) pos ++ (l.drop pos).take n := by
  unfold openAt
  simp only
  rw [show pos + n - a = (pos - a) + n by omega, List.take_add, List.drop_drop, show a + (pos - a) = pos by omega]
theorem open_ne (l : List UInt8) (a pos : Nat) (h : a < pos) (hp : pos ≤ l.length) : (openAt l (some a) pos).isEmpty = false := by
  unfold openAt
  simp only
  have : ((l.drop a).take (pos - a)).length ≠ 0 := by rw [List.length_take, List.length_drop]; omega
  cases hc : (l.drop a).take (pos - a) with
  | nil => rw [hc] at this; simp at this
  | cons x t => rfl
theorem fields_from (l : List UInt8) : ∀ (f pos : Nat) (st : Option Nat) (acc : List (Nat × Nat)), l.length ≤ pos + f → pos ≤ l.length → (∀ a, st = some a → a < pos) →
    (Lib.closeSpans (ofL l) (Lib.spansFromP isBlank (ofL l) f pos st acc)).map (fun x => (ofL l).extract x.1 x.2) = acc.map (fun x => (ofL l).extract x.1 x.2) ++ (Pl.wdsFrom (openAt l st pos) (l.drop pos)).map ofL
  | f, pos, st, acc, hf, hp, hst => by
    have hsz : (ofL l).size = l.length := ofL_size l
    by_cases hlt : pos < l.length
    · obtain ⟨f, rfl⟩ : ∃ f', f = f' + 1 := ⟨f - 1, by omega⟩
      unfold Lib.spansFromP
      rw [if_pos (by rw [hsz]; exact hlt)]
      rcases dec_blank l pos hlt with ⟨h1, h2, h3⟩ | ⟨h1, h2, h3, h4⟩
      · have hd : l.drop pos = 32 :: l.drop (pos + 1) := by
          rw [List.drop_eq_getElem_cons hlt]
          rw [List.getD_eq_getElem?_getD, List.getElem?_eq_getElem hlt] at h2
          rw [show l[pos] = 32 from h2]
        rw [if_pos (by rw [h1]; rfl), h3, hd]
        cases st with
        | none =>
          simp only
          rw [fields_from l f (pos + 1) none acc (by omega) (by omega) (fun a h => by cases h)]
          show _ ++ (Pl.wdsFrom [] _).map ofL = _ ++ (Pl.wdsFrom [] _).map ofL
          rw [Pl.wds_blank0]
        | some a =>
          simp only
          have ha := hst a rfl
          rw [fields_from l f (pos + 1) none _ (by omega) (by omega) (fun a h => by cases h)]
          rw [Pl.wds_blank (open_ne l a pos ha (by omega)), List.map_append, List.append_assoc]
          show _ ++ ([(ofL l).extract a pos] ++ (Pl.wdsFrom [] _).map ofL) = _ ++ (ofL (openAt l (some a) pos) :: (Pl.wdsFrom [] _).map ofL)
          rw [extract_take]
          rfl
      · rw [if_neg (by unfold isBlank; simpa using h1)]
        generalize (Utf8.decode (ofL l) pos).2 = n at *
        have hsk : ∀ cur, Pl.wdsFrom cur (l.drop pos) = Pl.wdsFrom (cur ++ (l.drop pos).take n) (l.drop (pos + n)) := fun cur => by
          have := Pl.wds_skip n cur (l.drop pos) (by rw [List.length_drop]; omega) (fun j hj => by
            have := h4 j hj
            rwa [List.getD_eq_getElem?_getD, List.getElem?_drop, ← List.getD_eq_getElem?_getD])
          rw [this, List.drop_drop]
        cases st with
        | none =>
          simp only
          rw [fields_from l f (pos + n) (some pos) acc (by omega) h3 (fun a h => by cases h; omega), hsk]
          have e : openAt l (some pos) (pos + n) = openAt l none pos ++ (l.drop pos).take n := by
            rw [open_more l pos pos n (Nat.le_refl _)]
            unfold openAt
            simp
          rw [e]
        | some a =>
          simp only
          have ha := hst a rfl
          rw [fields_from l f (pos + n) (some a) acc (by omega) h3 (fun a' h => by cases h; omega), hsk, open_more l a pos n (by omega)]
    · have hpl : pos = l.length := by omega
      rw [Lib.spansFromP_end isBlank (ofL l) f pos st acc (by rw [hsz]; exact hlt)]
      have hd : l.drop pos = [] := List.drop_eq_nil_of_le (by omega)
      rw [hd]
      cases st with
      | none => simp [Lib.closeSpans, openAt, Pl.wdsFrom]
      | some a =>
        have ha := hst a rfl
        have hne := open_ne l a pos ha (by omega)
        unfold Lib.closeSpans Pl.wdsFrom
        simp only
        rw [if_neg (by rw [hne]; simp), List.map_append, hsz, ← hpl]
        show _ ++ [(ofL l).extract a pos] = _ ++ [ofL (openAt l (some a) pos)]
        rw [extract_take]
        rfl
theorem fields_eq (l : List UInt8) : Lib.goFieldsP isBlank (ofL l) = (Pl.wds l).map ofL := by
  have h := fields_from l (ofL l).size 0 none [] (by rw [ofL_size]; omega) (Nat.zero_le _) (fun a h => by cases h)
  simpa [Lib.goFieldsP, Lib.spansOfP, openAt, Pl.wds] using h
theorem blank_gives (w : World) : PredAtRunes Tryz.prog 77 #[] isBlank w := by
  intro W x hx _
  show Calls Tryz.prog 77 #[encR x] W _
  unfold isBlank encR
  have H := Lib.hid (show ((x : Int) == 32) = (x == 32) by rw [Bool.eq_iff_iff]; simp only [beq_iff_eq]; omega)
  go_enter Tryz.func77, Tryz.ntmps77
  go_wp2
  go_ret
  exact ⟨ret_bool H.out, 0, rfl⟩
theorem fields_any (l : List UInt8) (w : World) (hl : l.length ≤ 100000) :
    Calls Tryz.prog 76 #[.string (ofL l), .func (.func 77) #[] #[]] w fun e w' => ∃ A, e = .returned (.slice (some ⟨A, 0, none⟩) (Pl.wds l).length (Pl.wds l).length) ∧ w.heap.size ≤ A ∧ Reads w' (some ⟨A, 0, none⟩) (Pl.wds l) ∧ Below w.heap.size w w' := by
  have h := Tryz.strings_FieldsFunc_runes 77 #[] (enters_of Tryz.func77 (by kernel_rfl) rfl) isBlank (ofL l) w (by rw [ofL_size]; omega) (blank_gives w)
  rw [fields_eq, List.length_map, List.map_map] at h
  refine h.mono ?_
  rintro e w' ⟨A, rfl, hA, hown, hB⟩
  refine ⟨A, rfl, hA, ?_, hB⟩
  obtain ⟨p, cap, hv, hr⟩ := reads_own (ws := Pl.wds l) (v := .slice (some ⟨A, 0, none⟩) (Pl.wds l).length (Pl.wds l).length) hown
  cases hv
  exact hr
end Go.Proofs.YtokljdaofjgihaaGreatDoor
