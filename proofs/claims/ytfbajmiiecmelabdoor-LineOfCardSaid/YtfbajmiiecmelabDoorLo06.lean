/-
  NAMES, walked: the program's and the document's. ROWS of one's own, whatever their elements: their cells; that nothing else is written.
-/
import Derived.Test.YtfbajmiiecmelabDoorLo05
import Derived.WalkKit
import Derived.ProofKit
import Derived.OpenShut
import Derived.Below
import Derived.Laws.AppendOwn
import Derived.Deep.AppendLies
section
namespace Go.Proofs.YtfbajmiiecmelabDoor
open Go.ChangeShapes Go.WideShapes Go.ChangeAt Go.RowKit
theorem ret_nat {a b : Int} (h : a = b) : Ending.returned (.int .i64 a) = .returned (.int .i64 b) := by rw [h]
theorem name_0 {l : List UInt8} (h : l.length = 0) : Wrd.nameCode l = 15 := by unfold Wrd.nameCode; rw [if_pos h]
theorem name_long {l : List UInt8} (h : 16 < l.length) : Wrd.nameCode l = 5 := by unfold Wrd.nameCode; rw [if_neg (by omega), if_pos h]
theorem name_ok {l : List UInt8} (h0 : l.length ≠ 0) (h : ¬ 16 < l.length) (ha : l.all Wrd.mark = true) : Wrd.nameCode l = 0 := by unfold Wrd.nameCode; rw [if_neg h0, if_neg h, if_pos ha]
theorem name_form {l : List UInt8} (h0 : l.length ≠ 0) (h : ¬ 16 < l.length) (ha : l.all Wrd.mark = false) : Wrd.nameCode l = 4 := by unfold Wrd.nameCode; rw [if_neg h0, if_neg h, if_neg (by rw [ha]; simp)]
set_option maxHeartbeats 1000000 in
theorem name_any (l : List UInt8) (w : World) (hl : l.length ≤ 100000) : Calls Tryd.prog 46 #[.string (ofL l)] w fun e w' => e = .returned (.int .i64 (Wrd.nameCode l : Int)) ∧ w = w' := by
  have hsz : (ofL l).size = l.length := ofL_size l
  have HPL := Lib.hid (fun W => plain_any l W hl)
  by_cases h0 : l.length = 0
  · have HC := Lib.hid (name_0 h0)
    rw [ofL_nil h0]
    clear HPL
    go_enter Tryd.func46, Tryd.ntmps46
    go_wp2_with fail
    go_ret
    exact ⟨ret_nat (by rw [HC.out]; rfl), rfl⟩
  · have he := str_ne h0
    by_cases h1 : 16 < l.length
    · have HC := Lib.hid (name_long h1)
      have hs : 16 < (ofL l).size := by omega
      go_enter Tryd.func46, Tryd.ntmps46
      go_wp2_with fail
      go_ret
      exact ⟨ret_nat (by rw [HC.out]; rfl), rfl⟩
    · have hs : ¬ 16 < (ofL l).size := by omega
      cases ha : l.all Wrd.mark with
      | true =>
        have HC := Lib.hid (name_ok h0 h1 ha)
        have hp : Wrd.plain l = true := by unfold Wrd.plain; rw [ha]; simp; intro h; exact h0 (by rw [h]; rfl)
        rw [hp] at HPL
        clear ha hp
        go_enter Tryd.func46, Tryd.ntmps46
        go_wp2_with fail
        refine (HPL.out _).mono ?_
        rintro e w' ⟨rfl, rfl⟩
        go_wp2_with fail
        go_ret
        exact ⟨ret_nat (by rw [HC.out]; rfl), rfl⟩
      | false =>
        have HC := Lib.hid (name_form h0 h1 ha)
        have hp : Wrd.plain l = false := by unfold Wrd.plain; rw [ha]; rfl
        rw [hp] at HPL
        clear ha hp
        go_enter Tryd.func46, Tryd.ntmps46
        go_wp2_with fail
        refine (HPL.out _).mono ?_
        rintro e w' ⟨rfl, rfl⟩
        go_wp2_with fail
        go_ret
        exact ⟨ret_nat (by rw [HC.out]; rfl), rfl⟩
set_option maxHeartbeats 1000000 in
theorem rname_any (l : List UInt8) (w : World) (hl : l.length ≤ 100000) : Calls Tryd.prog 49 #[.string (ofL l)] w fun e w' => e = .returned (.int .i64 (Wrd.nameCode l : Int)) ∧ w = w' := by
  have hsz : (ofL l).size = l.length := ofL_size l
  by_cases h0 : l.length = 0
  · have HC := Lib.hid (name_0 h0)
    have hs : (ofL l).size = 0 := by omega
    go_enter Tryd.func49, Tryd.ntmps49
    go_wp2_with fail
    go_ret
    exact ⟨ret_nat (by rw [HC.out]; rfl), rfl⟩
  · by_cases h1 : 16 < l.length
    · have HC := Lib.hid (name_long h1)
      have hs : 16 < (ofL l).size := by omega
      have hs0 : (((ofL l).size : Int) == 0) = false := beq_eq_false_iff_ne.2 (by omega)
      clear h0
      go_enter Tryd.func49, Tryd.ntmps49
      go_wp2_with fail
      go_ret
      exact ⟨ret_nat (by rw [HC.out]; rfl), rfl⟩
    · have hs : ¬ 16 < (ofL l).size := by omega
      have hs0 : ((l.length : Int) == 0) = false := beq_eq_false_iff_ne.2 (by omega)
      have HG : Hid (∀ p (h : p < l.length), (ofL l)[p]'(by rw [hsz]; exact h) = l[p]) := fun p h => rfl
      have HA := Lib.hid (fun k h => all_take l k h)
      have HN := Lib.hid (fun k (h : k < l.length) => all_not (l := l) (k := k) h)
      have HOK := Lib.hid (name_ok h0 h1)
      have HBAD := Lib.hid (name_form h0 h1)
      generalize Wrd.nameCode l = C at *
      clear h0
      go_enter Tryd.func49, Tryd.ntmps49
      go_wp2_with fail
      go_loopg [3] l.length (fun g i wr => ∃ k : Nat, k + g = l.length ∧ i = .int .i64 k ∧ (l.take k).all Wrd.mark = true ∧ wr = w)
      case atStart => exact ⟨0, by omega, rfl, by simp, rfl⟩
      case round =>
        obtain ⟨k, hk, rfl, hall, rfl⟩ := hrel
        have HALL := Lib.hid hall
        clear hall
        by_cases hlt : k < l.length
        · have hks : k < (ofL l).size := by omega
          have HGK := Lib.hid (HG.out k hlt)
          have HM := Lib.hid (fun W => letter_any (ofL l)[k] W)
          cases hm : Wrd.mark (l[k]'hlt) with
          | true =>
            have HT := Lib.hid (show (l.take (k + 1)).all Wrd.mark = true by rw [HA.out k hlt, HALL.out, hm]; rfl)
            rw [← HGK.out] at hm
            rw [hm] at HM
            clear hm
            go_wp2_with fail
            refine (HM.out _).mono ?_
            rintro e w' ⟨rfl, rfl⟩
            go_wp2_with fail
            go_roundg (gk - 1)
            case rel => exact ⟨k + 1, by omega, by go_num, HT.out, rfl⟩
            case measure => omega
          | false =>
            have HF := Lib.hid (HBAD.out (HN.out k hlt hm))
            rw [← HGK.out] at hm
            rw [hm] at HM
            clear hm
            go_wp2_with fail
            refine (HM.out _).mono ?_
            rintro e w' ⟨rfl, rfl⟩
            go_wp2_with fail
            go_ret
            exact ⟨ret_nat (by rw [HF.out]; rfl), rfl⟩
        · have hkl : k = l.length := by omega
          have HF := Lib.hid (HOK.out (by have := HALL.out; rw [hkl, List.take_length] at this; exact this))
          have hks : ¬ k < (ofL l).size := by omega
          clear hkl
          go_wp2_with fail
          go_ret
          exact ⟨ret_nat (by rw [HF.out]; rfl), rfl⟩
end Go.Proofs.YtfbajmiiecmelabDoor
end
section
namespace Go.Proofs.YtfbajmiiecmelabDoor.Rw
open Go.ChangeShapes Go.WideShapes Go.ChangeAt Go.RowKit
theorem gb {W W' : World} (h : Below W.heap.size W W') (row : Option Nat) : W.grownBy W' row := ⟨h.os, h.tape, h.output, h.size, fun k hk _ => h.block k hk⟩
theorem flat_get {α : Type} (f : α → List Value) (c : Nat) (hf : ∀ x, (f x).length = c) (hc : 0 < c) : ∀ (l : List α) (i t : Nat) (h : i < l.length), t < c → (l.flatMap f)[i * c + t]? = (f l[i])[t]?
  | [], i, t, h, _ => by simp at h
  | x :: l, 0, t, h, ht => by
    rw [List.flatMap_cons, List.getElem?_append_left (by rw [hf]; omega)]
    simp
  | x :: l, i + 1, t, h, ht => by
    have ih := flat_get f c hf hc l i t (by simpa using h) ht
    rw [List.flatMap_cons, List.getElem?_append_right (by rw [hf, Nat.succ_mul]; omega), hf]
    rw [show (i + 1) * c + t - c = i * c + t by rw [Nat.succ_mul]; omega, ih]
    rfl
theorem flat_len {α : Type} (f : α → List Value) (c : Nat) (hf : ∀ x, (f x).length = c) (l : List α) : (l.flatMap f).length = l.length * c := by
  induction l with
  | nil => simp
  | cons x l ih => rw [List.flatMap_cons, List.length_append, hf, ih, List.length_cons, Nat.succ_mul]; omega
theorem own_cells {w : World} {B e size : Nat} {v : Value} {n : Nat} {xs : List Value} (h : w.ownsRow B e size v n xs) :
    ∃ A c, v = .slice A n c ∧ n ≤ c ∧ (∀ a, A = some a → v.ownBlock = some a.block) ∧ (0 < n → ∃ g, A = some ⟨g, 0, none⟩ ∧ g < w.heap.size ∧ ∀ j, j < n * size → w.cell? ⟨g, j, none⟩ = xs[j]?) := by
  obtain ⟨hl, h1 | ⟨g, cap, cur, rfl, hB, hb, h2⟩⟩ := h
  · obtain ⟨rfl, rfl⟩ := h1
    exact ⟨none, 0, rfl, Nat.le_refl _, (fun a h => by cases h), fun h => absurd h (by omega)⟩
  · refine ⟨_, cap, rfl, h2.1, (fun a h => by cases h; rfl), fun _ => ⟨g, rfl, (Array.getElem?_eq_some_iff.1 hb).1, fun j hj => ?_⟩⟩
    exact World.ownsRow.cellAt ⟨hl, Or.inr ⟨g, cap, cur, rfl, hB, hb, h2⟩⟩ j hj
theorem own_ne {W : World} {B e size n k : Nat} {v : Value} {xs : List Value} (h : W.ownsRow B e size v n xs) (hk : k < B) : v.ownBlock = none ∨ v.ownBlock ≠ some k := by
  right
  intro e
  have := (h.lt k e).1
  omega
theorem own_on {w w' : World} {B e size : Nat} {v : Value} {n : Nat} {xs : List Value} (h : w.ownsRow B e size v n xs) (hb : Below w.heap.size w w') : w'.ownsRow B e size v n xs :=
  h.kept (gb hb (some w.heap.size)) (.inr fun e => by have := (h.lt _ e).2; omega)
end Go.Proofs.YtfbajmiiecmelabDoor.Rw
end
