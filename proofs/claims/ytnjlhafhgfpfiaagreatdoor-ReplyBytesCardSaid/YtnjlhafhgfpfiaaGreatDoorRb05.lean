/-
  WHAT THE WORDS' TEXTS TAKE FROM BELOW, where a seat holds no lattice. NAMES AND WORDS' BYTES, walked. NAMES, walked: the program's and the document's. ROWS of one's own, whatever their elements: their cells; that nothing else is written. WHAT ROWS AND TEXTS ARE ASKED ALIKE: the first for which something holds; texts held against each other; a region whose order is drawn.
-/
import Derived.Test.YtnjlhafhgfpfiaaGreatDoorRb01
import Derived.Test.YtnjlhafhgfpfiaaGreatDoorRb02
import Derived.Test.YtnjlhafhgfpfiaaGreatDoorRb03
import Derived.WalkMore
import Derived.Deep.LoopGhost
import Derived.Test.YtnjlhafhgfpfiaaGreatDoorRows
import Derived.WalkKit
import Derived.ProofKit
import Derived.OpenShut
import Derived.Below
import Derived.Laws.AppendOwn
import Derived.Deep.AppendLies
import Derived.Deep.RegionWith
import Derived.StillTailTactics
section
namespace Go.Proofs.YtnjlhafhgfpfiaaGreatDoor
open Go.ChangeShapes Go.WideShapes Go.ChangeAt Go.RowKit
theorem drewN_below {B : Nat} {a w : World} (h : Below B a w) (n : Nat) : Below B a (w.drewN n) := ⟨h.os, h.tape, h.output, h.size, h.block⟩
theorem not_empty {s : ByteArray} (h : s.size ≠ 0) : s.toList.isEmpty = false := by
  rw [Go.ByteArray.toList_eq]
  cases hl : s.data.toList with
  | nil => exact absurd (by show s.data.size = 0; rw [← Array.length_toList, hl]; rfl) h
  | cons b l => rfl
theorem code_ne {n : Nat} (h : n ≠ 0) : ((n : Int) != 0) = true := by rw [bne_iff_ne]; omega
def Box (b : Nat) (x y : Value) (w : World) : Prop := w.cell? ⟨b, 0, none⟩ = some x ∧ w.cell? ⟨b, 1, none⟩ = some y ∧ ∀ j, w.frozen? ⟨b, j, none⟩ = false
theorem Box.new (x y : Value) (t : TypeId) (w : World) : Box w.heap.size x y (w.alloc (.cells #[x, y] t)) := ⟨cell_new _ _ _ _ _ rfl, cell_new _ _ _ _ _ rfl, fun _ => free_new _ _ _ _ _ rfl⟩
theorem Box.below {b B : Nat} {x y : Value} {w w' : World} (h : Box b x y w) (hb : Below B w w') (hB : b < B) : Box b x y w' :=
  ⟨(hb.cell (p := ⟨b, 0, none⟩) hB).trans h.1, (hb.cell (p := ⟨b, 1, none⟩) hB).trans h.2.1, fun j => (hb.frozen (p := ⟨b, j, none⟩) hB).trans (h.2.2 j)⟩
theorem code_eq {n : Nat} (h : n = 0) : ((n : Int) != 0) = false := by rw [h]; rfl
theorem octAwake2_any (w : World) : Calls Tryz.prog 66 #[] w fun x w' => x = .returned (.bool true) ∧ Below w.heap.size w w' := by
  go_enter Tryz.func66, Tryz.ntmps66
  go_wp2_with fail
  refine (octAwake_any _).mono ?_
  rintro x w1 ⟨rfl, b1⟩
  have B1 := Lib.hid b1
  clear b1
  go_wp2_with fail
  go_ret
  exact ⟨rfl, B1.out⟩
end Go.Proofs.YtnjlhafhgfpfiaaGreatDoor
end
section
namespace Go.Proofs.YtnjlhafhgfpfiaaGreatDoor
open Go.ChangeShapes Go.WideShapes Go.ChangeAt Go.RowKit
theorem mark_nat (b : UInt8) : Wrd.mark b = ((decide (97 ≤ b.toNat) && decide (b.toNat ≤ 122)) || (decide (48 ≤ b.toNat) && decide (b.toNat ≤ 57)) || decide (b.toNat = 45) || decide (b.toNat = 95)) := rfl
set_option maxHeartbeats 1000000 in
theorem mark_any (b : UInt8) (w : World) : Calls Tryz.prog 92 #[.int .u8 (b.toNat : Int)] w fun e w' => e = .returned (.bool (Wrd.mark b)) ∧ w = w' := by
  have hb := b.toNat_lt
  have HM := Lib.hid (mark_nat b)
  generalize Wrd.mark b = M at *
  generalize b.toNat = n at *
  go_enter Tryz.func92, Tryz.ntmps92
  go_wp2
  all_goals
    go_ret
    refine ⟨ret_bool ?_, rfl⟩
    rw [HM.out, Bool.eq_iff_iff]
    simp
    omega
set_option maxHeartbeats 1000000 in
theorem letter_any (b : UInt8) (w : World) : Calls Tryz.prog 41 #[.int .u8 (b.toNat : Int)] w fun e w' => e = .returned (.bool (Wrd.mark b)) ∧ w = w' := by
  have hb := b.toNat_lt
  have HM := Lib.hid (mark_nat b)
  generalize Wrd.mark b = M at *
  generalize b.toNat = n at *
  go_enter Tryz.func41, Tryz.ntmps41
  go_wp2
  all_goals
    go_ret
    refine ⟨ret_bool ?_, rfl⟩
    rw [HM.out, Bool.eq_iff_iff]
    simp
    omega
theorem all_take (l : List UInt8) (k : Nat) (h : k < l.length) : (l.take (k + 1)).all Wrd.mark = ((l.take k).all Wrd.mark && Wrd.mark l[k]) := by
  rw [List.take_succ_eq_append_getElem h, List.all_append]; simp
theorem all_not {l : List UInt8} {k : Nat} (h : k < l.length) (hm : Wrd.mark l[k] = false) : l.all Wrd.mark = false := by
  rw [List.all_eq_false]
  exact ⟨l[k], List.getElem_mem h, by rw [hm]; simp⟩
theorem str_ne {l : List UInt8} (h : l.length ≠ 0) : (ofL l).toList.isEmpty = false := not_empty (by rw [ofL_size]; exact h)
theorem ofL_nil {l : List UInt8} (h : l.length = 0) : ofL l = ⟨#[]⟩ := by rw [List.length_eq_zero_iff.1 h]; rfl
set_option maxHeartbeats 1000000 in
theorem plain_any (l : List UInt8) (w : World) (hl : l.length ≤ 100000) : Calls Tryz.prog 86 #[.string (ofL l)] w fun e w' => e = .returned (.bool (Wrd.plain l)) ∧ w = w' := by
  have hsz : (ofL l).size = l.length := ofL_size l
  have HG : Hid (∀ p (h : p < l.length), (ofL l)[p]'(by rw [hsz]; exact h) = l[p]) := fun p h => rfl
  have HA := Lib.hid (fun k h => all_take l k h)
  have HN := Lib.hid (fun k (h : k < l.length) => all_not (l := l) (k := k) h)
  have HP : Hid (Wrd.plain l = (l.all Wrd.mark && decide (l.length ≠ 0))) := rfl
  generalize Wrd.plain l = PL at *
  go_enter Tryz.func86, Tryz.ntmps86
  go_wp2_with fail
  go_loopg [6] l.length (fun g i wr => ∃ k : Nat, k + g = l.length ∧ i = .int .i64 k ∧ (l.take k).all Wrd.mark = true ∧ wr = w)
  case atStart => exact ⟨0, by omega, rfl, by simp, rfl⟩
  case round =>
    obtain ⟨k, hk, rfl, hall, rfl⟩ := hrel
    have HALL := Lib.hid hall
    clear hall
    by_cases hlt : k < l.length
    · have hks : k < (ofL l).size := by omega
      have HGK := Lib.hid (HG.out k hlt)
      have HM := Lib.hid (fun W => mark_any (ofL l)[k] W)
      cases hm : Wrd.mark (l[k]'hlt) with
      | true =>
        have HT := Lib.hid (show (l.take (k + 1)).all Wrd.mark = true by rw [HA.out k hlt, HALL.out, hm]; rfl)
        rw [← HGK.out] at hm
        rw [hm] at HM
        clear hm
        go_wp2_with fail
        refine (HM.out _).mono ?_
        rintro e w' ⟨rfl, rfl⟩
        go_wp2_with fail
        go_roundg (gk - 1)
        case rel => exact ⟨k + 1, by omega, by go_num, HT.out, rfl⟩
        case measure => omega
      | false =>
        have HF := Lib.hid (show PL = false by rw [HP.out, HN.out k hlt hm]; rfl)
        rw [← HGK.out] at hm
        rw [hm] at HM
        clear hm
        go_wp2_with fail
        refine (HM.out _).mono ?_
        rintro e w' ⟨rfl, rfl⟩
        go_wp2_with fail
        go_ret
        exact ⟨ret_bool HF.out.symm, rfl⟩
    · have hkl : k = l.length := by omega
      have HT := Lib.hid (show l.all Wrd.mark = true by have := HALL.out; rw [hkl, List.take_length] at this; exact this)
      by_cases h0 : l.length = 0
      · have HF := Lib.hid (show PL = false by rw [HP.out, HT.out, h0]; rfl)
        have he : (ofL l) = ⟨#[]⟩ := ofL_nil h0
        have hks : ¬ k < (ofL l).size := by omega
        rw [he] at hks ⊢
        clear hkl he h0
        go_wp2_with fail
        go_ret
        exact ⟨ret_bool HF.out.symm, rfl⟩
      · have HF := Lib.hid (show PL = true by rw [HP.out, HT.out]; simp [h0])
        have he := str_ne h0
        have hks : ¬ k < (ofL l).size := by omega
        clear hkl h0
        go_wp2_with fail
        go_ret
        exact ⟨ret_bool HF.out.symm, rfl⟩
end Go.Proofs.YtnjlhafhgfpfiaaGreatDoor
end
section
namespace Go.Proofs.YtnjlhafhgfpfiaaGreatDoor
open Go.ChangeShapes Go.WideShapes Go.ChangeAt Go.RowKit
theorem ret_nat {a b : Int} (h : a = b) : Ending.returned (.int .i64 a) = .returned (.int .i64 b) := by rw [h]
theorem name_0 {l : List UInt8} (h : l.length = 0) : Wrd.nameCode l = 15 := by unfold Wrd.nameCode; rw [if_pos h]
theorem name_long {l : List UInt8} (h : 16 < l.length) : Wrd.nameCode l = 5 := by unfold Wrd.nameCode; rw [if_neg (by omega), if_pos h]
theorem name_ok {l : List UInt8} (h0 : l.length ≠ 0) (h : ¬ 16 < l.length) (ha : l.all Wrd.mark = true) : Wrd.nameCode l = 0 := by unfold Wrd.nameCode; rw [if_neg h0, if_neg h, if_pos ha]
theorem name_form {l : List UInt8} (h0 : l.length ≠ 0) (h : ¬ 16 < l.length) (ha : l.all Wrd.mark = false) : Wrd.nameCode l = 4 := by unfold Wrd.nameCode; rw [if_neg h0, if_neg h, if_neg (by rw [ha]; simp)]
set_option maxHeartbeats 1000000 in
theorem name_any (l : List UInt8) (w : World) (hl : l.length ≤ 100000) : Calls Tryz.prog 77 #[.string (ofL l)] w fun e w' => e = .returned (.int .i64 (Wrd.nameCode l : Int)) ∧ w = w' := by
  have hsz : (ofL l).size = l.length := ofL_size l
  have HPL := Lib.hid (fun W => plain_any l W hl)
  by_cases h0 : l.length = 0
  · have HC := Lib.hid (name_0 h0)
    rw [ofL_nil h0]
    clear HPL
    go_enter Tryz.func77, Tryz.ntmps77
    go_wp2_with fail
    go_ret
    exact ⟨ret_nat (by rw [HC.out]; rfl), rfl⟩
  · have he := str_ne h0
    by_cases h1 : 16 < l.length
    · have HC := Lib.hid (name_long h1)
      have hs : 16 < (ofL l).size := by omega
      go_enter Tryz.func77, Tryz.ntmps77
      go_wp2_with fail
      go_ret
      exact ⟨ret_nat (by rw [HC.out]; rfl), rfl⟩
    · have hs : ¬ 16 < (ofL l).size := by omega
      cases ha : l.all Wrd.mark with
      | true =>
        have HC := Lib.hid (name_ok h0 h1 ha)
        have hp : Wrd.plain l = true := by unfold Wrd.plain; rw [ha]; simp; intro h; exact h0 (by rw [h]; rfl)
        rw [hp] at HPL
        clear ha hp
        go_enter Tryz.func77, Tryz.ntmps77
        go_wp2_with fail
        refine (HPL.out _).mono ?_
        rintro e w' ⟨rfl, rfl⟩
        go_wp2_with fail
        go_ret
        exact ⟨ret_nat (by rw [HC.out]; rfl), rfl⟩
      | false =>
        have HC := Lib.hid (name_form h0 h1 ha)
        have hp : Wrd.plain l = false := by unfold Wrd.plain; rw [ha]; rfl
        rw [hp] at HPL
        clear ha hp
        go_enter Tryz.func77, Tryz.ntmps77
        go_wp2_with fail
        refine (HPL.out _).mono ?_
        rintro e w' ⟨rfl, rfl⟩
        go_wp2_with fail
        go_ret
        exact ⟨ret_nat (by rw [HC.out]; rfl), rfl⟩
set_option maxHeartbeats 1000000 in
theorem rname_any (l : List UInt8) (w : World) (hl : l.length ≤ 100000) : Calls Tryz.prog 22 #[.string (ofL l)] w fun e w' => e = .returned (.int .i64 (Wrd.nameCode l : Int)) ∧ w = w' := by
  have hsz : (ofL l).size = l.length := ofL_size l
  by_cases h0 : l.length = 0
  · have HC := Lib.hid (name_0 h0)
    have hs : (ofL l).size = 0 := by omega
    go_enter Tryz.func22, Tryz.ntmps22
    go_wp2_with fail
    go_ret
    exact ⟨ret_nat (by rw [HC.out]; rfl), rfl⟩
  · by_cases h1 : 16 < l.length
    · have HC := Lib.hid (name_long h1)
      have hs : 16 < (ofL l).size := by omega
      have hs0 : (((ofL l).size : Int) == 0) = false := beq_eq_false_iff_ne.2 (by omega)
      clear h0
      go_enter Tryz.func22, Tryz.ntmps22
      go_wp2_with fail
      go_ret
      exact ⟨ret_nat (by rw [HC.out]; rfl), rfl⟩
    · have hs : ¬ 16 < (ofL l).size := by omega
      have hs0 : ((l.length : Int) == 0) = false := beq_eq_false_iff_ne.2 (by omega)
      have HG : Hid (∀ p (h : p < l.length), (ofL l)[p]'(by rw [hsz]; exact h) = l[p]) := fun p h => rfl
      have HA := Lib.hid (fun k h => all_take l k h)
      have HN := Lib.hid (fun k (h : k < l.length) => all_not (l := l) (k := k) h)
      have HOK := Lib.hid (name_ok h0 h1)
      have HBAD := Lib.hid (name_form h0 h1)
      generalize Wrd.nameCode l = C at *
      clear h0
      go_enter Tryz.func22, Tryz.ntmps22
      go_wp2_with fail
      go_loopg [3] l.length (fun g i wr => ∃ k : Nat, k + g = l.length ∧ i = .int .i64 k ∧ (l.take k).all Wrd.mark = true ∧ wr = w)
      case atStart => exact ⟨0, by omega, rfl, by simp, rfl⟩
      case round =>
        obtain ⟨k, hk, rfl, hall, rfl⟩ := hrel
        have HALL := Lib.hid hall
        clear hall
        by_cases hlt : k < l.length
        · have hks : k < (ofL l).size := by omega
          have HGK := Lib.hid (HG.out k hlt)
          have HM := Lib.hid (fun W => letter_any (ofL l)[k] W)
          cases hm : Wrd.mark (l[k]'hlt) with
          | true =>
            have HT := Lib.hid (show (l.take (k + 1)).all Wrd.mark = true by rw [HA.out k hlt, HALL.out, hm]; rfl)
            rw [← HGK.out] at hm
            rw [hm] at HM
            clear hm
            go_wp2_with fail
            refine (HM.out _).mono ?_
            rintro e w' ⟨rfl, rfl⟩
            go_wp2_with fail
            go_roundg (gk - 1)
            case rel => exact ⟨k + 1, by omega, by go_num, HT.out, rfl⟩
            case measure => omega
          | false =>
            have HF := Lib.hid (HBAD.out (HN.out k hlt hm))
            rw [← HGK.out] at hm
            rw [hm] at HM
            clear hm
            go_wp2_with fail
            refine (HM.out _).mono ?_
            rintro e w' ⟨rfl, rfl⟩
            go_wp2_with fail
            go_ret
            exact ⟨ret_nat (by rw [HF.out]; rfl), rfl⟩
        · have hkl : k = l.length := by omega
          have HF := Lib.hid (HOK.out (by have := HALL.out; rw [hkl, List.take_length] at this; exact this))
          have hks : ¬ k < (ofL l).size := by omega
          clear hkl
          go_wp2_with fail
          go_ret
          exact ⟨ret_nat (by rw [HF.out]; rfl), rfl⟩
end Go.Proofs.YtnjlhafhgfpfiaaGreatDoor
end
section
namespace Go.Proofs.YtnjlhafhgfpfiaaGreatDoor.Rw
open Go.ChangeShapes Go.WideShapes Go.ChangeAt Go.RowKit
theorem gb {W W' : World} (h : Below W.heap.size W W') (row : Option Nat) : W.grownBy W' row := ⟨h.os, h.tape, h.output, h.size, fun k hk _ => h.block k hk⟩
theorem flat_get {α : Type} (f : α → List Value) (c : Nat) (hf : ∀ x, (f x).length = c) (hc : 0 < c) : ∀ (l : List α) (i t : Nat) (h : i < l.length), t < c → (l.flatMap f)[i * c + t]? = (f l[i])[t]?
  | [], i, t, h, _ => by simp at h
  | x :: l, 0, t, h, ht => by
    rw [List.flatMap_cons, List.getElem?_append_left (by rw [hf]; omega)]
    simp
  | x :: l, i + 1, t, h, ht => by
    have ih := flat_get f c hf hc l i t (by simpa using h) ht
    rw [List.flatMap_cons, List.getElem?_append_right (by rw [hf, Nat.succ_mul]; omega), hf]
    rw [show (i + 1) * c + t - c = i * c + t by rw [Nat.succ_mul]; omega, ih]
    rfl
theorem flat_len {α : Type} (f : α → List Value) (c : Nat) (hf : ∀ x, (f x).length = c) (l : List α) : (l.flatMap f).length = l.length * c := by
  induction l with
  | nil => simp
  | cons x l ih => rw [List.flatMap_cons, List.length_append, hf, ih, List.length_cons, Nat.succ_mul]; omega
theorem own_cells {w : World} {B e size : Nat} {v : Value} {n : Nat} {xs : List Value} (h : w.ownsRow B e size v n xs) :
    ∃ A c, v = .slice A n c ∧ n ≤ c ∧ (∀ a, A = some a → v.ownBlock = some a.block) ∧ (0 < n → ∃ g, A = some ⟨g, 0, none⟩ ∧ g < w.heap.size ∧ ∀ j, j < n * size → w.cell? ⟨g, j, none⟩ = xs[j]?) := by
  obtain ⟨hl, h1 | ⟨g, cap, cur, rfl, hB, hb, h2⟩⟩ := h
  · obtain ⟨rfl, rfl⟩ := h1
    exact ⟨none, 0, rfl, Nat.le_refl _, (fun a h => by cases h), fun h => absurd h (by omega)⟩
  · refine ⟨_, cap, rfl, h2.1, (fun a h => by cases h; rfl), fun _ => ⟨g, rfl, (Array.getElem?_eq_some_iff.1 hb).1, fun j hj => ?_⟩⟩
    exact World.ownsRow.cellAt ⟨hl, Or.inr ⟨g, cap, cur, rfl, hB, hb, h2⟩⟩ j hj
theorem own_ne {W : World} {B e size n k : Nat} {v : Value} {xs : List Value} (h : W.ownsRow B e size v n xs) (hk : k < B) : v.ownBlock = none ∨ v.ownBlock ≠ some k := by
  right
  intro e
  have := (h.lt k e).1
  omega
theorem own_row {W : World} {B e size n k : Nat} {v : Value} {xs : List Value} (h : W.ownsRow B e size v n xs) (hk : k < B) : v.ownBlock ≠ some k := by
  intro e
  have := (h.lt k e).1
  omega
theorem own_on {w w' : World} {B e size : Nat} {v : Value} {n : Nat} {xs : List Value} (h : w.ownsRow B e size v n xs) (hb : Below w.heap.size w w') : w'.ownsRow B e size v n xs :=
  h.kept (gb hb (some w.heap.size)) (.inr fun e => by have := (h.lt _ e).2; omega)
end Go.Proofs.YtnjlhafhgfpfiaaGreatDoor.Rw
end
section
namespace Go.Proofs.YtnjlhafhgfpfiaaGreatDoor
open Go.ChangeShapes Go.WideShapes Go.ChangeAt Go.RowKit
theorem str_list (x : List UInt8) : (ofL x).toList = x := by rw [ByteArray.toList_eq]; rfl
theorem str_same (x y : List UInt8) : ((ofL x).toList == (ofL y).toList) = (x == y) := by rw [str_list, str_list]
theorem cast_beq (a b : Nat) : (((a : Int)) == (b : Int)) = (a == b) := by rw [Bool.eq_iff_iff]; simp only [beq_iff_eq]; omega
/-! ### the first for which something holds -/
def idx {α : Type} (q : α → Bool) (l : List α) : Int := match l.findIdx? q with | some i => (i : Int) | none => -1
theorem idx_none {α : Type} {q : α → Bool} {l : List α} (z : α) (h : ∀ i, i < l.length → q (l.getD i z) = false) : idx q l = -1 := by
  unfold idx
  rw [List.findIdx?_eq_none_iff.2]
  intro x hx
  obtain ⟨i, hi, rfl⟩ := List.getElem_of_mem hx
  have := h i hi
  rwa [List.getD_eq_getElem?_getD, List.getElem?_eq_getElem hi] at this
theorem idx_some {α : Type} {q : α → Bool} {l : List α} (z : α) {k : Nat} (hk : k < l.length) (h : ∀ i, i < k → q (l.getD i z) = false) (hq : q (l.getD k z) = true) : idx q l = k := by
  unfold idx
  have : l.findIdx? q = some k := by
    rw [List.findIdx?_eq_some_iff_getElem]
    refine ⟨hk, ?_, fun j hj => ?_⟩
    · rwa [List.getD_eq_getElem?_getD, List.getElem?_eq_getElem hk] at hq
    · have := h j hj
      rw [List.getD_eq_getElem?_getD, List.getElem?_eq_getElem (by omega)] at this
      have h2 : q l[j] = false := this
      rw [h2]; simp
  rw [this]
theorem idx_any {α : Type} (q : α → Bool) (l : List α) : decide (idx q l ≥ 0) = l.any q := by
  unfold idx
  cases h : l.findIdx? q with
  | none =>
    have := List.findIdx?_eq_none_iff.1 h
    have h2 : l.any q = false := by rw [List.any_eq_false]; intro x hx; rw [this x hx]; simp
    rw [h2]; simp
  | some i =>
    obtain ⟨hi, hq, _⟩ := List.findIdx?_eq_some_iff_getElem.1 h
    have h2 : l.any q = true := List.any_eq_true.2 ⟨_, List.getElem_mem hi, hq⟩
    rw [h2]; simp
theorem idx_lt {α : Type} (q : α → Bool) (l : List α) : -1 ≤ idx q l ∧ idx q l < l.length := by
  unfold idx
  cases h : l.findIdx? q with
  | none => simp; omega
  | some i =>
    obtain ⟨hi, _⟩ := List.findIdx?_eq_some_iff_getElem.1 h
    simp only; omega
/-- a region whose order is drawn, all of whose operations but the last ones only read -/
theorem region_tail {P : Program} {id : Nat} {Q : Exit → Act → World → Prop} {a : Act} {w : World} {l : List Oper} (n : Nat) (hm : P.follows .mixedOrders = true) (hB : Region.lexTailB .any l.toArray n = true)
    (h : wpStill P l.toArray w.drew (fun a' => wpList P l.toArray Q (l.drop n) a' w.drew) (l.take n) a) : (Code.region id l.toArray true).wp P Q a w := wp_region_still_tail n hm hB h
end Go.Proofs.YtnjlhafhgfpfiaaGreatDoor
end
