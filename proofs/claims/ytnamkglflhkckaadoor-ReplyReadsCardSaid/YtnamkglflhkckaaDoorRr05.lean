/-
  PLAIN: heads: pairs, what may be, their bytes, what is read. No program is spoken of here. WHAT THE WORDS' TEXTS TAKE FROM BELOW, where a seat holds no lattice. NAMES AND WORDS' BYTES, walked.
-/
import Derived.Test.YtnamkglflhkckaaDoorRr01
import Derived.Test.YtnamkglflhkckaaDoorRr02
import Derived.Test.YtnamkglflhkckaaDoorRr03
import Derived.Test.YtnamkglflhkckaaDoorRr04
import Derived.WalkMore
import Derived.Deep.LoopGhost
import Derived.Test.YtnamkglflhkckaaDoorRows
section
namespace Go.Proofs.YtnamkglflhkckaaDoor.Hd
structure Pr where
  key : List UInt8
  kind : Nat
  num : Int
  txt : List UInt8
deriving DecidableEq
def Pr.zero : Pr := ⟨[], 0, 0, []⟩
def pr (l : List Pr) (i : Nat) : Pr := l.getD i Pr.zero
theorem pr_at {l : List Pr} {i : Nat} (h : i < l.length) : pr l i = l[i] := by unfold pr; rw [List.getD_eq_getElem?_getD, List.getElem?_eq_getElem h]; rfl
/-- numbers that their types hold -/
structure Fits (p : Pr) : Prop where
  kind : p.kind < 256
  lo : -9223372036854775808 ≤ p.num
  hi : p.num < 9223372036854775808
theorem Fits.zero : Fits Pr.zero := ⟨by decide, by decide, by decide⟩

/-- the first of n codes that isn't 0 -/
def scan (f : Nat → Nat) : Nat → Nat
  | 0 => 0
  | n + 1 => if scan f n ≠ 0 then scan f n else f n
theorem scan_zero {f : Nat → Nat} {n : Nat} (h : ∀ i, i < n → f i = 0) : scan f n = 0 := by
  induction n with
  | zero => rfl
  | succ n ih =>
    have h1 := ih fun i hi => h i (by omega)
    rw [scan, if_neg (by rw [h1]; simp), h n (by omega)]
theorem scan_at {f : Nat → Nat} {n k : Nat} (hk : k < n) (h : ∀ i, i < k → f i = 0) (hf : f k ≠ 0) : scan f n = f k := by
  induction n with
  | zero => omega
  | succ n ih =>
    by_cases e : k = n
    · subst e
      rw [scan, if_neg (by rw [scan_zero h]; simp)]
    · have := ih (by omega)
      rw [scan, if_pos (by rw [this]; exact hf), this]
theorem scan_none {f : Nat → Nat} {n : Nat} (h : scan f n = 0) : ∀ i, i < n → f i = 0 := by
  induction n with
  | zero => intro i hi; omega
  | succ n ih =>
    rw [scan] at h
    by_cases h1 : scan f n = 0
    · rw [if_neg (by rw [h1]; simp)] at h
      intro i hi
      by_cases e : i = n
      · rw [e]; exact h
      · exact ih h1 i (by omega)
    · rw [if_pos h1] at h; exact absurd h h1

/-- is a pair of that key there? -/
def there (l : List Pr) (k : List UInt8) : Bool := l.any fun q => q.key == k
/-- what is wrong with a pair by itself -/
def bad (p : Pr) : Nat :=
  if Wrd.nameCode p.key ≠ 0 then Wrd.nameCode p.key else
  if 2 < p.kind then 8 else
  if p.kind = 1 ∧ 64 < p.txt.length then 5 else
  if p.kind = 2 ∧ p.num ≠ 0 ∧ p.num ≠ 1 then 7 else
  if (p.kind ≠ 1 ∧ p.txt ≠ []) ∨ (p.kind = 1 ∧ p.num ≠ 0) then 4 else 0
/-- what is wrong with a pair behind others -/
def pcode (p : Pr) (ahead : List Pr) : Nat := if bad p ≠ 0 then bad p else if there ahead p.key then 9 else 0
/-- what is wrong with a head -/
def hcode (l : List Pr) : Nat := if 8 < l.length then 6 else scan (fun i => pcode (pr l i) (l.take i)) l.length

/-- a number modulo 2^64 -/
def n64 (n : Int) : Nat := (n % 18446744073709551616).toNat
/-- and back -/
def i64 (n : Nat) : Int := if n < 9223372036854775808 then n else (n : Int) - 18446744073709551616
theorem n64_lt (n : Int) : n64 n < 18446744073709551616 := by unfold n64; omega
theorem n64_cast (n : Int) : ((n64 n : Nat) : Int) = n % 18446744073709551616 := by unfold n64; omega
/-- what stands behind a pair's Kind -/
def pbody (p : Pr) : List UInt8 := if p.kind = 0 then Oct.be 8 (n64 p.num) else if p.kind = 1 then Oct.text p.txt else Oct.be 1 (n64 p.num)
/-- a pair's bytes -/
def penc (p : Pr) : List UInt8 := Oct.text p.key ++ Oct.be 1 p.kind ++ pbody p
/-- a head's bytes -/
def henc (l : List Pr) : List UInt8 := Oct.be 1 l.length ++ l.flatMap penc

/-- the pair that comes next, as it is there -/
def rd1 (s : LSt) : Pr × LSt :=
  let k := lTextOut s 16
  let s1 := lText s 16
  let c := Oct.val (lOut s1.1 1)
  let s2 := lRaw s1 1
  if c = 0 then (⟨k, 0, i64 (Oct.val (lOut s2.1 8)), []⟩, lRaw s2 8)
  else if c = 1 then (⟨k, 1, 0, lTextOut s2 64⟩, lText s2 64)
  else if c = 2 then (⟨k, 2, i64 (Oct.val (lOut s2.1 1)), []⟩, lRaw s2 1)
  else (⟨k, c, 0, []⟩, lFail s2 8)
/-- the pairs that come next, behind others -/
def rds : Nat → List Pr → LSt → List Pr × LSt
  | 0, h, s => (h, s)
  | n + 1, h, s =>
    if (lFail (rd1 s).2 (pcode (rd1 s).1 h)).2 ≠ 0 then ([], lFail (rd1 s).2 (pcode (rd1 s).1 h))
    else rds n (h ++ [(rd1 s).1]) (lFail (rd1 s).2 (pcode (rd1 s).1 h))
/-- the head that comes next -/
def hread (s : LSt) : List Pr × LSt :=
  if 8 < Oct.val (lOut s.1 1) then ([], lFail (lRaw s 1) 6) else rds (Oct.val (lOut s.1 1)) [] (lRaw s 1)
theorem lFail_bad {s : LSt} {c : Int} (h : c ≠ 0) : (lFail s c).2 ≠ 0 := by
  unfold lFail
  split
  · rename_i h1
    rcases h1 with h1 | h1
    · exact absurd h1 h
    · exact h1
  · exact h
theorem lFail_ok (s : LSt) : lFail s 0 = s := by unfold lFail; rw [if_pos (Or.inl rfl)]
theorem lFail_zero {s : LSt} {c : Int} (h : (lFail s c).2 = 0) : c = 0 ∧ s.2 = 0 ∧ lFail s c = s := by
  by_cases hc : c = 0
  · subst hc
    rw [lFail_ok] at h ⊢
    exact ⟨rfl, h, rfl⟩
  · exact absurd h (lFail_bad hc)
theorem lOk_rd1 {s : LSt} (h : lOk s) : lOk (rd1 s).2 := by
  unfold rd1
  simp only
  split
  · exact lOk_raw (lOk_raw (lOk_text h _) _) _
  · split
    · exact lOk_text (lOk_raw (lOk_text h _) _) _
    · split
      · exact lOk_raw (lOk_raw (lOk_text h _) _) _
      · exact lOk_fail (lOk_raw (lOk_text h _) _) _
theorem lOk_rds (n : Nat) : ∀ (h : List Pr) (s : LSt), lOk s → lOk (rds n h s).2 := by
  induction n with
  | zero => intro h s hs; exact hs
  | succ n ih =>
    intro h s hs
    have h1 := lOk_fail (lOk_rd1 hs) (pcode (rd1 s).1 h)
    by_cases hx : (lFail (rd1 s).2 (pcode (rd1 s).1 h)).2 ≠ 0
    · rw [rds, if_pos hx]; dsimp only; exact h1
    · rw [rds, if_neg hx]; exact ih _ _ h1
theorem lOk_hread {s : LSt} (h : lOk s) : lOk (hread s).2 := by
  unfold hread
  split
  · exact lOk_fail (lOk_raw h _) _
  · exact lOk_rds _ _ _ (lOk_raw h _)

/-! ### what was written is read -/
theorem bad_ok {p : Pr} (h : bad p = 0) : Wrd.nameCode p.key = 0 ∧ p.kind ≤ 2 ∧ (p.kind = 1 → p.txt.length ≤ 64 ∧ p.num = 0) ∧ (p.kind = 2 → p.num = 0 ∨ p.num = 1) ∧ (p.kind ≠ 1 → p.txt = []) := by
  unfold bad at h
  by_cases h1 : Wrd.nameCode p.key = 0
  · rw [if_neg (by omega)] at h
    by_cases h2 : 2 < p.kind
    · rw [if_pos h2] at h; omega
    · rw [if_neg h2] at h
      by_cases h3 : p.kind = 1 ∧ 64 < p.txt.length
      · rw [if_pos h3] at h; omega
      · rw [if_neg h3] at h
        by_cases h4 : p.kind = 2 ∧ p.num ≠ 0 ∧ p.num ≠ 1
        · rw [if_pos h4] at h; omega
        · rw [if_neg h4] at h
          by_cases h5 : (p.kind ≠ 1 ∧ p.txt ≠ []) ∨ (p.kind = 1 ∧ p.num ≠ 0)
          · rw [if_pos h5] at h; omega
          · refine ⟨h1, by omega, fun hk => ⟨by omega, ?_⟩, fun hk => by omega, fun hk => ?_⟩
            · exact Decidable.byContradiction fun hn => h5 (Or.inr ⟨hk, hn⟩)
            · exact Decidable.byContradiction fun hn => h5 (Or.inl ⟨hk, hn⟩)
  · rw [if_pos h1] at h; exact absurd h h1
theorem name_ok_len {k : List UInt8} (h : Wrd.nameCode k = 0) : k.length ≤ 16 ∧ k ≠ [] := by
  unfold Wrd.nameCode at h
  by_cases h0 : k.length = 0
  · rw [if_pos h0] at h; omega
  · rw [if_neg h0] at h
    by_cases h1 : 16 < k.length
    · rw [if_pos h1] at h; omega
    · exact ⟨by omega, fun e => h0 (by rw [e]; rfl)⟩
theorem pcode_ok {p : Pr} {l : List Pr} (h : pcode p l = 0) : bad p = 0 ∧ there l p.key = false := by
  unfold pcode at h
  by_cases h1 : bad p = 0
  · rw [if_neg (by omega)] at h
    refine ⟨h1, ?_⟩
    cases ht : there l p.key with
    | false => rfl
    | true => rw [ht] at h; simp at h
  · rw [if_pos h1] at h; exact absurd h h1
theorem hcode_ok {l : List Pr} (h : hcode l = 0) : l.length ≤ 8 ∧ ∀ i, i < l.length → pcode (pr l i) (l.take i) = 0 := by
  unfold hcode at h
  by_cases h8 : 8 < l.length
  · rw [if_pos h8] at h; omega
  · rw [if_neg h8] at h
    exact ⟨by omega, scan_none h⟩
/-- whatever is read fits -/
theorem rd1_fits (s : LSt) : Fits (rd1 s).1 := by
  have h8 : ∀ r, Oct.val (lOut r 8) < 18446744073709551616 := fun r => Nat.lt_of_lt_of_le (val_out_lt r 8) (by decide)
  have h1 : ∀ r, Oct.val (lOut r 1) < 256 := fun r => Nat.lt_of_lt_of_le (val_out_lt r 1) (by decide)
  unfold rd1
  simp only
  split
  · have := h8 (lRaw (lText s 16) 1).1
    exact ⟨by simp, by simp only [i64]; split <;> omega, by simp only [i64]; split <;> omega⟩
  · split
    · exact ⟨by simp, by simp, by simp⟩
    · split
      · have := h1 (lRaw (lText s 16) 1).1
        exact ⟨by simp, by simp only [i64]; split <;> omega, by simp only [i64]; split <;> omega⟩
      · exact ⟨h1 _, by simp, by simp⟩
theorem rds_fits : ∀ (n : Nat) (h : List Pr) (s : LSt), (∀ p ∈ h, Fits p) → ∀ p ∈ (rds n h s).1, Fits p
  | 0, _, _, hf => hf
  | n + 1, h, s, hf => by
    unfold rds
    split
    · intro p hp; simp at hp
    · refine rds_fits n _ _ fun p hp => ?_
      rcases List.mem_append.1 hp with hp | hp
      · exact hf p hp
      · rw [List.mem_singleton] at hp; subst hp; exact rd1_fits s
theorem hread_fits (s : LSt) : ∀ p ∈ (hread s).1, Fits p := by
  unfold hread
  split
  · intro p hp; simp at hp
  · exact rds_fits _ _ _ fun p hp => by simp at hp
theorem rds_len : ∀ (n : Nat) (h : List Pr) (s : LSt), (rds n h s).1.length ≤ h.length + n
  | 0, _, _ => Nat.le_refl _
  | n + 1, h, s => by
    unfold rds
    split
    · simp
    · have := rds_len n (h ++ [(rd1 s).1]) (lFail (rd1 s).2 (pcode (rd1 s).1 h))
      rw [List.length_append, List.length_singleton] at this
      omega
theorem hread_len (s : LSt) : (hread s).1.length ≤ 8 := by
  unfold hread
  split
  · simp
  · have := rds_len (Oct.val (lOut s.1 1)) [] (lRaw s 1)
    simp at this
    omega
end Go.Proofs.YtnamkglflhkckaaDoor.Hd
end
section
namespace Go.Proofs.YtnamkglflhkckaaDoor
open Go.ChangeShapes Go.WideShapes Go.ChangeAt Go.RowKit
theorem drewN_below {B : Nat} {a w : World} (h : Below B a w) (n : Nat) : Below B a (w.drewN n) := ⟨h.os, h.tape, h.output, h.size, h.block⟩
theorem not_empty {s : ByteArray} (h : s.size ≠ 0) : s.toList.isEmpty = false := by
  rw [Go.ByteArray.toList_eq]
  cases hl : s.data.toList with
  | nil => exact absurd (by show s.data.size = 0; rw [← Array.length_toList, hl]; rfl) h
  | cons b l => rfl
theorem code_ne {n : Nat} (h : n ≠ 0) : ((n : Int) != 0) = true := by rw [bne_iff_ne]; omega
def Box (b : Nat) (x y : Value) (w : World) : Prop := w.cell? ⟨b, 0, none⟩ = some x ∧ w.cell? ⟨b, 1, none⟩ = some y ∧ ∀ j, w.frozen? ⟨b, j, none⟩ = false
theorem Box.new (x y : Value) (t : TypeId) (w : World) : Box w.heap.size x y (w.alloc (.cells #[x, y] t)) := ⟨cell_new _ _ _ _ _ rfl, cell_new _ _ _ _ _ rfl, fun _ => free_new _ _ _ _ _ rfl⟩
theorem Box.below {b B : Nat} {x y : Value} {w w' : World} (h : Box b x y w) (hb : Below B w w') (hB : b < B) : Box b x y w' :=
  ⟨(hb.cell (p := ⟨b, 0, none⟩) hB).trans h.1, (hb.cell (p := ⟨b, 1, none⟩) hB).trans h.2.1, fun j => (hb.frozen (p := ⟨b, j, none⟩) hB).trans (h.2.2 j)⟩
theorem code_eq {n : Nat} (h : n = 0) : ((n : Int) != 0) = false := by rw [h]; rfl
theorem octAwake2_any (w : World) : Calls Tryd.prog 93 #[] w fun x w' => x = .returned (.bool true) ∧ Below w.heap.size w w' := by
  go_enter Tryd.func93, Tryd.ntmps93
  go_wp2_with fail
  refine (octAwake_any _).mono ?_
  rintro x w1 ⟨rfl, b1⟩
  have B1 := Lib.hid b1
  clear b1
  go_wp2_with fail
  go_ret
  exact ⟨rfl, B1.out⟩
end Go.Proofs.YtnamkglflhkckaaDoor
end
section
namespace Go.Proofs.YtnamkglflhkckaaDoor
open Go.ChangeShapes Go.WideShapes Go.ChangeAt Go.RowKit
theorem mark_nat (b : UInt8) : Wrd.mark b = ((decide (97 ≤ b.toNat) && decide (b.toNat ≤ 122)) || (decide (48 ≤ b.toNat) && decide (b.toNat ≤ 57)) || decide (b.toNat = 45) || decide (b.toNat = 95)) := rfl
set_option maxHeartbeats 1000000 in
theorem mark_any (b : UInt8) (w : World) : Calls Tryd.prog 96 #[.int .u8 (b.toNat : Int)] w fun e w' => e = .returned (.bool (Wrd.mark b)) ∧ w = w' := by
  have hb := b.toNat_lt
  have HM := Lib.hid (mark_nat b)
  generalize Wrd.mark b = M at *
  generalize b.toNat = n at *
  go_enter Tryd.func96, Tryd.ntmps96
  go_wp2
  all_goals
    go_ret
    refine ⟨ret_bool ?_, rfl⟩
    rw [HM.out, Bool.eq_iff_iff]
    simp
    omega
set_option maxHeartbeats 1000000 in
theorem letter_any (b : UInt8) (w : World) : Calls Tryd.prog 78 #[.int .u8 (b.toNat : Int)] w fun e w' => e = .returned (.bool (Wrd.mark b)) ∧ w = w' := by
  have hb := b.toNat_lt
  have HM := Lib.hid (mark_nat b)
  generalize Wrd.mark b = M at *
  generalize b.toNat = n at *
  go_enter Tryd.func78, Tryd.ntmps78
  go_wp2
  all_goals
    go_ret
    refine ⟨ret_bool ?_, rfl⟩
    rw [HM.out, Bool.eq_iff_iff]
    simp
    omega
theorem all_take (l : List UInt8) (k : Nat) (h : k < l.length) : (l.take (k + 1)).all Wrd.mark = ((l.take k).all Wrd.mark && Wrd.mark l[k]) := by
  rw [List.take_succ_eq_append_getElem h, List.all_append]; simp
theorem all_not {l : List UInt8} {k : Nat} (h : k < l.length) (hm : Wrd.mark l[k] = false) : l.all Wrd.mark = false := by
  rw [List.all_eq_false]
  exact ⟨l[k], List.getElem_mem h, by rw [hm]; simp⟩
theorem str_ne {l : List UInt8} (h : l.length ≠ 0) : (ofL l).toList.isEmpty = false := not_empty (by rw [ofL_size]; exact h)
theorem ofL_nil {l : List UInt8} (h : l.length = 0) : ofL l = ⟨#[]⟩ := by rw [List.length_eq_zero_iff.1 h]; rfl
set_option maxHeartbeats 1000000 in
theorem plain_any (l : List UInt8) (w : World) (hl : l.length ≤ 100000) : Calls Tryd.prog 82 #[.string (ofL l)] w fun e w' => e = .returned (.bool (Wrd.plain l)) ∧ w = w' := by
  have hsz : (ofL l).size = l.length := ofL_size l
  have HG : Hid (∀ p (h : p < l.length), (ofL l)[p]'(by rw [hsz]; exact h) = l[p]) := fun p h => rfl
  have HA := Lib.hid (fun k h => all_take l k h)
  have HN := Lib.hid (fun k (h : k < l.length) => all_not (l := l) (k := k) h)
  have HP : Hid (Wrd.plain l = (l.all Wrd.mark && decide (l.length ≠ 0))) := rfl
  generalize Wrd.plain l = PL at *
  go_enter Tryd.func82, Tryd.ntmps82
  go_wp2_with fail
  go_loopg [6] l.length (fun g i wr => ∃ k : Nat, k + g = l.length ∧ i = .int .i64 k ∧ (l.take k).all Wrd.mark = true ∧ wr = w)
  case atStart => exact ⟨0, by omega, rfl, by simp, rfl⟩
  case round =>
    obtain ⟨k, hk, rfl, hall, rfl⟩ := hrel
    have HALL := Lib.hid hall
    clear hall
    by_cases hlt : k < l.length
    · have hks : k < (ofL l).size := by omega
      have HGK := Lib.hid (HG.out k hlt)
      have HM := Lib.hid (fun W => mark_any (ofL l)[k] W)
      cases hm : Wrd.mark (l[k]'hlt) with
      | true =>
        have HT := Lib.hid (show (l.take (k + 1)).all Wrd.mark = true by rw [HA.out k hlt, HALL.out, hm]; rfl)
        rw [← HGK.out] at hm
        rw [hm] at HM
        clear hm
        go_wp2_with fail
        refine (HM.out _).mono ?_
        rintro e w' ⟨rfl, rfl⟩
        go_wp2_with fail
        go_roundg (gk - 1)
        case rel => exact ⟨k + 1, by omega, by go_num, HT.out, rfl⟩
        case measure => omega
      | false =>
        have HF := Lib.hid (show PL = false by rw [HP.out, HN.out k hlt hm]; rfl)
        rw [← HGK.out] at hm
        rw [hm] at HM
        clear hm
        go_wp2_with fail
        refine (HM.out _).mono ?_
        rintro e w' ⟨rfl, rfl⟩
        go_wp2_with fail
        go_ret
        exact ⟨ret_bool HF.out.symm, rfl⟩
    · have hkl : k = l.length := by omega
      have HT := Lib.hid (show l.all Wrd.mark = true by have := HALL.out; rw [hkl, List.take_length] at this; exact this)
      by_cases h0 : l.length = 0
      · have HF := Lib.hid (show PL = false by rw [HP.out, HT.out, h0]; rfl)
        have he : (ofL l) = ⟨#[]⟩ := ofL_nil h0
        have hks : ¬ k < (ofL l).size := by omega
        rw [he] at hks ⊢
        clear hkl he h0
        go_wp2_with fail
        go_ret
        exact ⟨ret_bool HF.out.symm, rfl⟩
      · have HF := Lib.hid (show PL = true by rw [HP.out, HT.out]; simp [h0])
        have he := str_ne h0
        have hks : ¬ k < (ofL l).size := by omega
        clear hkl h0
        go_wp2_with fail
        go_ret
        exact ⟨ret_bool HF.out.symm, rfl⟩
end Go.Proofs.YtnamkglflhkckaaDoor
end
