/-
  OCTET's CALLS over lists of bytes: what is written, what is read.
-/
import Derived.Test.YtjkaljokkpabfaaGreatDoorRr03
import Derived.Test.YtjkaljokkpabfaaGreatDoorRr05

section
namespace Go.Proofs.YtjkaljokkpabfaaGreatDoor
open Go.ChangeShapes Go.WideShapes Go.ChangeAt Go.RowKit
/-! ### what a reader has, as lists -/
abbrev LSt := List UInt8 × Int
def lOut (r : List UInt8) (n : Nat) : List UInt8 := if r.length < n then [] else r.take n
def lRaw (s : LSt) (n : Nat) : LSt := if s.1.length < n then ([], if s.2 = 0 then 3 else s.2) else (s.1.drop n, s.2)
def lFail (s : LSt) (c : Int) : LSt := if c = 0 ∨ s.2 ≠ 0 then s else ([], c)
def lLen (s : LSt) : Nat := Oct.val (lOut s.1 2)
def lMid (s : LSt) (m : Int) : LSt := if m < (lLen s : Int) then lFail (lRaw s 2) 5 else lRaw s 2
def lText (s : LSt) (m : Int) : LSt := lRaw (lMid s m) (lLen s)
def lTextOut (s : LSt) (m : Int) : List UInt8 := lOut (lMid s m).1 (lLen s)
def lOk (s : LSt) : Prop := s.2 ≠ 0 → s.1 = []
theorem lOk_new (l : List UInt8) : lOk (l, 0) := fun h => absurd rfl h
theorem lOk_raw {s : LSt} (h : lOk s) (n : Nat) : lOk (lRaw s n) := by
  intro he
  unfold lRaw at *
  split at he
  · rw [if_pos (by assumption)]
  · rw [if_neg (by assumption)]
    simp only at he ⊢
    rw [h he, List.drop_nil]
theorem lOk_fail {s : LSt} (h : lOk s) (c : Int) : lOk (lFail s c) := by
  intro he
  unfold lFail at *
  split at he
  · rw [if_pos (by assumption)]; exact h he
  · rw [if_neg (by assumption)]
theorem lOk_mid {s : LSt} (h : lOk s) (m : Int) : lOk (lMid s m) := by
  unfold lMid
  split
  · exact lOk_fail (lOk_raw h _) _
  · exact lOk_raw h _
theorem lOk_text {s : LSt} (h : lOk s) (m : Int) : lOk (lText s m) := lOk_raw (lOk_mid h m) _
theorem lRaw_err {s : LSt} (h : lOk s) (he : s.2 ≠ 0) (n : Nat) : lRaw s n = s := by
  obtain ⟨r, e⟩ := s
  have hr : r = [] := h he
  subst hr
  unfold lRaw
  simp only at he ⊢
  split
  · first | rfl | rw [if_neg he]
  · rw [List.drop_nil]
theorem lOut_nil (n : Nat) : lOut [] n = [] := by unfold lOut; split <;> simp
theorem lMid_err {s : LSt} (h : lOk s) (he : s.2 ≠ 0) (m : Int) : lMid s m = s := by
  unfold lMid
  rw [lRaw_err h he]
  split
  · unfold lFail; rw [if_pos (Or.inr he)]
  · rfl
theorem lText_err {s : LSt} (h : lOk s) (he : s.2 ≠ 0) (m : Int) : lText s m = s := by
  unfold lText
  rw [lMid_err h he, lRaw_err h he]
theorem lOut_le (r : List UInt8) (n : Nat) : (lOut r n).length ≤ n := by
  unfold lOut
  split
  · simp
  · rw [List.length_take]; omega
theorem val_out_lt (r : List UInt8) (n : Nat) : Oct.val (lOut r n) < 256 ^ n :=
  Nat.lt_of_lt_of_le (Oct.val_lt _) (Nat.pow_le_pow_right (n := 256) (by decide) (lOut_le r n))
/-! ### as bytes -/
theorem ofL_take (l : List UInt8) (n : Nat) : (ofL l).extract 0 n = ofL (l.take n) := by
  rw [← ofL_toList ((ofL l).extract 0 n), list_extract]
  simp [toList_ofL]
theorem ofL_drop (l : List UInt8) (n : Nat) : (ofL l).extract n (ofL l).size = ofL (l.drop n) := extract_drop (ofL l) n
theorem rawOut_l (r : List UInt8) (n : Nat) : rawOut (ofL r) (n : Int) = ofL (lOut r n) := by
  unfold rawOut lOut
  rw [ofL_size]
  by_cases h0 : n = 0
  · subst h0
    rw [if_pos (by simp), if_neg (by omega), List.take_zero]; rfl
  · rw [if_neg (by omega)]
    by_cases hs : r.length < n
    · rw [if_pos (by omega), if_pos hs]; rfl
    · rw [if_neg (by omega), if_neg hs, Int.toNat_natCast, ofL_take]
theorem rawRest_l (r : List UInt8) (e : Int) (n : Nat) : rawRest (ofL r) (n : Int) = ofL (lRaw (r, e) n).1 := by
  unfold rawRest lRaw
  rw [ofL_size]
  by_cases h0 : n = 0
  · subst h0
    rw [if_pos (by simp), if_neg (by simp)]
    simp
  · rw [if_neg (by omega)]
    by_cases hs : r.length < n
    · rw [if_pos (by omega), if_pos hs]; rfl
    · rw [if_neg (by omega), if_neg hs, Int.toNat_natCast]
      have := ofL_drop r n
      rw [ofL_size] at this
      exact this
theorem rawErr_l (r : List UInt8) (e : Int) (n : Nat) : rawErr (ofL r) e (n : Int) = (lRaw (r, e) n).2 := by
  unfold rawErr lRaw
  rw [ofL_size]
  by_cases hs : r.length < n
  · rw [if_pos hs]
    simp only
    by_cases he : e = 0
    · rw [if_pos ⟨by omega, by omega, he⟩, if_pos he]
    · rw [if_neg (by omega), if_neg he]
  · rw [if_neg (by omega), if_neg hs]
theorem sRaw_l (r : List UInt8) (e : Int) (n : Nat) : sRaw (ofL r, e) (n : Int) = (ofL (lRaw (r, e) n).1, (lRaw (r, e) n).2) := by
  unfold sRaw
  simp only
  rw [rawRest_l r e n, rawErr_l]
theorem sFail_l (r : List UInt8) (e c : Int) : sFail (ofL r, e) c = (ofL (lFail (r, e) c).1, (lFail (r, e) c).2) := by
  unfold sFail failRest failErr lFail
  simp only
  split <;> rfl
theorem sLen_l (r : List UInt8) (e : Int) : sLen (ofL r, e) = lLen (r, e) := by
  unfold sLen lLen numVal
  simp only
  rw [rawOut_l, toList_ofL]
theorem sMid_l (r : List UInt8) (e m : Int) : sMid (ofL r, e) m = (ofL (lMid (r, e) m).1, (lMid (r, e) m).2) := by
  unfold sMid lMid
  rw [sLen_l, sRaw_l]
  split
  · rw [sFail_l]
  · rfl
theorem sText_l (r : List UInt8) (e m : Int) : sText (ofL r, e) m = (ofL (lText (r, e) m).1, (lText (r, e) m).2) := by
  unfold sText lText
  rw [sLen_l, sMid_l, sRaw_l]
theorem oText_l (r : List UInt8) (e m : Int) : oText (ofL r, e) m = ofL (lTextOut (r, e) m) := by
  unfold oText lTextOut
  rw [sLen_l, sMid_l, rawOut_l]
theorem ok_l {s : LSt} (h : lOk s) : St.ok (ofL s.1, s.2) := fun he => by
  show ofL s.1 = _
  rw [h he]; rfl

/-- a reader lies in block b -/
def InL (b : Nat) (s : LSt) (w : World) : Prop := InAt b (ofL s.1) s.2 w
def PostL (b : Nat) (w : World) (v : Value) (s : LSt) (x : Ending) (w' : World) : Prop := x = .returned v ∧ InL b s w' ∧ w.grownBy w' (some b)
theorem inum_l (b : Nat) (s : LSt) (k : Nat) (n : Int) (w : World) (hk : k ≤ 8) (hn : n = (k : Int)) (h : InL b s w) (hok : lOk s) :
    Calls Tryz.prog 18 #[.pointer (some ⟨b, 0, none⟩), .int .i64 n] w (PostL b w (.int .u64 ((Oct.val (lOut s.1 k) : Nat) : Int)) (lRaw s k)) := by
  subst hn
  obtain ⟨r, e⟩ := s
  refine (inum_any b (ofL r) e (k : Int) w h (fun he => by have h0 : r = [] := hok he; rw [h0]; rfl)).mono ?_
  rintro x w' ⟨hx, h1, h2⟩
  rw [Oct.width_num k hk] at hx h1
  rw [rawOut_l] at hx
  rw [rawRest_l r e k, rawErr_l] at h1
  exact ⟨hx, h1, h2⟩
theorem itext_l (b : Nat) (s : LSt) (m : Int) (w : World) (h : InL b s w) (hok : lOk s) :
    Calls Tryz.prog 37 #[.pointer (some ⟨b, 0, none⟩), .int .i64 m] w (PostL b w (.string (ofL (lTextOut s m))) (lText s m)) := by
  obtain ⟨r, e⟩ := s
  refine (itext_any b (ofL r, e) m w h (ok_l hok)).mono ?_
  rintro x w' ⟨hx, h1, h2⟩
  rw [oText_l] at hx
  rw [sText_l] at h1
  exact ⟨hx, h1, h2⟩
theorem ileft_l (b : Nat) (s : LSt) (w : World) (h : InL b s w) :
    Calls Tryz.prog 10 #[.pointer (some ⟨b, 0, none⟩)] w fun x w' => x = .returned (.int .i64 (s.1.length : Int)) ∧ w = w' := by
  have := left_any b (ofL s.1) s.2 w h
  rw [ofL_size] at this
  exact this
theorem ierr_l (b : Nat) (s : LSt) (w : World) (h : InL b s w) :
    Calls Tryz.prog 9 #[.pointer (some ⟨b, 0, none⟩)] w fun x w' => x = .returned (.int .i64 s.2) ∧ w = w' := err_any b (ofL s.1) s.2 w h
theorem inew_l (l : List UInt8) (w : World) :
    Calls Tryz.prog 6 #[.string (ofL l)] w fun x w' => x = .returned (.pointer (some ⟨w.heap.size, 0, none⟩)) ∧ InL w.heap.size (l, 0) w' ∧ Below w.heap.size w w' := by
  refine (new_any (ofL l) w).mono ?_
  rintro x w' ⟨rfl, rfl⟩
  exact ⟨rfl, ⟨cell_new _ _ _ _ _ rfl, cell_new _ _ _ _ _ rfl, fun j => free_new _ _ _ _ _ rfl, by simp⟩, (Below.refl _ _).alloc (Nat.le_refl _) _⟩
theorem below_in {B b : Nat} {w w1 w2 : World} (h : Below B w w1) (g : w1.grownBy w2 (some b)) (hB : B ≤ w1.heap.size) (hb : B ≤ b) : Below B w w2 :=
  h.grown g hB (fun k hk => by injection hk with hk; omega)

/-! ### what is written -/
theorem num_l (x : List UInt8) (n k : Nat) (b : Int) (w : World) (hn : n < 18446744073709551616) (hk : k ≤ 8) (hb : b = (k : Int)) (hx : x.length ≤ 1000000) :
    Calls Tryz.prog 67 #[.agg #[.string (ofL x), .int .i64 0], .int .u64 (n : Int), .int .i64 b] w fun e w' => e = .returned (.agg #[.string (ofL (x ++ Oct.be k n)), .int .i64 0]) ∧ Below w.heap.size w w' := by
  subst hb
  have h := num_any (ofL x) 0 n (k : Int) w hn (by rw [ofL_size]; exact hx)
  rw [Oct.width_num k hk] at h
  rw [show ofL x ++ ByteArray.mk (Oct.be k n).toArray = ofL (x ++ Oct.be k n) from ofL_app _ _] at h
  exact h
theorem text_l (x s : List UInt8) (w : World) (hx : x.length ≤ 900000) (hs : s.length ≤ 65535) :
    Calls Tryz.prog 68 #[.agg #[.string (ofL x), .int .i64 0], .string (ofL s)] w fun e w' => e = .returned (.agg #[.string (ofL (x ++ (Oct.be 2 s.length ++ s))), .int .i64 0]) ∧ Below w.heap.size w w' := by
  have h := text_any (ofL x) (ofL s) 0 w (by rw [ofL_size]; exact hx) (by rw [ofL_size]; exact hs)
  have e : ofL x ++ textB (ofL s) = ofL (x ++ (Oct.be 2 s.length ++ s)) := by
    unfold textB
    rw [ofL_size, show ByteArray.mk (Oct.be 2 s.length).toArray = ofL (Oct.be 2 s.length) from rfl, ofL_app, ofL_app]
  rw [e] at h
  exact h
theorem raw_l (x s : List UInt8) (w : World) (hx : x.length ≤ 1000000) (hs : s.length ≤ 1000000) :
    Calls Tryz.prog 69 #[.agg #[.string (ofL x), .int .i64 0], .string (ofL s)] w fun e w' => e = .returned (.agg #[.string (ofL (x ++ s)), .int .i64 0]) ∧ Below w.heap.size w w' := by
  have h := raw_any (ofL x) (ofL s) 0 w (by rw [ofL_size]; exact hx) (by rw [ofL_size]; exact hs)
  rw [ofL_app] at h
  exact h
end Go.Proofs.YtjkaljokkpabfaaGreatDoor
end
