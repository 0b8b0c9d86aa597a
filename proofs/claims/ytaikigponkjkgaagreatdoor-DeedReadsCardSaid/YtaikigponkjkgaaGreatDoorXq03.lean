/-
 A part of the proof.
-/
import Derived.Test.YtaikigponkjkgaaGreatDoorXq02
import Derived.WalkKit
section
namespace Go.Proofs.YtaikigponkjkgaaGreatDoor
open Go.ChangeShapes Go.WideShapes Go.ChangeAt Go.RowKit
set_option maxHeartbeats 400000 in
theorem left_any (b : Nat) (r : ByteArray) (e : Int) (w : World) (h : InAt b r e w) :
  Calls Tryz.prog 63 #[.pointer (some ⟨b, 0, none⟩)] w fun x w' => x = .returned (.int .i64 (r.size : Int)) ∧ w = w' := by
 have c0 := h.c0
 clear h
 go_enter Tryz.func63, Tryz.ntmps63
 go_wp2_with fail
 go_ret
 exact ⟨rfl, rfl⟩
set_option maxHeartbeats 400000 in
theorem err_any (b : Nat) (r : ByteArray) (e : Int) (w : World) (h : InAt b r e w) :
  Calls Tryz.prog 64 #[.pointer (some ⟨b, 0, none⟩)] w fun x w' => x = .returned (.int .i64 e) ∧ w = w' := by
 have c1 := h.c1
 clear h
 go_enter Tryz.func64, Tryz.ntmps64
 go_wp2_with fail
 go_ret
 exact ⟨rfl, rfl⟩
abbrev St := ByteArray × Int
def St.ok (s : St) : Prop := s.2 ≠ 0 → s.1 = ByteArray.empty
def sRaw (s : St) (n : Int) : St := (rawRest s.1 n, rawErr s.1 s.2 n)
def sFail (s : St) (c : Int) : St := (failRest s.1 s.2 c, failErr s.2 c)
def sLen (s : St) : Nat := numVal (rawOut s.1 (2 : Nat))
def sMid (s : St) (most : Int) : St := if most < (sLen s : Int) then sFail (sRaw s (2 : Nat)) 5 else sRaw s (2 : Nat)
def sText (s : St) (most : Int) : St := sRaw (sMid s most) (sLen s)
def oText (s : St) (most : Int) : ByteArray := rawOut (sMid s most).1 (sLen s)
theorem ok_raw {s : St} (h : s.ok) (n : Int) : (sRaw s n).ok := by
 intro he
 unfold sRaw at *
 simp only at *
 unfold rawRest
 split
 ·rename_i hn
  apply h
  unfold rawErr at he
  rw [if_neg (by omega)] at he
  exact he
 ·split
  ·rfl
  ·rename_i hn hs
   unfold rawErr at he
   rw [if_neg (by omega)] at he
   have := h he
   rw [this] at hs
   simp at hs
   omega
theorem ok_fail {s : St} (h : s.ok) (c : Int) : (sFail s c).ok := by
 intro he
 unfold sFail at *
 simp only at *
 unfold failRest
 split
 ·rename_i hc
  unfold failErr at he
  rw [if_pos hc] at he
  exact h he
 ·rfl
theorem ok_mid {s : St} (h : s.ok) (m : Int) : (sMid s m).ok := by
 unfold sMid
 split
 ·exact ok_fail (ok_raw h _) _
 ·exact ok_raw h _
theorem sLen_lt (s : St) : sLen s < 65536 := by
 unfold sLen numVal
 have h := Oct.val_lt (rawOut s.1 (2 : Nat)).data.toList
 have h2 := rawOut_size s.1 2
 refine Nat.lt_of_lt_of_le h ?_
 have hlen : (rawOut s.1 (2 : Nat)).data.toList.length ≤ 2 := by simpa using h2
 exact Nat.pow_le_pow_right (n := 256) (by decide) hlen
theorem post_trans {b : Nat} {w w1 w2 : World} (h1 : w.grownBy w1 (some b)) (h2 : w1.grownBy w2 (some b)) : w.grownBy w2 (some b) := h1.trans h2

set_option maxHeartbeats 1000000 in
theorem itext_any (b : Nat) (s : St) (m : Int) (w : World) (h : InAt b s.1 s.2 w) (hok : s.ok) :
  Calls Tryz.prog 61 #[.pointer (some ⟨b, 0, none⟩), .int .i64 m] w (Post b w (.string (oText s m)) (sText s m).1 (sText s m).2) := by
 have hn : Calls Tryz.prog 26 #[.pointer (some ⟨b, 0, none⟩), .int .i64 2] w (Post b w (.int .u64 ((sLen s : Nat) : Int)) (sRaw s (2 : Nat)).1 (sRaw s (2 : Nat)).2) := inum_any b s.1 s.2 2 w h hok
 have hL := sLen_lt s
 have hok2 := ok_mid hok m
 have hr : ∀ W, InAt b (sMid s m).1 (sMid s m).2 W → Calls Tryz.prog 56 #[.pointer (some ⟨b, 0, none⟩), .int .i64 (sLen s : Int)] W (Post b W (.string (oText s m)) (sText s m).1 (sText s m).2) := fun W hW =>
  iraw_any b (sMid s m).1 (sMid s m).2 (sLen s) W hW hok2
 have hf : ∀ W, InAt b (sRaw s (2 : Nat)).1 (sRaw s (2 : Nat)).2 W → Calls Tryz.prog 94 #[.pointer (some ⟨b, 0, none⟩), .int .i64 5] W (Post b W (.tuple #[]) (sFail (sRaw s (2 : Nat)) 5).1 (sFail (sRaw s (2 : Nat)) 5).2) := fun W hW =>
  fail_any b _ _ 5 W hW
 have e : sMid s m = if m < (sLen s : Int) then sFail (sRaw s (2 : Nat)) 5 else sRaw s (2 : Nat) := rfl
 generalize sMid s m = mid at *
 generalize sText s m = fin at *
 generalize oText s m = out at *
 generalize sLen s = L at *
 generalize sRaw s (2 : Nat) = one at *
 have HN := Lib.hid hn
 have HF := Lib.hid hf
 have HR := Lib.hid hr
 clear h hn hok hok2 hr hf
 by_cases hm : m < (L : Int)
 ·rw [if_pos hm] at e
  have EE := Lib.hid e
  clear e
  go_enter Tryz.func61, Tryz.ntmps61
  go_wp2_with fail
  refine HN.out.mono ?_
  rintro x w1 ⟨rfl, h1, g1⟩
  have H1 := Lib.hid h1
  have G1 := Lib.hid g1
  clear h1 g1
  go_wp2_with fail
  refine (HF.out _ H1.out).mono ?_
  rintro x w2 ⟨rfl, h2, g2⟩
  have H2 := Lib.hid h2
  have G2 := Lib.hid g2
  clear h2 g2
  go_wp2_with fail
  refine (HR.out _ (by rw [EE.out]; exact H2.out)).mono ?_
  rintro x w3 ⟨rfl, h3, g3⟩
  have H3 := Lib.hid h3
  have G3 := Lib.hid g3
  clear h3 g3
  go_wp2_with fail
  go_ret
  exact ⟨rfl, H3.out, post_trans (post_trans G1.out G2.out) G3.out⟩
 ·rw [if_neg hm] at e
  have EE := Lib.hid e
  clear e
  go_enter Tryz.func61, Tryz.ntmps61
  go_wp2_with fail
  refine HN.out.mono ?_
  rintro x w1 ⟨rfl, h1, g1⟩
  have H1 := Lib.hid h1
  have G1 := Lib.hid g1
  clear h1 g1
  go_wp2_with fail
  refine (HR.out _ (by rw [EE.out]; exact H1.out)).mono ?_
  rintro x w3 ⟨rfl, h3, g3⟩
  have H3 := Lib.hid h3
  have G3 := Lib.hid g3
  clear h3 g3
  go_wp2_with fail
  go_ret
  exact ⟨rfl, H3.out, post_trans G1.out G3.out⟩

/-! ### the examples -/
end Go.Proofs.YtaikigponkjkgaaGreatDoor
end
section
namespace Go.Proofs.YtaikigponkjkgaaGreatDoor
def ofL (l : List UInt8) : ByteArray := ⟨l.toArray⟩
theorem ofL_toList (s : ByteArray) : ofL s.data.toList = s := by
 unfold ofL; rw [Array.toArray_toList]
theorem toList_ofL (l : List UInt8) : (ofL l).data.toList = l := rfl
theorem ofL_size (l : List UInt8) : (ofL l).size = l.length := by
 show l.toArray.size = _; rw [List.size_toArray]
theorem list_extract (s : ByteArray) (i j : Nat) : (s.extract i j).data.toList = (s.data.toList.drop i).take (j - i) := by
 rw [ByteArray.data_extract, Array.toList_extract, List.extract_eq_take_drop]
theorem extract_drop (s : ByteArray) (k : Nat) : s.extract k s.size = ofL (s.data.toList.drop k) := by
 rw [← ofL_toList (s.extract k s.size), list_extract, List.take_of_length_le]
 rw [List.length_drop]; exact Nat.le_refl _
theorem ofL_app (a b : List UInt8) : ofL a ++ ofL b = ofL (a ++ b) := by
 apply ByteArray.ext
 rw [ByteArray.data_append]
 show a.toArray ++ b.toArray = (a ++ b).toArray
 simp
theorem ofL_str (x : List UInt8) : (ofL x).toList = x := by rw [ByteArray.toList_eq]; rfl
end Go.Proofs.YtaikigponkjkgaaGreatDoor
end
section
namespace Go.Proofs.YtaikigponkjkgaaGreatDoor
open Go.ChangeShapes Go.WideShapes Go.ChangeAt Go.RowKit
/-! ### what a reader has, as lists -/
abbrev LSt := List UInt8 × Int
def lOut (r : List UInt8) (n : Nat) : List UInt8 := if r.length < n then [] else r.take n
def lRaw (s : LSt) (n : Nat) : LSt := if s.1.length < n then ([], if s.2 = 0 then 3 else s.2) else (s.1.drop n, s.2)
def lFail (s : LSt) (c : Int) : LSt := if c = 0 ∨ s.2 ≠ 0 then s else ([], c)
def lLen (s : LSt) : Nat := Oct.val (lOut s.1 2)
def lMid (s : LSt) (m : Int) : LSt := if m < (lLen s : Int) then lFail (lRaw s 2) 5 else lRaw s 2
def lText (s : LSt) (m : Int) : LSt := lRaw (lMid s m) (lLen s)
def lTextOut (s : LSt) (m : Int) : List UInt8 := lOut (lMid s m).1 (lLen s)
def lEnd (s : LSt) : Int := if 0 < s.1.length then 4 else s.2
def lOk (s : LSt) : Prop := s.2 ≠ 0 → s.1 = []
theorem lOk_new (l : List UInt8) : lOk (l, 0) := fun h => absurd rfl h
theorem lOk_raw {s : LSt} (h : lOk s) (n : Nat) : lOk (lRaw s n) := by
 intro he
 unfold lRaw at *
 split at he
 ·rw [if_pos (by assumption)]
 ·rw [if_neg (by assumption)]
  simp only at he ⊢
  rw [h he, List.drop_nil]
theorem lOk_fail {s : LSt} (h : lOk s) (c : Int) : lOk (lFail s c) := by
 intro he
 unfold lFail at *
 split at he
 ·rw [if_pos (by assumption)]; exact h he
 ·rw [if_neg (by assumption)]
theorem lOk_mid {s : LSt} (h : lOk s) (m : Int) : lOk (lMid s m) := by
 unfold lMid
 split
 ·exact lOk_fail (lOk_raw h _) _
 ·exact lOk_raw h _
theorem lOk_text {s : LSt} (h : lOk s) (m : Int) : lOk (lText s m) := lOk_raw (lOk_mid h m) _
theorem lRaw_err {s : LSt} (h : lOk s) (he : s.2 ≠ 0) (n : Nat) : lRaw s n = s := by
 obtain ⟨r, e⟩ := s
 have hr : r = [] := h he
 subst hr
 unfold lRaw
 simp only at he ⊢
 split
 ·first | rfl | rw [if_neg he]
 ·rw [List.drop_nil]
theorem lOut_nil (n : Nat) : lOut [] n = [] := by unfold lOut; split <;> simp
theorem lOut_of {r : List UInt8} {n : Nat} (h : n ≤ r.length) : lOut r n = r.take n := by unfold lOut; rw [if_neg (by omega)]
theorem lRaw_of {r : List UInt8} {e : Int} {n : Nat} (h : n ≤ r.length) : lRaw (r, e) n = (r.drop n, e) := by unfold lRaw; rw [if_neg (by simp only; omega)]
theorem lMid_err {s : LSt} (h : lOk s) (he : s.2 ≠ 0) (m : Int) : lMid s m = s := by
 unfold lMid
 rw [lRaw_err h he]
 split
 ·unfold lFail; rw [if_pos (Or.inr he)]
 ·rfl
theorem lText_err {s : LSt} (h : lOk s) (he : s.2 ≠ 0) (m : Int) : lText s m = s := by
 unfold lText
 rw [lMid_err h he, lRaw_err h he]
theorem lOut_le (r : List UInt8) (n : Nat) : (lOut r n).length ≤ n := by
 unfold lOut
 split
 ·simp
 ·rw [List.length_take]; omega
theorem val_out_lt (r : List UInt8) (n : Nat) : Oct.val (lOut r n) < 256 ^ n :=
 Nat.lt_of_lt_of_le (Oct.val_lt _) (Nat.pow_le_pow_right (n := 256) (by decide) (lOut_le r n))
/-! ### as bytes -/
theorem ofL_take (l : List UInt8) (n : Nat) : (ofL l).extract 0 n = ofL (l.take n) := by
 rw [← ofL_toList ((ofL l).extract 0 n), list_extract]
 simp [toList_ofL]
theorem ofL_drop (l : List UInt8) (n : Nat) : (ofL l).extract n (ofL l).size = ofL (l.drop n) := extract_drop (ofL l) n
theorem rawOut_l (r : List UInt8) (n : Nat) : rawOut (ofL r) (n : Int) = ofL (lOut r n) := by
 unfold rawOut lOut
 rw [ofL_size]
 by_cases h0 : n = 0
 ·subst h0
  rw [if_pos (by simp), if_neg (by omega), List.take_zero]; rfl
 ·rw [if_neg (by omega)]
  by_cases hs : r.length < n
  ·rw [if_pos (by omega), if_pos hs]; rfl
  ·rw [if_neg (by omega), if_neg hs, Int.toNat_natCast, ofL_take]
theorem rawRest_l (r : List UInt8) (e : Int) (n : Nat) : rawRest (ofL r) (n : Int) = ofL (lRaw (r, e) n).1 := by
 unfold rawRest lRaw
 rw [ofL_size]
 by_cases h0 : n = 0
 ·subst h0
  rw [if_pos (by simp), if_neg (by simp)]
  simp
 ·rw [if_neg (by omega)]
  by_cases hs : r.length < n
  ·rw [if_pos (by omega), if_pos hs]; rfl
  ·rw [if_neg (by omega), if_neg hs, Int.toNat_natCast]
   have := ofL_drop r n
   rw [ofL_size] at this
   exact this
theorem rawErr_l (r : List UInt8) (e : Int) (n : Nat) : rawErr (ofL r) e (n : Int) = (lRaw (r, e) n).2 := by
 unfold rawErr lRaw
 rw [ofL_size]
 by_cases hs : r.length < n
 ·rw [if_pos hs]
  simp only
  by_cases he : e = 0
  ·rw [if_pos ⟨by omega, by omega, he⟩, if_pos he]
  ·rw [if_neg (by omega), if_neg he]
 ·rw [if_neg (by omega), if_neg hs]
theorem sRaw_l (r : List UInt8) (e : Int) (n : Nat) : sRaw (ofL r, e) (n : Int) = (ofL (lRaw (r, e) n).1, (lRaw (r, e) n).2) := by
 unfold sRaw
 simp only
 rw [rawRest_l r e n, rawErr_l]
theorem sFail_l (r : List UInt8) (e c : Int) : sFail (ofL r, e) c = (ofL (lFail (r, e) c).1, (lFail (r, e) c).2) := by
 unfold sFail failRest failErr lFail
 simp only
 split <;> rfl
theorem sLen_l (r : List UInt8) (e : Int) : sLen (ofL r, e) = lLen (r, e) := by
 unfold sLen lLen numVal
 simp only
 rw [rawOut_l, toList_ofL]
theorem sMid_l (r : List UInt8) (e m : Int) : sMid (ofL r, e) m = (ofL (lMid (r, e) m).1, (lMid (r, e) m).2) := by
 unfold sMid lMid
 rw [sLen_l, sRaw_l]
 split
 ·rw [sFail_l]
 ·rfl
theorem sText_l (r : List UInt8) (e m : Int) : sText (ofL r, e) m = (ofL (lText (r, e) m).1, (lText (r, e) m).2) := by
 unfold sText lText
 rw [sLen_l, sMid_l, sRaw_l]
theorem oText_l (r : List UInt8) (e m : Int) : oText (ofL r, e) m = ofL (lTextOut (r, e) m) := by
 unfold oText lTextOut
 rw [sLen_l, sMid_l, rawOut_l]
theorem ok_l {s : LSt} (h : lOk s) : St.ok (ofL s.1, s.2) := fun he => by
 show ofL s.1 = _
 rw [h he]; rfl

def InL (b : Nat) (s : LSt) (w : World) : Prop := InAt b (ofL s.1) s.2 w
def PostL (b : Nat) (w : World) (v : Value) (s : LSt) (x : Ending) (w' : World) : Prop := x = .returned v ∧ InL b s w' ∧ w.grownBy w' (some b)
theorem inum_l (b : Nat) (s : LSt) (k : Nat) (n : Int) (w : World) (hk : k ≤ 8) (hn : n = (k : Int)) (h : InL b s w) (hok : lOk s) :
  Calls Tryz.prog 26 #[.pointer (some ⟨b, 0, none⟩), .int .i64 n] w (PostL b w (.int .u64 ((Oct.val (lOut s.1 k) : Nat) : Int)) (lRaw s k)) := by
 subst hn
 obtain ⟨r, e⟩ := s
 refine (inum_any b (ofL r) e (k : Int) w h (fun he => by have h0 : r = [] := hok he; rw [h0]; rfl)).mono ?_
 rintro x w' ⟨hx, h1, h2⟩
 rw [Oct.width_num k hk] at hx h1
 rw [rawOut_l] at hx
 rw [rawRest_l r e k, rawErr_l] at h1
 exact ⟨hx, h1, h2⟩
theorem itext_l (b : Nat) (s : LSt) (m : Int) (w : World) (h : InL b s w) (hok : lOk s) :
  Calls Tryz.prog 61 #[.pointer (some ⟨b, 0, none⟩), .int .i64 m] w (PostL b w (.string (ofL (lTextOut s m))) (lText s m)) := by
 obtain ⟨r, e⟩ := s
 refine (itext_any b (ofL r, e) m w h (ok_l hok)).mono ?_
 rintro x w' ⟨hx, h1, h2⟩
 rw [oText_l] at hx
 rw [sText_l] at h1
 exact ⟨hx, h1, h2⟩
theorem ierr_l (b : Nat) (s : LSt) (w : World) (h : InL b s w) :
  Calls Tryz.prog 64 #[.pointer (some ⟨b, 0, none⟩)] w fun x w' => x = .returned (.int .i64 s.2) ∧ w = w' := err_any b (ofL s.1) s.2 w h
theorem inew_l (l : List UInt8) (w : World) :
  Calls Tryz.prog 25 #[.string (ofL l)] w fun x w' => x = .returned (.pointer (some ⟨w.heap.size, 0, none⟩)) ∧ InL w.heap.size (l, 0) w' ∧ Below w.heap.size w w' := by
 refine (new_any (ofL l) w).mono ?_
 rintro x w' ⟨rfl, rfl⟩
 exact ⟨rfl, ⟨cell_new _ _ _ _ _ rfl, cell_new _ _ _ _ _ rfl, fun j => free_new _ _ _ _ _ rfl, by simp⟩, (Below.refl _ _).alloc (Nat.le_refl _) _⟩
theorem below_in {B b : Nat} {w w1 w2 : World} (h : Below B w w1) (g : w1.grownBy w2 (some b)) (hB : B ≤ w1.heap.size) (hb : B ≤ b) : Below B w w2 :=
 h.grown g hB (fun k hk => by injection hk with hk; omega)

/-! ### what is written -/
theorem num_l (x : List UInt8) (n k : Nat) (b : Int) (w : World) (hn : n < 18446744073709551616) (hk : k ≤ 8) (hb : b = (k : Int)) (hx : x.length ≤ 1000000) :
  Calls Tryz.prog 19 #[.agg #[.string (ofL x), .int .i64 0], .int .u64 (n : Int), .int .i64 b] w fun e w' => e = .returned (.agg #[.string (ofL (x ++ Oct.be k n)), .int .i64 0]) ∧ Below w.heap.size w w' := by
 subst hb
 have h := num_any (ofL x) 0 n (k : Int) w hn (by rw [ofL_size]; exact hx)
 rw [Oct.width_num k hk] at h
 rw [show ofL x ++ ByteArray.mk (Oct.be k n).toArray = ofL (x ++ Oct.be k n) from ofL_app _ _] at h
 exact h
theorem text_l (x s : List UInt8) (w : World) (hx : x.length ≤ 900000) (hs : s.length ≤ 65535) :
  Calls Tryz.prog 35 #[.agg #[.string (ofL x), .int .i64 0], .string (ofL s)] w fun e w' => e = .returned (.agg #[.string (ofL (x ++ (Oct.be 2 s.length ++ s))), .int .i64 0]) ∧ Below w.heap.size w w' := by
 have h := text_any (ofL x) (ofL s) 0 w (by rw [ofL_size]; exact hx) (by rw [ofL_size]; exact hs)
 have e : ofL x ++ textB (ofL s) = ofL (x ++ (Oct.be 2 s.length ++ s)) := by
  unfold textB
  rw [ofL_size, show ByteArray.mk (Oct.be 2 s.length).toArray = ofL (Oct.be 2 s.length) from rfl, ofL_app, ofL_app]
 rw [e] at h
 exact h
theorem raw_l (x s : List UInt8) (w : World) (hx : x.length ≤ 1000000) (hs : s.length ≤ 1000000) :
  Calls Tryz.prog 44 #[.agg #[.string (ofL x), .int .i64 0], .string (ofL s)] w fun e w' => e = .returned (.agg #[.string (ofL (x ++ s)), .int .i64 0]) ∧ Below w.heap.size w w' := by
 have h := raw_any (ofL x) (ofL s) 0 w (by rw [ofL_size]; exact hx) (by rw [ofL_size]; exact hs)
 rw [ofL_app] at h
 exact h
end Go.Proofs.YtaikigponkjkgaaGreatDoor
end
section
namespace Go.Proofs.YtaikigponkjkgaaGreatDoor.Hd
structure Pr where
 key : List UInt8
 kind : Nat
 num : Int
 txt : List UInt8
deriving DecidableEq
def Pr.zero : Pr := ⟨[], 0, 0, []⟩
def pr (l : List Pr) (i : Nat) : Pr := l.getD i Pr.zero
theorem pr_at {l : List Pr} {i : Nat} (h : i < l.length) : pr l i = l[i] := by unfold pr; rw [List.getD_eq_getElem?_getD, List.getElem?_eq_getElem h]; rfl
structure Fits (p : Pr) : Prop where
 kind : p.kind < 256
 lo : -9223372036854775808 ≤ p.num
 hi : p.num < 9223372036854775808
theorem Fits.zero : Fits Pr.zero := ⟨by decide, by decide, by decide⟩

def scan (f : Nat → Nat) : Nat → Nat
 | 0 => 0
 | n + 1 => if scan f n ≠ 0 then scan f n else f n
theorem scan_zero {f : Nat → Nat} {n : Nat} (h : ∀ i, i < n → f i = 0) : scan f n = 0 := by
 induction n with
 | zero => rfl
 | succ n ih =>
  have h1 := ih fun i hi => h i (by omega)
  rw [scan, if_neg (by rw [h1]; simp), h n (by omega)]
theorem scan_at {f : Nat → Nat} {n k : Nat} (hk : k < n) (h : ∀ i, i < k → f i = 0) (hf : f k ≠ 0) : scan f n = f k := by
 induction n with
 | zero => omega
 | succ n ih =>
  by_cases e : k = n
  ·subst e
   rw [scan, if_neg (by rw [scan_zero h]; simp)]
  ·have := ih (by omega)
   rw [scan, if_pos (by rw [this]; exact hf), this]
theorem scan_none {f : Nat → Nat} {n : Nat} (h : scan f n = 0) : ∀ i, i < n → f i = 0 := by
 induction n with
 | zero => intro i hi; omega
 | succ n ih =>
  rw [scan] at h
  by_cases h1 : scan f n = 0
  ·rw [if_neg (by rw [h1]; simp)] at h
   intro i hi
   by_cases e : i = n
   ·rw [e]; exact h
   ·exact ih h1 i (by omega)
  ·rw [if_pos h1] at h; exact absurd h h1

def there (l : List Pr) (k : List UInt8) : Bool := l.any fun q => q.key == k
def bad (p : Pr) : Nat :=
 if Wrd.nameCode p.key ≠ 0 then Wrd.nameCode p.key else
 if 2 < p.kind then 8 else
 if p.kind = 1 ∧ 64 < p.txt.length then 5 else
 if p.kind = 2 ∧ p.num ≠ 0 ∧ p.num ≠ 1 then 7 else
 if (p.kind ≠ 1 ∧ p.txt ≠ []) ∨ (p.kind = 1 ∧ p.num ≠ 0) then 4 else 0
def pcode (p : Pr) (ahead : List Pr) : Nat := if bad p ≠ 0 then bad p else if there ahead p.key then 9 else 0
def hcode (l : List Pr) : Nat := if 8 < l.length then 6 else scan (fun i => pcode (pr l i) (l.take i)) l.length

def n64 (n : Int) : Nat := (n % 18446744073709551616).toNat
def i64 (n : Nat) : Int := if n < 9223372036854775808 then n else (n : Int) - 18446744073709551616
theorem n64_lt (n : Int) : n64 n < 18446744073709551616 := by unfold n64; omega
theorem n64_cast (n : Int) : ((n64 n : Nat) : Int) = n % 18446744073709551616 := by unfold n64; omega
def pbody (p : Pr) : List UInt8 := if p.kind = 0 then Oct.be 8 (n64 p.num) else if p.kind = 1 then Oct.text p.txt else Oct.be 1 (n64 p.num)
def penc (p : Pr) : List UInt8 := Oct.text p.key ++ Oct.be 1 p.kind ++ pbody p
def henc (l : List Pr) : List UInt8 := Oct.be 1 l.length ++ l.flatMap penc

def rd1 (s : LSt) : Pr × LSt :=
 let k := lTextOut s 16
 let s1 := lText s 16
 let c := Oct.val (lOut s1.1 1)
 let s2 := lRaw s1 1
 if c = 0 then (⟨k, 0, i64 (Oct.val (lOut s2.1 8)), []⟩, lRaw s2 8)
 else if c = 1 then (⟨k, 1, 0, lTextOut s2 64⟩, lText s2 64)
 else if c = 2 then (⟨k, 2, i64 (Oct.val (lOut s2.1 1)), []⟩, lRaw s2 1)
 else (⟨k, c, 0, []⟩, lFail s2 8)
def rds : Nat → List Pr → LSt → List Pr × LSt
 | 0, h, s => (h, s)
 | n + 1, h, s =>
  if (lFail (rd1 s).2 (pcode (rd1 s).1 h)).2 ≠ 0 then ([], lFail (rd1 s).2 (pcode (rd1 s).1 h))
  else rds n (h ++ [(rd1 s).1]) (lFail (rd1 s).2 (pcode (rd1 s).1 h))
def hread (s : LSt) : List Pr × LSt :=
 if 8 < Oct.val (lOut s.1 1) then ([], lFail (lRaw s 1) 6) else rds (Oct.val (lOut s.1 1)) [] (lRaw s 1)
theorem lFail_bad {s : LSt} {c : Int} (h : c ≠ 0) : (lFail s c).2 ≠ 0 := by
 unfold lFail
 split
 ·rename_i h1
  rcases h1 with h1 | h1
  ·exact absurd h1 h
  ·exact h1
 ·exact h
theorem lOk_rd1 {s : LSt} (h : lOk s) : lOk (rd1 s).2 := by
 unfold rd1
 simp only
 split
 ·exact lOk_raw (lOk_raw (lOk_text h _) _) _
 ·split
  ·exact lOk_text (lOk_raw (lOk_text h _) _) _
  ·split
   ·exact lOk_raw (lOk_raw (lOk_text h _) _) _
   ·exact lOk_fail (lOk_raw (lOk_text h _) _) _
theorem lOk_rds (n : Nat) : ∀ (h : List Pr) (s : LSt), lOk s → lOk (rds n h s).2 := by
 induction n with
 | zero => intro h s hs; exact hs
 | succ n ih =>
  intro h s hs
  have h1 := lOk_fail (lOk_rd1 hs) (pcode (rd1 s).1 h)
  by_cases hx : (lFail (rd1 s).2 (pcode (rd1 s).1 h)).2 ≠ 0
  ·rw [rds, if_pos hx]; dsimp only; exact h1
  ·rw [rds, if_neg hx]; exact ih _ _ h1
theorem lOk_hread {s : LSt} (h : lOk s) : lOk (hread s).2 := by
 unfold hread
 split
 ·exact lOk_fail (lOk_raw h _) _
 ·exact lOk_rds _ _ _ (lOk_raw h _)

/-! ### what was written is read -/
theorem lOut_front (a r : List UInt8) (n : Nat) (h : a.length = n) : lOut (a ++ r) n = a := by
 rw [lOut_of (by rw [List.length_append]; omega), List.take_left' h]
theorem lRaw_front (a r : List UInt8) (e : Int) (n : Nat) (h : a.length = n) : lRaw (a ++ r, e) n = (r, e) := by
 rw [lRaw_of (by rw [List.length_append]; omega), List.drop_left' h]
theorem val_be_at (k n : Nat) (h : n < 256 ^ k) : Oct.val (Oct.be k n) = n := by rw [Oct.val_be, Nat.mod_eq_of_lt h]
theorem bad_ok {p : Pr} (h : bad p = 0) : Wrd.nameCode p.key = 0 ∧ p.kind ≤ 2 ∧ (p.kind = 1 → p.txt.length ≤ 64 ∧ p.num = 0) ∧ (p.kind = 2 → p.num = 0 ∨ p.num = 1) ∧ (p.kind ≠ 1 → p.txt = []) := by
 unfold bad at h
 by_cases h1 : Wrd.nameCode p.key = 0
 ·rw [if_neg (by omega)] at h
  by_cases h2 : 2 < p.kind
  ·rw [if_pos h2] at h; omega
  ·rw [if_neg h2] at h
   by_cases h3 : p.kind = 1 ∧ 64 < p.txt.length
   ·rw [if_pos h3] at h; omega
   ·rw [if_neg h3] at h
    by_cases h4 : p.kind = 2 ∧ p.num ≠ 0 ∧ p.num ≠ 1
    ·rw [if_pos h4] at h; omega
    ·rw [if_neg h4] at h
     by_cases h5 : (p.kind ≠ 1 ∧ p.txt ≠ []) ∨ (p.kind = 1 ∧ p.num ≠ 0)
     ·rw [if_pos h5] at h; omega
     ·refine ⟨h1, by omega, fun hk => ⟨by omega, ?_⟩, fun hk => by omega, fun hk => ?_⟩
      ·exact Decidable.byContradiction fun hn => h5 (Or.inr ⟨hk, hn⟩)
      ·exact Decidable.byContradiction fun hn => h5 (Or.inl ⟨hk, hn⟩)
 ·rw [if_pos h1] at h; exact absurd h h1
theorem name_ok_len {k : List UInt8} (h : Wrd.nameCode k = 0) : k.length ≤ 16 ∧ k ≠ [] := by
 unfold Wrd.nameCode at h
 by_cases h0 : k.length = 0
 ·rw [if_pos h0] at h; omega
 ·rw [if_neg h0] at h
  by_cases h1 : 16 < k.length
  ·rw [if_pos h1] at h; omega
  ·exact ⟨by omega, fun e => h0 (by rw [e]; rfl)⟩
theorem pcode_ok {p : Pr} {l : List Pr} (h : pcode p l = 0) : bad p = 0 ∧ there l p.key = false := by
 unfold pcode at h
 by_cases h1 : bad p = 0
 ·rw [if_neg (by omega)] at h
  refine ⟨h1, ?_⟩
  cases ht : there l p.key with
  | false => rfl
  | true => rw [ht] at h; simp at h
 ·rw [if_pos h1] at h; exact absurd h h1
theorem hcode_ok {l : List Pr} (h : hcode l = 0) : l.length ≤ 8 ∧ ∀ i, i < l.length → pcode (pr l i) (l.take i) = 0 := by
 unfold hcode at h
 by_cases h8 : 8 < l.length
 ·rw [if_pos h8] at h; omega
 ·rw [if_neg h8] at h
  exact ⟨by omega, scan_none h⟩
theorem rd1_fits (s : LSt) : Fits (rd1 s).1 := by
 have h8 : ∀ r, Oct.val (lOut r 8) < 18446744073709551616 := fun r => Nat.lt_of_lt_of_le (val_out_lt r 8) (by decide)
 have h1 : ∀ r, Oct.val (lOut r 1) < 256 := fun r => Nat.lt_of_lt_of_le (val_out_lt r 1) (by decide)
 unfold rd1
 simp only
 split
 ·have := h8 (lRaw (lText s 16) 1).1
  exact ⟨by simp, by simp only [i64]; split <;> omega, by simp only [i64]; split <;> omega⟩
 ·split
  ·exact ⟨by simp, by simp, by simp⟩
  ·split
   ·have := h1 (lRaw (lText s 16) 1).1
    exact ⟨by simp, by simp only [i64]; split <;> omega, by simp only [i64]; split <;> omega⟩
   ·exact ⟨h1 _, by simp, by simp⟩
theorem rds_fits : ∀ (n : Nat) (h : List Pr) (s : LSt), (∀ p ∈ h, Fits p) → ∀ p ∈ (rds n h s).1, Fits p
 | 0, _, _, hf => hf
 | n + 1, h, s, hf => by
  unfold rds
  split
  ·intro p hp; simp at hp
  ·refine rds_fits n _ _ fun p hp => ?_
   rcases List.mem_append.1 hp with hp | hp
   ·exact hf p hp
   ·rw [List.mem_singleton] at hp; subst hp; exact rd1_fits s
theorem hread_fits (s : LSt) : ∀ p ∈ (hread s).1, Fits p := by
 unfold hread
 split
 ·intro p hp; simp at hp
 ·exact rds_fits _ _ _ fun p hp => by simp at hp
theorem rds_len : ∀ (n : Nat) (h : List Pr) (s : LSt), (rds n h s).1.length ≤ h.length + n
 | 0, _, _ => Nat.le_refl _
 | n + 1, h, s => by
  unfold rds
  split
  ·simp
  ·have := rds_len n (h ++ [(rd1 s).1]) (lFail (rd1 s).2 (pcode (rd1 s).1 h))
   rw [List.length_append, List.length_singleton] at this
   omega
theorem hread_len (s : LSt) : (hread s).1.length ≤ 8 := by
 unfold hread
 split
 ·simp
 ·have := rds_len (Oct.val (lOut s.1 1)) [] (lRaw s 1)
  simp at this
  omega
end Go.Proofs.YtaikigponkjkgaaGreatDoor.Hd
end
section
namespace Go.Proofs.YtaikigponkjkgaaGreatDoor
structure Sh where
 name : List UInt8
 sort : Nat
 to : List UInt8
deriving DecidableEq
structure Bd where
 shop : List UInt8
 to : List UInt8
 up : Bool
 key : List UInt8
 want : List Hd.Pr
 all : Bool
deriving DecidableEq
structure Bk where
 shops : List Sh
 binds : List Bd
deriving DecidableEq
namespace Bk
def Sh0 : Sh := ⟨[], 0, []⟩
def Bd0 : Bd := ⟨[], [], false, [], [], false⟩
def empty : Bk := ⟨[], []⟩
def kcode (sort : Nat) (x : Bd) : Nat := if sort = 0 then Wrd.keyCode [] x.key else Wrd.keyCode [Wrd.star, Wrd.hash] x.key
def rcode (sort : Nat) (x : Bd) : Nat := if 3 < sort then 8 else if kcode sort x ≠ 0 then kcode sort x else Hd.hcode x.want
def scode (x : Sh) : Nat :=
 if Wrd.nameCode x.name ≠ 0 then Wrd.nameCode x.name else
 if 4 < x.sort then 8 else
 if x.sort = 4 then Wrd.nameCode x.to else
 if x.to ≠ [] then 4 else 0
def shop (b : Bk) (name : List UInt8) : Option Sh := b.shops.find? fun x => x.name == name
def make (b : Bk) (x : Sh) : Bk × Nat :=
 if scode x ≠ 0 then (b, scode x) else
 match b.shop x.name with
 | some y => if y = x then (b, 0) else (b, 9)
 | none => if 8 ≤ b.shops.length then (b, 12) else (⟨b.shops ++ [x], b.binds⟩, 0)
def drop (b : Bk) (name : List UInt8) : Bk × Nat :=
 match b.shop name with
 | some _ => (⟨b.shops.filter fun x => !(x.name == name), b.binds.filter fun x => !(x.shop == name)⟩, 0)
 | none => (b, 10)
def bcode (b : Bk) (x : Bd) : Nat :=
 match b.shop x.shop with
 | none => 10
 | some s => if s.sort = 4 then 8 else if Wrd.nameCode x.to ≠ 0 then Wrd.nameCode x.to else rcode s.sort x
def bind (b : Bk) (x : Bd) : Bk × Nat :=
 if bcode b x ≠ 0 then (b, bcode b x) else
 if x ∈ b.binds then (b, 0) else
 if 32 ≤ b.binds.length then (b, 12) else (⟨b.shops, b.binds ++ [x]⟩, 0)
def unbind (b : Bk) (x : Bd) : Bk × Nat :=
 if x ∈ b.binds then (⟨b.shops, b.binds.filter fun y => !(decide (x = y))⟩, 0) else (b, 10)
def forget (b : Bk) (q : List UInt8) : Bk := ⟨b.shops, b.binds.filter fun y => y.up || !(y.to == q)⟩
def put (l : List (List UInt8)) (s : List UInt8) : List (List UInt8) := if s ∈ l then l else l ++ [s]

structure Ok (b : Bk) : Prop where
 shops : ∀ x ∈ b.shops, scode x = 0
 len : b.shops.length ≤ 8
 once : b.shops.Pairwise fun x y => x.name ≠ y.name
 binds : ∀ x ∈ b.binds, bcode b x = 0
 blen : b.binds.length ≤ 32
theorem Ok.empty : Ok empty := ⟨by simp [Bk.empty], by simp [Bk.empty], by simp [Bk.empty], by simp [Bk.empty], by simp [Bk.empty]⟩
theorem shop_mem {b : Bk} {n : List UInt8} {s : Sh} (h : b.shop n = some s) : s ∈ b.shops ∧ s.name = n := by
 unfold shop at h
 exact ⟨List.mem_of_find?_eq_some h, by simpa using List.find?_some h⟩
theorem make_first {b : Bk} (hb : Ok b) (x : Sh) : make b x = if b.shop x.name = some x then (b, 0) else if scode x ≠ 0 then (b, scode x) else if (b.shop x.name).isSome then (b, 9) else if 8 ≤ b.shops.length then (b, 12) else (⟨b.shops ++ [x], b.binds⟩, 0) := by
 unfold make
 by_cases h : b.shop x.name = some x
 ·rw [if_pos h, if_neg (by have := hb.shops x (shop_mem h).1; omega), h]
  simp
 ·rw [if_neg h]
  by_cases hs : scode x = 0
  ·have hn : ¬ scode x ≠ 0 := fun g => g hs
   rw [if_neg hn, if_neg hn]
   cases hf : b.shop x.name with
   | none => simp
   | some y =>
    have : ¬ y = x := fun e => h (by rw [hf, e])
    simp [this]
  ·rw [if_pos hs, if_pos hs]
theorem bind_first {b : Bk} (hb : Ok b) (x : Bd) : bind b x = if x ∈ b.binds then (b, 0) else if bcode b x ≠ 0 then (b, bcode b x) else if 32 ≤ b.binds.length then (b, 12) else (⟨b.shops, b.binds ++ [x]⟩, 0) := by
 unfold bind
 by_cases h : x ∈ b.binds
 ·rw [if_pos h, if_neg (by have := hb.binds x h; omega), if_pos h]
 ·rw [if_neg h, if_neg h]
theorem shop_app {b : Bk} {x : Sh} {n : List UInt8} {s : Sh} (h : b.shop n = some s) : (⟨b.shops ++ [x], b.binds⟩ : Bk).shop n = some s := by
 unfold shop at h ⊢
 rw [List.find?_append, h]
 rfl
theorem bcode_shop {b c : Bk} {x : Bd} (h : c.shop x.shop = b.shop x.shop) : bcode c x = bcode b x := by unfold bcode; rw [h]
theorem Ok.make {b : Bk} (hb : Ok b) (x : Sh) : Ok (b.make x).1 := by
 unfold Bk.make
 by_cases hs : scode x = 0
 ·rw [if_neg (by omega)]
  cases hf : b.shop x.name with
  | some y => dsimp only; split <;> exact hb
  | none =>
   dsimp only
   by_cases h8 : 8 ≤ b.shops.length
   ·rw [if_pos h8]; exact hb
   ·rw [if_neg h8]
    refine ⟨fun y hy => ?_, ?_, ?_, fun y hy => ?_, hb.blen⟩
    ·rcases List.mem_append.1 hy with hy | hy
     ·exact hb.shops y hy
     ·rw [List.mem_singleton] at hy; rw [hy]; exact hs
    ·show (b.shops ++ [x]).length ≤ 8
     rw [List.length_append, List.length_singleton]; omega
    ·show (b.shops ++ [x]).Pairwise _
     rw [List.pairwise_append]
     refine ⟨hb.once, by simp, fun y hy z hz => ?_⟩
     rw [List.mem_singleton] at hz
     subst hz
     unfold shop at hf
     rw [List.find?_eq_none] at hf
     simpa using hf y hy
    ·have h0 := hb.binds y hy
     cases hy2 : b.shop y.shop with
     | none => unfold bcode at h0; rw [hy2] at h0; dsimp only at h0; omega
     | some s => rw [bcode_shop ((shop_app hy2).trans hy2.symm)]; exact h0
 ·rw [if_pos hs]; exact hb
theorem shop_drop {b : Bk} {n m : List UInt8} (h : m ≠ n) (l : List Bd) : (⟨b.shops.filter fun x => !(x.name == n), l⟩ : Bk).shop m = b.shop m := by
 unfold shop
 rw [List.find?_filter]
 congr 1
 funext x
 by_cases e : x.name = m
 ·simp [e, h]
 ·simp [e]
theorem Ok.drop {b : Bk} (hb : Ok b) (n : List UInt8) : Ok (b.drop n).1 := by
 unfold Bk.drop
 cases hf : b.shop n with
 | none => exact hb
 | some s =>
  refine ⟨fun y hy => hb.shops y (List.mem_filter.1 hy).1, Nat.le_trans (List.length_filter_le _ _) hb.len, hb.once.filter _, fun y hy => ?_, Nat.le_trans (List.length_filter_le _ _) hb.blen⟩
  have hm := List.mem_filter.1 hy
  have hne : y.shop ≠ n := by simpa using hm.2
  exact (bcode_shop (shop_drop hne _)).trans (hb.binds y hm.1)
theorem Ok.bind {b : Bk} (hb : Ok b) (x : Bd) : Ok (b.bind x).1 := by
 unfold Bk.bind
 by_cases hs : bcode b x = 0
 ·rw [if_neg (by omega)]
  by_cases hx : x ∈ b.binds
  ·rw [if_pos hx]; exact hb
  ·rw [if_neg hx]
   by_cases h32 : 32 ≤ b.binds.length
   ·rw [if_pos h32]; exact hb
   ·rw [if_neg h32]
    refine ⟨hb.shops, hb.len, hb.once, fun y hy => ?_, ?_⟩
    ·rcases List.mem_append.1 hy with hy | hy
     ·exact hb.binds y hy
     ·rw [List.mem_singleton] at hy; rw [hy]; exact hs
    ·show (b.binds ++ [x]).length ≤ 32
     rw [List.length_append, List.length_singleton]; omega
 ·rw [if_pos hs]; exact hb
theorem Ok.some_binds {b : Bk} (hb : Ok b) (p : Bd → Bool) : Ok ⟨b.shops, b.binds.filter p⟩ :=
 ⟨hb.shops, hb.len, hb.once, fun y hy => (bcode_shop rfl).trans (hb.binds y (List.mem_filter.1 hy).1), Nat.le_trans (List.length_filter_le _ _) hb.blen⟩
theorem Ok.unbind {b : Bk} (hb : Ok b) (x : Bd) : Ok (b.unbind x).1 := by
 unfold Bk.unbind
 split
 ·exact hb.some_binds _
 ·exact hb
theorem Ok.forget {b : Bk} (hb : Ok b) (q : List UInt8) : Ok (b.forget q) := hb.some_binds _
end Bk
end Go.Proofs.YtaikigponkjkgaaGreatDoor
end
