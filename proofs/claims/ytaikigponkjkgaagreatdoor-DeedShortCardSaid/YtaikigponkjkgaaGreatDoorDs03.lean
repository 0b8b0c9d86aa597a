/-
  OCTET's OTHER CALLS, walked: a text that is read, what is left, the error; a text that is too long. PLAIN: a list of bytes as a text. No program is spoken of here. OCTET's CALLS over lists of bytes: what is written, what is read.
-/
import Derived.Test.YtaikigponkjkgaaGreatDoorDs02
import Derived.WalkKit
section
namespace Go.Proofs.YtaikigponkjkgaaGreatDoor
open Go.ChangeShapes Go.WideShapes Go.ChangeAt Go.RowKit
set_option maxHeartbeats 400000 in
theorem left_any (b : Nat) (r : ByteArray) (e : Int) (w : World) (h : InAt b r e w) :
    Calls Tryz.prog 63 #[.pointer (some ⟨b, 0, none⟩)] w fun x w' => x = .returned (.int .i64 (r.size : Int)) ∧ w = w' := by
  have c0 := h.c0
  clear h
  go_enter Tryz.func63, Tryz.ntmps63
  go_wp2_with fail
  go_ret
  exact ⟨rfl, rfl⟩
set_option maxHeartbeats 400000 in
theorem err_any (b : Nat) (r : ByteArray) (e : Int) (w : World) (h : InAt b r e w) :
    Calls Tryz.prog 64 #[.pointer (some ⟨b, 0, none⟩)] w fun x w' => x = .returned (.int .i64 e) ∧ w = w' := by
  have c1 := h.c1
  clear h
  go_enter Tryz.func64, Tryz.ntmps64
  go_wp2_with fail
  go_ret
  exact ⟨rfl, rfl⟩
/-- what an object that reads has: what is left, and the error -/
abbrev St := ByteArray × Int
def St.ok (s : St) : Prop := s.2 ≠ 0 → s.1 = ByteArray.empty
def sRaw (s : St) (n : Int) : St := (rawRest s.1 n, rawErr s.1 s.2 n)
def sFail (s : St) (c : Int) : St := (failRest s.1 s.2 c, failErr s.2 c)
def sLen (s : St) : Nat := numVal (rawOut s.1 (2 : Nat))
def sMid (s : St) (most : Int) : St := if most < (sLen s : Int) then sFail (sRaw s (2 : Nat)) 5 else sRaw s (2 : Nat)
def sText (s : St) (most : Int) : St := sRaw (sMid s most) (sLen s)
def oText (s : St) (most : Int) : ByteArray := rawOut (sMid s most).1 (sLen s)
theorem ok_raw {s : St} (h : s.ok) (n : Int) : (sRaw s n).ok := by
  intro he
  unfold sRaw at *
  simp only at *
  unfold rawRest
  split
  · rename_i hn
    apply h
    unfold rawErr at he
    rw [if_neg (by omega)] at he
    exact he
  · split
    · rfl
    · rename_i hn hs
      unfold rawErr at he
      rw [if_neg (by omega)] at he
      have := h he
      rw [this] at hs
      simp at hs
      omega
theorem ok_fail {s : St} (h : s.ok) (c : Int) : (sFail s c).ok := by
  intro he
  unfold sFail at *
  simp only at *
  unfold failRest
  split
  · rename_i hc
    unfold failErr at he
    rw [if_pos hc] at he
    exact h he
  · rfl
theorem ok_mid {s : St} (h : s.ok) (m : Int) : (sMid s m).ok := by
  unfold sMid
  split
  · exact ok_fail (ok_raw h _) _
  · exact ok_raw h _
theorem sLen_lt (s : St) : sLen s < 65536 := by
  unfold sLen numVal
  have h := Oct.val_lt (rawOut s.1 (2 : Nat)).data.toList
  have h2 := rawOut_size s.1 2
  refine Nat.lt_of_lt_of_le h ?_
  have hlen : (rawOut s.1 (2 : Nat)).data.toList.length ≤ 2 := by simpa using h2
  exact Nat.pow_le_pow_right (n := 256) (by decide) hlen
theorem post_trans {b : Nat} {w w1 w2 : World} (h1 : w.grownBy w1 (some b)) (h2 : w1.grownBy w2 (some b)) : w.grownBy w2 (some b) := h1.trans h2

set_option maxHeartbeats 1000000 in
theorem itext_any (b : Nat) (s : St) (m : Int) (w : World) (h : InAt b s.1 s.2 w) (hok : s.ok) :
    Calls Tryz.prog 61 #[.pointer (some ⟨b, 0, none⟩), .int .i64 m] w (Post b w (.string (oText s m)) (sText s m).1 (sText s m).2) := by
  have hn : Calls Tryz.prog 26 #[.pointer (some ⟨b, 0, none⟩), .int .i64 2] w (Post b w (.int .u64 ((sLen s : Nat) : Int)) (sRaw s (2 : Nat)).1 (sRaw s (2 : Nat)).2) := inum_any b s.1 s.2 2 w h hok
  have hL := sLen_lt s
  have hok2 := ok_mid hok m
  have hr : ∀ W, InAt b (sMid s m).1 (sMid s m).2 W → Calls Tryz.prog 56 #[.pointer (some ⟨b, 0, none⟩), .int .i64 (sLen s : Int)] W (Post b W (.string (oText s m)) (sText s m).1 (sText s m).2) := fun W hW =>
    iraw_any b (sMid s m).1 (sMid s m).2 (sLen s) W hW hok2
  have hf : ∀ W, InAt b (sRaw s (2 : Nat)).1 (sRaw s (2 : Nat)).2 W → Calls Tryz.prog 94 #[.pointer (some ⟨b, 0, none⟩), .int .i64 5] W (Post b W (.tuple #[]) (sFail (sRaw s (2 : Nat)) 5).1 (sFail (sRaw s (2 : Nat)) 5).2) := fun W hW =>
    fail_any b _ _ 5 W hW
  have e : sMid s m = if m < (sLen s : Int) then sFail (sRaw s (2 : Nat)) 5 else sRaw s (2 : Nat) := rfl
  generalize sMid s m = mid at *
  generalize sText s m = fin at *
  generalize oText s m = out at *
  generalize sLen s = L at *
  generalize sRaw s (2 : Nat) = one at *
  have HN := Lib.hid hn
  have HF := Lib.hid hf
  have HR := Lib.hid hr
  clear h hn hok hok2 hr hf
  by_cases hm : m < (L : Int)
  · rw [if_pos hm] at e
    have EE := Lib.hid e
    clear e
    go_enter Tryz.func61, Tryz.ntmps61
    go_wp2_with fail
    refine HN.out.mono ?_
    rintro x w1 ⟨rfl, h1, g1⟩
    have H1 := Lib.hid h1
    have G1 := Lib.hid g1
    clear h1 g1
    go_wp2_with fail
    refine (HF.out _ H1.out).mono ?_
    rintro x w2 ⟨rfl, h2, g2⟩
    have H2 := Lib.hid h2
    have G2 := Lib.hid g2
    clear h2 g2
    go_wp2_with fail
    refine (HR.out _ (by rw [EE.out]; exact H2.out)).mono ?_
    rintro x w3 ⟨rfl, h3, g3⟩
    have H3 := Lib.hid h3
    have G3 := Lib.hid g3
    clear h3 g3
    go_wp2_with fail
    go_ret
    exact ⟨rfl, H3.out, post_trans (post_trans G1.out G2.out) G3.out⟩
  · rw [if_neg hm] at e
    have EE := Lib.hid e
    clear e
    go_enter Tryz.func61, Tryz.ntmps61
    go_wp2_with fail
    refine HN.out.mono ?_
    rintro x w1 ⟨rfl, h1, g1⟩
    have H1 := Lib.hid h1
    have G1 := Lib.hid g1
    clear h1 g1
    go_wp2_with fail
    refine (HR.out _ (by rw [EE.out]; exact H1.out)).mono ?_
    rintro x w3 ⟨rfl, h3, g3⟩
    have H3 := Lib.hid h3
    have G3 := Lib.hid g3
    clear h3 g3
    go_wp2_with fail
    go_ret
    exact ⟨rfl, H3.out, post_trans G1.out G3.out⟩

/-! ### the examples -/
end Go.Proofs.YtaikigponkjkgaaGreatDoor
end
section
namespace Go.Proofs.YtaikigponkjkgaaGreatDoor
/-- bytes as a text -/
def ofL (l : List UInt8) : ByteArray := ⟨l.toArray⟩
theorem ofL_toList (s : ByteArray) : ofL s.data.toList = s := by
  unfold ofL; rw [Array.toArray_toList]
theorem toList_ofL (l : List UInt8) : (ofL l).data.toList = l := rfl
theorem ofL_size (l : List UInt8) : (ofL l).size = l.length := by
  show l.toArray.size = _; rw [List.size_toArray]
theorem list_extract (s : ByteArray) (i j : Nat) : (s.extract i j).data.toList = (s.data.toList.drop i).take (j - i) := by
  rw [ByteArray.data_extract, Array.toList_extract, List.extract_eq_take_drop]
theorem extract_drop (s : ByteArray) (k : Nat) : s.extract k s.size = ofL (s.data.toList.drop k) := by
  rw [← ofL_toList (s.extract k s.size), list_extract, List.take_of_length_le]
  rw [List.length_drop]; exact Nat.le_refl _
theorem ofL_app (a b : List UInt8) : ofL a ++ ofL b = ofL (a ++ b) := by
  apply ByteArray.ext
  rw [ByteArray.data_append]
  show a.toArray ++ b.toArray = (a ++ b).toArray
  simp
theorem ofL_str (x : List UInt8) : (ofL x).toList = x := by rw [ByteArray.toList_eq]; rfl
theorem slice_to_l {P : Program} {t : TypeId} (ht : P.underlying t = some .string) (l : List UInt8) (k : IntKind) (j : Int) (b : Nat) (hj : j = (b : Int)) (h2 : b ≤ l.length) (W : World) :
    (Instr.slice t (.string (ofL l)) none (some (.int k j)) none).run P W = .ok (.string (ofL (l.take b))) W := by
  subst hj
  have hz := ofL_size l
  rw [run_slice_string_to_if W t (ofL l) k (b : Int) ht, if_pos ⟨by omega, by omega⟩, Int.toNat_natCast, ← ofL_toList ((ofL l).extract 0 b), list_extract, toList_ofL]
  simp
end Go.Proofs.YtaikigponkjkgaaGreatDoor
end
section
namespace Go.Proofs.YtaikigponkjkgaaGreatDoor
open Go.ChangeShapes Go.WideShapes Go.ChangeAt Go.RowKit
/-! ### what a reader has, as lists -/
abbrev LSt := List UInt8 × Int
def lOut (r : List UInt8) (n : Nat) : List UInt8 := if r.length < n then [] else r.take n
def lRaw (s : LSt) (n : Nat) : LSt := if s.1.length < n then ([], if s.2 = 0 then 3 else s.2) else (s.1.drop n, s.2)
def lFail (s : LSt) (c : Int) : LSt := if c = 0 ∨ s.2 ≠ 0 then s else ([], c)
def lLen (s : LSt) : Nat := Oct.val (lOut s.1 2)
def lMid (s : LSt) (m : Int) : LSt := if m < (lLen s : Int) then lFail (lRaw s 2) 5 else lRaw s 2
def lText (s : LSt) (m : Int) : LSt := lRaw (lMid s m) (lLen s)
def lTextOut (s : LSt) (m : Int) : List UInt8 := lOut (lMid s m).1 (lLen s)
def lEnd (s : LSt) : Int := if 0 < s.1.length then 4 else s.2
def lOk (s : LSt) : Prop := s.2 ≠ 0 → s.1 = []
theorem lOk_new (l : List UInt8) : lOk (l, 0) := fun h => absurd rfl h
theorem lOk_raw {s : LSt} (h : lOk s) (n : Nat) : lOk (lRaw s n) := by
  intro he
  unfold lRaw at *
  split at he
  · rw [if_pos (by assumption)]
  · rw [if_neg (by assumption)]
    simp only at he ⊢
    rw [h he, List.drop_nil]
theorem lOk_fail {s : LSt} (h : lOk s) (c : Int) : lOk (lFail s c) := by
  intro he
  unfold lFail at *
  split at he
  · rw [if_pos (by assumption)]; exact h he
  · rw [if_neg (by assumption)]
theorem lOk_mid {s : LSt} (h : lOk s) (m : Int) : lOk (lMid s m) := by
  unfold lMid
  split
  · exact lOk_fail (lOk_raw h _) _
  · exact lOk_raw h _
theorem lOk_text {s : LSt} (h : lOk s) (m : Int) : lOk (lText s m) := lOk_raw (lOk_mid h m) _
theorem lOut_of {r : List UInt8} {n : Nat} (h : n ≤ r.length) : lOut r n = r.take n := by unfold lOut; rw [if_neg (by omega)]
theorem lRaw_of {r : List UInt8} {e : Int} {n : Nat} (h : n ≤ r.length) : lRaw (r, e) n = (r.drop n, e) := by unfold lRaw; rw [if_neg (by simp only; omega)]
theorem lOut_le (r : List UInt8) (n : Nat) : (lOut r n).length ≤ n := by
  unfold lOut
  split
  · simp
  · rw [List.length_take]; omega
theorem val_out_lt (r : List UInt8) (n : Nat) : Oct.val (lOut r n) < 256 ^ n :=
  Nat.lt_of_lt_of_le (Oct.val_lt _) (Nat.pow_le_pow_right (n := 256) (by decide) (lOut_le r n))
/-! ### as bytes -/
theorem ofL_take (l : List UInt8) (n : Nat) : (ofL l).extract 0 n = ofL (l.take n) := by
  rw [← ofL_toList ((ofL l).extract 0 n), list_extract]
  simp [toList_ofL]
theorem ofL_drop (l : List UInt8) (n : Nat) : (ofL l).extract n (ofL l).size = ofL (l.drop n) := extract_drop (ofL l) n
theorem rawOut_l (r : List UInt8) (n : Nat) : rawOut (ofL r) (n : Int) = ofL (lOut r n) := by
  unfold rawOut lOut
  rw [ofL_size]
  by_cases h0 : n = 0
  · subst h0
    rw [if_pos (by simp), if_neg (by omega), List.take_zero]; rfl
  · rw [if_neg (by omega)]
    by_cases hs : r.length < n
    · rw [if_pos (by omega), if_pos hs]; rfl
    · rw [if_neg (by omega), if_neg hs, Int.toNat_natCast, ofL_take]
theorem rawRest_l (r : List UInt8) (e : Int) (n : Nat) : rawRest (ofL r) (n : Int) = ofL (lRaw (r, e) n).1 := by
  unfold rawRest lRaw
  rw [ofL_size]
  by_cases h0 : n = 0
  · subst h0
    rw [if_pos (by simp), if_neg (by simp)]
    simp
  · rw [if_neg (by omega)]
    by_cases hs : r.length < n
    · rw [if_pos (by omega), if_pos hs]; rfl
    · rw [if_neg (by omega), if_neg hs, Int.toNat_natCast]
      have := ofL_drop r n
      rw [ofL_size] at this
      exact this
theorem rawErr_l (r : List UInt8) (e : Int) (n : Nat) : rawErr (ofL r) e (n : Int) = (lRaw (r, e) n).2 := by
  unfold rawErr lRaw
  rw [ofL_size]
  by_cases hs : r.length < n
  · rw [if_pos hs]
    simp only
    by_cases he : e = 0
    · rw [if_pos ⟨by omega, by omega, he⟩, if_pos he]
    · rw [if_neg (by omega), if_neg he]
  · rw [if_neg (by omega), if_neg hs]
theorem sRaw_l (r : List UInt8) (e : Int) (n : Nat) : sRaw (ofL r, e) (n : Int) = (ofL (lRaw (r, e) n).1, (lRaw (r, e) n).2) := by
  unfold sRaw
  simp only
  rw [rawRest_l r e n, rawErr_l]
theorem sFail_l (r : List UInt8) (e c : Int) : sFail (ofL r, e) c = (ofL (lFail (r, e) c).1, (lFail (r, e) c).2) := by
  unfold sFail failRest failErr lFail
  simp only
  split <;> rfl
theorem sLen_l (r : List UInt8) (e : Int) : sLen (ofL r, e) = lLen (r, e) := by
  unfold sLen lLen numVal
  simp only
  rw [rawOut_l, toList_ofL]
theorem sMid_l (r : List UInt8) (e m : Int) : sMid (ofL r, e) m = (ofL (lMid (r, e) m).1, (lMid (r, e) m).2) := by
  unfold sMid lMid
  rw [sLen_l, sRaw_l]
  split
  · rw [sFail_l]
  · rfl
theorem sText_l (r : List UInt8) (e m : Int) : sText (ofL r, e) m = (ofL (lText (r, e) m).1, (lText (r, e) m).2) := by
  unfold sText lText
  rw [sLen_l, sMid_l, sRaw_l]
theorem oText_l (r : List UInt8) (e m : Int) : oText (ofL r, e) m = ofL (lTextOut (r, e) m) := by
  unfold oText lTextOut
  rw [sLen_l, sMid_l, rawOut_l]
theorem ok_l {s : LSt} (h : lOk s) : St.ok (ofL s.1, s.2) := fun he => by
  show ofL s.1 = _
  rw [h he]; rfl

/-- a reader lies in block b -/
def InL (b : Nat) (s : LSt) (w : World) : Prop := InAt b (ofL s.1) s.2 w
def PostL (b : Nat) (w : World) (v : Value) (s : LSt) (x : Ending) (w' : World) : Prop := x = .returned v ∧ InL b s w' ∧ w.grownBy w' (some b)
theorem inum_l (b : Nat) (s : LSt) (k : Nat) (n : Int) (w : World) (hk : k ≤ 8) (hn : n = (k : Int)) (h : InL b s w) (hok : lOk s) :
    Calls Tryz.prog 26 #[.pointer (some ⟨b, 0, none⟩), .int .i64 n] w (PostL b w (.int .u64 ((Oct.val (lOut s.1 k) : Nat) : Int)) (lRaw s k)) := by
  subst hn
  obtain ⟨r, e⟩ := s
  refine (inum_any b (ofL r) e (k : Int) w h (fun he => by have h0 : r = [] := hok he; rw [h0]; rfl)).mono ?_
  rintro x w' ⟨hx, h1, h2⟩
  rw [Oct.width_num k hk] at hx h1
  rw [rawOut_l] at hx
  rw [rawRest_l r e k, rawErr_l] at h1
  exact ⟨hx, h1, h2⟩
theorem itext_l (b : Nat) (s : LSt) (m : Int) (w : World) (h : InL b s w) (hok : lOk s) :
    Calls Tryz.prog 61 #[.pointer (some ⟨b, 0, none⟩), .int .i64 m] w (PostL b w (.string (ofL (lTextOut s m))) (lText s m)) := by
  obtain ⟨r, e⟩ := s
  refine (itext_any b (ofL r, e) m w h (ok_l hok)).mono ?_
  rintro x w' ⟨hx, h1, h2⟩
  rw [oText_l] at hx
  rw [sText_l] at h1
  exact ⟨hx, h1, h2⟩
theorem ierr_l (b : Nat) (s : LSt) (w : World) (h : InL b s w) :
    Calls Tryz.prog 64 #[.pointer (some ⟨b, 0, none⟩)] w fun x w' => x = .returned (.int .i64 s.2) ∧ w = w' := err_any b (ofL s.1) s.2 w h
theorem inew_l (l : List UInt8) (w : World) :
    Calls Tryz.prog 25 #[.string (ofL l)] w fun x w' => x = .returned (.pointer (some ⟨w.heap.size, 0, none⟩)) ∧ InL w.heap.size (l, 0) w' ∧ Below w.heap.size w w' := by
  refine (new_any (ofL l) w).mono ?_
  rintro x w' ⟨rfl, rfl⟩
  exact ⟨rfl, ⟨cell_new _ _ _ _ _ rfl, cell_new _ _ _ _ _ rfl, fun j => free_new _ _ _ _ _ rfl, by simp⟩, (Below.refl _ _).alloc (Nat.le_refl _) _⟩
theorem below_in {B b : Nat} {w w1 w2 : World} (h : Below B w w1) (g : w1.grownBy w2 (some b)) (hB : B ≤ w1.heap.size) (hb : B ≤ b) : Below B w w2 :=
  h.grown g hB (fun k hk => by injection hk with hk; omega)

/-! ### what is written -/
theorem num_l (x : List UInt8) (n k : Nat) (b : Int) (w : World) (hn : n < 18446744073709551616) (hk : k ≤ 8) (hb : b = (k : Int)) (hx : x.length ≤ 1000000) :
    Calls Tryz.prog 19 #[.agg #[.string (ofL x), .int .i64 0], .int .u64 (n : Int), .int .i64 b] w fun e w' => e = .returned (.agg #[.string (ofL (x ++ Oct.be k n)), .int .i64 0]) ∧ Below w.heap.size w w' := by
  subst hb
  have h := num_any (ofL x) 0 n (k : Int) w hn (by rw [ofL_size]; exact hx)
  rw [Oct.width_num k hk] at h
  rw [show ofL x ++ ByteArray.mk (Oct.be k n).toArray = ofL (x ++ Oct.be k n) from ofL_app _ _] at h
  exact h
theorem text_l (x s : List UInt8) (w : World) (hx : x.length ≤ 900000) (hs : s.length ≤ 65535) :
    Calls Tryz.prog 35 #[.agg #[.string (ofL x), .int .i64 0], .string (ofL s)] w fun e w' => e = .returned (.agg #[.string (ofL (x ++ (Oct.be 2 s.length ++ s))), .int .i64 0]) ∧ Below w.heap.size w w' := by
  have h := text_any (ofL x) (ofL s) 0 w (by rw [ofL_size]; exact hx) (by rw [ofL_size]; exact hs)
  have e : ofL x ++ textB (ofL s) = ofL (x ++ (Oct.be 2 s.length ++ s)) := by
    unfold textB
    rw [ofL_size, show ByteArray.mk (Oct.be 2 s.length).toArray = ofL (Oct.be 2 s.length) from rfl, ofL_app, ofL_app]
  rw [e] at h
  exact h
theorem raw_l (x s : List UInt8) (w : World) (hx : x.length ≤ 1000000) (hs : s.length ≤ 1000000) :
    Calls Tryz.prog 44 #[.agg #[.string (ofL x), .int .i64 0], .string (ofL s)] w fun e w' => e = .returned (.agg #[.string (ofL (x ++ s)), .int .i64 0]) ∧ Below w.heap.size w w' := by
  have h := raw_any (ofL x) (ofL s) 0 w (by rw [ofL_size]; exact hx) (by rw [ofL_size]; exact hs)
  rw [ofL_app] at h
  exact h
end Go.Proofs.YtaikigponkjkgaaGreatDoor
end
