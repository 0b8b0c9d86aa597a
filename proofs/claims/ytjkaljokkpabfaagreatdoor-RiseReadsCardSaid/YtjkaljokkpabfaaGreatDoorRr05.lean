/-
  THE LAST ONES of a row; notes as plain lists. PLAIN: names, words with points between, patterns. No program is spoken of here. OCTET's OTHER CALLS, walked: a text that is read, what is left, the error; a text that is too long.
-/
import Derived.Test.YtjkaljokkpabfaaGreatDoorRr01
import Derived.Test.YtjkaljokkpabfaaGreatDoorRr02
import Derived.Lib.Join
section
namespace Go.Proofs.YtjkaljokkpabfaaGreatDoor
/-! ### the last n of a row -/
def lastN {α : Type} (n : Nat) (l : List α) : List α := l.drop (l.length - n)
theorem lastN_len {α : Type} (n : Nat) (l : List α) : (lastN n l).length = min l.length n := by unfold lastN; rw [List.length_drop]; omega
theorem lastN_le {α : Type} (n : Nat) (l : List α) : (lastN n l).length ≤ n := by rw [lastN_len]; omega
theorem lastN_snoc {α : Type} {n : Nat} (hn : 0 < n) (l : List α) (x : α) : (lastN n l).drop ((lastN n l).length + 1 - n) ++ [x] = lastN n (l ++ [x]) := by
  rw [lastN_len]
  unfold lastN
  rw [List.drop_drop, List.length_append]
  by_cases h : l.length < n
  · rw [show l.length - n + (min l.length n + 1 - n) = 0 by omega, show l.length + [x].length - n = 0 by simp; omega]
    simp
  · rw [show l.length - n + (min l.length n + 1 - n) = l.length + 1 - n by omega, show l.length + [x].length - n = l.length + 1 - n by simp]
    rw [List.drop_append_of_le_length (by omega)]
/-! ### notes -/
structure Nt where
  t : Nat
  k : Nat
  b : List UInt8
namespace Nt
def zero : Nt := ⟨0, 0, []⟩
def Fits (x : Nt) : Prop := x.t < 18446744073709551616 ∧ x.k < 256 ∧ x.b.length ≤ 9223372036854775807
/-- one more: how many came, what is kept, what is answered -/
def addT (T : Nat) (x : Nt) : Nat := if 64 < x.b.length then T else if T = 18446744073709551615 then T else T + 1
def addK (T : Nat) (l : List Nt) (x : Nt) : List Nt := if 64 < x.b.length then l else if T = 18446744073709551615 then l else l.drop (l.length + 1 - 32) ++ [x]
def addC (T : Nat) (x : Nt) : Nat := if 64 < x.b.length then 5 else if T = 18446744073709551615 then 18 else 0
theorem addK_le {T : Nat} {l : List Nt} {x : Nt} (h : l.length ≤ 32) : (addK T l x).length ≤ 32 := by
  unfold addK
  split
  · exact h
  · split
    · exact h
    · rw [List.length_append, List.length_drop]; simp; omega
/-- is there one of that number? -/
def has (T n k : Nat) : Bool := decide (T - n < k) && decide (k ≤ T)
/-- those that may be -/
def good (l : List Nt) : List Nt := l.filter fun x => decide (x.b.length ≤ 64)
end Nt
end Go.Proofs.YtjkaljokkpabfaaGreatDoor
end
section
namespace Go.Proofs.YtjkaljokkpabfaaGreatDoor.Wrd
def mark (b : UInt8) : Bool := (decide (97 ≤ b.toNat) && decide (b.toNat ≤ 122)) || (decide (48 ≤ b.toNat) && decide (b.toNat ≤ 57)) || decide (b.toNat = 45) || decide (b.toNat = 95)
def plain (l : List UInt8) : Bool := l.all mark && decide (l.length ≠ 0)
def nameCode (l : List UInt8) : Nat := if l.length = 0 then 15 else if 16 < l.length then 5 else if l.all mark then 0 else 4
/-- the words between the points -/
def cut : List UInt8 → List (List UInt8)
  | [] => [[]]
  | b :: l => if b = 46 then [] :: cut l else match cut l with
    | [] => [[b]]
    | h :: t => (b :: h) :: t
def words (l : List UInt8) : List (List UInt8) := if l.length = 0 then [] else cut l
def okWord (bs : List (List UInt8)) (x : List UInt8) : Bool := bs.contains x || plain x
def keyCode (bs : List (List UInt8)) (l : List UInt8) : Nat := if 64 < l.length then 5 else if (words l).all (okWord bs) then 0 else 4
theorem cut_ne (l : List UInt8) : cut l ≠ [] := by
  cases l with
  | nil => simp [cut]
  | cons b l =>
    unfold cut
    split
    · simp
    · split <;> simp
theorem cut_point (l : List UInt8) : cut (46 :: l) = [] :: cut l := by rw [cut, if_pos rfl]
theorem cut_other {b : UInt8} (hb : b ≠ 46) (l : List UInt8) : ∃ h t, cut l = h :: t ∧ cut (b :: l) = (b :: h) :: t := by
  cases hc : cut l with
  | nil => exact absurd hc (cut_ne l)
  | cons h t => exact ⟨h, t, rfl, by rw [cut, if_neg hb, hc]⟩
theorem cut_word {w : List UInt8} (h : (46 : UInt8) ∉ w) : cut w = [w] := by
  induction w with
  | nil => rfl
  | cons b w ih =>
    have hb : b ≠ 46 := fun e => h (by simp [e])
    have := ih (fun hm => h (by simp [hm]))
    rw [cut, if_neg hb, this]
theorem cut_app {w : List UInt8} (h : (46 : UInt8) ∉ w) (l : List UInt8) : cut (w ++ 46 :: l) = w :: cut l := by
  induction w with
  | nil => rw [List.nil_append, cut_point]
  | cons b w ih =>
    have hb : b ≠ 46 := fun e => h (by simp [e])
    have := ih (fun hm => h (by simp [hm]))
    rw [List.cons_append, cut, if_neg hb, this]
theorem words_ne {l : List UInt8} (h : l.length ≠ 0) : words l = cut l := by unfold words; rw [if_neg h]
theorem words_nil {l : List UInt8} (h : l.length = 0) : words l = [] := by unfold words; rw [if_pos h]
theorem cut_len (l : List UInt8) : (cut l).length ≤ l.length + 1 := by
  induction l with
  | nil => simp [cut]
  | cons b l ih =>
    by_cases hb : b = 46
    · subst hb; rw [cut_point, List.length_cons, List.length_cons]; omega
    · obtain ⟨h, t, h1, h2⟩ := cut_other hb l
      rw [h2, List.length_cons, List.length_cons]
      rw [h1, List.length_cons] at ih
      omega
theorem words_len (l : List UInt8) : (words l).length ≤ l.length + 1 := by
  unfold words
  split
  · simp
  · exact cut_len l
theorem cut_part (l : List UInt8) : ∀ w ∈ cut l, w.length ≤ l.length := by
  induction l with
  | nil => intro w hw; simp [cut] at hw; subst hw; simp
  | cons b l ih =>
    by_cases hb : b = 46
    · subst hb
      rw [cut_point]
      intro w hw
      rcases List.mem_cons.1 hw with rfl | hw
      · simp
      · have := ih w hw; rw [List.length_cons]; omega
    · obtain ⟨h, t, h1, h2⟩ := cut_other hb l
      rw [h2]
      rw [h1] at ih
      intro w hw
      rcases List.mem_cons.1 hw with rfl | hw
      · have := ih h (by simp); simp only [List.length_cons]; omega
      · have := ih w (by simp [hw]); rw [List.length_cons]; omega
theorem words_part (l : List UInt8) : ∀ w ∈ words l, w.length ≤ l.length := by
  unfold words
  split
  · intro w hw; simp at hw
  · exact cut_part l

/-! ### patterns -/
abbrev W := List UInt8
def star : W := [42]
def hash : W := [35]
/-- does a key match a pattern: both from behind -/
def mt : List W → List W → Bool
  | [], k => k.isEmpty
  | w :: p, [] => (w == hash) && mt p []
  | w :: p, x :: k => if w == hash then mt p (x :: k) || mt (w :: p) k else mt p k && (w == star || w == x)
termination_by p k => (p.length, k.length)
def matches' (p k : List W) : Bool := mt p.reverse k.reverse
/-- one row behind another -/
def nx (one : W) (ws : List W) (f : Nat → Bool) : Nat → Bool
  | 0 => (one == hash) && f 0
  | j + 1 => if one == hash then f (j + 1) || nx one ws f j else f j && (one == star || one == ws.getD j [])
def row (ws : List W) : List W → Nat → Bool
  | [] => fun j => j == 0
  | w :: p => nx w ws (row ws p)
theorem row_mt (ws : List W) : ∀ (p : List W) (j : Nat), j ≤ ws.length → row ws p j = mt p (ws.take j).reverse := by
  intro p
  induction p with
  | nil =>
    intro j hj
    cases j with
    | zero => simp [row, mt]
    | succ j =>
      rw [List.take_succ_eq_append_getElem (by omega), List.reverse_append]
      simp [row, mt]
  | cons w p ih =>
    intro j
    induction j with
    | zero =>
      intro hj
      have := ih 0 hj
      simp only [row, nx, List.take_zero, List.reverse_nil] at *
      rw [mt, this]
    | succ j ihj =>
      intro hj
      have h1 := ih (j + 1) hj
      have h2 := ih j (by omega)
      have h3 := ihj (by omega)
      have e : (ws.take (j + 1)).reverse = ws.getD j [] :: (ws.take j).reverse := by
        rw [List.take_succ_eq_append_getElem (by omega), List.reverse_append, List.getD_eq_getElem?_getD, List.getElem?_eq_getElem (by omega)]
        rfl
      rw [e] at h1 ⊢
      rw [mt]
      simp only [row] at *
      rw [nx, h1, h3, h2]
theorem row_all (p k : List W) : row k p.reverse k.length = matches' p k := by
  rw [row_mt k p.reverse k.length (Nat.le_refl _), List.take_length]; rfl
end Go.Proofs.YtjkaljokkpabfaaGreatDoor.Wrd
end
section
namespace Go.Proofs.YtjkaljokkpabfaaGreatDoor
open Go.ChangeShapes Go.WideShapes Go.ChangeAt Go.RowKit
set_option maxHeartbeats 400000 in
theorem left_any (b : Nat) (r : ByteArray) (e : Int) (w : World) (h : InAt b r e w) :
    Calls Tryz.prog 10 #[.pointer (some ⟨b, 0, none⟩)] w fun x w' => x = .returned (.int .i64 (r.size : Int)) ∧ w = w' := by
  have c0 := h.c0
  clear h
  go_enter Tryz.func10, Tryz.ntmps10
  go_wp2_with fail
  go_ret
  exact ⟨rfl, rfl⟩
set_option maxHeartbeats 400000 in
theorem err_any (b : Nat) (r : ByteArray) (e : Int) (w : World) (h : InAt b r e w) :
    Calls Tryz.prog 9 #[.pointer (some ⟨b, 0, none⟩)] w fun x w' => x = .returned (.int .i64 e) ∧ w = w' := by
  have c1 := h.c1
  clear h
  go_enter Tryz.func9, Tryz.ntmps9
  go_wp2_with fail
  go_ret
  exact ⟨rfl, rfl⟩
/-- what an object that reads has: what is left, and the error -/
abbrev St := ByteArray × Int
def St.ok (s : St) : Prop := s.2 ≠ 0 → s.1 = ByteArray.empty
def sRaw (s : St) (n : Int) : St := (rawRest s.1 n, rawErr s.1 s.2 n)
def sFail (s : St) (c : Int) : St := (failRest s.1 s.2 c, failErr s.2 c)
def sLen (s : St) : Nat := numVal (rawOut s.1 (2 : Nat))
def sMid (s : St) (most : Int) : St := if most < (sLen s : Int) then sFail (sRaw s (2 : Nat)) 5 else sRaw s (2 : Nat)
def sText (s : St) (most : Int) : St := sRaw (sMid s most) (sLen s)
def oText (s : St) (most : Int) : ByteArray := rawOut (sMid s most).1 (sLen s)
theorem ok_raw {s : St} (h : s.ok) (n : Int) : (sRaw s n).ok := by
  intro he
  unfold sRaw at *
  simp only at *
  unfold rawRest
  split
  · rename_i hn
    apply h
    unfold rawErr at he
    rw [if_neg (by omega)] at he
    exact he
  · split
    · rfl
    · rename_i hn hs
      unfold rawErr at he
      rw [if_neg (by omega)] at he
      have := h he
      rw [this] at hs
      simp at hs
      omega
theorem ok_fail {s : St} (h : s.ok) (c : Int) : (sFail s c).ok := by
  intro he
  unfold sFail at *
  simp only at *
  unfold failRest
  split
  · rename_i hc
    unfold failErr at he
    rw [if_pos hc] at he
    exact h he
  · rfl
theorem ok_mid {s : St} (h : s.ok) (m : Int) : (sMid s m).ok := by
  unfold sMid
  split
  · exact ok_fail (ok_raw h _) _
  · exact ok_raw h _
theorem sLen_lt (s : St) : sLen s < 65536 := by
  unfold sLen numVal
  have h := Oct.val_lt (rawOut s.1 (2 : Nat)).data.toList
  have h2 := rawOut_size s.1 2
  refine Nat.lt_of_lt_of_le h ?_
  have hlen : (rawOut s.1 (2 : Nat)).data.toList.length ≤ 2 := by simpa using h2
  exact Nat.pow_le_pow_right (n := 256) (by decide) hlen
theorem post_trans {b : Nat} {w w1 w2 : World} (h1 : w.grownBy w1 (some b)) (h2 : w1.grownBy w2 (some b)) : w.grownBy w2 (some b) := h1.trans h2

set_option maxHeartbeats 1000000 in
theorem itext_any (b : Nat) (s : St) (m : Int) (w : World) (h : InAt b s.1 s.2 w) (hok : s.ok) :
    Calls Tryz.prog 37 #[.pointer (some ⟨b, 0, none⟩), .int .i64 m] w (Post b w (.string (oText s m)) (sText s m).1 (sText s m).2) := by
  have hn : Calls Tryz.prog 18 #[.pointer (some ⟨b, 0, none⟩), .int .i64 2] w (Post b w (.int .u64 ((sLen s : Nat) : Int)) (sRaw s (2 : Nat)).1 (sRaw s (2 : Nat)).2) := inum_any b s.1 s.2 2 w h hok
  have hL := sLen_lt s
  have hok2 := ok_mid hok m
  have hr : ∀ W, InAt b (sMid s m).1 (sMid s m).2 W → Calls Tryz.prog 35 #[.pointer (some ⟨b, 0, none⟩), .int .i64 (sLen s : Int)] W (Post b W (.string (oText s m)) (sText s m).1 (sText s m).2) := fun W hW =>
    iraw_any b (sMid s m).1 (sMid s m).2 (sLen s) W hW hok2
  have hf : ∀ W, InAt b (sRaw s (2 : Nat)).1 (sRaw s (2 : Nat)).2 W → Calls Tryz.prog 19 #[.pointer (some ⟨b, 0, none⟩), .int .i64 5] W (Post b W (.tuple #[]) (sFail (sRaw s (2 : Nat)) 5).1 (sFail (sRaw s (2 : Nat)) 5).2) := fun W hW =>
    fail_any b _ _ 5 W hW
  have e : sMid s m = if m < (sLen s : Int) then sFail (sRaw s (2 : Nat)) 5 else sRaw s (2 : Nat) := rfl
  generalize sMid s m = mid at *
  generalize sText s m = fin at *
  generalize oText s m = out at *
  generalize sLen s = L at *
  generalize sRaw s (2 : Nat) = one at *
  have HN := Lib.hid hn
  have HF := Lib.hid hf
  have HR := Lib.hid hr
  clear h hn hok hok2 hr hf
  by_cases hm : m < (L : Int)
  · rw [if_pos hm] at e
    have EE := Lib.hid e
    clear e
    go_enter Tryz.func37, Tryz.ntmps37
    go_wp2_with fail
    refine HN.out.mono ?_
    rintro x w1 ⟨rfl, h1, g1⟩
    have H1 := Lib.hid h1
    have G1 := Lib.hid g1
    clear h1 g1
    go_wp2_with fail
    refine (HF.out _ H1.out).mono ?_
    rintro x w2 ⟨rfl, h2, g2⟩
    have H2 := Lib.hid h2
    have G2 := Lib.hid g2
    clear h2 g2
    go_wp2_with fail
    refine (HR.out _ (by rw [EE.out]; exact H2.out)).mono ?_
    rintro x w3 ⟨rfl, h3, g3⟩
    have H3 := Lib.hid h3
    have G3 := Lib.hid g3
    clear h3 g3
    go_wp2_with fail
    go_ret
    exact ⟨rfl, H3.out, post_trans (post_trans G1.out G2.out) G3.out⟩
  · rw [if_neg hm] at e
    have EE := Lib.hid e
    clear e
    go_enter Tryz.func37, Tryz.ntmps37
    go_wp2_with fail
    refine HN.out.mono ?_
    rintro x w1 ⟨rfl, h1, g1⟩
    have H1 := Lib.hid h1
    have G1 := Lib.hid g1
    clear h1 g1
    go_wp2_with fail
    refine (HR.out _ (by rw [EE.out]; exact H1.out)).mono ?_
    rintro x w3 ⟨rfl, h3, g3⟩
    have H3 := Lib.hid h3
    have G3 := Lib.hid g3
    clear h3 g3
    go_wp2_with fail
    go_ret
    exact ⟨rfl, H3.out, post_trans G1.out G3.out⟩

/-! ### the examples -/
end Go.Proofs.YtjkaljokkpabfaaGreatDoor
end
