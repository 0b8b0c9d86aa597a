/-
  OCTET's OTHER CALLS, walked: a text that is read, what is left, the error; a text that is too long.
-/
import Derived.Test.YtabnkbdbbneihaaOct
namespace Go.Proofs.Ytabnkbdbbneihaa
open Go.ChangeShapes Go.WideShapes Go.ChangeAt Go.RowKit
attribute [local go_sem ↓] Go.wp_at_zero Go.wp_at_succ
/-- of a text that is too long nothing, and it is told -/
theorem text_long (o s : ByteArray) (e : Int) (w : World) (hs : 65535 < s.size) (hs2 : s.size ≤ 1000000) :
    Calls Try.prog 31 #[.agg #[.string o, .int .i64 e], .string s] w fun x w' => x = .returned (.agg #[.string o, .int .i64 5]) ∧ Below w.heap.size w w' := by
  go_enter Try.func31, Try.ntmps31
  go_wp2
  exact bodyPost_ret (v := .agg #[.string o, .int .i64 5]) (by simp [results, Try.results31, go_sem]) rfl ⟨rfl, ((Below.refl _ _).alloc (Nat.le_refl _) _).alloc (by simp) _⟩

set_option maxHeartbeats 400000 in
theorem left_any (b : Nat) (r : ByteArray) (e : Int) (w : World) (h : InAt b r e w) :
    Calls Try.prog 23 #[.pointer (some ⟨b, 0, none⟩)] w fun x w' => x = .returned (.int .i64 (r.size : Int)) ∧ w = w' := by
  have c0 := h.c0
  clear h
  go_enter Try.func23, Try.ntmps23
  go_wp2_with fail
  go_ret
  exact ⟨rfl, rfl⟩
set_option maxHeartbeats 400000 in
theorem err_any (b : Nat) (r : ByteArray) (e : Int) (w : World) (h : InAt b r e w) :
    Calls Try.prog 22 #[.pointer (some ⟨b, 0, none⟩)] w fun x w' => x = .returned (.int .i64 e) ∧ w = w' := by
  have c1 := h.c1
  clear h
  go_enter Try.func22, Try.ntmps22
  go_wp2_with fail
  go_ret
  exact ⟨rfl, rfl⟩
/-- what an object that reads has: what is left, and the error -/
abbrev St := ByteArray × Int
def St.ok (s : St) : Prop := s.2 ≠ 0 → s.1 = ByteArray.empty
def sRaw (s : St) (n : Int) : St := (rawRest s.1 n, rawErr s.1 s.2 n)
def sFail (s : St) (c : Int) : St := (failRest s.1 s.2 c, failErr s.2 c)
def sLen (s : St) : Nat := numVal (rawOut s.1 (2 : Nat))
def sMid (s : St) (most : Int) : St := if most < (sLen s : Int) then sFail (sRaw s (2 : Nat)) 5 else sRaw s (2 : Nat)
def sText (s : St) (most : Int) : St := sRaw (sMid s most) (sLen s)
def oText (s : St) (most : Int) : ByteArray := rawOut (sMid s most).1 (sLen s)
theorem ok_raw {s : St} (h : s.ok) (n : Int) : (sRaw s n).ok := by
  intro he
  unfold sRaw at *
  simp only at *
  unfold rawRest
  split
  · rename_i hn
    apply h
    unfold rawErr at he
    rw [if_neg (by omega)] at he
    exact he
  · split
    · rfl
    · rename_i hn hs
      unfold rawErr at he
      rw [if_neg (by omega)] at he
      have := h he
      rw [this] at hs
      simp at hs
      omega
theorem ok_fail {s : St} (h : s.ok) (c : Int) : (sFail s c).ok := by
  intro he
  unfold sFail at *
  simp only at *
  unfold failRest
  split
  · rename_i hc
    unfold failErr at he
    rw [if_pos hc] at he
    exact h he
  · rfl
theorem ok_mid {s : St} (h : s.ok) (m : Int) : (sMid s m).ok := by
  unfold sMid
  split
  · exact ok_fail (ok_raw h _) _
  · exact ok_raw h _
theorem sLen_lt (s : St) : sLen s < 65536 := by
  unfold sLen numVal
  have h := Oct.val_lt (rawOut s.1 (2 : Nat)).data.toList
  have h2 := rawOut_size s.1 2
  refine Nat.lt_of_lt_of_le h ?_
  have hlen : (rawOut s.1 (2 : Nat)).data.toList.length ≤ 2 := by simpa using h2
  exact Nat.pow_le_pow_right (n := 256) (by decide) hlen
theorem post_trans {b : Nat} {w w1 w2 : World} (h1 : w.grownBy w1 (some b)) (h2 : w1.grownBy w2 (some b)) : w.grownBy w2 (some b) := h1.trans h2

set_option maxHeartbeats 1000000 in
theorem itext_any (b : Nat) (s : St) (m : Int) (w : World) (h : InAt b s.1 s.2 w) (hok : s.ok) :
    Calls Try.prog 47 #[.pointer (some ⟨b, 0, none⟩), .int .i64 m] w (Post b w (.string (oText s m)) (sText s m).1 (sText s m).2) := by
  have hn : Calls Try.prog 35 #[.pointer (some ⟨b, 0, none⟩), .int .i64 2] w (Post b w (.int .u64 ((sLen s : Nat) : Int)) (sRaw s (2 : Nat)).1 (sRaw s (2 : Nat)).2) := inum_any b s.1 s.2 2 w h hok
  have hL := sLen_lt s
  have hok2 := ok_mid hok m
  have hr : ∀ W, InAt b (sMid s m).1 (sMid s m).2 W → Calls Try.prog 46 #[.pointer (some ⟨b, 0, none⟩), .int .i64 (sLen s : Int)] W (Post b W (.string (oText s m)) (sText s m).1 (sText s m).2) := fun W hW =>
    iraw_any b (sMid s m).1 (sMid s m).2 (sLen s) W hW hok2
  have hf : ∀ W, InAt b (sRaw s (2 : Nat)).1 (sRaw s (2 : Nat)).2 W → Calls Try.prog 36 #[.pointer (some ⟨b, 0, none⟩), .int .i64 5] W (Post b W (.tuple #[]) (sFail (sRaw s (2 : Nat)) 5).1 (sFail (sRaw s (2 : Nat)) 5).2) := fun W hW =>
    fail_any b _ _ 5 W hW
  have e : sMid s m = if m < (sLen s : Int) then sFail (sRaw s (2 : Nat)) 5 else sRaw s (2 : Nat) := rfl
  generalize sMid s m = mid at *
  generalize sText s m = fin at *
  generalize oText s m = out at *
  generalize sLen s = L at *
  generalize sRaw s (2 : Nat) = one at *
  have HN := Lib.hid hn
  have HF := Lib.hid hf
  have HR := Lib.hid hr
  clear h hn hok hok2 hr hf
  by_cases hm : m < (L : Int)
  · rw [if_pos hm] at e
    have EE := Lib.hid e
    clear e
    go_enter Try.func47, Try.ntmps47
    go_wp2_with fail
    refine HN.out.mono ?_
    rintro x w1 ⟨rfl, h1, g1⟩
    have H1 := Lib.hid h1
    have G1 := Lib.hid g1
    clear h1 g1
    go_wp2_with fail
    refine (HF.out _ H1.out).mono ?_
    rintro x w2 ⟨rfl, h2, g2⟩
    have H2 := Lib.hid h2
    have G2 := Lib.hid g2
    clear h2 g2
    go_wp2_with fail
    refine (HR.out _ (by rw [EE.out]; exact H2.out)).mono ?_
    rintro x w3 ⟨rfl, h3, g3⟩
    have H3 := Lib.hid h3
    have G3 := Lib.hid g3
    clear h3 g3
    go_wp2_with fail
    go_ret
    exact ⟨rfl, H3.out, post_trans (post_trans G1.out G2.out) G3.out⟩
  · rw [if_neg hm] at e
    have EE := Lib.hid e
    clear e
    go_enter Try.func47, Try.ntmps47
    go_wp2_with fail
    refine HN.out.mono ?_
    rintro x w1 ⟨rfl, h1, g1⟩
    have H1 := Lib.hid h1
    have G1 := Lib.hid g1
    clear h1 g1
    go_wp2_with fail
    refine (HR.out _ (by rw [EE.out]; exact H1.out)).mono ?_
    rintro x w3 ⟨rfl, h3, g3⟩
    have H3 := Lib.hid h3
    have G3 := Lib.hid g3
    clear h3 g3
    go_wp2_with fail
    go_ret
    exact ⟨rfl, H3.out, post_trans G1.out G3.out⟩

/-! ### the examples -/
end Go.Proofs.Ytabnkbdbbneihaa
