/-
  A TEXT THAT IS READ; the chapter's examples; what reads nothing at all.
-/
import Derived.Test.YteblkbgcefgplaaIn
namespace Go.Proofs.Yteblkbgcefgplaa
open Go.ChangeShapes Go.WideShapes Go.ChangeAt Go.RowKit
attribute [local go_sem ↓] Go.wp_at_zero Go.wp_at_succ

/-- what an object that reads has: what is left, and the error -/
abbrev St := ByteArray × Int
def St.ok (s : St) : Prop := s.2 ≠ 0 → s.1 = ByteArray.empty
def sRaw (s : St) (n : Int) : St := (rawRest s.1 n, rawErr s.1 s.2 n)
def sFail (s : St) (c : Int) : St := (failRest s.1 s.2 c, failErr s.2 c)
def sLen (s : St) : Nat := numVal (rawOut s.1 (2 : Nat))
def sMid (s : St) (most : Int) : St := if most < (sLen s : Int) then sFail (sRaw s (2 : Nat)) 5 else sRaw s (2 : Nat)
def sText (s : St) (most : Int) : St := sRaw (sMid s most) (sLen s)
def oText (s : St) (most : Int) : ByteArray := rawOut (sMid s most).1 (sLen s)
theorem ok_raw {s : St} (h : s.ok) (n : Int) : (sRaw s n).ok := by
  intro he
  unfold sRaw at *
  simp only at *
  unfold rawRest
  split
  · rename_i hn
    apply h
    unfold rawErr at he
    rw [if_neg (by omega)] at he
    exact he
  · split
    · rfl
    · rename_i hn hs
      unfold rawErr at he
      rw [if_neg (by omega)] at he
      have := h he
      rw [this] at hs
      simp at hs
      omega
theorem ok_fail {s : St} (h : s.ok) (c : Int) : (sFail s c).ok := by
  intro he
  unfold sFail at *
  simp only at *
  unfold failRest
  split
  · rename_i hc
    unfold failErr at he
    rw [if_pos hc] at he
    exact h he
  · rfl
theorem ok_mid {s : St} (h : s.ok) (m : Int) : (sMid s m).ok := by
  unfold sMid
  split
  · exact ok_fail (ok_raw h _) _
  · exact ok_raw h _
theorem sLen_lt (s : St) : sLen s < 65536 := by
  unfold sLen numVal
  have h := Oct.val_lt (rawOut s.1 (2 : Nat)).data.toList
  have h2 := rawOut_size s.1 2
  refine Nat.lt_of_lt_of_le h ?_
  have hlen : (rawOut s.1 (2 : Nat)).data.toList.length ≤ 2 := by simpa using h2
  exact Nat.pow_le_pow_right (n := 256) (by decide) hlen
theorem post_trans {b : Nat} {w w1 w2 : World} (h1 : w.grownBy w1 (some b)) (h2 : w1.grownBy w2 (some b)) : w.grownBy w2 (some b) := h1.trans h2

set_option maxHeartbeats 1000000 in
theorem itext_any (b : Nat) (s : St) (m : Int) (w : World) (h : InAt b s.1 s.2 w) (hok : s.ok) :
    Calls Try.prog 21 #[.pointer (some ⟨b, 0, none⟩), .int .i64 m] w (Post b w (.string (oText s m)) (sText s m).1 (sText s m).2) := by
  have hn : Calls Try.prog 19 #[.pointer (some ⟨b, 0, none⟩), .int .i64 2] w (Post b w (.int .u64 ((sLen s : Nat) : Int)) (sRaw s (2 : Nat)).1 (sRaw s (2 : Nat)).2) := inum_any b s.1 s.2 2 w h hok
  have hL := sLen_lt s
  have hok2 := ok_mid hok m
  have hr : ∀ W, InAt b (sMid s m).1 (sMid s m).2 W → Calls Try.prog 23 #[.pointer (some ⟨b, 0, none⟩), .int .i64 (sLen s : Int)] W (Post b W (.string (oText s m)) (sText s m).1 (sText s m).2) := fun W hW =>
    iraw_any b (sMid s m).1 (sMid s m).2 (sLen s) W hW hok2
  have hf : ∀ W, InAt b (sRaw s (2 : Nat)).1 (sRaw s (2 : Nat)).2 W → Calls Try.prog 17 #[.pointer (some ⟨b, 0, none⟩), .int .i64 5] W (Post b W (.tuple #[]) (sFail (sRaw s (2 : Nat)) 5).1 (sFail (sRaw s (2 : Nat)) 5).2) := fun W hW =>
    fail_any b _ _ 5 W hW
  have e : sMid s m = if m < (sLen s : Int) then sFail (sRaw s (2 : Nat)) 5 else sRaw s (2 : Nat) := rfl
  generalize sMid s m = mid at *
  generalize sText s m = fin at *
  generalize oText s m = out at *
  generalize sLen s = L at *
  generalize sRaw s (2 : Nat) = one at *
  have HN := Lib.hid hn
  have HF := Lib.hid hf
  have HR := Lib.hid hr
  clear h hn hok hok2 hr hf
  by_cases hm : m < (L : Int)
  · rw [if_pos hm] at e
    have EE := Lib.hid e
    clear e
    go_enter Try.func21, Try.ntmps21
    go_wp2_with fail
    refine HN.out.mono ?_
    rintro x w1 ⟨rfl, h1, g1⟩
    have H1 := Lib.hid h1
    have G1 := Lib.hid g1
    clear h1 g1
    go_wp2_with fail
    refine (HF.out _ H1.out).mono ?_
    rintro x w2 ⟨rfl, h2, g2⟩
    have H2 := Lib.hid h2
    have G2 := Lib.hid g2
    clear h2 g2
    go_wp2_with fail
    refine (HR.out _ (by rw [EE.out]; exact H2.out)).mono ?_
    rintro x w3 ⟨rfl, h3, g3⟩
    have H3 := Lib.hid h3
    have G3 := Lib.hid g3
    clear h3 g3
    go_wp2_with fail
    go_ret
    exact ⟨rfl, H3.out, post_trans (post_trans G1.out G2.out) G3.out⟩
  · rw [if_neg hm] at e
    have EE := Lib.hid e
    clear e
    go_enter Try.func21, Try.ntmps21
    go_wp2_with fail
    refine HN.out.mono ?_
    rintro x w1 ⟨rfl, h1, g1⟩
    have H1 := Lib.hid h1
    have G1 := Lib.hid g1
    clear h1 g1
    go_wp2_with fail
    refine (HR.out _ (by rw [EE.out]; exact H1.out)).mono ?_
    rintro x w3 ⟨rfl, h3, g3⟩
    have H3 := Lib.hid h3
    have G3 := Lib.hid g3
    clear h3 g3
    go_wp2_with fail
    go_ret
    exact ⟨rfl, H3.out, post_trans G1.out G3.out⟩

/-! ### the examples -/
theorem ex1 : (ByteArray.mk #[]) ++ ByteArray.mk (Oct.be (Oct.width 2) 258).toArray = ByteArray.mk #[1, 2] := by decide
theorem ex2 : (ByteArray.mk #[]) ++ textB (ByteArray.mk #[97, 98]) = ByteArray.mk #[0, 2, 97, 98] := by decide
theorem ex3 : numVal (rawOut (ByteArray.mk #[1, 2]) (Oct.width 2)) = 258 := by decide

set_option maxHeartbeats 1000000 in
theorem awake_any (w : World) : Calls Try.prog 8 #[] w fun x w' => x = .returned (.bool true) ∧ Below w.heap.size w w' := by
  have h1 : ∀ W, Calls Try.prog 13 #[.agg #[.string ⟨#[]⟩, .int .i64 0], .int .u64 258, .int .i64 2] W fun x w' => x = .returned (.agg #[.string ⟨#[1, 2]⟩, .int .i64 0]) ∧ Below W.heap.size W w' := fun W => by
    have := num_any ⟨#[]⟩ 0 258 2 W (by omega) (by decide)
    rw [ex1] at this
    exact this
  have h2 : ∀ W, Calls Try.prog 31 #[.agg #[.string ⟨#[]⟩, .int .i64 0], .string ⟨#[97, 98]⟩] W fun x w' => x = .returned (.agg #[.string ⟨#[0, 2, 97, 98]⟩, .int .i64 0]) ∧ Below W.heap.size W w' := fun W => by
    have := text_any ⟨#[]⟩ ⟨#[97, 98]⟩ 0 W (by decide) (by decide)
    rw [ex2] at this
    exact this
  have h3 : ∀ b W, InAt b ⟨#[1, 2]⟩ 0 W → Calls Try.prog 19 #[.pointer (some ⟨b, 0, none⟩), .int .i64 2] W fun x w' => x = .returned (.int .u64 258) ∧ W.grownBy w' (some b) := fun b W hW => by
    have := inum_any b ⟨#[1, 2]⟩ 0 2 W hW (fun h => absurd rfl h)
    rw [ex3] at this
    exact this.mono fun _ _ h => ⟨h.1, h.2.2⟩
  have H1 := Lib.hid h1
  have H2 := Lib.hid h2
  have H3 := Lib.hid h3
  clear h1 h2 h3
  go_enter Try.func8, Try.ntmps8
  go_wp2_with fail
  refine (H1.out _).mono ?_
  rintro x w1 ⟨rfl, b1⟩
  have B1 := Lib.hid b1
  clear b1
  go_wp2_with fail
  refine (str_any _ _ _).mono ?_
  rintro x w2 ⟨rfl, b2⟩
  have B2 := Lib.hid (Below.trans B1.out (b2.mono B1.out.size))
  clear b2
  go_wp2_with fail
  refine (H2.out _).mono ?_
  rintro x w3 ⟨rfl, b3⟩
  have B3 := Lib.hid (Below.trans B2.out (b3.mono B2.out.size))
  clear b3
  go_wp2_with fail
  refine (str_any _ _ _).mono ?_
  rintro x w4 ⟨rfl, b4⟩
  have B4 := Lib.hid (Below.trans B3.out (b4.mono B3.out.size))
  clear b4
  go_wp2_with fail
  refine (new_any _ _).mono ?_
  rintro x w5 ⟨rfl, rfl⟩
  go_wp2_with fail
  refine (H3.out _ _ ⟨cell_new _ _ _ _ _ rfl, cell_new _ _ _ _ _ rfl, fun j => free_new _ _ _ _ _ rfl, by simp⟩).mono ?_
  rintro x w6 ⟨rfl, g6⟩
  have hs4 := B4.out.size
  have B6 := Lib.hid ((B4.out.alloc hs4 _).grown g6 (by simp; omega) (fun k hk => by injection hk with hk; omega))
  clear g6
  go_wp2_with fail
  go_ret
  exact ⟨rfl, B6.out⟩
end Go.Proofs.Yteblkbgcefgplaa
