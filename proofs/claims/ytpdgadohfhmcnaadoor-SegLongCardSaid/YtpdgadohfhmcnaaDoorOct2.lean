/-
  OCTET's OTHER CALLS, walked: a text that is read, what is left, the error; a text that is too long.
-/
import Derived.Test.YtpdgadohfhmcnaaDoorOct
namespace Go.Proofs.YtpdgadohfhmcnaaDoor
open Go.ChangeShapes Go.WideShapes Go.ChangeAt Go.RowKit
attribute [local go_sem ↓] Go.wp_at_zero Go.wp_at_succ
set_option maxHeartbeats 400000 in
theorem err_any (b : Nat) (r : ByteArray) (e : Int) (w : World) (h : InAt b r e w) :
    Calls Tryd.prog 30 #[.pointer (some ⟨b, 0, none⟩)] w fun x w' => x = .returned (.int .i64 e) ∧ w = w' := by
  have c1 := h.c1
  clear h
  go_enter Tryd.func30, Tryd.ntmps30
  go_wp2_with fail
  go_ret
  exact ⟨rfl, rfl⟩
/-- what an object that reads has: what is left, and the error -/
abbrev St := ByteArray × Int
def St.ok (s : St) : Prop := s.2 ≠ 0 → s.1 = ByteArray.empty
def sRaw (s : St) (n : Int) : St := (rawRest s.1 n, rawErr s.1 s.2 n)
def sFail (s : St) (c : Int) : St := (failRest s.1 s.2 c, failErr s.2 c)
def sLen (s : St) : Nat := numVal (rawOut s.1 (2 : Nat))
def sMid (s : St) (most : Int) : St := if most < (sLen s : Int) then sFail (sRaw s (2 : Nat)) 5 else sRaw s (2 : Nat)
def sText (s : St) (most : Int) : St := sRaw (sMid s most) (sLen s)
def oText (s : St) (most : Int) : ByteArray := rawOut (sMid s most).1 (sLen s)
theorem ok_raw {s : St} (h : s.ok) (n : Int) : (sRaw s n).ok := by
  intro he
  unfold sRaw at *
  simp only at *
  unfold rawRest
  split
  · rename_i hn
    apply h
    unfold rawErr at he
    rw [if_neg (by omega)] at he
    exact he
  · split
    · rfl
    · rename_i hn hs
      unfold rawErr at he
      rw [if_neg (by omega)] at he
      have := h he
      rw [this] at hs
      simp at hs
      omega
theorem ok_fail {s : St} (h : s.ok) (c : Int) : (sFail s c).ok := by
  intro he
  unfold sFail at *
  simp only at *
  unfold failRest
  split
  · rename_i hc
    unfold failErr at he
    rw [if_pos hc] at he
    exact h he
  · rfl
theorem ok_mid {s : St} (h : s.ok) (m : Int) : (sMid s m).ok := by
  unfold sMid
  split
  · exact ok_fail (ok_raw h _) _
  · exact ok_raw h _
theorem sLen_lt (s : St) : sLen s < 65536 := by
  unfold sLen numVal
  have h := Oct.val_lt (rawOut s.1 (2 : Nat)).data.toList
  have h2 := rawOut_size s.1 2
  refine Nat.lt_of_lt_of_le h ?_
  have hlen : (rawOut s.1 (2 : Nat)).data.toList.length ≤ 2 := by simpa using h2
  exact Nat.pow_le_pow_right (n := 256) (by decide) hlen
theorem post_trans {b : Nat} {w w1 w2 : World} (h1 : w.grownBy w1 (some b)) (h2 : w1.grownBy w2 (some b)) : w.grownBy w2 (some b) := h1.trans h2

/-! ### the examples -/
end Go.Proofs.YtpdgadohfhmcnaaDoor
