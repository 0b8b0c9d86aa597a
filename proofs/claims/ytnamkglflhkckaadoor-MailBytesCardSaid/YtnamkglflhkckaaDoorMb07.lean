/-
  PLAIN: what a frame's body is made of: numbers, yes or no, texts, heads; read behind they were written, and written behind they were read. No program is spoken of here.
-/
import Derived.Test.YtnamkglflhkckaaDoorMb06

section
namespace Go.Proofs.YtnamkglflhkckaaDoor.Pt
/-- a yes or no that comes next -/
def yesOut (s : LSt) : Bool := Oct.val (lOut s.1 1) == 1
def yesIn (s : LSt) : LSt := if 1 < Oct.val (lOut s.1 1) then lFail (lRaw s 1) 4 else lRaw s 1
def yesEnc (b : Bool) : List UInt8 := if b then [1] else [0]
/-! ### written, then read -/
theorem num_front {n : Nat} (hn : n < 18446744073709551616) (r : List UInt8) : Oct.val (lOut (Oct.be 8 n ++ r) 8) = n ∧ lRaw (Oct.be 8 n ++ r, 0) 8 = (r, 0) :=
  ⟨by rw [Hd.lOut_front _ _ 8 (Oct.length_be _ _), Hd.val_be_at 8 _ hn], Hd.lRaw_front _ _ _ 8 (Oct.length_be _ _)⟩
theorem yes_front (b : Bool) (r : List UInt8) : yesOut (yesEnc b ++ r, 0) = b ∧ yesIn (yesEnc b ++ r, 0) = (r, 0) := by
  cases b
  · have h1 : lOut (yesEnc false ++ r) 1 = [0] := Hd.lOut_front [0] r 1 rfl
    have h2 : lRaw (yesEnc false ++ r, 0) 1 = (r, 0) := Hd.lRaw_front [0] r 0 1 rfl
    unfold yesOut yesIn
    simp only
    rw [h1, h2]
    exact ⟨rfl, rfl⟩
  · have h1 : lOut (yesEnc true ++ r) 1 = [1] := Hd.lOut_front [1] r 1 rfl
    have h2 : lRaw (yesEnc true ++ r, 0) 1 = (r, 0) := Hd.lRaw_front [1] r 0 1 rfl
    unfold yesOut yesIn
    simp only
    rw [h1, h2]
    exact ⟨rfl, rfl⟩

/-! ### read, then written -/
end Go.Proofs.YtnamkglflhkckaaDoor.Pt
end
