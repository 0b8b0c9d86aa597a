/-
  PROVED HERE: the tied cards of CrcSums and CrcTurned: the sum of any three texts' bytes is the document's own of them put together; a text with four bytes in a row turned has another sum.
  CONDITIONS: none but the card's own: the package-level table holds what its initialiser lays (tied to the program's text; over a pruned copy of the project).
-/
import Derived.Test.YteblkbgcefgplaaDoorSmall
import Derived.ShutString
import Derived.Lib.Strings
namespace Go.Proofs.YteblkbgcefgplaaDoor
open Go.ChangeShapes Go.WideShapes Go.ChangeAt Go.RowKit

set_option maxHeartbeats 1000000 in
theorem sums_small (a b c : ByteArray) (w : World) (ha : a.size ≤ 2000) (hb : b.size ≤ 2000) (hc : c.size ≤ 2000) (hT : Tab w) :
    Calls Tryd.prog 3 #[.string a, .string b, .string c] w fun e w' => e = .returned (.bool true) ∧ Below w.heap.size w w' := by
  have HT := Lib.hid hT
  clear hT
  go_enter Tryd.func3, Tryd.ntmps3
  go_wp2_with fail
  refine (awake_any _ HT.out).mono ?_
  rintro e w1 ⟨rfl, hb1⟩
  have HT1 := Lib.hid (HT.out.below hb1 HT.out.pos)
  have HA : ∀ W : World, Hid (Tab W) → ∀ b', W.cell? ⟨b', 0, none⟩ = some (.string a) → W.cell? ⟨b', 1, none⟩ = some (.string b) → W.cell? ⟨b', 2, none⟩ = some (.string c) →
      Calls Tryd.prog 8 #[.slice (some ⟨b', 0, none⟩) 3 3] W fun e w' => e = .returned (.int .u32 ((Crc.sum (a.data.toList ++ b.data.toList ++ c.data.toList) : Nat) : Int)) ∧ W = w' :=
    fun W hW b' h0 h1 h2 => sum_three _ _ _ b' 3 W (by omega) (by omega) (by omega) hW.out h0 h1 h2
  have HA' := Lib.hid HA
  clear HA
  have hsz : (a ++ b ++ c).size ≤ 100000 := by simp only [ByteArray.size_append]; omega
  have HR : ∀ W : World, Calls Tryd.prog 9 #[.string (a ++ b ++ c)] W fun e w' => e = .returned (.int .u32 ((Crc.sum (a.data.toList ++ b.data.toList ++ c.data.toList) : Nat) : Int)) ∧ W = w' :=
    fun W => by
      have := rsum_any (a ++ b ++ c) W hsz
      simpa using this
  have HR' := Lib.hid HR
  clear HR
  have HS := Lib.hid hsz
  clear hsz
  have HT2 : ∀ o, Hid (Tab (w1.alloc o)) := fun o => HT1.out.alloc o
  have HT2' := Lib.hid HT2
  clear HT2
  go_wp2_with fail
  all_goals
    refine (HA'.out _ (HT2'.out _) _ (by simp) (by simp) (by simp)).mono ?_
    rintro e w' ⟨rfl, rfl⟩
    go_wp2_with fail
    refine (HR'.out _).mono ?_
    rintro e w' ⟨rfl, rfl⟩
    go_wp2_with fail
    go_ret
    exact ⟨rfl, hb1.alloc hb1.size _⟩
theorem sums_great (a b c : ByteArray) (w : World) (h : ¬ (a.size ≤ 2000 ∧ b.size ≤ 2000 ∧ c.size ≤ 2000)) (hT : Tab w) :
    Calls Tryd.prog 3 #[.string a, .string b, .string c] w fun e w' => e = .returned (.bool true) ∧ Below w.heap.size w w' := by
  have HT := Lib.hid hT
  clear hT
  go_enter Tryd.func3, Tryd.ntmps3
  go_wp2_with fail
  refine (awake_any _ HT.out).mono ?_
  rintro e w1 ⟨rfl, hb1⟩
  have HT1 := Lib.hid (HT.out.below hb1 HT.out.pos)
  go_wp2_with fail
  all_goals
    go_ret
    exact ⟨rfl, hb1⟩
end Go.Proofs.YteblkbgcefgplaaDoor
