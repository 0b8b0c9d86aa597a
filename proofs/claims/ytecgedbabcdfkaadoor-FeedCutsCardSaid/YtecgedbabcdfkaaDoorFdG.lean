/-
  FEEDS CUT: what slices.Grow makes of no row, walked.
-/
import Derived.Test.YtecgedbabcdfkaaDoorFdF
import Derived.Lib.Walk
import Derived.Lib.SliceRun
import Derived.Lib.AppendZerosOnto
namespace Go.Proofs.YtecgedbabcdfkaaDoor
open Go.ChangeShapes Go.WideShapes Go.ChangeAt Go.RowKit Go.Lib

set_option maxRecDepth 100000 in
set_option maxHeartbeats 4000000 in
theorem grow0_any (n : Nat) (w : World) (hn : n ≤ 100000) :
    Calls Tryd.prog 49 #[.slice none 0 0, .int .i64 (n : Int)] w fun e w' => ∃ v, e = .returned v ∧ w'.ownsRow w.heap.size 23 3 v 0 [] ∧ Below w.heap.size w w' := by
  obtain ⟨i0, hi0, hz0, hs0, hb0⟩ := info_parts infoF
  have h1 : ¬ ((n : Int) < 0) := by omega
  have h2 : wrap64 (((0 : Nat) : Int) - ((0 : Nat) : Int)) = ((0 : Nat) : Int) - ((0 : Nat) : Int) := by unfold wrap64; omega
  have h3 : wrap64 ((n : Int) - (((0 : Nat) : Int) - ((0 : Nat) : Int))) = (n : Int) - (((0 : Nat) : Int) - ((0 : Nat) : Int)) := by unfold wrap64; omega
  by_cases h0 : n = 0
  · subst h0
    go_enter Tryd.func49, Tryd.ntmps49
    go_wp2
    go_ret
    exact ⟨_, rfl, World.ownsRow_nil _ _ _ _, Below.refl _ _⟩
  · have h4 : (n : Int) - (((0 : Nat) : Int) - ((0 : Nat) : Int)) > 0 := by omega
    have hold : (Builtin.firstCells i0.size 0 (.slice none 0 0)).run Tryd.prog w.drew = .ok #[] w.drew := run_firstCells_none w.drew i0.size 0 0 0
    have hrz : ∀ ty, (Builtin.append_ #[46, 3] ty #[.slice none 0 0, .int .i64 ((n : Int) - (((0 : Nat) : Int) - ((0 : Nat) : Int)))]).run Tryd.prog w =
        .ok (.slice (some ⟨w.heap.size, 0, none⟩) n (grownCap w n 0 23)) (w.drew.alloc (.cells (([] : List Value).toArray ++ Builtin.zeroCells (Value.agg #[.int .u8 0, .int .u8 0, .string ⟨#[]⟩]).cells n ++ Builtin.zeroCells (Value.agg #[.int .u8 0, .int .u8 0, .string ⟨#[]⟩]).cells (grownCap w n 0 23 - n)) 23)) := fun ty => by
      have h := Lib.run_append_grow_zeros w 46 3 ty 23 i0 _ .i64 .i64 Tryd.underlying46 Tryd.underlying3 hi0 hz0 none 0 0 [] hold n (by omega) (by omega) (by omega) (by omega)
        (by rw [hb0]; omega)
        (by rw [Nat.zero_add]; exact growslice_fits (by omega) (by rw [hb0]; omega))
      rw [Nat.zero_add] at h
      rw [show (n : Int) - (((0 : Nat) : Int) - ((0 : Nat) : Int)) = ((n : Nat) : Int) by omega]
      exact h
    have hGn : n ≤ grownCap w n 0 23 := grownCap_ge w _ _ _
    have hGm : grownCap w n 0 23 ≤ maxLen := grownCap_le_maxLen w n 0 23 (by unfold maxLen; omega)
    generalize hG : grownCap w n 0 23 = G at *
    have hG63 : G ≤ 9223372036854775807 := by unfold maxLen at hGm; omega
    clear hold hG
    go_enter Tryd.func49, Tryd.ntmps49
    go_wp2_with (at_builtin; refine Lib.wpList_append_run _ rfl _ _ _ _ rfl _ _ rfl rfl _ _ (hrz _) ?_)
    all_goals (go_ret; refine ⟨_, rfl, ⟨rfl, .inr ⟨w.heap.size, G, _, rfl, Nat.le_refl _, heap_alloc_new _ _, Nat.zero_le _, hGm, ?_, ?_⟩⟩, (Below.refl _ _).drew.alloc (Nat.le_refl _) _⟩)
    · simp [Builtin.zeroCells, Value.cells]; omega
    · simp
end Go.Proofs.YtecgedbabcdfkaaDoor
