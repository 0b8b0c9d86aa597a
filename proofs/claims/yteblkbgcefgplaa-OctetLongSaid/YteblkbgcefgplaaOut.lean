/-
  WHAT IS WRITTEN, walked: the calls of Out: width, Raw, String, Err.
-/
import Derived.Test.YteblkbgcefgplaaRows
import Derived.Test.YteblkbgcefgplaaMath
import Derived.WalkKit
import Derived.ProofKit
import Derived.OpenShut
import Derived.Laws.BitsAllLaws
import Derived.WalkLawsBesides
import Derived.WalkSpells
import Derived.Lib.Hide
import Derived.Below
import Derived.RegionTactic
import Derived.Laws.ResultCell
namespace Go.Proofs.Yteblkbgcefgplaa
open Go.ChangeShapes Go.WideShapes Go.ChangeAt Go.RowKit

theorem ret_int {k : IntKind} {a b : Int} (h : a = b) : Ending.returned (.int k a) = .returned (.int k b) := by rw [h]

set_option maxHeartbeats 400000 in
theorem width_any (b : Int) (w : World) : Calls Try.prog 33 #[.int .i64 b] w fun e w' => e = .returned (.int .i64 ((Oct.width b : Nat) : Int)) ∧ w = w' := by
  by_cases h0 : b ≤ 0
  · have hw : Hid (Oct.width b = 0) := Oct.width_low h0
    go_enter Try.func33, Try.ntmps33
    go_wp2
    all_goals
      go_ret
      exact ⟨ret_int (by rw [hw.out]; omega), rfl⟩
  · by_cases h8 : 8 ≤ b
    · have hw : Hid (Oct.width b = 8) := Oct.width_high h8
      go_enter Try.func33, Try.ntmps33
      go_wp2
      all_goals
        go_ret
        exact ⟨ret_int (by rw [hw.out]; omega), rfl⟩
    · have hw : Hid ((Oct.width b : Int) = b) := Oct.width_mid (by omega) (by omega)
      go_enter Try.func33, Try.ntmps33
      go_wp2
      all_goals
        go_ret
        exact ⟨ret_int (by rw [hw.out]), rfl⟩

set_option maxHeartbeats 400000 in
theorem raw_any (o s : ByteArray) (e : Int) (w : World) (ho : o.size ≤ 1000000) (hs : s.size ≤ 1000000) :
    Calls Try.prog 30 #[.agg #[.string o, .int .i64 e], .string s] w fun x w' => x = .returned (.agg #[.string (o ++ s), .int .i64 e]) ∧ Below w.heap.size w w' := by
  go_enter Try.func30, Try.ntmps30
  go_wp2
  exact bodyPost_ret (v := .agg #[.string (o ++ s), .int .i64 e]) (by simp [results, Try.results30, go_sem]) rfl ⟨rfl, ((Below.refl _ _).alloc (Nat.le_refl _) _).alloc (by simp) _⟩
theorem str_any (o : ByteArray) (e : Int) (w : World) :
    Calls Try.prog 14 #[.agg #[.string o, .int .i64 e]] w fun x w' => x = .returned (.string o) ∧ Below w.heap.size w w' := by
  go_enter Try.func14, Try.ntmps14
  go_wp2
  go_ret
  exact ⟨rfl, (Below.refl _ _).alloc (Nat.le_refl _) _⟩
theorem oerr_any (o : ByteArray) (e : Int) (w : World) :
    Calls Try.prog 15 #[.agg #[.string o, .int .i64 e]] w fun x w' => x = .returned (.int .i64 e) ∧ Below w.heap.size w w' := by
  go_enter Try.func15, Try.ntmps15
  go_wp2
  go_ret
  exact ⟨rfl, (Below.refl _ _).alloc (Nat.le_refl _) _⟩
end Go.Proofs.Yteblkbgcefgplaa
