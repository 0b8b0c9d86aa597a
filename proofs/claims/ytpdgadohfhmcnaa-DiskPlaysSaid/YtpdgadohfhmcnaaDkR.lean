/-
  THE DOCUMENT's DISK: what is put, done, waits; what is wrong with a block.
-/
import Derived.Test.YtpdgadohfhmcnaaDkM
import Derived.BigQuiet
import Derived.Deep.QuietTactic
namespace Go.Proofs.Ytpdgadohfhmcnaa
open Go.ChangeShapes Go.WideShapes Go.ChangeAt Go.RowKit

/-- the document's disk, as a value -/
abbrev dq (L : List UInt8) (A : Option Addr) (n c : Nat) (on am : Bool) (sy ct : Int) : Value := .agg #[.string (ofL L), .slice A n c, .bool on, .bool am, .int .i64 sy, .int .i64 ct]
theorem drewN_below {B : Nat} {a w : World} (h : Below B a w) (n : Nat) : Below B a (w.drewN n) := h.trans ⟨rfl, rfl, rfl, Nat.le_refl _, fun _ _ => rfl⟩
theorem r15Held_any (n m : Nat) (w : World) : Calls Try.prog 11 #[.int .i64 (n : Int), .int .i64 (m : Int)] w fun e w' => e = .returned (.int .i64 ((min n m : Nat) : Int)) ∧ w = w' := by
  by_cases h : n > m
  · have e1 : min n m = m := by omega
    rw [e1]
    go_enter Try.func11, Try.ntmps11
    go_wp2_with fail
    go_ret
    exact ⟨rfl, rfl⟩
  · have e1 : min n m = n := by omega
    rw [e1]
    go_enter Try.func11, Try.ntmps11
    go_wp2_with fail
    go_ret
    exact ⟨rfl, rfl⟩
theorem r15Held_int (b : Int) (m : Nat) (w : World) : Calls Try.prog 11 #[.int .i64 b, .int .i64 (m : Int)] w fun e w' => e = .returned (.int .i64 (((min (max b 0) m).toNat : Nat) : Int)) ∧ w = w' := by
  by_cases h : b > m
  · have e1 : (min (max b 0) (m : Int)).toNat = m := by omega
    rw [e1]
    go_enter Try.func11, Try.ntmps11
    go_wp2_with fail
    go_ret
    exact ⟨rfl, rfl⟩
  · by_cases h0 : b < 0
    · have e1 : (min (max b 0) (m : Int)).toNat = 0 := by omega
      rw [e1]
      go_enter Try.func11, Try.ntmps11
      go_wp2_with fail
      go_ret
      exact ⟨rfl, rfl⟩
    · obtain ⟨k, rfl⟩ : ∃ k : Nat, b = (k : Int) := ⟨b.toNat, by omega⟩
      have e1 : (min (max (k : Int) 0) (m : Int)).toNat = k := by omega
      rw [e1]
      clear e1
      go_enter Try.func11, Try.ntmps11
      go_wp2_with fail
      go_ret
      exact ⟨rfl, rfl⟩
set_option maxHeartbeats 2000000 in
theorem r15put_any (s d : List UInt8) (a : Nat) (w : World) (h : 64 * a + d.length ≤ s.length) (hs : s.length ≤ 1000000) :
    Calls Try.prog 36 #[.string (ofL s), .int .i64 (a : Int), .string (ofL d)] w fun e w' => e = .returned (.string (ofL (Dk.put s a d))) ∧ Below w.heap.size w w' := by
  have hw1 : IntKind.i64.wrap (64 * (a : Int)) = 64 * (a : Int) := by rw [IntKind.wrap_i64]; omega
  have hw2 : IntKind.i64.wrap (64 * (a : Int) + (d.length : Int)) = 64 * (a : Int) + (d.length : Int) := by rw [IntKind.wrap_i64]; omega
  have hz : (ofL d).size = d.length := ofL_size d
  have hs1 := fun W' => slice_to_l (P := Try.prog) Try.underlying9 s .i64 (64 * (a : Int)) (64 * a) (by omega) (by omega) W'
  have hs2 := fun W' => slice_from_l (P := Try.prog) Try.underlying9 s .i64 (64 * (a : Int) + (d.length : Int)) (64 * a + d.length) (by omega) (by omega) W'
  have ha1 : ofL (s.take (64 * a)) ++ ofL d = ofL (s.take (64 * a) ++ d) := ofL_app _ _
  have ha2 : ofL (s.take (64 * a) ++ d) ++ ofL (s.drop (64 * a + d.length)) = ofL (Dk.put s a d) := by rw [ofL_app, List.append_assoc]; rfl
  have z1 : (ofL (s.take (64 * a))).size = 64 * a := by rw [ofL_size, List.length_take]; omega
  have z2 : (ofL (s.take (64 * a) ++ d)).size = 64 * a + d.length := by rw [ofL_size, List.length_append, List.length_take]; omega
  have z3 : (ofL (s.drop (64 * a + d.length))).size = s.length - (64 * a + d.length) := by rw [ofL_size, List.length_drop]
  have hn : 64 * a ≤ 1000000 := by omega
  generalize ofL (Dk.put s a d) = R at *
  generalize ofL (s.take (64 * a) ++ d) = X2 at *
  generalize ofL (s.take (64 * a)) = X1 at *
  generalize ofL (s.drop (64 * a + d.length)) = X3 at *
  go_enter Try.func36, Try.ntmps36
  go_upto_region 1 with fail
  go_quiet (fail)
  go_wp2_with fail
  go_ret
  exact ⟨rfl, drewN_below (Below.refl _ _) _⟩
theorem r15Check_any (st : Dk.St) (n : Nat) (LL : ByteArray) (A : Option Addr) (k c : Nat) (am : Bool) (sy ct a : Int) (w : World) (hL : LL.size = 64 * n) (hn : n ≤ 100000) :
    Calls Try.prog 35 #[.agg #[.string LL, .slice A k c, .bool st.on, .bool am, .int .i64 sy, .int .i64 ct], .int .i64 a] w fun e w' => e = .returned (.int .i64 (Dk.code n st a)) ∧ Below w.heap.size w w' := by
  obtain ⟨N, hN⟩ : ∃ N, N = 64 * n := ⟨_, rfl⟩
  have hz : LL.size = N := by omega
  have hq : IntKind.i64.wrap ((N : Int) / 64) = (n : Int) := by rw [IntKind.wrap_i64]; omega
  have HB := Lib.hid (fun o => (Below.refl w.heap.size w).alloc (Nat.le_refl _) o)
  unfold Dk.code
  generalize st.on = on at *
  clear hL hN hn
  cases on
  · rw [if_pos rfl]
    go_enter Try.func35, Try.ntmps35
    go_wp2_with fail
    go_ret
    exact ⟨rfl, HB.out _⟩
  · rw [if_neg (by decide)]
    by_cases h1 : a < 0
    · rw [if_pos (.inl h1)]
      have b1 : decide (a < 0) = true := decide_eq_true h1
      clear h1
      go_enter Try.func35, Try.ntmps35
      go_wp2_with fail
      go_ret
      exact ⟨rfl, HB.out _⟩
    · have b1 : decide (a < 0) = false := decide_eq_false h1
      by_cases h2 : (n : Int) ≤ a
      · rw [if_pos (.inr h2)]
        have b2 : decide (a ≥ (n : Int)) = true := decide_eq_true h2
        clear h1 h2
        go_enter Try.func35, Try.ntmps35
        go_wp2_with fail
        go_ret
        exact ⟨rfl, HB.out _⟩
      · rw [if_neg (by omega)]
        have b2 : decide (a ≥ (n : Int)) = false := decide_eq_false h2
        clear h1 h2
        go_enter Try.func35, Try.ntmps35
        go_wp2_with fail
        go_ret
        exact ⟨rfl, HB.out _⟩
set_option maxHeartbeats 2000000 in
theorem r15Waits_any (L : ByteArray) (l : List Dk.Wr) (A : Option Addr) (c : Nat) (on am : Bool) (sy ct : Int) (w : World) (hA : WRow w A l) (hl : l.length ≤ 100000) (ho : ∀ x ∈ l, x.2.length ≤ 64) :
    Calls Try.prog 16 #[.agg #[.string L, .slice A l.length c, .bool on, .bool am, .int .i64 sy, .int .i64 ct]] w fun e w' => e = .returned (.int .i64 ((Dk.waits l : Nat) : Int)) ∧ Below w.heap.size w w' := by
  have hle : Dk.waits l ≤ 64 * l.length := by
    clear hl hA
    induction l with
    | nil => simp [Dk.waits]
    | cons x l ih =>
      have h1 := ho x (by simp)
      have h2 := ih fun y hy => ho y (by simp [hy])
      simp only [Dk.waits, List.length_cons]; omega
  have hle' : Dk.waits l ≤ 6400000 := by omega
  have HA := Lib.hid hA
  clear hle hA ho
  go_enter Try.func16, Try.ntmps16
  go_wp2_with fail
  have HB0 := Lib.hid ((Below.refl w.heap.size w).alloc (Nat.le_refl _) (.cells #[.string L, .slice A l.length c, .bool on, .bool am, .int .i64 sy, .int .i64 ct] 31))
  generalize w.alloc (.cells #[.string L, .slice A l.length c, .bool on, .bool am, .int .i64 sy, .int .i64 ct] 31) = w1 at *
  go_loopg [3, 9] l.length (fun g s i wr => WtSt w l g s i wr)
  case atStart => exact ⟨0, by omega, rfl, rfl, HB0.out⟩
  case round =>
    obtain ⟨k, hk, rfl, rfl, hb⟩ := hrel
    have HK := Lib.hid hk
    have HB := Lib.hid hb
    clear hk hb
    by_cases hlt : k < l.length
    · obtain ⟨b, off, rfl, hbl, x0, x1⟩ := HA.out.at_ k hlt
      have HS := Lib.hid (waits_take l k hlt)
      have hs2 := waits_take_le l (k + 1)
      rw [HS.out] at hs2
      have y0 := (HB.out.cell (p := ⟨b, off + k * 2, none⟩) hbl).trans x0
      have y1 := (HB.out.cell (p := ⟨b, off + k * 2 + 1, none⟩) hbl).trans x1
      clear x0 x1 hbl
      generalize l.getD k (0, []) = x at *
      obtain ⟨xa, xd⟩ := x
      dsimp only at *
      have hz : (ofL xd).size = xd.length := ofL_size _
      have HB2 := Lib.hid (fun o => HB.out.alloc HB.out.size o)
      go_wp2_with fail
      go_roundg (gk - 1)
      case rel => exact ⟨k + 1, by have := HK.out; omega, by go_num, by rw [HS.out]; go_num, HB2.out _⟩
      case measure => have := HK.out; omega
    · have e : l.take k = l := List.take_of_length_le (by omega)
      rw [e]
      clear e
      go_wp2_with fail
      go_ret
      exact ⟨rfl, HB.out⟩
end Go.Proofs.Ytpdgadohfhmcnaa
