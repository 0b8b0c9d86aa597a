/-
  THE DOCUMENT's DISK: a sync, a write, a read.
-/
import Derived.Test.YtpdgadohfhmcnaaDkT
namespace Go.Proofs.Ytpdgadohfhmcnaa
open Go.ChangeShapes Go.WideShapes Go.ChangeAt Go.RowKit

set_option maxHeartbeats 4000000 in
theorem r15Sync_off (L : ByteArray) (A : Option Addr) (n c : Nat) (am : Bool) (sy ct : Int) (w : World) :
    Calls Try.prog 25 #[sixV L A n c false am sy ct] w fun e w' => e = .returned (.tuple #[sixV L A n c false am sy ct, .int .i64 16]) ∧ Below w.heap.size w w' := by
  go_enter Try.func25, Try.ntmps25
  go_wp2_with fail
  refine bodyPost_ret (v := .tuple #[sixV L A n c false am sy ct, .int .i64 16]) (by simp [results, Try.results25, go_sem]) rfl ⟨rfl, ?_⟩
  exact two_below _ _ _
set_option maxHeartbeats 4000000 in
theorem r15Sync_down (L : ByteArray) (A : Option Addr) (n c : Nat) (ct : Int) (D : ByteArray) (w : World)
    (HD : ∀ W, Below w.heap.size w W → Calls Try.prog 28 #[sixV L A n c true true 0 ct, .int .i64 ct] W fun e w' => e = .returned (sixV D none 0 0 false false 0 0) ∧ Below W.heap.size W w') :
    Calls Try.prog 25 #[sixV L A n c true true 0 ct] w fun e w' => e = .returned (.tuple #[sixV D none 0 0 false false 0 0, .int .i64 16]) ∧ Below w.heap.size w w' := by
  replace HD := Lib.hid HD
  have HTL := Lib.hid (two_laid w (.cells #[.string L, .slice A n c, .bool true, .bool true, .int .i64 0, .int .i64 ct] 31) (.cells #[.string ⟨#[]⟩, .slice none 0 0, .bool false, .bool false, .int .i64 0, .int .i64 0] 31))
  go_enter Try.func25, Try.ntmps25
  go_wp2_with fail
  refine (HD.out _ HTL.out.2.2).mono ?_
  rintro x w1 ⟨rfl, b1⟩
  have hr := (b1.block (w.heap.size + 1) (by simp)).trans HTL.out.2.1
  obtain ⟨r0, r1, r2, r3, r4, r5⟩ := six_cells hr
  have f0 := Lib.frozen_of_heap hr 0
  have f1 := Lib.frozen_of_heap hr 1
  have f2 := Lib.frozen_of_heap hr 2
  have f3 := Lib.frozen_of_heap hr 3
  have f4 := Lib.frozen_of_heap hr 4
  have f5 := Lib.frozen_of_heap hr 5
  have hlt := (Array.getElem?_eq_some_iff.1 hr).1
  have HB := Lib.hid (Below.trans HTL.out.2.2 (b1.mono HTL.out.2.2.size))
  have HGE := Lib.hid (show w.heap.size ≤ w.heap.size + 1 from Nat.le_succ _)
  clear b1 hr
  generalize w.heap.size + 1 = rb at *
  go_wp2_with fail
  refine bodyPost_ret (v := .tuple #[sixV D none 0 0 false false 0 0, .int .i64 16]) (by simp [results, Try.results25, go_sem, r0, r1, r2, r3, r4, r5]) rfl ⟨rfl, ?_⟩
  exact (((((HB.out.setCell HGE.out _).setCell HGE.out _).setCell HGE.out _).setCell HGE.out _).setCell HGE.out _).setCell HGE.out _
set_option maxHeartbeats 8000000 in
theorem r15Sync_plain (L : ByteArray) (A : Option Addr) (n c : Nat) (sy ct wt : Int) (D : ByteArray) (w : World)
    (HW : ∀ W, Below w.heap.size w W → Calls Try.prog 16 #[sixV L A n c true false sy ct] W fun e w' => e = .returned (.int .i64 wt) ∧ Below W.heap.size W w')
    (HD : ∀ W, Below w.heap.size w W → Calls Try.prog 34 #[sixV L A n c true false sy ct, .int .i64 wt] W fun e w' => e = .returned (.string D) ∧ Below W.heap.size W w') :
    Calls Try.prog 25 #[sixV L A n c true false sy ct] w fun e w' => e = .returned (.tuple #[sixV D none 0 0 true false sy ct, .int .i64 0]) ∧ Below w.heap.size w w' := by
  replace HD := Lib.hid HD
  replace HW := Lib.hid HW
  obtain ⟨k0, k1, kb⟩ := two_laid w (.cells #[.string L, .slice A n c, .bool true, .bool false, .int .i64 sy, .int .i64 ct] 31) (.cells #[.string ⟨#[]⟩, .slice none 0 0, .bool false, .bool false, .int .i64 0, .int .i64 0] 31)
  have K0 := Lib.hid k0
  have K1 := Lib.hid k1
  have KB := Lib.hid kb
  clear k0 k1 kb
  go_enter Try.func25, Try.ntmps25
  go_upto_region 7 with fail
  have hge1 : w.heap.size < (w.alloc (.cells #[.string L, .slice A n c, .bool true, .bool false, .int .i64 sy, .int .i64 ct] 31)).heap.size := by simp
  generalize (w.alloc (.cells #[.string L, .slice A n c, .bool true, .bool false, .int .i64 sy, .int .i64 ct] 31)).alloc (.cells #[.string ⟨#[]⟩, .slice none 0 0, .bool false, .bool false, .int .i64 0, .int .i64 0] 31) = W at *
  obtain ⟨q0, q1, q2, q3, q4, q5⟩ := six_cells K0.out
  have hlt0 := (Array.getElem?_eq_some_iff.1 K0.out).1
  have hlt1 := (Array.getElem?_eq_some_iff.1 K1.out).1
  generalize hBB : w.heap.size = B at *
  have HBB := Lib.hid hBB
  clear hBB
  have g0 := Lib.frozen_of_heap K0.out 0
  go_region_with (first
    | (go_at_call 16; refine (HW.out _ KB.out.drew).mono ?_; rintro x w1 ⟨rfl, b1⟩; have K2 := Lib.hid ((b1.block B hlt0).trans K0.out); have K3 := Lib.hid ((b1.block (B + 1) hlt1).trans K1.out); have KC := Lib.hid (Below.trans KB.out.drew (b1.mono (Nat.le_of_lt hlt0))); obtain ⟨p0, p1, p2, p3, p4, p5⟩ := six_cells K2.out; have h2lt := (Array.getElem?_eq_some_iff.1 K2.out).1; have h3lt := (Array.getElem?_eq_some_iff.1 K3.out).1; clear b1)
    | (go_at_call 34; refine (HD.out _ KC.out).mono ?_; rintro x w2 ⟨rfl, b2⟩; have K4 := Lib.hid ((b2.block B h2lt).trans K2.out); have K5 := Lib.hid ((b2.block (B + 1) h3lt).trans K3.out); have KD := Lib.hid (Below.trans KC.out (b2.mono (Nat.le_of_lt h2lt))); obtain ⟨s0, s1, s2, s3, s4, s5⟩ := six_cells K4.out; have g4 := Lib.frozen_of_heap K4.out 0; have h4lt := (Array.getElem?_eq_some_iff.1 K4.out).1; clear b2))
  all_goals
    have K6 := Lib.hid (show (w2.setCell ⟨B, 0, none⟩ (.string D)).heap[B]? = some (.cells (six (.string D) A n c true false sy ct) 31 (0, 0)) from Lib.heap_setCell_same (i := 0) K4.out (.string D))
    have K7 := Lib.hid ((Below.heap_setCell w2 ⟨B, 0, none⟩ (.string D) (B + 1) (by simp)).trans K5.out)
    have KE := Lib.hid (KD.out.setCell (p := ⟨B, 0, none⟩) (Nat.le_refl B) (.string D))
    clear s0 s1 s2 s3 s4 s5 g4 h4lt
    try clear p0 p1 p2 p3 p4 p5 h2lt h3lt
    clear q0 q1 q2 q3 q4 q5 hlt0 hlt1 g0
    generalize w2.setCell ⟨B, 0, none⟩ (.string D) = W4 at *
    obtain ⟨t0, t1, t2, t3, t4, t5⟩ := six_cells K6.out
    obtain ⟨r0, r1, r2, r3, r4, r5⟩ := six_cells K7.out
    have e1 := Lib.frozen_of_heap K6.out 1
    have f0 := Lib.frozen_of_heap K7.out 0
    have f1 := Lib.frozen_of_heap K7.out 1
    have f2 := Lib.frozen_of_heap K7.out 2
    have f3 := Lib.frozen_of_heap K7.out 3
    have f4 := Lib.frozen_of_heap K7.out 4
    have f5 := Lib.frozen_of_heap K7.out 5
    have l0 := (Array.getElem?_eq_some_iff.1 K6.out).1
    have l1 := (Array.getElem?_eq_some_iff.1 K7.out).1
    have hne : B ≠ B + 1 := by omega
    have HGE := Lib.hid (show B ≤ B + 1 from Nat.le_succ _)
    generalize B + 1 = rb at *
    go_wp2_with fail
    refine bodyPost_ret (v := .tuple #[sixV D none 0 0 true false sy ct, .int .i64 0]) (by simp [results, Try.results25, go_sem, r0, r1, r2, r3, r4, r5]) rfl ⟨rfl, ?_⟩
    rw [HBB.out]
    exact ((((((KE.out.setCell (Nat.le_refl _) _).setCell HGE.out _).setCell HGE.out _).setCell HGE.out _).setCell HGE.out _).setCell HGE.out _).setCell HGE.out _
set_option maxHeartbeats 8000000 in
theorem r15Sync_armed (L : ByteArray) (A : Option Addr) (n c : Nat) (sy sz ct wt : Int) (D : ByteArray) (w : World) (hs0 : (sy == 0) = false) (hwr : IntKind.i64.wrap (sy - 1) = sz)
    (HW : ∀ W, Below w.heap.size w W → Calls Try.prog 16 #[sixV L A n c true true sz ct] W fun e w' => e = .returned (.int .i64 wt) ∧ Below W.heap.size W w')
    (HD : ∀ W, Below w.heap.size w W → Calls Try.prog 34 #[sixV L A n c true true sz ct, .int .i64 wt] W fun e w' => e = .returned (.string D) ∧ Below W.heap.size W w') :
    Calls Try.prog 25 #[sixV L A n c true true sy ct] w fun e w' => e = .returned (.tuple #[sixV D none 0 0 true true sz ct, .int .i64 0]) ∧ Below w.heap.size w w' := by
  replace HD := Lib.hid HD
  replace HW := Lib.hid HW
  obtain ⟨k0, k1, kb⟩ := two_laid w (.cells #[.string L, .slice A n c, .bool true, .bool true, .int .i64 sz, .int .i64 ct] 31) (.cells #[.string ⟨#[]⟩, .slice none 0 0, .bool false, .bool false, .int .i64 0, .int .i64 0] 31)
  have K0 := Lib.hid k0
  have K1 := Lib.hid k1
  have KB := Lib.hid kb
  clear k0 k1 kb
  go_enter Try.func25, Try.ntmps25
  go_upto_region 7 with fail
  have hge1 : w.heap.size < (w.alloc (.cells #[.string L, .slice A n c, .bool true, .bool true, .int .i64 sz, .int .i64 ct] 31)).heap.size := by simp
  generalize (w.alloc (.cells #[.string L, .slice A n c, .bool true, .bool true, .int .i64 sz, .int .i64 ct] 31)).alloc (.cells #[.string ⟨#[]⟩, .slice none 0 0, .bool false, .bool false, .int .i64 0, .int .i64 0] 31) = W at *
  obtain ⟨q0, q1, q2, q3, q4, q5⟩ := six_cells K0.out
  have hlt0 := (Array.getElem?_eq_some_iff.1 K0.out).1
  have hlt1 := (Array.getElem?_eq_some_iff.1 K1.out).1
  generalize hBB : w.heap.size = B at *
  have HBB := Lib.hid hBB
  clear hBB
  have g0 := Lib.frozen_of_heap K0.out 0
  go_region_with (first
    | (go_at_call 16; refine (HW.out _ KB.out.drew).mono ?_; rintro x w1 ⟨rfl, b1⟩; have K2 := Lib.hid ((b1.block B hlt0).trans K0.out); have K3 := Lib.hid ((b1.block (B + 1) hlt1).trans K1.out); have KC := Lib.hid (Below.trans KB.out.drew (b1.mono (Nat.le_of_lt hlt0))); obtain ⟨p0, p1, p2, p3, p4, p5⟩ := six_cells K2.out; have h2lt := (Array.getElem?_eq_some_iff.1 K2.out).1; have h3lt := (Array.getElem?_eq_some_iff.1 K3.out).1; clear b1)
    | (go_at_call 34; refine (HD.out _ KC.out).mono ?_; rintro x w2 ⟨rfl, b2⟩; have K4 := Lib.hid ((b2.block B h2lt).trans K2.out); have K5 := Lib.hid ((b2.block (B + 1) h3lt).trans K3.out); have KD := Lib.hid (Below.trans KC.out (b2.mono (Nat.le_of_lt h2lt))); obtain ⟨s0, s1, s2, s3, s4, s5⟩ := six_cells K4.out; have g4 := Lib.frozen_of_heap K4.out 0; have h4lt := (Array.getElem?_eq_some_iff.1 K4.out).1; clear b2))
  all_goals
    have K6 := Lib.hid (show (w2.setCell ⟨B, 0, none⟩ (.string D)).heap[B]? = some (.cells (six (.string D) A n c true true sz ct) 31 (0, 0)) from Lib.heap_setCell_same (i := 0) K4.out (.string D))
    have K7 := Lib.hid ((Below.heap_setCell w2 ⟨B, 0, none⟩ (.string D) (B + 1) (by simp)).trans K5.out)
    have KE := Lib.hid (KD.out.setCell (p := ⟨B, 0, none⟩) (Nat.le_refl B) (.string D))
    clear s0 s1 s2 s3 s4 s5 g4 h4lt
    try clear p0 p1 p2 p3 p4 p5 h2lt h3lt
    clear q0 q1 q2 q3 q4 q5 hlt0 hlt1 g0
    generalize w2.setCell ⟨B, 0, none⟩ (.string D) = W4 at *
    obtain ⟨t0, t1, t2, t3, t4, t5⟩ := six_cells K6.out
    obtain ⟨r0, r1, r2, r3, r4, r5⟩ := six_cells K7.out
    have e1 := Lib.frozen_of_heap K6.out 1
    have f0 := Lib.frozen_of_heap K7.out 0
    have f1 := Lib.frozen_of_heap K7.out 1
    have f2 := Lib.frozen_of_heap K7.out 2
    have f3 := Lib.frozen_of_heap K7.out 3
    have f4 := Lib.frozen_of_heap K7.out 4
    have f5 := Lib.frozen_of_heap K7.out 5
    have l0 := (Array.getElem?_eq_some_iff.1 K6.out).1
    have l1 := (Array.getElem?_eq_some_iff.1 K7.out).1
    have hne : B ≠ B + 1 := by omega
    have HGE := Lib.hid (show B ≤ B + 1 from Nat.le_succ _)
    generalize B + 1 = rb at *
    go_wp2_with fail
    refine bodyPost_ret (v := .tuple #[sixV D none 0 0 true true sz ct, .int .i64 0]) (by simp [results, Try.results25, go_sem, r0, r1, r2, r3, r4, r5]) rfl ⟨rfl, ?_⟩
    rw [HBB.out]
    exact ((((((KE.out.setCell (Nat.le_refl _) _).setCell HGE.out _).setCell HGE.out _).setCell HGE.out _).setCell HGE.out _).setCell HGE.out _).setCell HGE.out _
end Go.Proofs.Ytpdgadohfhmcnaa
