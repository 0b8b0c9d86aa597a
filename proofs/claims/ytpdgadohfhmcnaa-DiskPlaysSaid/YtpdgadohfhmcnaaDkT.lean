/-
  THE DOCUMENT's DISK: armed, down, up, read.
-/
import Derived.Test.YtpdgadohfhmcnaaDkS
namespace Go.Proofs.Ytpdgadohfhmcnaa
open Go.ChangeShapes Go.WideShapes Go.ChangeAt Go.RowKit

/-- how the document's disk is armed -/
def ArmQ (st : Dk.St) (am : Bool) (sy ct : Int) : Prop := match st.arm with
  | none => am = false
  | some (s, c) => am = true ∧ sy = (s : Int) ∧ ct = (c : Int)
/-- a value is the document's disk; the row of what waits is none of F's -/
def Dq (F : Nat → Prop) (st : Dk.St) (v : Value) (w : World) : Prop := ∃ A c am sy ct, v = dq st.last A st.wait.length c st.on am sy ct ∧ WRow w A st.wait ∧ ArmQ st am sy ct ∧ ∀ a, A = some a → F a.block → False
theorem Dq.keep {F : Nat → Prop} {st : Dk.St} {v : Value} {w w' : World} (h : Dq F st v w) (hb : Below w.heap.size w w') : Dq F st v w' := by
  obtain ⟨A, c, am, sy, ct, e, hA, ha, hF⟩ := h
  exact ⟨A, c, am, sy, ct, e, hA.on hb, ha, hF⟩
abbrev six (x : Value) (A : Option Addr) (n c : Nat) (on am : Bool) (sy ct : Int) : Array Value := #[x, .slice A n c, .bool on, .bool am, .int .i64 sy, .int .i64 ct]
theorem six_cells {w : World} {b : Nat} {x : Value} {A : Option Addr} {n c : Nat} {on am : Bool} {sy ct : Int} {t : TypeId} (h : w.heap[b]? = some (.cells (six x A n c on am sy ct) t (0, 0))) :
    w.cell? ⟨b, 0, none⟩ = some x ∧ w.cell? ⟨b, 1, none⟩ = some (.slice A n c) ∧ w.cell? ⟨b, 2, none⟩ = some (.bool on) ∧ w.cell? ⟨b, 3, none⟩ = some (.bool am) ∧ w.cell? ⟨b, 4, none⟩ = some (.int .i64 sy) ∧ w.cell? ⟨b, 5, none⟩ = some (.int .i64 ct) :=
  ⟨by rw [Lib.cell_of_heap h]; rfl, by rw [Lib.cell_of_heap h]; rfl, by rw [Lib.cell_of_heap h]; rfl, by rw [Lib.cell_of_heap h]; rfl, by rw [Lib.cell_of_heap h]; rfl, by rw [Lib.cell_of_heap h]; rfl⟩
/-- two blocks laid, one behind the other -/
theorem two_laid (w : World) (o p : Obj) : ((w.alloc o).alloc p).heap[w.heap.size]? = some o ∧ ((w.alloc o).alloc p).heap[w.heap.size + 1]? = some p ∧ Below w.heap.size w ((w.alloc o).alloc p) := by
  have e : (w.alloc o).heap.size = w.heap.size + 1 := by simp
  refine ⟨by rw [Below.heap_alloc _ _ _ (by simp)]; exact heap_alloc_new w o, ?_, ((Below.refl _ _).alloc (Nat.le_refl _) o).alloc (by simp) p⟩
  rw [← e]; exact heap_alloc_new _ p
abbrev sixV (L : ByteArray) (A : Option Addr) (n c : Nat) (on am : Bool) (sy ct : Int) : Value := .agg #[.string L, .slice A n c, .bool on, .bool am, .int .i64 sy, .int .i64 ct]
theorem two_below (w : World) (o p : Obj) : Below w.heap.size w ((w.alloc o).alloc p) := (two_laid w o p).2.2
set_option maxHeartbeats 2000000 in
theorem r15Up_raw (L : ByteArray) (A : Option Addr) (n c : Nat) (on am : Bool) (sy ct : Int) (w : World) :
    Calls Try.prog 29 #[sixV L A n c on am sy ct] w fun e w' => e = .returned (if on = true then sixV L A n c on am sy ct else sixV L none 0 0 true false 0 0) ∧ Below w.heap.size w w' := by
  cases on
  · rw [if_neg (by decide)]
    go_enter Try.func29, Try.ntmps29
    go_wp2_with fail
    refine bodyPost_ret (v := sixV L none 0 0 true false 0 0) (by simp [results, Try.results29, go_sem]) rfl ⟨rfl, ?_⟩
    exact two_below _ _ _
  · rw [if_pos rfl]
    go_enter Try.func29, Try.ntmps29
    go_wp2_with fail
    refine bodyPost_ret (v := sixV L A n c true am sy ct) (by simp [results, Try.results29, go_sem]) rfl ⟨rfl, ?_⟩
    exact two_below _ _ _
set_option maxHeartbeats 2000000 in
theorem r15Arm_raw (L : ByteArray) (A : Option Addr) (n c : Nat) (on am : Bool) (sy ct s k : Int) (w : World) :
    Calls Try.prog 27 #[sixV L A n c on am sy ct, .int .i64 s, .int .i64 k] w fun e w' => e = .returned (if on = true then sixV L A n c on true (max s 0) (max k 0) else sixV L A n c on am sy ct) ∧ Below w.heap.size w w' := by
  cases on
  · rw [if_neg (by decide)]
    go_enter Try.func27, Try.ntmps27
    go_wp2_with fail
    refine bodyPost_ret (v := sixV L A n c false am sy ct) (by simp [results, Try.results27, go_sem]) rfl ⟨rfl, ?_⟩
    exact two_below _ _ _
  · rw [if_pos rfl]
    go_enter Try.func27, Try.ntmps27
    go_wp2_with fail
    refine bodyPost_ret (v := sixV L A n c true true (max s 0) (max k 0)) (by simp [results, Try.results27, go_sem]) rfl ⟨rfl, ?_⟩
    first
      | exact two_below _ _ _
      | exact (((two_below _ _ _).setCell (by simp) _).setCell (by simp) _).setCell (by simp) _
      | trace_state
set_option maxHeartbeats 2000000 in
theorem r15Down_raw (L D : ByteArray) (A : Option Addr) (n c : Nat) (on am : Bool) (sy ct k : Int) (w : World)
    (HD : ∀ W, Below w.heap.size w W → Calls Try.prog 34 #[sixV L A n c on am sy ct, .int .i64 k] W fun e w' => e = .returned (.string D) ∧ Below W.heap.size W w') :
    Calls Try.prog 28 #[sixV L A n c on am sy ct, .int .i64 k] w fun e w' => e = .returned (if on = true then sixV D none 0 0 false false 0 0 else sixV L A n c on am sy ct) ∧ Below w.heap.size w w' := by
  replace HD := Lib.hid HD
  cases on
  · rw [if_neg (by decide)]
    go_enter Try.func28, Try.ntmps28
    go_wp2_with fail
    refine bodyPost_ret (v := sixV L A n c false am sy ct) (by simp [results, Try.results28, go_sem]) rfl ⟨rfl, ?_⟩
    exact two_below _ _ _
  · rw [if_pos rfl]
    go_enter Try.func28, Try.ntmps28
    have hTL := two_laid w (.cells #[.string L, .slice A n c, .bool true, .bool am, .int .i64 sy, .int .i64 ct] 31) (.cells #[.string ⟨#[]⟩, .slice none 0 0, .bool false, .bool false, .int .i64 0, .int .i64 0] 31)
    have HTL := Lib.hid hTL
    clear hTL
    go_wp2_with fail
    refine (HD.out _ HTL.out.2.2).mono ?_
    rintro x w1 ⟨rfl, b1⟩
    have hr := (b1.block (w.heap.size + 1) (by simp)).trans HTL.out.2.1
    obtain ⟨r0, r1, r2, r3, r4, r5⟩ := six_cells hr
    have f0 := Lib.frozen_of_heap hr 0
    have f1 := Lib.frozen_of_heap hr 1
    have f2 := Lib.frozen_of_heap hr 2
    have f3 := Lib.frozen_of_heap hr 3
    have f4 := Lib.frozen_of_heap hr 4
    have f5 := Lib.frozen_of_heap hr 5
    have hlt := (Array.getElem?_eq_some_iff.1 hr).1
    have HB := Lib.hid (Below.trans HTL.out.2.2 (b1.mono HTL.out.2.2.size))
    clear b1 hr
    have hge : w.heap.size ≤ w.heap.size + 1 := Nat.le_succ _
    have HGE := Lib.hid hge
    clear hge
    generalize w.heap.size + 1 = rb at *
    go_wp2_with fail
    refine bodyPost_ret (v := sixV D none 0 0 false false 0 0) (by simp [results, Try.results28, go_sem, r0, r1, r2, r3, r4, r5]) rfl ⟨rfl, ?_⟩
    exact (((((HB.out.setCell HGE.out _).setCell HGE.out _).setCell HGE.out _).setCell HGE.out _).setCell HGE.out _).setCell HGE.out _
end Go.Proofs.Ytpdgadohfhmcnaa
