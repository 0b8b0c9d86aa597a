/-
  THE DOCUMENT's DISK: a write that waits.
-/
import Derived.Test.YtpdgadohfhmcnaaDkT
import Derived.Deep.Upon
namespace Go.Proofs.Ytpdgadohfhmcnaa
open Go.ChangeShapes Go.WideShapes Go.ChangeAt Go.RowKit

/-- an append whose run is known, at a plain region's list -/
theorem wpList_app_run {P : Program} {ops : Array Oper} {rest : List Oper} {o : Oper} {a : Act} {w : World} {Q : Exit → Act → World → Prop} (hgd : o.guard = none) (s x : Operand) (t : TypeId)
    (ho : o.op = .call { callee := .builtin .append, args := #[s, x], argTypes := #[t, t] }) (v xv : Value) (hs : a.eval s = v) (hx : a.eval x = xv) {v' : Value} {w' : World}
    (hr : (Builtin.append_ #[t, t] o.type #[v, xv]).run P w = .ok v' w') (h : wpList P ops Q rest (a.put o.dst v') w') : wpList P ops Q (o :: rest) a w :=
  wpList_plain hgd fun _ hK => by
    unfold Oper.wp execOp
    simp only [ho, resolve, invoke, builtin, Sem.run_bind, Sem.run_pure, Result.andThen_ok, List.map_toArray, List.map_cons, List.map_nil, hs, hx, hr]
    exact hK _ _ h
theorem infoRwr : (Try.prog.info? 70).map (fun i => (i.zero, i.size, i.bytes)) = some (some (.agg #[.int .i64 0, .string ⟨#[]⟩]), 2, 24) := by kernel_rfl
theorem addr_off (b off k : Nat) : (⟨b, off, none⟩ : Addr).add k = ⟨b, off + k, none⟩ := by
  unfold Addr.add
  split
  · rename_i h0
    have : k = 0 := by simpa using h0
    simp only [Addr.mk.injEq, true_and, and_true]; omega
  · rfl
theorem wrow_news {w : World} {b off : Nat} {l : List Dk.Wr} (h : WRow w (some ⟨b, off, none⟩) l) : ∀ j u, (wcells l)[j]? = some u → w.cell? ((⟨b, off, none⟩ : Addr).add j) = some u := by
  intro j u hj
  have hlt : j < l.length * 2 := by
    have := (List.getElem?_eq_some_iff.1 hj).1
    rwa [wcells_len] at this
  have hi : j / 2 < l.length := by omega
  obtain ⟨b', off', e, _, c0, c1⟩ := h.at_ (j / 2) hi
  obtain ⟨rfl, rfl⟩ : b = b' ∧ off = off' := by simpa using e
  have hgd : l.getD (j / 2) (0, []) = l[j / 2] := by simp [List.getD_eq_getElem?_getD, hi]
  rw [hgd] at c0 c1
  rw [addr_off]
  have hm : j % 2 = 0 ∨ j % 2 = 1 := by omega
  rcases hm with h0 | h0
  · have e1 : j = j / 2 * 2 := by omega
    rw [e1, wcells_at l _ hi] at hj
    obtain rfl := Option.some.inj hj
    rw [show off + j = off + j / 2 * 2 by omega]; exact c0
  · have e1 : j = j / 2 * 2 + 1 := by omega
    rw [e1, wcells_data l _ hi] at hj
    obtain rfl := Option.some.inj hj
    rw [show off + j = off + j / 2 * 2 + 1 by omega]; exact c1
theorem wcells_one (l : List Dk.Wr) : ∀ u ∈ wcells l, u.oneCell' = true := by
  intro u hu
  unfold wcells at hu
  obtain ⟨f, _, hf⟩ := List.mem_flatMap.1 hu
  simp only [List.mem_cons, List.not_mem_nil, or_false] at hf
  rcases hf with rfl | rfl <;> rfl
/-- a row of writes appended to none -/
theorem wcopy_run {W : World} {l : List Dk.Wr} {A : Option Addr} {c : Nat} (hl : l.length ≤ 100000) (hA : WRow W A l) :
    ∃ A' c' W', (Builtin.append_ #[29, 29] 29 #[.slice none 0 0, .slice A l.length c]).run Try.prog W = .ok (.slice A' l.length c') W' ∧ W'.ownsRow W.heap.size 70 2 (.slice A' l.length c') l.length (wcells l) ∧ Below W.heap.size W W' := by
  obtain ⟨i1, hi1, hz0, hz1, hz2⟩ := info_parts infoRwr
  cases hcase : l with
  | nil =>
    have hsrc : Src Try.prog i1.size 29 (.slice A 0 c) 0 [] W := by
      cases A with
      | none => exact Src.ofNil W Try.underlying29 c
      | some a => exact Src.ofSlice W Try.underlying29 a 0 c [] (by simp) (fun j u h => by simp at h) (fun u h => by simp at h)
    exact ⟨none, 0, W, run_append_nothing W 29 29 29 70 i1 Try.underlying29 hi1 none 0 0 (Nat.le_refl _) (.slice A 0 c) hsrc, World.ownsRow_nil _ _ _ _, Below.refl _ _⟩
  | cons x t =>
    rw [← hcase]
    have hpos : 0 < l.length := by rw [hcase]; simp
    obtain ⟨b, off, rfl, hbl, -⟩ := hA.at_ 0 hpos
    obtain ⟨gg, cap, w', hr, h2, h3, h4, h5⟩ := run_append_lies (P := Try.prog) W 29 29 W.heap.size 70 i1 _ 2 24 Try.underlying29 hi1 hz0 hz1 hz2 rfl (by omega) (.slice none 0 0) 0 [] (World.ownsRow_nil _ _ _ _) ⟨b, off, none⟩ l.length c (wcells l) (wcells_len l) (wrow_news hA) (wcells_one l) hpos (by unfold maxLen; omega) (by omega) (Nat.le_refl _) _ rfl
    rw [Nat.zero_add, List.nil_append] at h2
    rw [Nat.zero_add] at hr
    exact ⟨some ⟨gg, 0, none⟩, cap, w', hr, h2, ⟨h3.os, h3.tape, h3.output, h3.size, fun k hk => h3.block k hk (fun e => by cases e)⟩⟩
set_option maxHeartbeats 4000000 in
theorem r15Put_no (L : ByteArray) (A : Option Addr) (n c : Nat) (on am : Bool) (sy ct a cd : Int) (s : ByteArray) (w : World) (hc : cd ≠ 0)
    (HC : ∀ W, Below w.heap.size w W → Calls Try.prog 35 #[sixV L A n c on am sy ct, .int .i64 a] W fun e w' => e = .returned (.int .i64 cd) ∧ Below W.heap.size W w') :
    Calls Try.prog 30 #[sixV L A n c on am sy ct, .int .i64 a, .string s] w fun e w' => e = .returned (.tuple #[sixV L A n c on am sy ct, .int .i64 cd]) ∧ Below w.heap.size w w' := by
  replace HC := Lib.hid HC
  have HTL := Lib.hid (two_laid w (.cells #[.string L, .slice A n c, .bool on, .bool am, .int .i64 sy, .int .i64 ct] 31) (.cells #[.string ⟨#[]⟩, .slice none 0 0, .bool false, .bool false, .int .i64 0, .int .i64 0] 31))
  have k0 : (cd == 0) = false := by simpa using hc
  have k1 : (cd != 0) = true := by simpa using hc
  clear hc
  go_enter Try.func30, Try.ntmps30
  go_wp2_with fail
  refine (HC.out _ HTL.out.2.2).mono ?_
  rintro x w1 ⟨rfl, b1⟩
  have hr := (b1.block (w.heap.size + 1) (by simp)).trans HTL.out.2.1
  have hq := (b1.block w.heap.size (by simp; omega)).trans HTL.out.1
  obtain ⟨r0, r1, r2, r3, r4, r5⟩ := six_cells hr
  obtain ⟨q0, q1, q2, q3, q4, q5⟩ := six_cells hq
  have f0 := Lib.frozen_of_heap hr 0
  have f1 := Lib.frozen_of_heap hr 1
  have f2 := Lib.frozen_of_heap hr 2
  have f3 := Lib.frozen_of_heap hr 3
  have f4 := Lib.frozen_of_heap hr 4
  have f5 := Lib.frozen_of_heap hr 5
  have hlt := (Array.getElem?_eq_some_iff.1 hr).1
  have HB := Lib.hid (Below.trans HTL.out.2.2 (b1.mono HTL.out.2.2.size))
  have HGE := Lib.hid (show w.heap.size ≤ w.heap.size + 1 from Nat.le_succ _)
  have hne : w.heap.size ≠ w.heap.size + 1 := by omega
  clear b1 hr hq
  generalize w.heap.size + 1 = rb at *
  go_wp2_with fail
  refine bodyPost_ret (v := .tuple #[sixV L A n c on am sy ct, .int .i64 cd]) (by simp [results, Try.results30, go_sem, r0, r1, r2, r3, r4, r5]) rfl ⟨rfl, ?_⟩
  exact (((((HB.out.setCell HGE.out _).setCell HGE.out _).setCell HGE.out _).setCell HGE.out _).setCell HGE.out _).setCell HGE.out _
set_option maxHeartbeats 4000000 in
theorem r15Put_long (L : ByteArray) (A : Option Addr) (n c : Nat) (on am : Bool) (sy ct a : Int) (s : ByteArray) (w : World) (hs : 64 < s.size)
    (HC : ∀ W, Below w.heap.size w W → Calls Try.prog 35 #[sixV L A n c on am sy ct, .int .i64 a] W fun e w' => e = .returned (.int .i64 0) ∧ Below W.heap.size W w') :
    Calls Try.prog 30 #[sixV L A n c on am sy ct, .int .i64 a, .string s] w fun e w' => e = .returned (.tuple #[sixV L A n c on am sy ct, .int .i64 5]) ∧ Below w.heap.size w w' := by
  replace HC := Lib.hid HC
  have HTL := Lib.hid (two_laid w (.cells #[.string L, .slice A n c, .bool on, .bool am, .int .i64 sy, .int .i64 ct] 31) (.cells #[.string ⟨#[]⟩, .slice none 0 0, .bool false, .bool false, .int .i64 0, .int .i64 0] 31))
  have k0 : decide ((s.size : Int) > 64) = true := decide_eq_true (by omega)
  go_enter Try.func30, Try.ntmps30
  go_wp2_with fail
  refine (HC.out _ HTL.out.2.2).mono ?_
  rintro x w1 ⟨rfl, b1⟩
  have hr := (b1.block (w.heap.size + 1) (by simp)).trans HTL.out.2.1
  have hq := (b1.block w.heap.size (by simp; omega)).trans HTL.out.1
  obtain ⟨r0, r1, r2, r3, r4, r5⟩ := six_cells hr
  obtain ⟨q0, q1, q2, q3, q4, q5⟩ := six_cells hq
  have f0 := Lib.frozen_of_heap hr 0
  have f1 := Lib.frozen_of_heap hr 1
  have f2 := Lib.frozen_of_heap hr 2
  have f3 := Lib.frozen_of_heap hr 3
  have f4 := Lib.frozen_of_heap hr 4
  have f5 := Lib.frozen_of_heap hr 5
  have hlt := (Array.getElem?_eq_some_iff.1 hr).1
  have HB := Lib.hid (Below.trans HTL.out.2.2 (b1.mono HTL.out.2.2.size))
  have HGE := Lib.hid (show w.heap.size ≤ w.heap.size + 1 from Nat.le_succ _)
  have hne : w.heap.size ≠ w.heap.size + 1 := by omega
  clear b1 hr hq
  generalize w.heap.size + 1 = rb at *
  go_wp2_with fail
  refine bodyPost_ret (v := .tuple #[sixV L A n c on am sy ct, .int .i64 5]) (by simp [results, Try.results30, go_sem, r0, r1, r2, r3, r4, r5]) rfl ⟨rfl, ?_⟩
  exact (((((HB.out.setCell HGE.out _).setCell HGE.out _).setCell HGE.out _).setCell HGE.out _).setCell HGE.out _).setCell HGE.out _
end Go.Proofs.Ytpdgadohfhmcnaa
