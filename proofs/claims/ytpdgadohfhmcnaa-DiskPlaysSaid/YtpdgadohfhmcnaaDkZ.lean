/-
  AN ACT DONE TO BOTH DISKS.
-/
import Derived.Test.YtpdgadohfhmcnaaDkY
namespace Go.Proofs.Ytpdgadohfhmcnaa
open Go.ChangeShapes Go.WideShapes Go.ChangeAt Go.RowKit

def ArmB (st : Dk.St) : Prop := ∀ s c, st.arm = some (s, c) → s ≤ 9223372036854775807 ∧ c ≤ 9223372036854775807
def DoPost (n : Nat) (w0 : World) (D : Nat) (st : Dk.St) (ex : List (Nat × Obj)) (e : Ending) (w' : World) : Prop := ∃ v', e = .returned (.tuple #[v', .bool true]) ∧ Pl2 n w0 D st st v' ex w'
abbrev act4 (kw : Nat) (xa xc : Int) (xd : List UInt8) : Array Value := #[.int .u8 (kw : Int), .int .i64 xa, .int .i64 xc, .string (ofL xd)]
theorem four_cells {w : World} {b kw : Nat} {xa xc : Int} {xd : List UInt8} {t : TypeId} (h : w.heap[b]? = some (.cells (act4 kw xa xc xd) t (0, 0))) :
    w.cell? ⟨b, 0, none⟩ = some (.int .u8 (kw : Int)) ∧ w.cell? ⟨b, 1, none⟩ = some (.int .i64 xa) ∧ w.cell? ⟨b, 2, none⟩ = some (.int .i64 xc) ∧ w.cell? ⟨b, 3, none⟩ = some (.string (ofL xd)) :=
  ⟨by rw [Lib.cell_of_heap h]; rfl, by rw [Lib.cell_of_heap h]; rfl, by rw [Lib.cell_of_heap h]; rfl, by rw [Lib.cell_of_heap h]; rfl⟩

set_option maxRecDepth 100000 in
set_option maxHeartbeats 8000000 in
theorem do15_sync (n D kw : Nat) (w0 : World) (st : Dk.St) (ex : List (Nat × Obj)) (A0 : Option Addr) (k0 c0 : Nat) (on0 am0 : Bool) (sy0 ct0 : Int) (L0 : ByteArray) (xa xc : Int) (xd : List UInt8) (w : World) (h : Pl2 n w0 D st st (sixV L0 A0 k0 c0 on0 am0 sy0 ct0) ex w) (hn : n ≤ 4096) (hl : st.wait.length ≤ 100000) (hb : ArmB st)
    (hkw : kw < 256) (hm : (kw : Int) % 8 = 3) :
    Calls Try.prog 13 #[dkP D, sixV L0 A0 k0 c0 on0 am0 sy0 ct0, .agg #[.int .u8 (kw : Int), .int .i64 xa, .int .i64 xc, .string (ofL xd)]] w (DoPost n w0 D (Dk.sync st) ex) := by
  have HQ0 := Lib.hid (h.push (.cells (six (.string L0) A0 k0 c0 on0 am0 sy0 ct0) 31))
  have HA0 := Lib.hid (HQ0.out.push (.cells (act4 kw xa xc xd) 34))
  have HR0 := Lib.hid (HA0.out.push (.cells (six (.string ⟨#[]⟩) none 0 0 false false 0 0) 31))
  have HW := Lib.hid h.below.size
  have hz : (ofL xd).size = xd.length := ofL_size xd
  have e1 : (w.alloc (.cells (six (.string L0) A0 k0 c0 on0 am0 sy0 ct0) 31)).heap.size = w.heap.size + 1 := by simp
  have e2 : ((w.alloc (.cells (six (.string L0) A0 k0 c0 on0 am0 sy0 ct0) 31)).alloc (.cells (act4 kw xa xc xd) 34)).heap.size = w.heap.size + 1 + 1 := by simp
  rw [e1] at HA0
  rw [e1, e2] at HR0
  have HB := Lib.hid hb
  have HWF := Lib.hid h.wf
  have HEX := Lib.hid (show ∀ x ∈ ex, x.1 < w.heap.size from fun x hx => (Array.getElem?_eq_some_iff.1 (h.get hx)).1)
  clear h e1 e2 hb
  go_enter Try.func13, Try.ntmps13
  go_upto_region 6 with fail
  have W0 := Lib.hid (show ∃ W, W = ((w.alloc (.cells (six (.string L0) A0 k0 c0 on0 am0 sy0 ct0) 31)).alloc (.cells (act4 kw xa xc xd) 34)).alloc (.cells (six (.string ⟨#[]⟩) none 0 0 false false 0 0) 31) from ⟨_, rfl⟩)
  clear HQ0 HA0
  generalize ((w.alloc (.cells #[.string L0, .slice A0 k0 c0, .bool on0, .bool am0, .int .i64 sy0, .int .i64 ct0] 31)).alloc (.cells #[.int .u8 (kw : Int), .int .i64 xa, .int .i64 xc, .string (ofL xd)] 34)).alloc (.cells #[.string ⟨#[]⟩, .slice none 0 0, .bool false, .bool false, .int .i64 0, .int .i64 0] 31) = W at *
  clear W0
  obtain ⟨bq, hbq⟩ : ∃ bq, bq = w.heap.size := ⟨_, rfl⟩
  have HBQ := Lib.hid (show w0.heap.size ≤ bq by have := HW.out; omega)
  rw [← hbq] at HR0 HEX ⊢
  clear hbq
  have haq : bq + 1 ≠ bq := by omega
  have har : bq + 1 ≠ bq + 1 + 1 := by omega
  have hqr : bq ≠ bq + 1 + 1 := by omega
  obtain ⟨ba, hba⟩ : ∃ ba, ba = bq + 1 := ⟨_, rfl⟩
  obtain ⟨br, hbr⟩ : ∃ br, br = bq + 1 + 1 := ⟨_, rfl⟩
  have HBR := Lib.hid (show w0.heap.size ≤ br by have := HBQ.out; omega)
  rw [← hbr, ← hba] at HR0
  rw [← hba] at haq
  rw [← hbr, ← hba] at har
  rw [← hbr] at hqr
  rw [← hbr, ← hba]
  have HLT := Lib.hid (show bq < br by omega)
  clear hba hbr
  obtain ⟨bx, hbx⟩ : ∃ bx : List (Nat × Obj), bx = (br, .cells (six (.string ⟨#[]⟩) none 0 0 false false 0 0) 31 (0, 0)) :: (ba, .cells (act4 kw xa xc xd) 34 (0, 0)) :: (bq, .cells (six (.string L0) A0 k0 c0 on0 am0 sy0 ct0) 31 (0, 0)) :: ex := ⟨_, rfl⟩
  have HX := Lib.hid hbx
  rw [← hbx] at HR0
  clear hbx
  have hgA := HR0.out.get (x := (ba, .cells (act4 kw xa xc xd) 34 (0, 0))) (by rw [HX.out]; simp)
  obtain ⟨a0, a1, a2, a3⟩ := four_cells hgA
  clear hgA
  go_wp2_with fail
  refine ((fun W (h : Pl2 n w0 D st st (sixV L0 A0 k0 c0 on0 am0 sy0 ct0) bx W) => h.call (fun F hd => dkSync_any W hd hl HB.out)) _ HR0.out).mono ?_
  rintro x W1 ⟨rfl, h1⟩
  have H1 := Lib.hid h1
  have hgQ := H1.out.get (x := (bq, .cells (six (.string L0) A0 k0 c0 on0 am0 sy0 ct0) 31 (0, 0))) (by rw [HX.out]; simp)
  have hgA := H1.out.get (x := (ba, .cells (act4 kw xa xc xd) 34 (0, 0))) (by rw [HX.out]; simp)
  obtain ⟨q0, q1, q2, q3, q4, q5⟩ := six_cells hgQ
  obtain ⟨z0, z1, z2, z3⟩ := four_cells hgA
  clear h1 hgQ hgA a0 a1 a2 a3
  go_wp2_with fail
  refine ((fun W (h : Pl2 n w0 D (Dk.sync st) st (sixV L0 A0 k0 c0 on0 am0 sy0 ct0) bx W) => h.q (mk := fun v' => .tuple #[v', .int .i64 (Dk.scode st)]) (fun F hz _ => qSync hz HWF.out hn hl HB.out)) _ H1.out).mono ?_
  rintro x W2 ⟨v2, rfl, h2⟩
  have H2 := Lib.hid h2
  obtain ⟨A2, c2, am2, sy2, ct2, hv2⟩ := h2.val
  rw [hv2] at H2 ⊢
  clear hv2
  clear h2 q0 q1 q2 q3 q4 q5 z0 z1 z2 z3
  have hgQ := H2.out.get (x := (bq, .cells (six (.string L0) A0 k0 c0 on0 am0 sy0 ct0) 31 (0, 0))) (by rw [HX.out]; simp)
  obtain ⟨q0, q1, q2, q3, q4, q5⟩ := six_cells hgQ
  have f0 := Lib.frozen_of_heap hgQ 0
  have f1 := Lib.frozen_of_heap hgQ 1
  have f2 := Lib.frozen_of_heap hgQ 2
  have f3 := Lib.frozen_of_heap hgQ 3
  have f4 := Lib.frozen_of_heap hgQ 4
  have f5 := Lib.frozen_of_heap hgQ 5
  have hltq := (Array.getElem?_eq_some_iff.1 hgQ).1
  clear hgQ
  generalize hL2 : ofL (Dk.sync st).last = L2 at *
  generalize hk2 : (Dk.sync st).wait.length = k2 at *
  generalize ho2 : (Dk.sync st).on = on2 at *
  clear hL2 hk2 ho2
  go_upto_region 21 with fail
  have H3 := Lib.hid ((H2.out.sub (by' := (bq, .cells (six (.string L0) A0 k0 c0 on0 am0 sy0 ct0) 31 (0, 0)) :: (br, .cells (six (.string ⟨#[]⟩) none 0 0 false false 0 0) 31 (0, 0)) :: ex) (fun x hx => by rw [HX.out]; simp only [List.cons_append, List.nil_append, List.mem_cons] at hx ⊢; rcases hx with rfl | rfl | hx <;> simp [*])).fill (x' := .string L2) (A' := A2) (k' := k2) (c' := c2) (on' := on2) (am' := am2) (sy' := sy2) (ct' := ct2) HBQ.out (fun x hx => by rcases List.mem_cons.1 hx with rfl | hx; exact hqr.symm; have := HEX.out x hx; omega))
  generalize (((((W2.setCell ⟨bq, 0, none⟩ (.string L2)).setCell ⟨bq, 1, none⟩ (.slice A2 k2 c2)).setCell ⟨bq, 2, none⟩ (.bool on2)).setCell ⟨bq, 3, none⟩ (.bool am2)).setCell ⟨bq, 4, none⟩ (.int .i64 sy2)).setCell ⟨bq, 5, none⟩ (.int .i64 ct2) = W3 at *
  clear q0 q1 q2 q3 q4 q5 f0 f1 f2 f3 f4 f5 hltq
  have hgQ := H3.out.get (x := (bq, .cells (six (.string L2) A2 k2 c2 on2 am2 sy2 ct2) 31 (0, 0))) (by simp)
  have hgR := H3.out.get (x := (br, .cells (six (.string ⟨#[]⟩) none 0 0 false false 0 0) 31 (0, 0))) (by simp)
  obtain ⟨q0, q1, q2, q3, q4, q5⟩ := six_cells hgQ
  obtain ⟨r0, r1, r2, r3, r4, r5⟩ := six_cells hgR
  have f0 := Lib.frozen_of_heap hgR 0
  have f1 := Lib.frozen_of_heap hgR 1
  have f2 := Lib.frozen_of_heap hgR 2
  have f3 := Lib.frozen_of_heap hgR 3
  have f4 := Lib.frozen_of_heap hgR 4
  have f5 := Lib.frozen_of_heap hgR 5
  have hltr := (Array.getElem?_eq_some_iff.1 hgR).1
  clear hgQ hgR
  go_wp2_with fail
  have H4 := Lib.hid (((H3.out.sub (by' := (br, .cells (six (.string ⟨#[]⟩) none 0 0 false false 0 0) 31 (0, 0)) :: ex) (fun x hx => by rcases List.mem_cons.1 hx with rfl | hx <;> simp [*])).fill (x' := .string L2) (A' := A2) (k' := k2) (c' := c2) (on' := on2) (am' := am2) (sy' := sy2) (ct' := ct2) HBR.out (fun x hx => by have := HEX.out x hx; have := HLT.out; omega)).sub (by' := ex) (fun x hx => List.mem_cons_of_mem _ hx))
  refine bodyPost_ret (v := .tuple #[sixV L2 A2 k2 c2 on2 am2 sy2 ct2, .bool true]) (by simp [results, Try.results13, go_sem, r0, r1, r2, r3, r4, r5]) rfl ⟨_, rfl, ?_⟩
  exact H4.out
set_option maxRecDepth 100000 in
set_option maxHeartbeats 8000000 in
theorem do15_read (n D kw : Nat) (w0 : World) (st : Dk.St) (ex : List (Nat × Obj)) (A0 : Option Addr) (k0 c0 : Nat) (on0 am0 : Bool) (sy0 ct0 : Int) (L0 : ByteArray) (xa xc : Int) (xd : List UInt8) (w : World) (h : Pl2 n w0 D st st (sixV L0 A0 k0 c0 on0 am0 sy0 ct0) ex w) (hn : n ≤ 4096) (hl : st.wait.length ≤ 100000) 
    (hkw : kw < 256) (hm : (kw : Int) % 8 = 4) :
    Calls Try.prog 13 #[dkP D, sixV L0 A0 k0 c0 on0 am0 sy0 ct0, .agg #[.int .u8 (kw : Int), .int .i64 xa, .int .i64 xc, .string (ofL xd)]] w (DoPost n w0 D (st) ex) := by
  have HQ0 := Lib.hid (h.push (.cells (six (.string L0) A0 k0 c0 on0 am0 sy0 ct0) 31))
  have HA0 := Lib.hid (HQ0.out.push (.cells (act4 kw xa xc xd) 34))
  have HR0 := Lib.hid (HA0.out.push (.cells (six (.string ⟨#[]⟩) none 0 0 false false 0 0) 31))
  have HW := Lib.hid h.below.size
  have hz : (ofL xd).size = xd.length := ofL_size xd
  have e1 : (w.alloc (.cells (six (.string L0) A0 k0 c0 on0 am0 sy0 ct0) 31)).heap.size = w.heap.size + 1 := by simp
  have e2 : ((w.alloc (.cells (six (.string L0) A0 k0 c0 on0 am0 sy0 ct0) 31)).alloc (.cells (act4 kw xa xc xd) 34)).heap.size = w.heap.size + 1 + 1 := by simp
  rw [e1] at HA0
  rw [e1, e2] at HR0
  have HWF := Lib.hid h.wf
  have HEX := Lib.hid (show ∀ x ∈ ex, x.1 < w.heap.size from fun x hx => (Array.getElem?_eq_some_iff.1 (h.get hx)).1)
  clear h e1 e2
  go_enter Try.func13, Try.ntmps13
  go_upto_region 9 with fail
  have W0 := Lib.hid (show ∃ W, W = ((w.alloc (.cells (six (.string L0) A0 k0 c0 on0 am0 sy0 ct0) 31)).alloc (.cells (act4 kw xa xc xd) 34)).alloc (.cells (six (.string ⟨#[]⟩) none 0 0 false false 0 0) 31) from ⟨_, rfl⟩)
  clear HQ0 HA0
  generalize ((w.alloc (.cells #[.string L0, .slice A0 k0 c0, .bool on0, .bool am0, .int .i64 sy0, .int .i64 ct0] 31)).alloc (.cells #[.int .u8 (kw : Int), .int .i64 xa, .int .i64 xc, .string (ofL xd)] 34)).alloc (.cells #[.string ⟨#[]⟩, .slice none 0 0, .bool false, .bool false, .int .i64 0, .int .i64 0] 31) = W at *
  clear W0
  obtain ⟨bq, hbq⟩ : ∃ bq, bq = w.heap.size := ⟨_, rfl⟩
  have HBQ := Lib.hid (show w0.heap.size ≤ bq by have := HW.out; omega)
  rw [← hbq] at HR0 HEX ⊢
  clear hbq
  have haq : bq + 1 ≠ bq := by omega
  have har : bq + 1 ≠ bq + 1 + 1 := by omega
  have hqr : bq ≠ bq + 1 + 1 := by omega
  obtain ⟨ba, hba⟩ : ∃ ba, ba = bq + 1 := ⟨_, rfl⟩
  obtain ⟨br, hbr⟩ : ∃ br, br = bq + 1 + 1 := ⟨_, rfl⟩
  have HBR := Lib.hid (show w0.heap.size ≤ br by have := HBQ.out; omega)
  rw [← hbr, ← hba] at HR0
  rw [← hba] at haq
  rw [← hbr, ← hba] at har
  rw [← hbr] at hqr
  rw [← hbr, ← hba]
  have HLT := Lib.hid (show bq < br by omega)
  clear hba hbr
  obtain ⟨bx, hbx⟩ : ∃ bx : List (Nat × Obj), bx = (br, .cells (six (.string ⟨#[]⟩) none 0 0 false false 0 0) 31 (0, 0)) :: (ba, .cells (act4 kw xa xc xd) 34 (0, 0)) :: (bq, .cells (six (.string L0) A0 k0 c0 on0 am0 sy0 ct0) 31 (0, 0)) :: ex := ⟨_, rfl⟩
  have HX := Lib.hid hbx
  rw [← hbx] at HR0
  clear hbx
  have hgA := HR0.out.get (x := (ba, .cells (act4 kw xa xc xd) 34 (0, 0))) (by rw [HX.out]; simp)
  obtain ⟨a0, a1, a2, a3⟩ := four_cells hgA
  clear hgA
  go_wp2_with fail
  refine ((fun W (h : Pl2 n w0 D st st (sixV L0 A0 k0 c0 on0 am0 sy0 ct0) bx W) => h.read (fun F hd => dkRead_any xa W hd hl)) _ HR0.out).mono ?_
  rintro x W1 ⟨rfl, h1⟩
  have H1 := Lib.hid h1
  have hgQ := H1.out.get (x := (bq, .cells (six (.string L0) A0 k0 c0 on0 am0 sy0 ct0) 31 (0, 0))) (by rw [HX.out]; simp)
  have hgA := H1.out.get (x := (ba, .cells (act4 kw xa xc xd) 34 (0, 0))) (by rw [HX.out]; simp)
  obtain ⟨q0, q1, q2, q3, q4, q5⟩ := six_cells hgQ
  obtain ⟨z0, z1, z2, z3⟩ := four_cells hgA
  clear h1 hgQ hgA a0 a1 a2 a3
  go_wp2_with fail
  refine ((fun W (h : Pl2 n w0 D st st (sixV L0 A0 k0 c0 on0 am0 sy0 ct0) bx W) => h.qread (fun F hz => qRead xa hz HWF.out hn hl)) _ H1.out).mono ?_
  rintro x W2 ⟨rfl, h2⟩
  have H2 := Lib.hid h2
  clear h2 q0 q1 q2 q3 q4 q5 z0 z1 z2 z3
  have hgQ := H2.out.get (x := (bq, .cells (six (.string L0) A0 k0 c0 on0 am0 sy0 ct0) 31 (0, 0))) (by rw [HX.out]; simp)
  obtain ⟨q0, q1, q2, q3, q4, q5⟩ := six_cells hgQ
  have f0 := Lib.frozen_of_heap hgQ 0
  have f1 := Lib.frozen_of_heap hgQ 1
  have f2 := Lib.frozen_of_heap hgQ 2
  have f3 := Lib.frozen_of_heap hgQ 3
  have f4 := Lib.frozen_of_heap hgQ 4
  have f5 := Lib.frozen_of_heap hgQ 5
  have hltq := (Array.getElem?_eq_some_iff.1 hgQ).1
  clear hgQ
  skip
  clear f0 f1 f2 f3 f4 f5 hltq q0 q1 q2 q3 q4 q5
  have H3 := Lib.hid (H2.out.sub (by' := (bq, .cells (six (.string L0) A0 k0 c0 on0 am0 sy0 ct0) 31 (0, 0)) :: (br, .cells (six (.string ⟨#[]⟩) none 0 0 false false 0 0) 31 (0, 0)) :: ex) (fun x hx => by rw [HX.out]; simp only [List.cons_append, List.nil_append, List.mem_cons] at hx ⊢; rcases hx with rfl | rfl | hx <;> simp [*]))
  have hgQ := H3.out.get (x := (bq, .cells (six (.string L0) A0 k0 c0 on0 am0 sy0 ct0) 31 (0, 0))) (by simp)
  have hgR := H3.out.get (x := (br, .cells (six (.string ⟨#[]⟩) none 0 0 false false 0 0) 31 (0, 0))) (by simp)
  obtain ⟨q0, q1, q2, q3, q4, q5⟩ := six_cells hgQ
  obtain ⟨r0, r1, r2, r3, r4, r5⟩ := six_cells hgR
  have f0 := Lib.frozen_of_heap hgR 0
  have f1 := Lib.frozen_of_heap hgR 1
  have f2 := Lib.frozen_of_heap hgR 2
  have f3 := Lib.frozen_of_heap hgR 3
  have f4 := Lib.frozen_of_heap hgR 4
  have f5 := Lib.frozen_of_heap hgR 5
  have hltr := (Array.getElem?_eq_some_iff.1 hgR).1
  clear hgQ hgR
  go_wp2_with fail
  have H4 := Lib.hid (((H3.out.sub (by' := (br, .cells (six (.string ⟨#[]⟩) none 0 0 false false 0 0) 31 (0, 0)) :: ex) (fun x hx => by rcases List.mem_cons.1 hx with rfl | hx <;> simp [*])).fill (x' := .string L0) (A' := A0) (k' := k0) (c' := c0) (on' := on0) (am' := am0) (sy' := sy0) (ct' := ct0) HBR.out (fun x hx => by have := HEX.out x hx; have := HLT.out; omega)).sub (by' := ex) (fun x hx => List.mem_cons_of_mem _ hx))
  refine bodyPost_ret (v := .tuple #[sixV L0 A0 k0 c0 on0 am0 sy0 ct0, .bool true]) (by simp [results, Try.results13, go_sem, r0, r1, r2, r3, r4, r5]) rfl ⟨_, rfl, ?_⟩
  exact H4.out
set_option maxRecDepth 100000 in
set_option maxHeartbeats 8000000 in
theorem do15_arm (n D kw : Nat) (w0 : World) (st : Dk.St) (ex : List (Nat × Obj)) (A0 : Option Addr) (k0 c0 : Nat) (on0 am0 : Bool) (sy0 ct0 : Int) (L0 : ByteArray) (xa xc : Int) (xd : List UInt8) (w : World) (h : Pl2 n w0 D st st (sixV L0 A0 k0 c0 on0 am0 sy0 ct0) ex w) (hn : n ≤ 4096) (hl : st.wait.length ≤ 100000) 
    (hkw : kw < 256) (hm : (kw : Int) % 8 = 5) :
    Calls Try.prog 13 #[dkP D, sixV L0 A0 k0 c0 on0 am0 sy0 ct0, .agg #[.int .u8 (kw : Int), .int .i64 xa, .int .i64 xc, .string (ofL xd)]] w (DoPost n w0 D (Dk.armed st xa xc) ex) := by
  have HQ0 := Lib.hid (h.push (.cells (six (.string L0) A0 k0 c0 on0 am0 sy0 ct0) 31))
  have HA0 := Lib.hid (HQ0.out.push (.cells (act4 kw xa xc xd) 34))
  have HR0 := Lib.hid (HA0.out.push (.cells (six (.string ⟨#[]⟩) none 0 0 false false 0 0) 31))
  have HW := Lib.hid h.below.size
  have hz : (ofL xd).size = xd.length := ofL_size xd
  have e1 : (w.alloc (.cells (six (.string L0) A0 k0 c0 on0 am0 sy0 ct0) 31)).heap.size = w.heap.size + 1 := by simp
  have e2 : ((w.alloc (.cells (six (.string L0) A0 k0 c0 on0 am0 sy0 ct0) 31)).alloc (.cells (act4 kw xa xc xd) 34)).heap.size = w.heap.size + 1 + 1 := by simp
  rw [e1] at HA0
  rw [e1, e2] at HR0
  have HWF := Lib.hid h.wf
  have HEX := Lib.hid (show ∀ x ∈ ex, x.1 < w.heap.size from fun x hx => (Array.getElem?_eq_some_iff.1 (h.get hx)).1)
  clear h e1 e2
  go_enter Try.func13, Try.ntmps13
  go_upto_region 13 with fail
  have W0 := Lib.hid (show ∃ W, W = ((w.alloc (.cells (six (.string L0) A0 k0 c0 on0 am0 sy0 ct0) 31)).alloc (.cells (act4 kw xa xc xd) 34)).alloc (.cells (six (.string ⟨#[]⟩) none 0 0 false false 0 0) 31) from ⟨_, rfl⟩)
  clear HQ0 HA0
  generalize ((w.alloc (.cells #[.string L0, .slice A0 k0 c0, .bool on0, .bool am0, .int .i64 sy0, .int .i64 ct0] 31)).alloc (.cells #[.int .u8 (kw : Int), .int .i64 xa, .int .i64 xc, .string (ofL xd)] 34)).alloc (.cells #[.string ⟨#[]⟩, .slice none 0 0, .bool false, .bool false, .int .i64 0, .int .i64 0] 31) = W at *
  clear W0
  obtain ⟨bq, hbq⟩ : ∃ bq, bq = w.heap.size := ⟨_, rfl⟩
  have HBQ := Lib.hid (show w0.heap.size ≤ bq by have := HW.out; omega)
  rw [← hbq] at HR0 HEX ⊢
  clear hbq
  have haq : bq + 1 ≠ bq := by omega
  have har : bq + 1 ≠ bq + 1 + 1 := by omega
  have hqr : bq ≠ bq + 1 + 1 := by omega
  obtain ⟨ba, hba⟩ : ∃ ba, ba = bq + 1 := ⟨_, rfl⟩
  obtain ⟨br, hbr⟩ : ∃ br, br = bq + 1 + 1 := ⟨_, rfl⟩
  have HBR := Lib.hid (show w0.heap.size ≤ br by have := HBQ.out; omega)
  rw [← hbr, ← hba] at HR0
  rw [← hba] at haq
  rw [← hbr, ← hba] at har
  rw [← hbr] at hqr
  rw [← hbr, ← hba]
  have HLT := Lib.hid (show bq < br by omega)
  clear hba hbr
  obtain ⟨bx, hbx⟩ : ∃ bx : List (Nat × Obj), bx = (br, .cells (six (.string ⟨#[]⟩) none 0 0 false false 0 0) 31 (0, 0)) :: (ba, .cells (act4 kw xa xc xd) 34 (0, 0)) :: (bq, .cells (six (.string L0) A0 k0 c0 on0 am0 sy0 ct0) 31 (0, 0)) :: ex := ⟨_, rfl⟩
  have HX := Lib.hid hbx
  rw [← hbx] at HR0
  clear hbx
  have hgA := HR0.out.get (x := (ba, .cells (act4 kw xa xc xd) 34 (0, 0))) (by rw [HX.out]; simp)
  obtain ⟨a0, a1, a2, a3⟩ := four_cells hgA
  clear hgA
  go_wp2_with fail
  refine ((fun W (h : Pl2 n w0 D st st (sixV L0 A0 k0 c0 on0 am0 sy0 ct0) bx W) => h.call (fun F hd => dkArm_any xa xc W hd)) _ HR0.out).mono ?_
  rintro x W1 ⟨rfl, h1⟩
  have H1 := Lib.hid h1
  have hgQ := H1.out.get (x := (bq, .cells (six (.string L0) A0 k0 c0 on0 am0 sy0 ct0) 31 (0, 0))) (by rw [HX.out]; simp)
  have hgA := H1.out.get (x := (ba, .cells (act4 kw xa xc xd) 34 (0, 0))) (by rw [HX.out]; simp)
  obtain ⟨q0, q1, q2, q3, q4, q5⟩ := six_cells hgQ
  obtain ⟨z0, z1, z2, z3⟩ := four_cells hgA
  clear h1 hgQ hgA a0 a1 a2 a3
  go_wp2_with fail
  refine ((fun W (h : Pl2 n w0 D (Dk.armed st xa xc) st (sixV L0 A0 k0 c0 on0 am0 sy0 ct0) bx W) => h.q (mk := fun v' => v') (fun F hz _ => qArm xa xc hz)) _ H1.out).mono ?_
  rintro x W2 ⟨v2, rfl, h2⟩
  have H2 := Lib.hid h2
  obtain ⟨A2, c2, am2, sy2, ct2, hv2⟩ := h2.val
  rw [hv2] at H2 ⊢
  clear hv2
  clear h2 q0 q1 q2 q3 q4 q5 z0 z1 z2 z3
  have hgQ := H2.out.get (x := (bq, .cells (six (.string L0) A0 k0 c0 on0 am0 sy0 ct0) 31 (0, 0))) (by rw [HX.out]; simp)
  obtain ⟨q0, q1, q2, q3, q4, q5⟩ := six_cells hgQ
  have f0 := Lib.frozen_of_heap hgQ 0
  have f1 := Lib.frozen_of_heap hgQ 1
  have f2 := Lib.frozen_of_heap hgQ 2
  have f3 := Lib.frozen_of_heap hgQ 3
  have f4 := Lib.frozen_of_heap hgQ 4
  have f5 := Lib.frozen_of_heap hgQ 5
  have hltq := (Array.getElem?_eq_some_iff.1 hgQ).1
  clear hgQ
  generalize hL2 : ofL (Dk.armed st xa xc).last = L2 at *
  generalize hk2 : (Dk.armed st xa xc).wait.length = k2 at *
  generalize ho2 : (Dk.armed st xa xc).on = on2 at *
  clear hL2 hk2 ho2
  go_upto_region 21 with fail
  have H3 := Lib.hid ((H2.out.sub (by' := (bq, .cells (six (.string L0) A0 k0 c0 on0 am0 sy0 ct0) 31 (0, 0)) :: (br, .cells (six (.string ⟨#[]⟩) none 0 0 false false 0 0) 31 (0, 0)) :: ex) (fun x hx => by rw [HX.out]; simp only [List.cons_append, List.nil_append, List.mem_cons] at hx ⊢; rcases hx with rfl | rfl | hx <;> simp [*])).fill (x' := .string L2) (A' := A2) (k' := k2) (c' := c2) (on' := on2) (am' := am2) (sy' := sy2) (ct' := ct2) HBQ.out (fun x hx => by rcases List.mem_cons.1 hx with rfl | hx; exact hqr.symm; have := HEX.out x hx; omega))
  generalize (((((W2.setCell ⟨bq, 0, none⟩ (.string L2)).setCell ⟨bq, 1, none⟩ (.slice A2 k2 c2)).setCell ⟨bq, 2, none⟩ (.bool on2)).setCell ⟨bq, 3, none⟩ (.bool am2)).setCell ⟨bq, 4, none⟩ (.int .i64 sy2)).setCell ⟨bq, 5, none⟩ (.int .i64 ct2) = W3 at *
  clear q0 q1 q2 q3 q4 q5 f0 f1 f2 f3 f4 f5 hltq
  have hgQ := H3.out.get (x := (bq, .cells (six (.string L2) A2 k2 c2 on2 am2 sy2 ct2) 31 (0, 0))) (by simp)
  have hgR := H3.out.get (x := (br, .cells (six (.string ⟨#[]⟩) none 0 0 false false 0 0) 31 (0, 0))) (by simp)
  obtain ⟨q0, q1, q2, q3, q4, q5⟩ := six_cells hgQ
  obtain ⟨r0, r1, r2, r3, r4, r5⟩ := six_cells hgR
  have f0 := Lib.frozen_of_heap hgR 0
  have f1 := Lib.frozen_of_heap hgR 1
  have f2 := Lib.frozen_of_heap hgR 2
  have f3 := Lib.frozen_of_heap hgR 3
  have f4 := Lib.frozen_of_heap hgR 4
  have f5 := Lib.frozen_of_heap hgR 5
  have hltr := (Array.getElem?_eq_some_iff.1 hgR).1
  clear hgQ hgR
  go_wp2_with fail
  have H4 := Lib.hid (((H3.out.sub (by' := (br, .cells (six (.string ⟨#[]⟩) none 0 0 false false 0 0) 31 (0, 0)) :: ex) (fun x hx => by rcases List.mem_cons.1 hx with rfl | hx <;> simp [*])).fill (x' := .string L2) (A' := A2) (k' := k2) (c' := c2) (on' := on2) (am' := am2) (sy' := sy2) (ct' := ct2) HBR.out (fun x hx => by have := HEX.out x hx; have := HLT.out; omega)).sub (by' := ex) (fun x hx => List.mem_cons_of_mem _ hx))
  refine bodyPost_ret (v := .tuple #[sixV L2 A2 k2 c2 on2 am2 sy2 ct2, .bool true]) (by simp [results, Try.results13, go_sem, r0, r1, r2, r3, r4, r5]) rfl ⟨_, rfl, ?_⟩
  exact H4.out
set_option maxRecDepth 100000 in
set_option maxHeartbeats 8000000 in
theorem do15_down (n D kw : Nat) (w0 : World) (st : Dk.St) (ex : List (Nat × Obj)) (A0 : Option Addr) (k0 c0 : Nat) (on0 am0 : Bool) (sy0 ct0 : Int) (L0 : ByteArray) (xa xc : Int) (xd : List UInt8) (w : World) (h : Pl2 n w0 D st st (sixV L0 A0 k0 c0 on0 am0 sy0 ct0) ex w) (hn : n ≤ 4096) (hl : st.wait.length ≤ 100000) (hc : xc ≤ 9223372036854775807) (hc2 : -9223372036854775808 ≤ xc)
    (hkw : kw < 256) (hm : (kw : Int) % 8 = 6) :
    Calls Try.prog 13 #[dkP D, sixV L0 A0 k0 c0 on0 am0 sy0 ct0, .agg #[.int .u8 (kw : Int), .int .i64 xa, .int .i64 xc, .string (ofL xd)]] w (DoPost n w0 D (Dk.down st xc.toNat) ex) := by
  have HQ0 := Lib.hid (h.push (.cells (six (.string L0) A0 k0 c0 on0 am0 sy0 ct0) 31))
  have HA0 := Lib.hid (HQ0.out.push (.cells (act4 kw xa xc xd) 34))
  have HR0 := Lib.hid (HA0.out.push (.cells (six (.string ⟨#[]⟩) none 0 0 false false 0 0) 31))
  have HW := Lib.hid h.below.size
  have hz : (ofL xd).size = xd.length := ofL_size xd
  have e1 : (w.alloc (.cells (six (.string L0) A0 k0 c0 on0 am0 sy0 ct0) 31)).heap.size = w.heap.size + 1 := by simp
  have e2 : ((w.alloc (.cells (six (.string L0) A0 k0 c0 on0 am0 sy0 ct0) 31)).alloc (.cells (act4 kw xa xc xd) 34)).heap.size = w.heap.size + 1 + 1 := by simp
  rw [e1] at HA0
  rw [e1, e2] at HR0
  have HWF := Lib.hid h.wf
  have HEX := Lib.hid (show ∀ x ∈ ex, x.1 < w.heap.size from fun x hx => (Array.getElem?_eq_some_iff.1 (h.get hx)).1)
  have HC := Lib.hid hc
  have HC2 := Lib.hid hc2
  clear hc hc2
  clear h e1 e2
  go_enter Try.func13, Try.ntmps13
  go_upto_region 16 with fail
  have W0 := Lib.hid (show ∃ W, W = ((w.alloc (.cells (six (.string L0) A0 k0 c0 on0 am0 sy0 ct0) 31)).alloc (.cells (act4 kw xa xc xd) 34)).alloc (.cells (six (.string ⟨#[]⟩) none 0 0 false false 0 0) 31) from ⟨_, rfl⟩)
  clear HQ0 HA0
  generalize ((w.alloc (.cells #[.string L0, .slice A0 k0 c0, .bool on0, .bool am0, .int .i64 sy0, .int .i64 ct0] 31)).alloc (.cells #[.int .u8 (kw : Int), .int .i64 xa, .int .i64 xc, .string (ofL xd)] 34)).alloc (.cells #[.string ⟨#[]⟩, .slice none 0 0, .bool false, .bool false, .int .i64 0, .int .i64 0] 31) = W at *
  clear W0
  obtain ⟨bq, hbq⟩ : ∃ bq, bq = w.heap.size := ⟨_, rfl⟩
  have HBQ := Lib.hid (show w0.heap.size ≤ bq by have := HW.out; omega)
  rw [← hbq] at HR0 HEX ⊢
  clear hbq
  have haq : bq + 1 ≠ bq := by omega
  have har : bq + 1 ≠ bq + 1 + 1 := by omega
  have hqr : bq ≠ bq + 1 + 1 := by omega
  obtain ⟨ba, hba⟩ : ∃ ba, ba = bq + 1 := ⟨_, rfl⟩
  obtain ⟨br, hbr⟩ : ∃ br, br = bq + 1 + 1 := ⟨_, rfl⟩
  have HBR := Lib.hid (show w0.heap.size ≤ br by have := HBQ.out; omega)
  rw [← hbr, ← hba] at HR0
  rw [← hba] at haq
  rw [← hbr, ← hba] at har
  rw [← hbr] at hqr
  rw [← hbr, ← hba]
  have HLT := Lib.hid (show bq < br by omega)
  clear hba hbr
  obtain ⟨bx, hbx⟩ : ∃ bx : List (Nat × Obj), bx = (br, .cells (six (.string ⟨#[]⟩) none 0 0 false false 0 0) 31 (0, 0)) :: (ba, .cells (act4 kw xa xc xd) 34 (0, 0)) :: (bq, .cells (six (.string L0) A0 k0 c0 on0 am0 sy0 ct0) 31 (0, 0)) :: ex := ⟨_, rfl⟩
  have HX := Lib.hid hbx
  rw [← hbx] at HR0
  clear hbx
  have hgA := HR0.out.get (x := (ba, .cells (act4 kw xa xc xd) 34 (0, 0))) (by rw [HX.out]; simp)
  obtain ⟨a0, a1, a2, a3⟩ := four_cells hgA
  clear hgA
  go_wp2_with fail
  refine ((fun W (h : Pl2 n w0 D st st (sixV L0 A0 k0 c0 on0 am0 sy0 ct0) bx W) => h.call (fun F hd => dkDown_any xc W hd hl HC.out)) _ HR0.out).mono ?_
  rintro x W1 ⟨rfl, h1⟩
  have H1 := Lib.hid h1
  have hgQ := H1.out.get (x := (bq, .cells (six (.string L0) A0 k0 c0 on0 am0 sy0 ct0) 31 (0, 0))) (by rw [HX.out]; simp)
  have hgA := H1.out.get (x := (ba, .cells (act4 kw xa xc xd) 34 (0, 0))) (by rw [HX.out]; simp)
  obtain ⟨q0, q1, q2, q3, q4, q5⟩ := six_cells hgQ
  obtain ⟨z0, z1, z2, z3⟩ := four_cells hgA
  clear h1 hgQ hgA a0 a1 a2 a3
  go_wp2_with fail
  refine ((fun W (h : Pl2 n w0 D (Dk.down st xc.toNat) st (sixV L0 A0 k0 c0 on0 am0 sy0 ct0) bx W) => h.q (mk := fun v' => v') (fun F hz _ => qDown xc hz HWF.out hn hl HC.out HC2.out)) _ H1.out).mono ?_
  rintro x W2 ⟨v2, rfl, h2⟩
  have H2 := Lib.hid h2
  obtain ⟨A2, c2, am2, sy2, ct2, hv2⟩ := h2.val
  rw [hv2] at H2 ⊢
  clear hv2
  clear h2 q0 q1 q2 q3 q4 q5 z0 z1 z2 z3
  have hgQ := H2.out.get (x := (bq, .cells (six (.string L0) A0 k0 c0 on0 am0 sy0 ct0) 31 (0, 0))) (by rw [HX.out]; simp)
  obtain ⟨q0, q1, q2, q3, q4, q5⟩ := six_cells hgQ
  have f0 := Lib.frozen_of_heap hgQ 0
  have f1 := Lib.frozen_of_heap hgQ 1
  have f2 := Lib.frozen_of_heap hgQ 2
  have f3 := Lib.frozen_of_heap hgQ 3
  have f4 := Lib.frozen_of_heap hgQ 4
  have f5 := Lib.frozen_of_heap hgQ 5
  have hltq := (Array.getElem?_eq_some_iff.1 hgQ).1
  clear hgQ
  generalize hL2 : ofL (Dk.down st xc.toNat).last = L2 at *
  generalize hk2 : (Dk.down st xc.toNat).wait.length = k2 at *
  generalize ho2 : (Dk.down st xc.toNat).on = on2 at *
  clear hL2 hk2 ho2
  go_upto_region 21 with fail
  have H3 := Lib.hid ((H2.out.sub (by' := (bq, .cells (six (.string L0) A0 k0 c0 on0 am0 sy0 ct0) 31 (0, 0)) :: (br, .cells (six (.string ⟨#[]⟩) none 0 0 false false 0 0) 31 (0, 0)) :: ex) (fun x hx => by rw [HX.out]; simp only [List.cons_append, List.nil_append, List.mem_cons] at hx ⊢; rcases hx with rfl | rfl | hx <;> simp [*])).fill (x' := .string L2) (A' := A2) (k' := k2) (c' := c2) (on' := on2) (am' := am2) (sy' := sy2) (ct' := ct2) HBQ.out (fun x hx => by rcases List.mem_cons.1 hx with rfl | hx; exact hqr.symm; have := HEX.out x hx; omega))
  generalize (((((W2.setCell ⟨bq, 0, none⟩ (.string L2)).setCell ⟨bq, 1, none⟩ (.slice A2 k2 c2)).setCell ⟨bq, 2, none⟩ (.bool on2)).setCell ⟨bq, 3, none⟩ (.bool am2)).setCell ⟨bq, 4, none⟩ (.int .i64 sy2)).setCell ⟨bq, 5, none⟩ (.int .i64 ct2) = W3 at *
  clear q0 q1 q2 q3 q4 q5 f0 f1 f2 f3 f4 f5 hltq
  have hgQ := H3.out.get (x := (bq, .cells (six (.string L2) A2 k2 c2 on2 am2 sy2 ct2) 31 (0, 0))) (by simp)
  have hgR := H3.out.get (x := (br, .cells (six (.string ⟨#[]⟩) none 0 0 false false 0 0) 31 (0, 0))) (by simp)
  obtain ⟨q0, q1, q2, q3, q4, q5⟩ := six_cells hgQ
  obtain ⟨r0, r1, r2, r3, r4, r5⟩ := six_cells hgR
  have f0 := Lib.frozen_of_heap hgR 0
  have f1 := Lib.frozen_of_heap hgR 1
  have f2 := Lib.frozen_of_heap hgR 2
  have f3 := Lib.frozen_of_heap hgR 3
  have f4 := Lib.frozen_of_heap hgR 4
  have f5 := Lib.frozen_of_heap hgR 5
  have hltr := (Array.getElem?_eq_some_iff.1 hgR).1
  clear hgQ hgR
  go_wp2_with fail
  have H4 := Lib.hid (((H3.out.sub (by' := (br, .cells (six (.string ⟨#[]⟩) none 0 0 false false 0 0) 31 (0, 0)) :: ex) (fun x hx => by rcases List.mem_cons.1 hx with rfl | hx <;> simp [*])).fill (x' := .string L2) (A' := A2) (k' := k2) (c' := c2) (on' := on2) (am' := am2) (sy' := sy2) (ct' := ct2) HBR.out (fun x hx => by have := HEX.out x hx; have := HLT.out; omega)).sub (by' := ex) (fun x hx => List.mem_cons_of_mem _ hx))
  refine bodyPost_ret (v := .tuple #[sixV L2 A2 k2 c2 on2 am2 sy2 ct2, .bool true]) (by simp [results, Try.results13, go_sem, r0, r1, r2, r3, r4, r5]) rfl ⟨_, rfl, ?_⟩
  exact H4.out
set_option maxRecDepth 100000 in
set_option maxHeartbeats 8000000 in
theorem do15_up (n D kw : Nat) (w0 : World) (st : Dk.St) (ex : List (Nat × Obj)) (A0 : Option Addr) (k0 c0 : Nat) (on0 am0 : Bool) (sy0 ct0 : Int) (L0 : ByteArray) (xa xc : Int) (xd : List UInt8) (w : World) (h : Pl2 n w0 D st st (sixV L0 A0 k0 c0 on0 am0 sy0 ct0) ex w) (hn : n ≤ 4096) (hl : st.wait.length ≤ 100000) 
    (hkw : kw < 256) (hm : (kw : Int) % 8 = 7) :
    Calls Try.prog 13 #[dkP D, sixV L0 A0 k0 c0 on0 am0 sy0 ct0, .agg #[.int .u8 (kw : Int), .int .i64 xa, .int .i64 xc, .string (ofL xd)]] w (DoPost n w0 D (Dk.up st) ex) := by
  have HQ0 := Lib.hid (h.push (.cells (six (.string L0) A0 k0 c0 on0 am0 sy0 ct0) 31))
  have HA0 := Lib.hid (HQ0.out.push (.cells (act4 kw xa xc xd) 34))
  have HR0 := Lib.hid (HA0.out.push (.cells (six (.string ⟨#[]⟩) none 0 0 false false 0 0) 31))
  have HW := Lib.hid h.below.size
  have hz : (ofL xd).size = xd.length := ofL_size xd
  have e1 : (w.alloc (.cells (six (.string L0) A0 k0 c0 on0 am0 sy0 ct0) 31)).heap.size = w.heap.size + 1 := by simp
  have e2 : ((w.alloc (.cells (six (.string L0) A0 k0 c0 on0 am0 sy0 ct0) 31)).alloc (.cells (act4 kw xa xc xd) 34)).heap.size = w.heap.size + 1 + 1 := by simp
  rw [e1] at HA0
  rw [e1, e2] at HR0
  have HWF := Lib.hid h.wf
  have HEX := Lib.hid (show ∀ x ∈ ex, x.1 < w.heap.size from fun x hx => (Array.getElem?_eq_some_iff.1 (h.get hx)).1)
  clear h e1 e2
  go_enter Try.func13, Try.ntmps13
  go_upto_region 19 with fail
  have W0 := Lib.hid (show ∃ W, W = ((w.alloc (.cells (six (.string L0) A0 k0 c0 on0 am0 sy0 ct0) 31)).alloc (.cells (act4 kw xa xc xd) 34)).alloc (.cells (six (.string ⟨#[]⟩) none 0 0 false false 0 0) 31) from ⟨_, rfl⟩)
  clear HQ0 HA0
  generalize ((w.alloc (.cells #[.string L0, .slice A0 k0 c0, .bool on0, .bool am0, .int .i64 sy0, .int .i64 ct0] 31)).alloc (.cells #[.int .u8 (kw : Int), .int .i64 xa, .int .i64 xc, .string (ofL xd)] 34)).alloc (.cells #[.string ⟨#[]⟩, .slice none 0 0, .bool false, .bool false, .int .i64 0, .int .i64 0] 31) = W at *
  clear W0
  obtain ⟨bq, hbq⟩ : ∃ bq, bq = w.heap.size := ⟨_, rfl⟩
  have HBQ := Lib.hid (show w0.heap.size ≤ bq by have := HW.out; omega)
  rw [← hbq] at HR0 HEX ⊢
  clear hbq
  have haq : bq + 1 ≠ bq := by omega
  have har : bq + 1 ≠ bq + 1 + 1 := by omega
  have hqr : bq ≠ bq + 1 + 1 := by omega
  obtain ⟨ba, hba⟩ : ∃ ba, ba = bq + 1 := ⟨_, rfl⟩
  obtain ⟨br, hbr⟩ : ∃ br, br = bq + 1 + 1 := ⟨_, rfl⟩
  have HBR := Lib.hid (show w0.heap.size ≤ br by have := HBQ.out; omega)
  rw [← hbr, ← hba] at HR0
  rw [← hba] at haq
  rw [← hbr, ← hba] at har
  rw [← hbr] at hqr
  rw [← hbr, ← hba]
  have HLT := Lib.hid (show bq < br by omega)
  clear hba hbr
  obtain ⟨bx, hbx⟩ : ∃ bx : List (Nat × Obj), bx = (br, .cells (six (.string ⟨#[]⟩) none 0 0 false false 0 0) 31 (0, 0)) :: (ba, .cells (act4 kw xa xc xd) 34 (0, 0)) :: (bq, .cells (six (.string L0) A0 k0 c0 on0 am0 sy0 ct0) 31 (0, 0)) :: ex := ⟨_, rfl⟩
  have HX := Lib.hid hbx
  rw [← hbx] at HR0
  clear hbx
  have hgA := HR0.out.get (x := (ba, .cells (act4 kw xa xc xd) 34 (0, 0))) (by rw [HX.out]; simp)
  obtain ⟨a0, a1, a2, a3⟩ := four_cells hgA
  clear hgA
  go_wp2_with fail
  refine ((fun W (h : Pl2 n w0 D st st (sixV L0 A0 k0 c0 on0 am0 sy0 ct0) bx W) => h.call (fun F hd => dkUp_any W hd)) _ HR0.out).mono ?_
  rintro x W1 ⟨rfl, h1⟩
  have H1 := Lib.hid h1
  have hgQ := H1.out.get (x := (bq, .cells (six (.string L0) A0 k0 c0 on0 am0 sy0 ct0) 31 (0, 0))) (by rw [HX.out]; simp)
  have hgA := H1.out.get (x := (ba, .cells (act4 kw xa xc xd) 34 (0, 0))) (by rw [HX.out]; simp)
  obtain ⟨q0, q1, q2, q3, q4, q5⟩ := six_cells hgQ
  obtain ⟨z0, z1, z2, z3⟩ := four_cells hgA
  clear h1 hgQ hgA a0 a1 a2 a3
  go_wp2_with fail
  refine ((fun W (h : Pl2 n w0 D (Dk.up st) st (sixV L0 A0 k0 c0 on0 am0 sy0 ct0) bx W) => h.q (mk := fun v' => v') (fun F hz _ => qUp hz HWF.out)) _ H1.out).mono ?_
  rintro x W2 ⟨v2, rfl, h2⟩
  have H2 := Lib.hid h2
  obtain ⟨A2, c2, am2, sy2, ct2, hv2⟩ := h2.val
  rw [hv2] at H2 ⊢
  clear hv2
  clear h2 q0 q1 q2 q3 q4 q5 z0 z1 z2 z3
  have hgQ := H2.out.get (x := (bq, .cells (six (.string L0) A0 k0 c0 on0 am0 sy0 ct0) 31 (0, 0))) (by rw [HX.out]; simp)
  obtain ⟨q0, q1, q2, q3, q4, q5⟩ := six_cells hgQ
  have f0 := Lib.frozen_of_heap hgQ 0
  have f1 := Lib.frozen_of_heap hgQ 1
  have f2 := Lib.frozen_of_heap hgQ 2
  have f3 := Lib.frozen_of_heap hgQ 3
  have f4 := Lib.frozen_of_heap hgQ 4
  have f5 := Lib.frozen_of_heap hgQ 5
  have hltq := (Array.getElem?_eq_some_iff.1 hgQ).1
  clear hgQ
  generalize hL2 : ofL (Dk.up st).last = L2 at *
  generalize hk2 : (Dk.up st).wait.length = k2 at *
  generalize ho2 : (Dk.up st).on = on2 at *
  clear hL2 hk2 ho2
  go_upto_region 21 with fail
  have H3 := Lib.hid ((H2.out.sub (by' := (bq, .cells (six (.string L0) A0 k0 c0 on0 am0 sy0 ct0) 31 (0, 0)) :: (br, .cells (six (.string ⟨#[]⟩) none 0 0 false false 0 0) 31 (0, 0)) :: ex) (fun x hx => by rw [HX.out]; simp only [List.cons_append, List.nil_append, List.mem_cons] at hx ⊢; rcases hx with rfl | rfl | hx <;> simp [*])).fill (x' := .string L2) (A' := A2) (k' := k2) (c' := c2) (on' := on2) (am' := am2) (sy' := sy2) (ct' := ct2) HBQ.out (fun x hx => by rcases List.mem_cons.1 hx with rfl | hx; exact hqr.symm; have := HEX.out x hx; omega))
  generalize (((((W2.setCell ⟨bq, 0, none⟩ (.string L2)).setCell ⟨bq, 1, none⟩ (.slice A2 k2 c2)).setCell ⟨bq, 2, none⟩ (.bool on2)).setCell ⟨bq, 3, none⟩ (.bool am2)).setCell ⟨bq, 4, none⟩ (.int .i64 sy2)).setCell ⟨bq, 5, none⟩ (.int .i64 ct2) = W3 at *
  clear q0 q1 q2 q3 q4 q5 f0 f1 f2 f3 f4 f5 hltq
  have hgQ := H3.out.get (x := (bq, .cells (six (.string L2) A2 k2 c2 on2 am2 sy2 ct2) 31 (0, 0))) (by simp)
  have hgR := H3.out.get (x := (br, .cells (six (.string ⟨#[]⟩) none 0 0 false false 0 0) 31 (0, 0))) (by simp)
  obtain ⟨q0, q1, q2, q3, q4, q5⟩ := six_cells hgQ
  obtain ⟨r0, r1, r2, r3, r4, r5⟩ := six_cells hgR
  have f0 := Lib.frozen_of_heap hgR 0
  have f1 := Lib.frozen_of_heap hgR 1
  have f2 := Lib.frozen_of_heap hgR 2
  have f3 := Lib.frozen_of_heap hgR 3
  have f4 := Lib.frozen_of_heap hgR 4
  have f5 := Lib.frozen_of_heap hgR 5
  have hltr := (Array.getElem?_eq_some_iff.1 hgR).1
  clear hgQ hgR
  go_wp2_with fail
  have H4 := Lib.hid (((H3.out.sub (by' := (br, .cells (six (.string ⟨#[]⟩) none 0 0 false false 0 0) 31 (0, 0)) :: ex) (fun x hx => by rcases List.mem_cons.1 hx with rfl | hx <;> simp [*])).fill (x' := .string L2) (A' := A2) (k' := k2) (c' := c2) (on' := on2) (am' := am2) (sy' := sy2) (ct' := ct2) HBR.out (fun x hx => by have := HEX.out x hx; have := HLT.out; omega)).sub (by' := ex) (fun x hx => List.mem_cons_of_mem _ hx))
  refine bodyPost_ret (v := .tuple #[sixV L2 A2 k2 c2 on2 am2 sy2 ct2, .bool true]) (by simp [results, Try.results13, go_sem, r0, r1, r2, r3, r4, r5]) rfl ⟨_, rfl, ?_⟩
  exact H4.out
set_option maxRecDepth 100000 in
set_option maxHeartbeats 8000000 in
theorem do15_write (n D kw : Nat) (w0 : World) (st : Dk.St) (ex : List (Nat × Obj)) (A0 : Option Addr) (k0 c0 : Nat) (on0 am0 : Bool) (sy0 ct0 : Int) (L0 : ByteArray) (xa xc : Int) (xd : List UInt8) (w : World) (h : Pl2 n w0 D st st (sixV L0 A0 k0 c0 on0 am0 sy0 ct0) ex w) (hn : n ≤ 4096) (hl : st.wait.length ≤ 100000) (m : Nat) (hd : xd.length ≤ 80)
    (hkw : kw < 256) (hm : (kw : Int) % 8 = (m : Int)) (hm3 : m < 3) :
    Calls Try.prog 13 #[dkP D, sixV L0 A0 k0 c0 on0 am0 sy0 ct0, .agg #[.int .u8 (kw : Int), .int .i64 xa, .int .i64 xc, .string (ofL xd)]] w (DoPost n w0 D (Dk.write n st xa xd) ex) := by
  have HQ0 := Lib.hid (h.push (.cells (six (.string L0) A0 k0 c0 on0 am0 sy0 ct0) 31))
  have HA0 := Lib.hid (HQ0.out.push (.cells (act4 kw xa xc xd) 34))
  have HR0 := Lib.hid (HA0.out.push (.cells (six (.string ⟨#[]⟩) none 0 0 false false 0 0) 31))
  have HW := Lib.hid h.below.size
  have hz : (ofL xd).size = xd.length := ofL_size xd
  have e1 : (w.alloc (.cells (six (.string L0) A0 k0 c0 on0 am0 sy0 ct0) 31)).heap.size = w.heap.size + 1 := by simp
  have e2 : ((w.alloc (.cells (six (.string L0) A0 k0 c0 on0 am0 sy0 ct0) 31)).alloc (.cells (act4 kw xa xc xd) 34)).heap.size = w.heap.size + 1 + 1 := by simp
  rw [e1] at HA0
  rw [e1, e2] at HR0
  have HWF := Lib.hid h.wf
  have HEX := Lib.hid (show ∀ x ∈ ex, x.1 < w.heap.size from fun x hx => (Array.getElem?_eq_some_iff.1 (h.get hx)).1)
  have hb3 : ((m : Int) == 3) = false := by simp; omega
  have hb4 : ((m : Int) == 4) = false := by simp; omega
  have hb5 : ((m : Int) == 5) = false := by simp; omega
  have hb6 : ((m : Int) == 6) = false := by simp; omega
  have hb7 : ((m : Int) == 7) = false := by simp; omega
  clear hm3
  clear h e1 e2
  go_enter Try.func13, Try.ntmps13
  go_upto_region 3 with fail
  have W0 := Lib.hid (show ∃ W, W = ((w.alloc (.cells (six (.string L0) A0 k0 c0 on0 am0 sy0 ct0) 31)).alloc (.cells (act4 kw xa xc xd) 34)).alloc (.cells (six (.string ⟨#[]⟩) none 0 0 false false 0 0) 31) from ⟨_, rfl⟩)
  clear HQ0 HA0
  generalize ((w.alloc (.cells #[.string L0, .slice A0 k0 c0, .bool on0, .bool am0, .int .i64 sy0, .int .i64 ct0] 31)).alloc (.cells #[.int .u8 (kw : Int), .int .i64 xa, .int .i64 xc, .string (ofL xd)] 34)).alloc (.cells #[.string ⟨#[]⟩, .slice none 0 0, .bool false, .bool false, .int .i64 0, .int .i64 0] 31) = W at *
  clear W0
  obtain ⟨bq, hbq⟩ : ∃ bq, bq = w.heap.size := ⟨_, rfl⟩
  have HBQ := Lib.hid (show w0.heap.size ≤ bq by have := HW.out; omega)
  rw [← hbq] at HR0 HEX ⊢
  clear hbq
  have haq : bq + 1 ≠ bq := by omega
  have har : bq + 1 ≠ bq + 1 + 1 := by omega
  have hqr : bq ≠ bq + 1 + 1 := by omega
  obtain ⟨ba, hba⟩ : ∃ ba, ba = bq + 1 := ⟨_, rfl⟩
  obtain ⟨br, hbr⟩ : ∃ br, br = bq + 1 + 1 := ⟨_, rfl⟩
  have HBR := Lib.hid (show w0.heap.size ≤ br by have := HBQ.out; omega)
  rw [← hbr, ← hba] at HR0
  rw [← hba] at haq
  rw [← hbr, ← hba] at har
  rw [← hbr] at hqr
  rw [← hbr, ← hba]
  have HLT := Lib.hid (show bq < br by omega)
  clear hba hbr
  obtain ⟨bx, hbx⟩ : ∃ bx : List (Nat × Obj), bx = (br, .cells (six (.string ⟨#[]⟩) none 0 0 false false 0 0) 31 (0, 0)) :: (ba, .cells (act4 kw xa xc xd) 34 (0, 0)) :: (bq, .cells (six (.string L0) A0 k0 c0 on0 am0 sy0 ct0) 31 (0, 0)) :: ex := ⟨_, rfl⟩
  have HX := Lib.hid hbx
  rw [← hbx] at HR0
  clear hbx
  have hgA := HR0.out.get (x := (ba, .cells (act4 kw xa xc xd) 34 (0, 0))) (by rw [HX.out]; simp)
  obtain ⟨a0, a1, a2, a3⟩ := four_cells hgA
  clear hgA
  go_wp2_with fail
  refine ((fun W (h : Pl2 n w0 D st st (sixV L0 A0 k0 c0 on0 am0 sy0 ct0) bx W) => h.call (fun F hd' => dkWrite_any xa xd W hd' hl (by omega))) _ HR0.out).mono ?_
  rintro x W1 ⟨rfl, h1⟩
  have H1 := Lib.hid h1
  have hgQ := H1.out.get (x := (bq, .cells (six (.string L0) A0 k0 c0 on0 am0 sy0 ct0) 31 (0, 0))) (by rw [HX.out]; simp)
  have hgA := H1.out.get (x := (ba, .cells (act4 kw xa xc xd) 34 (0, 0))) (by rw [HX.out]; simp)
  obtain ⟨q0, q1, q2, q3, q4, q5⟩ := six_cells hgQ
  obtain ⟨z0, z1, z2, z3⟩ := four_cells hgA
  clear h1 hgQ hgA a0 a1 a2 a3
  go_wp2_with fail
  refine ((fun W (h : Pl2 n w0 D (Dk.write n st xa xd) st (sixV L0 A0 k0 c0 on0 am0 sy0 ct0) bx W) => h.q (mk := fun v' => .tuple #[v', .int .i64 (Dk.wcode n st xa xd)]) (fun F hz hFl => qPut xa xd hz hFl HWF.out hn hl)) _ H1.out).mono ?_
  rintro x W2 ⟨v2, rfl, h2⟩
  have H2 := Lib.hid h2
  obtain ⟨A2, c2, am2, sy2, ct2, hv2⟩ := h2.val
  rw [hv2] at H2 ⊢
  clear hv2
  clear h2 q0 q1 q2 q3 q4 q5 z0 z1 z2 z3
  have hgQ := H2.out.get (x := (bq, .cells (six (.string L0) A0 k0 c0 on0 am0 sy0 ct0) 31 (0, 0))) (by rw [HX.out]; simp)
  obtain ⟨q0, q1, q2, q3, q4, q5⟩ := six_cells hgQ
  have f0 := Lib.frozen_of_heap hgQ 0
  have f1 := Lib.frozen_of_heap hgQ 1
  have f2 := Lib.frozen_of_heap hgQ 2
  have f3 := Lib.frozen_of_heap hgQ 3
  have f4 := Lib.frozen_of_heap hgQ 4
  have f5 := Lib.frozen_of_heap hgQ 5
  have hltq := (Array.getElem?_eq_some_iff.1 hgQ).1
  clear hgQ
  generalize hL2 : ofL (Dk.write n st xa xd).last = L2 at *
  generalize hk2 : (Dk.write n st xa xd).wait.length = k2 at *
  generalize ho2 : (Dk.write n st xa xd).on = on2 at *
  clear hL2 hk2 ho2
  go_upto_region 21 with fail
  have H3 := Lib.hid ((H2.out.sub (by' := (bq, .cells (six (.string L0) A0 k0 c0 on0 am0 sy0 ct0) 31 (0, 0)) :: (br, .cells (six (.string ⟨#[]⟩) none 0 0 false false 0 0) 31 (0, 0)) :: ex) (fun x hx => by rw [HX.out]; simp only [List.cons_append, List.nil_append, List.mem_cons] at hx ⊢; rcases hx with rfl | rfl | hx <;> simp [*])).fill (x' := .string L2) (A' := A2) (k' := k2) (c' := c2) (on' := on2) (am' := am2) (sy' := sy2) (ct' := ct2) HBQ.out (fun x hx => by rcases List.mem_cons.1 hx with rfl | hx; exact hqr.symm; have := HEX.out x hx; omega))
  generalize (((((W2.setCell ⟨bq, 0, none⟩ (.string L2)).setCell ⟨bq, 1, none⟩ (.slice A2 k2 c2)).setCell ⟨bq, 2, none⟩ (.bool on2)).setCell ⟨bq, 3, none⟩ (.bool am2)).setCell ⟨bq, 4, none⟩ (.int .i64 sy2)).setCell ⟨bq, 5, none⟩ (.int .i64 ct2) = W3 at *
  clear q0 q1 q2 q3 q4 q5 f0 f1 f2 f3 f4 f5 hltq
  have hgQ := H3.out.get (x := (bq, .cells (six (.string L2) A2 k2 c2 on2 am2 sy2 ct2) 31 (0, 0))) (by simp)
  have hgR := H3.out.get (x := (br, .cells (six (.string ⟨#[]⟩) none 0 0 false false 0 0) 31 (0, 0))) (by simp)
  obtain ⟨q0, q1, q2, q3, q4, q5⟩ := six_cells hgQ
  obtain ⟨r0, r1, r2, r3, r4, r5⟩ := six_cells hgR
  have f0 := Lib.frozen_of_heap hgR 0
  have f1 := Lib.frozen_of_heap hgR 1
  have f2 := Lib.frozen_of_heap hgR 2
  have f3 := Lib.frozen_of_heap hgR 3
  have f4 := Lib.frozen_of_heap hgR 4
  have f5 := Lib.frozen_of_heap hgR 5
  have hltr := (Array.getElem?_eq_some_iff.1 hgR).1
  clear hgQ hgR
  go_wp2_with fail
  have H4 := Lib.hid (((H3.out.sub (by' := (br, .cells (six (.string ⟨#[]⟩) none 0 0 false false 0 0) 31 (0, 0)) :: ex) (fun x hx => by rcases List.mem_cons.1 hx with rfl | hx <;> simp [*])).fill (x' := .string L2) (A' := A2) (k' := k2) (c' := c2) (on' := on2) (am' := am2) (sy' := sy2) (ct' := ct2) HBR.out (fun x hx => by have := HEX.out x hx; have := HLT.out; omega)).sub (by' := ex) (fun x hx => List.mem_cons_of_mem _ hx))
  refine bodyPost_ret (v := .tuple #[sixV L2 A2 k2 c2 on2 am2 sy2 ct2, .bool true]) (by simp [results, Try.results13, go_sem, r0, r1, r2, r3, r4, r5]) rfl ⟨_, rfl, ?_⟩
  exact H4.out
end Go.Proofs.Ytpdgadohfhmcnaa
