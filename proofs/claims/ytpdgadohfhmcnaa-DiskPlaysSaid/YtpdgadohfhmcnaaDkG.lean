/-
  A DISK: a block as it is, with all that waits.
-/
import Derived.Test.YtpdgadohfhmcnaaDkF
import Derived.Lib.SlBytesRow
namespace Go.Proofs.Ytpdgadohfhmcnaa
open Go.ChangeShapes Go.WideShapes Go.ChangeAt Go.RowKit

theorem over_cells {b d : List UInt8} : (Lib.byteCells b).toArray.toList.take 0 ++ Lib.byteCells d ++ (Lib.byteCells b).toArray.toList.drop (0 + d.length) = Lib.byteCells (Dk.over b d) := by
  unfold Dk.over
  rw [Lib.byteCells_append]
  simp [Lib.byteCells, List.map_drop]
/-- a text is copied over the front of a block -/
theorem dk_over {W : World} {R : Nat} {b d : List UInt8} (hR : W.heap[R]? = some (.cells (Lib.byteCells b).toArray 66 (0, 0))) (hb : b.length = 64) (hd : d.length ≤ 64) :
    (Builtin.copy_ #[64, 9] 3 #[.slice (some ⟨R, 0, none⟩) 64 64, .string (ofL d)]).run Try.prog W = .ok (.int .i64 (d.length : Int)) (W.setRow R (Lib.byteCells (Dk.over b d)).toArray) := by
  have h := Lib.run_copy_row_string (P := Try.prog) W 64 9 3 5 R 0 64 64 (ofL d) _ _ Try.underlying64 u8_one hR (by rw [ofL_size]; exact hd) (by rw [ofL_size]; simp [Lib.byteCells]; omega)
  rw [h, ofL_size, toList_ofL, over_cells]
  rfl
theorem cells_bytes {W : World} {R : Nat} {b : List UInt8} {t : TypeId} (hR : W.heap[R]? = some (.cells (Lib.byteCells b).toArray t (0, 0))) : Lib.Bytes W R 0 (ofL b) := by
  intro i hi
  rw [Lib.cell_of_heap hR, ofL_get]
  have hi' : i < b.length := by rw [← ofL_size b]; exact hi
  simp [Lib.byteCells, List.getD_eq_getElem?_getD, hi']
/-- the bytes of a block of one's own, as a text -/
theorem dk_text {W : World} {R n : Nat} {b : List UInt8} {t : TypeId} (hR : W.heap[R]? = some (.cells (Lib.byteCells b).toArray t (0, 0))) (hb : b.length = n) (c : Nat) :
    (convert 64 9 (.slice (some ⟨R, 0, none⟩) n c)).run Try.prog W = .ok (.string (ofL b)) W := by
  have h := Lib.run_convert_whole (P := Try.prog) W 64 5 9 Try.underlying64 Try.underlying5 Try.underlying9 R 0 (ofL b) (cells_bytes hR) c
  rw [ofL_size, hb] at h
  exact h
theorem blk_size {b : List UInt8} (hb : b.length = 64) : (Try.prog.info? 66).map (·.size) = some (Lib.byteCells b).length := by
  obtain ⟨i1, hi1, hz0, hz1, hz2⟩ := info_parts infoBlk
  rw [hi1, Lib.byteCells_length, hb]; simp [hz1]
/-- a whole array into the block that was made last -/
theorem wpList_store_new {P : Program} {ops : Array Oper} {rest : List Oper} {op : Oper} {a : Act} {w : World} {Q : Exit → Act → World → Prop} (hgd : op.guard = none) (ty : TypeId) (x y : Operand) (ho : op.op = .store ty x y)
    (c c' : Array Value) (hx : a.eval x = .pointer (some ⟨w.heap.size, 0, none⟩)) (hy : a.eval y = .agg c') (hi : (P.info? ty).map (·.size) = some c'.size) (hcc : c.size = c'.size) (h1 : c'.all (·.oneCell') = true)
    (h : wpList P ops Q rest (a.put op.dst undef) (w.alloc (.cells c' ty))) : wpList P ops Q (op :: rest) a (w.alloc (.cells c ty)) :=
  wpList_plain hgd fun _ hK => by
    unfold Oper.wp execOp
    simp only [ho, hx, hy, Sem.run_bind, Sem.run_pure, Result.andThen_ok, run_storeAt_new w ty c c' hi hcc h1]
    exact hK _ _ h
def RdSt (w : World) (bx a : Nat) (b : List UInt8) (l : List Dk.Wr) (g : Nat) (i : Value) (wr : World) : Prop :=
  ∃ k : Nat, k + g = l.length ∧ i = .int .i64 (k : Int) ∧ Below w.heap.size w wr ∧ wr.heap[bx]? = some (.cells (Lib.byteCells (Dk.rd a b (l.take k))).toArray 66 (0, 0))
set_option maxRecDepth 100000 in
set_option maxHeartbeats 4000000 in
theorem dkRead_any {n D : Nat} {F : Nat → Prop} {st : Dk.St} (a : Int) (w : World) (h : Disk n F D st w) (hl : st.wait.length ≤ 100000) :
    Calls Try.prog 21 #[dkP D, .int .i64 a] w fun e w' => e = .returned (.tuple #[.string (ofL (Dk.readV n st a)), .int .i64 (Dk.code n st a)]) ∧ Below w.heap.size w w' := by
  have HC := Lib.hid (dkFind_any a w h)
  by_cases h0 : Dk.code n st a = 0
  · rw [h0] at HC
    obtain ⟨h3, h4, h5⟩ := Dk.code_ok h0
    obtain ⟨k0, rfl⟩ : ∃ k0 : Nat, a = (k0 : Int) := ⟨a.toNat, by omega⟩
    have e1 : Dk.readV n st (k0 : Int) = Dk.rd k0 (Dk.blk st.last k0) st.wait := by
      unfold Dk.readV
      rw [if_pos h0, Int.toNat_natCast]
      obtain ⟨R, v, am, sy, ct, hb⟩ := h
      exact Dk.rd_done _ _ _ hb.wf.len hb.wf.ok (Nat.le_refl _)
    rw [e1, h0]
    obtain ⟨R, v, am, sy, ct, hb⟩ := h
    have HB := Lib.hid hb
    have c0 := hb.cs.c0
    have c1 := hb.cs.c1
    have hDl := hb.lt D hb.fd
    obtain ⟨A, cp, rfl, hcp, hA, -⟩ := wrow_of hb.own
    have HA := Lib.hid hA
    have hk0 : k0 < n := by omega
    have hblk := Dk.blk_len hb.wf.len hk0
    have HLD := Lib.hid (blk_range (i := k0) hb.hr)
    have HBS := Lib.hid (blk_size hblk)
    have HBZ := Lib.hid (show 64 = (Lib.byteCells (Dk.blk st.last k0)).toArray.size by rw [List.size_toArray, Lib.byteCells_length, hblk])
    have HRL := Lib.hid (fun m => Dk.rd_len (n := n) (a := k0) (st.wait.take m) (Dk.blk st.last k0) hblk (fun x hx => hb.wf.ok x (List.mem_of_mem_take hx)))
    generalize Dk.blk st.last k0 = b0 at *
    clear e1 h0 hb h3 hA hblk
    go_enter Try.func21, Try.ntmps21
    go_wp2_with fail
    refine HC.out.mono ?_
    rintro x w' ⟨rfl, rfl⟩
    go_wp2_with (first
      | (refine wpList_load_mid (by rfl) 66 _ (by rfl) R (k0 * 64) (by rfl) (Lib.byteCells b0) _ HLD.out Try.underlying66 rfl HBS.out ?_)
      | (refine wpList_store_new (by rfl) 66 _ _ (by rfl) _ (Lib.byteCells b0).toArray (by rfl) (by rfl) HBS.out HBZ.out (all_oneCell_toArray (Lib.byteCells_one b0)) ?_))
    have HB1 := Lib.hid ((Below.refl w.heap.size w).alloc (Nat.le_refl _) (.cells (Lib.byteCells b0).toArray 66))
    have HN1 := Lib.hid (heap_alloc_new w (.cells (Lib.byteCells b0).toArray 66))
    have HBX := Lib.hid (show w.heap.size < (w.alloc (.cells (Lib.byteCells b0).toArray 66)).heap.size by simp)
    generalize w.alloc (.cells (Lib.byteCells b0).toArray 66) = w1 at *
    go_loopg [28] st.wait.length (fun g i wr => RdSt w w.heap.size k0 b0 st.wait g i wr)
    case atStart => exact ⟨0, by omega, rfl, HB1.out, HN1.out⟩
    case round =>
      obtain ⟨k, hk, rfl, hbel, hR⟩ := hrel
      have HK := Lib.hid hk
      have HBE := Lib.hid hbel
      have HR := Lib.hid hR
      clear hk hbel hR
      by_cases hlt : k < st.wait.length
      · obtain ⟨b, off, rfl, hbl, x0, x1⟩ := HA.out.at_ k hlt
        have y0 := (HBE.out.cell (p := ⟨b, off + k * 2, none⟩) hbl).trans x0
        have y1 := (HBE.out.cell (p := ⟨b, off + k * 2 + 1, none⟩) hbl).trans x1
        clear x0 x1 hbl
        have HSN := Lib.hid (show Dk.rd k0 b0 (st.wait.take (k + 1)) = if (st.wait.getD k (0, [])).1 = k0 then Dk.over (Dk.rd k0 b0 (st.wait.take k)) (st.wait.getD k (0, [])).2 else Dk.rd k0 b0 (st.wait.take k) by
          rw [List.take_succ_eq_append_getElem hlt, Dk.rd_app, List.getD_eq_getElem?_getD, List.getElem?_eq_getElem hlt]; rfl)
        have HW := Lib.hid (show (st.wait.getD k (0, [])).2.length ≤ 64 from (HB.out.wf.ok _ (by rw [List.getD_eq_getElem?_getD, List.getElem?_eq_getElem hlt]; exact List.getElem_mem hlt)).2)
        generalize st.wait.getD k (0, []) = x at *
        obtain ⟨xa, xd⟩ := x
        dsimp only at *
        have hz : (ofL xd).size = xd.length := ofL_size _
        by_cases e : xa = k0
        · subst e
          rw [if_pos rfl] at HSN
          have hA2 : (wr.alloc (.cells #[.int .i64 (xa : Int), .string (ofL xd)] 68)).heap[w.heap.size]? = some (.cells (Lib.byteCells (Dk.rd xa b0 (st.wait.take k))).toArray 66 (0, 0)) := by
            rw [Below.heap_alloc _ _ _ (Array.getElem?_eq_some_iff.1 HR.out).1]; exact HR.out
          have HB2 := Lib.hid (HBE.out.alloc HBE.out.size (.cells #[.int .i64 (xa : Int), .string (ofL xd)] 68))
          have b1 : (wr.alloc (.cells #[.int .i64 (xa : Int), .string (ofL xd)] 68)).cell? ⟨wr.heap.size, 1, none⟩ = some (.string (ofL xd)) := dnew _ _ _ _ _ rfl
          have hbx : wr.heap.size ≠ w.heap.size := fun e => by have := (Array.getElem?_eq_some_iff.1 HR.out).1; omega
          go_upto_region 9 with fail
          generalize wr.alloc (.cells #[.int .i64 (xa : Int), .string (ofL xd)] 68) = W at *
          generalize wr.heap.size = bx at *
          have hrun := dk_over (W := W.drew) (d := xd) hA2 (HRL.out k) HW.out
          clear y0 y1
          go_region_held3 (fun a => a.cell? ⟨bx, 1, none⟩ = some (.string (ofL xd))) (first | exact b1 | exact (cell_setRow hbx).trans b1) (fail)
          rw [← HSN.out] at hrun
          have HR3 := Lib.hid (heap_setRow (c' := (Lib.byteCells (Dk.rd xa b0 (st.wait.take (k + 1)))).toArray) hA2)
          have HB3 := Lib.hid (Below.trans HB2.out ((kp_setRow W w.heap.size (Lib.byteCells (Dk.rd xa b0 (st.wait.take (k + 1)))).toArray).below HB2.out.size (fun q e => by omega)))
          rw [← HSN.out]
          clear hrun
          generalize W.drew.setRow w.heap.size (Lib.byteCells (Dk.rd xa b0 (st.wait.take (k + 1)))).toArray = W3 at *
          go_wp2_with fail
          go_roundg (gk - 1)
          case rel => exact ⟨k + 1, by have := HK.out; omega, by go_num, HB3.out, HR3.out⟩
          case measure => have := HK.out; omega
        · rw [if_neg e] at HSN
          have hne : ((xa : Int) == (k0 : Int)) = false := by simp; omega
          have HB2 := Lib.hid (HBE.out.alloc HBE.out.size (.cells #[.int .i64 (xa : Int), .string (ofL xd)] 68))
          have HR2 := Lib.hid (show (wr.alloc (.cells #[.int .i64 (xa : Int), .string (ofL xd)] 68)).heap[w.heap.size]? = some (.cells (Lib.byteCells (Dk.rd k0 b0 (st.wait.take (k + 1)))).toArray 66 (0, 0)) by
            rw [Below.heap_alloc _ _ _ (Array.getElem?_eq_some_iff.1 HR.out).1, HSN.out]; exact HR.out)
          clear e
          go_wp2_with fail
          go_roundg (gk - 1)
          case rel => exact ⟨k + 1, by have := HK.out; omega, by go_num, HB2.out, HR2.out⟩
          case measure => have := HK.out; omega
      · have e : st.wait.take k = st.wait := List.take_of_length_le (by omega)
        rw [e] at HR
        have hrl := HRL.out st.wait.length
        rw [List.take_of_length_le (Nat.le_refl _)] at hrl
        have htx := fun c => dk_text HR.out hrl c
        clear e hrl
        go_wp2_with fail
        go_ret2
        exact ⟨rfl, HBE.out⟩
  · have e1 : Dk.readV n st a = [] := if_neg h0
    have hb : (Dk.code n st a != 0) = true := by simpa using h0
    rw [e1]
    generalize Dk.code n st a = q at *
    clear e1 h0 h
    go_enter Try.func21, Try.ntmps21
    go_wp2_with fail
    refine HC.out.mono ?_
    rintro x w' ⟨rfl, rfl⟩
    go_wp2_with fail
    go_ret2
    exact ⟨rfl, Below.refl _ _⟩
end Go.Proofs.Ytpdgadohfhmcnaa
