/-
  A DISK: the first bytes that wait are done.
-/
import Derived.Test.YtpdgadohfhmcnaaDkB
namespace Go.Proofs.Ytpdgadohfhmcnaa
open Go.ChangeShapes Go.WideShapes Go.ChangeAt Go.RowKit

theorem u8_one : (Try.prog.info? 5).map (·.size) = some 1 := by kernel_rfl
theorem byteCells_app (a b : List UInt8) : Lib.byteCells (a ++ b) = Lib.byteCells a ++ Lib.byteCells b := Lib.byteCells_append a b
theorem put_cells {s d : List UInt8} {a : Nat} : (Lib.byteCells s).toArray.toList.take (a * 64) ++ Lib.byteCells d ++ (Lib.byteCells s).toArray.toList.drop (a * 64 + d.length) = Lib.byteCells (Dk.put s a d) := by
  unfold Dk.put
  rw [Lib.byteCells_append, Lib.byteCells_append, Nat.mul_comm 64 a]
  simp [Lib.byteCells, List.map_take, List.map_drop]
/-- a part of a text is copied into a disk's block -/
theorem dk_copy {W : World} {R a n : Nat} {s d : List UInt8} (hR : W.heap[R]? = some (.cells (Lib.byteCells s).toArray 66 (0, 0))) (hs : s.length = 64 * n) (ha : a < n) (hd : d.length ≤ 64) :
    (Builtin.copy_ #[64, 9] 3 #[.slice (some ⟨R, a * 64, none⟩) 64 64, .string (ofL d)]).run Try.prog W = .ok (.int .i64 (d.length : Int)) (W.setRow R (Lib.byteCells (Dk.put s a d)).toArray) := by
  have h := Lib.run_copy_row_string (P := Try.prog) W 64 9 3 5 R (a * 64) 64 64 (ofL d) _ _ Try.underlying64 u8_one hR (by rw [ofL_size]; exact hd) (by rw [ofL_size]; simp [Lib.byteCells]; omega)
  rw [h, ofL_size, toList_ofL, put_cells]
  rfl
theorem cell_setRow {W : World} {R b i : Nat} {c : Array Value} (h : b ≠ R) : (W.drew.setRow R c).cell? ⟨b, i, none⟩ = W.cell? ⟨b, i, none⟩ := by
  refine World.cell?_of_block (a := ⟨b, i, none⟩) ?_
  simp only [World.setRow, Array.getElem?_modify]
  rw [if_neg (fun e => h e.symm)]
  rfl
theorem kp_setRow (W : World) (R : Nat) (c : Array Value) : Kp (fun q => q = R) W (W.drew.setRow R c) := ⟨rfl, rfl, rfl, by simp [World.setRow], fun k _ hn => by
  simp only [World.setRow, Array.getElem?_modify]
  rw [if_neg (fun e => hn e.symm)]
  rfl⟩
theorem heap_setRow {W : World} {R : Nat} {c c' : Array Value} {t : TypeId} {fz : Nat × Nat} (h : W.heap[R]? = some (.cells c t fz)) : (W.drew.setRow R c').heap[R]? = some (.cells c' t fz) := by
  simp only [World.setRow, Array.getElem?_modify, if_true]
  rw [show W.drew.heap[R]? = some (.cells c t fz) from h]
  rfl
theorem put_done (s : List UInt8) (l : List Dk.Wr) (c a t : Nat) (d : List UInt8) (ht : t = min (c - Dk.waits l) d.length) : Dk.put (Dk.done s l c) a (d.take t) = Dk.done s (l ++ [(a, d)]) c := by
  rw [Dk.done_app]
  show _ = Dk.put (Dk.done s l c) a (d.take (c - Dk.waits l))
  congr 1
  rw [ht]
  by_cases h : c - Dk.waits l ≤ d.length
  · rw [Nat.min_eq_left h]
  · rw [Nat.min_eq_right (by omega), List.take_of_length_le (Nat.le_refl _), List.take_of_length_le (by omega)]
def DoSt (w : World) (R : Nat) (l : List Dk.Wr) (s : List UInt8) (c : Nat) (g : Nat) (m i : Value) (wr : World) : Prop :=
  ∃ k : Nat, k + g = l.length ∧ i = .int .i64 (k : Int) ∧ m = .int .i64 ((c - Dk.waits (l.take k) : Nat) : Int) ∧ Kp (fun q => q = R) w wr ∧ wr.heap[R]? = some (.cells (Lib.byteCells (Dk.done s (l.take k) c)).toArray 66 (0, 0))
theorem dk_emptied {n D R : Nat} {F : Nat → Prop} {v : Value} {am : Bool} {sy ct : Int} {st : Dk.St} {c : Nat} {w wr : World} (h : DkB n F D R v am sy ct st w) (hk : Kp (fun q => q = R) w wr)
    (hR : wr.heap[R]? = some (.cells (Lib.byteCells (Dk.done st.last st.wait c)).toArray 66 (0, 0)))
    (hD : wr.heap[D]? = some (.cells #[.slice (some ⟨R, 0, none⟩) n n, v, .bool st.on, .bool am, .int .i64 sy, .int .i64 ct] 55 (0, 0))) :
    Kp F w (wr.setCell ⟨D, 1, none⟩ (.slice none 0 0)) ∧ Disk n F D { st with last := Dk.done st.last st.wait c, wait := [] } (wr.setCell ⟨D, 1, none⟩ (.slice none 0 0)) := by
  refine ⟨(hk.mono (G := F) (fun i _ e => e ▸ h.fr)).trans (Kp.set wr ⟨D, 1, none⟩ (.slice none 0 0) h.fd) (fun _ _ f => f), R, _, am, sy, ct, h.fd, h.fr, fun g hg => (by cases hg), ?_, ?_, ⟨by simp [wcells], Or.inl ⟨rfl, rfl⟩⟩, h.arm, ⟨Dk.done_len _ _ h.wf.ok h.wf.len, fun w hw => by simp at hw, fun ho => ⟨rfl, (h.wf.off ho).2⟩⟩, fun k hk' => ?_⟩
  · exact Lib.heap_setCell_same (i := 1) hD _
  · rw [Below.heap_setCell _ _ _ _ (fun e => h.neDR e.symm)]; exact hR
  · have h1 := Nat.lt_of_lt_of_le (h.lt k hk') hk.size
    simpa [World.setCell] using h1
set_option maxHeartbeats 2000000 in
theorem dkDo_core {n D R : Nat} {F : Nat → Prop} {v : Value} {am : Bool} {sy ct : Int} {st : Dk.St} (c : Nat) (w : World) (h : DkB n F D R v am sy ct st w) (hl : st.wait.length ≤ 100000) (hc : c ≤ 9223372036854775807) :
    Calls Try.prog 32 #[dkP D, .int .i64 (c : Int)] w fun e w' => e = .returned (.tuple #[]) ∧ Kp F w w' ∧
      ∃ F', Ext F w F' ∧ Disk n F' D { st with last := Dk.done st.last st.wait c, wait := [] } w' := by
  have HD := Lib.hid h
  have c1 := h.cs.c1
  obtain ⟨A, cp, rfl, hcp, hA, hAo⟩ := wrow_of h.own
  have HA := Lib.hid hA
  have hNA := Lib.hid (show ∀ a, A = some a → ¬ (fun q => q = R) a.block from fun a ha e => (h.neV a.block (hAo a ha)).2 e)
  clear h hA hAo
  have HL := Lib.hid (show ∃ l, l = st.wait from ⟨_, rfl⟩)
  go_enter Try.func32, Try.ntmps32
  go_wp2_with fail
  go_loopg [1, 11] st.wait.length (fun g m i wr => DoSt w R st.wait st.last c g m i wr)
  case atStart => exact ⟨0, by omega, rfl, by simp [Dk.waits], Kp.refl _ _, HD.out.hr⟩
  case round =>
    obtain ⟨k, hk, rfl, rfl, hkp, hR⟩ := hrel
    have HK := Lib.hid hk
    have HKP := Lib.hid hkp
    clear hk hkp
    by_cases hlt : k < st.wait.length
    · obtain ⟨b, off, rfl, hbl, x0, x1⟩ := HA.out.at_ k hlt
      have y0 := (World.cell?_of_block (a := ⟨b, off + k * 2, none⟩) (HKP.out.block b hbl (hNA.out _ rfl))).trans x0
      have y1 := (World.cell?_of_block (a := ⟨b, off + k * 2 + 1, none⟩) (HKP.out.block b hbl (hNA.out _ rfl))).trans x1
      have z0 := (World.cell?_of_block (a := ⟨D, 0, none⟩) (HKP.out.block D (HD.out.lt D HD.out.fd) HD.out.neDR)).trans HD.out.cs.c0
      clear x0 x1 hbl
      generalize hx : st.wait.getD k (0, []) = x at *
      obtain ⟨xa, xd⟩ := x
      dsimp only at *
      have hz : (ofL xd).size = xd.length := ofL_size _
      have HW := Lib.hid (HD.out.wf.ok (xa, xd) (by rw [← hx, List.getD_eq_getElem?_getD, List.getElem?_eq_getElem hlt]; exact List.getElem_mem hlt))
      have hxa : (0 : Int) ≤ (xa : Int) := by omega
      have hxn : (xa : Int) < (n : Int) := by have := HW.out.1; dsimp only at this; omega
      have hm := Nat.min_le_right (c - Dk.waits (st.wait.take k)) xd.length
      have HWS := Lib.hid (waits_take st.wait k hlt)
      rw [hx] at HWS
      have HLN := Lib.hid (Dk.done_len (st.wait.take k) c (fun w hw => HD.out.wf.ok w (List.mem_of_mem_take hw)) HD.out.wf.len)
      have HDN := Lib.hid (Dk.done_app (st.wait.take k) [(xa, xd)] st.last c)
      have HTK := Lib.hid (show st.wait.take k ++ [(xa, xd)] = st.wait.take (k + 1) by rw [List.take_succ_eq_append_getElem hlt, ← hx, List.getD_eq_getElem?_getD, List.getElem?_eq_getElem hlt]; rfl)
      have hms : c - Dk.waits (st.wait.take k) ≤ 9223372036854775807 := by omega
      generalize hwk : Dk.waits (st.wait.take k) = wk at *
      have HWK := Lib.hid hwk
      clear hwk
      generalize hmk : c - wk = m at *
      have HMK := Lib.hid hmk
      clear hmk
      go_upto_region 3 with fail
      have hA2 : (wr.alloc (.cells #[.int .i64 (xa : Int), .string (ofL xd)] 68)).heap[R]? = some (.cells (Lib.byteCells (Dk.done st.last (List.take k st.wait) c)).toArray 66 (0, 0)) := by
        rw [Below.heap_alloc _ _ _ (Array.getElem?_eq_some_iff.1 hR).1]; exact hR
      have HK2 := Lib.hid (HKP.out.trans (Kp.of ((Below.refl wr.heap.size wr).alloc (Nat.le_refl _) (.cells #[.int .i64 (xa : Int), .string (ofL xd)] 68)) (fun q => q = R)) (fun _ _ h => h))
      have b0 : (wr.alloc (.cells #[.int .i64 (xa : Int), .string (ofL xd)] 68)).cell? ⟨wr.heap.size, 0, none⟩ = some (.int .i64 (xa : Int)) := dnew _ _ _ _ _ rfl
      have b1 : (wr.alloc (.cells #[.int .i64 (xa : Int), .string (ofL xd)] 68)).cell? ⟨wr.heap.size, 1, none⟩ = some (.string (ofL xd)) := dnew _ _ _ _ _ rfl
      have d0 := (((Below.refl wr.heap.size wr).alloc (Nat.le_refl _) (.cells #[.int .i64 (xa : Int), .string (ofL xd)] 68)).cell (p := ⟨D, 0, none⟩) (World.block_lt_of_cell? wr _ z0)).trans z0
      generalize wr.alloc (.cells #[.int .i64 (xa : Int), .string (ofL xd)] 68) = W at *
      have hbR : wr.heap.size ≠ R := fun e => by have := (Array.getElem?_eq_some_iff.1 hR).1; omega
      have hDR := HD.out.neDR
      generalize wr.heap.size = bx at *
      obtain ⟨t, ht⟩ : ∃ t, t = min m xd.length := ⟨_, rfl⟩
      have htl : t ≤ xd.length := by omega
      have hmi : min (m : Int) (xd.length : Int) = (t : Int) := by omega
      have hrun := dk_copy (W := W.drew) (d := xd.take t) hA2 HLN.out (by have := HW.out.1; dsimp only at this; exact this) (by have := HW.out.2; dsimp only at this; rw [List.length_take]; omega)
      rw [List.length_take_of_le htl] at hrun
      have hsl := fun W' => slice_to_l (P := Try.prog) Try.underlying9 xd .i64 (t : Int) t rfl htl W'
      have HTM := Lib.hid ht
      clear ht
      clear hR y0 y1 z0
      go_region_held3 (fun a => a.cell? ⟨D, 0, none⟩ = some (.slice (some ⟨R, 0, none⟩) n n) ∧ a.cell? ⟨bx, 0, none⟩ = some (.int .i64 (xa : Int)) ∧ a.cell? ⟨bx, 1, none⟩ = some (.string (ofL xd))) (first | exact ⟨d0, b0, b1⟩ | exact ⟨(cell_setRow hDR).trans d0, (cell_setRow hbR).trans b0, (cell_setRow hbR).trans b1⟩) (fail)
      have HP := Lib.hid (put_done st.last (st.wait.take k) c xa t xd (by rw [HTM.out, ← HMK.out, HWK.out]))
      rw [HTK.out] at HP
      have HK3 := Lib.hid (HK2.out.trans (kp_setRow W R (Lib.byteCells (Dk.put (Dk.done st.last (List.take k st.wait) c) xa (List.take t xd))).toArray) (fun _ _ h => h))
      have HR3 := Lib.hid (heap_setRow (c' := (Lib.byteCells (Dk.put (Dk.done st.last (List.take k st.wait) c) xa (List.take t xd))).toArray) hA2)
      rw [HP.out] at HK3 HR3 ⊢
      have hsub : IntKind.i64.wrap ((m : Int) - (t : Int)) = ((c - Dk.waits (st.wait.take (k + 1)) : Nat) : Int) := by
        have h1 := HTM.out
        have h2 := HMK.out
        have h3 : Dk.waits (st.wait.take (k + 1)) = wk + xd.length := HWS.out
        rw [IntKind.wrap_i64]
        omega
      rw [hsub]
      clear hsub hrun hsl hmi
      generalize W.drew.setRow R (Lib.byteCells (Dk.done st.last (List.take (k + 1) st.wait) c)).toArray = W3 at *
      go_wp2_with fail
      go_roundg (gk - 1)
      case rel => exact ⟨k + 1, by have := HK.out; omega, by go_num, rfl, HK3.out, HR3.out⟩
      case measure => have := HK.out; omega
    · have e : st.wait.take k = st.wait := List.take_of_length_le (by omega)
      rw [e] at hR
      clear e
      have hD := (HKP.out.block D (HD.out.lt D HD.out.fd) HD.out.neDR).trans HD.out.hd
      have hf1 := Lib.frozen_of_heap hD 1
      have q1 : wr.cell? ⟨D, 1, none⟩ = some (.slice A st.wait.length cp) := by rw [Lib.cell_of_heap hD]; rfl
      have HE := Lib.hid (dk_emptied HD.out HKP.out hR hD)
      clear hR hD
      go_wp2_with fail
      go_end0
      exact ⟨rfl, HE.out.1, F, Ext.refl _ _, HE.out.2⟩
end Go.Proofs.Ytpdgadohfhmcnaa
