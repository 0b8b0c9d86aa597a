/-
  A DISK: all that lasts; what nil tells.
-/
import Derived.Test.YtpdgadohfhmcnaaDkG
import Derived.Lib.BufferRead
namespace Go.Proofs.Ytpdgadohfhmcnaa
open Go.ChangeShapes Go.WideShapes Go.ChangeAt Go.RowKit

theorem infoU8 : (Try.prog.info? 5).map (fun i => (i.zero, i.size, i.bytes)) = some (some (.int .u8 0), 1, 1) := by kernel_rfl
def LaSt (w : World) (s : List UInt8) (n g : Nat) (v i : Value) (wr : World) : Prop :=
  ∃ k : Nat, k + g = n ∧ i = .int .i64 (k : Int) ∧ wr.ownsRow w.heap.size 5 1 v (64 * k) (Lib.byteCells (s.take (64 * k))) ∧ Below w.heap.size w wr
theorem take_blk (s : List UInt8) (k : Nat) : s.take (64 * (k + 1)) = s.take (64 * k) ++ Dk.blk s k := by
  unfold Dk.blk
  rw [show 64 * (k + 1) = 64 * k + 64 by omega, List.take_add]
set_option maxRecDepth 100000 in
set_option maxHeartbeats 4000000 in
theorem dkLasts_any {n D : Nat} {F : Nat → Prop} {st : Dk.St} (w : World) (h : Disk n F D st w) (hn : n ≤ 4096) :
    Calls Try.prog 14 #[dkP D] w fun e w' => e = .returned (.string (ofL st.last)) ∧ Below w.heap.size w w' := by
  obtain ⟨R, v, am, sy, ct, h⟩ := h
  have c0 := h.cs.c0
  have hRl := h.lt R h.fr
  have HR := Lib.hid h.hr
  have HL := Lib.hid h.wf.len
  clear h
  generalize st.last = s at *
  obtain ⟨i1, hi1, hz0, hz1, hz2⟩ := info_parts infoU8
  go_enter Try.func14, Try.ntmps14
  go_wp2_with fail
  go_loopg [3, 13] n (fun g v i wr => LaSt w s n g v i wr)
  case atStart => exact ⟨0, by omega, rfl, World.ownsRow_nil _ _ _ _, Below.refl _ _⟩
  case round =>
    obtain ⟨k, hk, rfl, hO, hb⟩ := hrel
    obtain ⟨A, cp, rfl, hcp, -, hcell⟩ := Rw.own_cells hO
    have HO := Lib.hid hO
    have HB := Lib.hid hb
    have HK := Lib.hid hk
    have HCE := Lib.hid hcell
    clear hO hb hk hcell
    by_cases hlt : k < n
    · have HR2 := Lib.hid ((HB.out.block R hRl).trans HR.out)
      have hblk := Dk.blk_len HL.out hlt
      have HLD := Lib.hid (blk_range (i := k) HR2.out)
      have HBS := Lib.hid (blk_size hblk)
      have HBZ := Lib.hid (show 64 = (Lib.byteCells (Dk.blk s k)).toArray.size by rw [List.size_toArray, Lib.byteCells_length, hblk])
      have HTB := Lib.hid (take_blk s k)
      have HBL := Lib.hid (show (Lib.byteCells (Dk.blk s k)).length = 64 by rw [Lib.byteCells_length, hblk])
      generalize Dk.blk s k = b0 at *
      have HB2 := Lib.hid (HB.out.alloc HB.out.size (.cells (Lib.byteCells b0).toArray 66))
      have hkn : (k : Int) < (n : Int) := by omega
      clear hblk
      go_wp2_with (first
        | (refine wpList_load_mid (by rfl) 66 _ (by rfl) R (k * 64) (by rfl) (Lib.byteCells b0) _ HLD.out Try.underlying66 rfl HBS.out ?_)
        | (refine wpList_store_new (by rfl) 66 _ _ (by rfl) _ (Lib.byteCells b0).toArray (by rfl) (by rfl) HBS.out HBZ.out (all_oneCell_toArray (Lib.byteCells_one b0)) ?_)
        | (at_builtin; refine wpList_append_lies _ rfl _ _ 64 rfl w.heap.size 5 i1 _ 1 1 Try.underlying64 hi1 hz0 hz1 hz2 rfl (by omega) (.slice A (64 * k) cp) (64 * k) (Lib.byteCells (s.take (64 * k))) (by rfl) (HO.out.alloc _) ⟨wr.heap.size, 0, none⟩ 64 64 (Lib.byteCells b0) (by rfl) HBL.out (World.news_of_block (heap_alloc_new wr _)) (Lib.byteCells_one b0) (by omega) (by unfold maxLen; omega) (by omega) HB2.out.size _ rfl ?_; intro gg cap w2 hown1 hgrow hat hlt'; have HW := Lib.hid hown1; have HG := Lib.hid hgrow; clear hown1 hgrow hat hlt'))
      have HB3 := Lib.hid (HB2.out.grown HG.out HB2.out.size (fun q hq => (HO.out.lt q hq).1))
      go_roundg (gk - 1)
      case rel => exact ⟨k + 1, by have := HK.out; omega, by go_num, by rw [HTB.out, Lib.byteCells_append, show 64 * (k + 1) = 64 * k + 64 by omega]; exact HW.out, HB3.out⟩
      case measure => have := HK.out; omega
    · have hkn : k = n := by have := HK.out; omega
      subst hkn
      by_cases h0 : k = 0
      · subst h0
        have hs : s = [] := by have := HL.out; simpa using this
        subst hs
        have htx : (convert 64 9 (.slice A 0 cp)).run Try.prog wr = .ok (.string ⟨#[]⟩) wr := by
          rcases HO.out.2 with ⟨e, _⟩ | ⟨g, cap, cur, e, _⟩
          · obtain ⟨rfl, -, rfl⟩ := Value.slice.inj e
            exact Lib.run_convert_nil_bytes (P := Try.prog) wr 64 9 5 0 Try.underlying64 Try.underlying5 Try.underlying9
          · obtain ⟨rfl, -, rfl⟩ := Value.slice.inj e
            exact Lib.run_convert_whole (P := Try.prog) wr 64 5 9 Try.underlying64 Try.underlying5 Try.underlying9 g 0 (ofL []) (fun i hi => absurd hi (by rw [ofL_size]; simp)) cp
        go_wp2_with fail
        go_ret
        exact ⟨rfl, HB.out⟩
      · obtain ⟨g, rfl, hg, hc⟩ := HCE.out (by omega)
        have hz : (ofL s).size = 64 * k := by rw [ofL_size, HL.out]
        have hby : Lib.Bytes wr g 0 (ofL s) := by
          intro i hi
          rw [hz] at hi
          rw [Nat.zero_add, hc i (by omega), ofL_get, List.take_of_length_le (by rw [HL.out]; exact Nat.le_refl _)]
          have hi' : i < s.length := by rw [HL.out]; exact hi
          simp [Lib.byteCells, List.getD_eq_getElem?_getD, hi']
        have htx := fun c => Lib.run_convert_whole (P := Try.prog) wr 64 5 9 Try.underlying64 Try.underlying5 Try.underlying9 g 0 (ofL s) hby c
        rw [hz] at htx
        clear hby hc hz
        go_wp2_with fail
        go_ret
        exact ⟨rfl, HB.out⟩
theorem dkLasts_nil (w : World) : Calls Try.prog 14 #[.pointer none] w fun e w' => e = .returned (.string ⟨#[]⟩) ∧ w = w' := by
  go_enter Try.func14, Try.ntmps14
  go_wp2_with fail
  go_ret
  exact ⟨rfl, rfl⟩
theorem dkWaits_nil (w : World) : Calls Try.prog 15 #[.pointer none] w fun e w' => e = .returned (.int .i64 0) ∧ w = w' := by
  go_enter Try.func15, Try.ntmps15
  go_wp2_with fail
  go_ret
  exact ⟨rfl, rfl⟩
theorem dkRead_nil (a : Int) (w : World) : Calls Try.prog 21 #[.pointer none, .int .i64 a] w fun e w' => e = .returned (.tuple #[.string ⟨#[]⟩, .int .i64 1]) ∧ w = w' := by
  go_enter Try.func21, Try.ntmps21
  go_wp2_with fail
  refine (dkFind_nil _ _).mono ?_
  rintro x w' ⟨rfl, rfl⟩
  go_wp2_with fail
  go_ret2
  exact ⟨rfl, rfl⟩
end Go.Proofs.Ytpdgadohfhmcnaa
