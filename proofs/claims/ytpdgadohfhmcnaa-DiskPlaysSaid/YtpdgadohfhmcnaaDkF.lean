/-
  A DISK: a new one; a block as it is.
-/
import Derived.Test.YtpdgadohfhmcnaaDkE
import Derived.Deep.MidRow
import Derived.Deep.WholeRow
import Derived.Laws.MakeOwn
namespace Go.Proofs.Ytpdgadohfhmcnaa
open Go.ChangeShapes Go.WideShapes Go.ChangeAt Go.RowKit

def zero64 : Array Value := (List.replicate 64 (Value.int .u8 0)).toArray
theorem infoBlk : (Try.prog.info? 66).map (fun i => (i.zero, i.size, i.bytes)) = some (some (.agg zero64), 64, 64) := by kernel_rfl
theorem made_zero (n : Nat) : madeCells zero64 (n * 64) = (Lib.byteCells (List.replicate (64 * n) 0)).toArray := by
  apply Array.ext_getElem?
  intro i
  have h64 : zero64.size = 64 := by decide
  by_cases h : i < n * 64
  · have h2 : i % 64 < 64 := Nat.mod_lt _ (by decide)
    have hz : ∀ j, j < 64 → zero64[j]! = Value.int .u8 0 := by
      intro j hj
      unfold zero64
      simp only [List.getElem!_toArray]
      rw [List.getElem!_eq_getElem?_getD, List.getElem?_replicate, if_pos hj]
      rfl
    simp only [madeCells, Array.getElem?_map, Array.getElem?_range, h64]
    rw [if_pos h]
    simp only [Option.map_some, hz _ h2, List.getElem?_toArray, Lib.byteCells, List.getElem?_map, List.getElem?_replicate]
    rw [if_pos (by omega)]
    rfl
  · rw [Array.getElem?_eq_none (by rw [size_madeCells]; omega), Array.getElem?_eq_none (by simp [Lib.byteCells]; omega)]
theorem dkMake (n : Nat) (hn : n ≤ 4096) (W : World) :
    (Instr.makeSlice 52 (.int .i64 (n : Int)) (.int .i64 (n : Int))).run Try.prog W = .ok (.slice (some ⟨W.heap.size, 0, none⟩) n n) (W.alloc (.cells (Lib.byteCells (List.replicate (64 * n) 0)).toArray 66)) := by
  obtain ⟨i1, hi1, hz0, hz1, hz2⟩ := info_parts infoBlk
  have h := run_make (P := Try.prog) W 52 66 i1 _ Try.underlying52 hi1 hz0 .i64 .i64 (n : Int) (n : Int) (by omega) (Int.le_refl _) (by rw [hz2]; omega) (by omega)
  rw [h, hz1]
  have e : (Value.agg zero64).cells = zero64 := rfl
  rw [e, Int.toNat_natCast, made_zero]
theorem new_dk (n : Nat) (w : World) : DkB n (fun k => k = w.heap.size ∨ k = w.heap.size + 1) (w.heap.size + 1) w.heap.size (.slice none 0 0) false 0 0 (Dk.new n)
    ((w.alloc (.cells (Lib.byteCells (List.replicate (64 * n) 0)).toArray 66)).alloc (.cells #[.slice (some ⟨w.heap.size, 0, none⟩) n n, .slice none 0 0, .bool true, .bool false, .int .i64 0, .int .i64 0] 55)) := by
  refine ⟨.inr rfl, .inl rfl, fun g hg => (by cases hg), ?_, ?_, ⟨by simp [wcells, Dk.new], Or.inl ⟨rfl, rfl⟩⟩, fun _ => rfl, Dk.new_wf n, fun k hk => ?_⟩
  · have h := heap_alloc_new (w.alloc (.cells (Lib.byteCells (List.replicate (64 * n) 0)).toArray 66)) (.cells #[.slice (some ⟨w.heap.size, 0, none⟩) n n, .slice none 0 0, .bool true, .bool false, .int .i64 0, .int .i64 0] 55)
    rw [show (w.alloc (.cells (Lib.byteCells (List.replicate (64 * n) 0)).toArray 66)).heap.size = w.heap.size + 1 by simp] at h
    exact h
  · rw [Below.heap_alloc _ _ _ (by simp)]
    exact heap_alloc_new w _
  · rcases hk with rfl | rfl <;> simp <;> omega
/-- as many blocks as may be -/
def held (b m : Int) : Int := if b > m then (if m < 0 then 0 else m) else if b < 0 then 0 else b
def nbl (b : Int) : Nat := (min (max b 0) 4096).toNat
theorem dkNew_any (b : Int) (w : World) :
    Calls Try.prog 9 #[.int .i64 b] w fun e w' => e = .returned (dkP (w.heap.size + 1)) ∧ Below w.heap.size w w' ∧ Disk (nbl b) (fun k => k = w.heap.size ∨ k = w.heap.size + 1) (w.heap.size + 1) (Dk.new (nbl b)) w' := by
  have hm : min (max b 0) 4096 = ((nbl b : Nat) : Int) := by unfold nbl; omega
  have hn : nbl b ≤ 4096 := by unfold nbl; omega
  generalize nbl b = n at *
  have hmk := fun W => dkMake n hn W
  have HN := Lib.hid (new_dk n w)
  have HB := Lib.hid (((Below.refl w.heap.size w).alloc (Nat.le_refl _) (.cells (Lib.byteCells (List.replicate (64 * n) 0)).toArray 66)).alloc (by simp) (.cells #[.slice (some ⟨w.heap.size, 0, none⟩) n n, .slice none 0 0, .bool true, .bool false, .int .i64 0, .int .i64 0] 55))
  generalize List.replicate (64 * n) (0 : UInt8) = z at *
  clear hn
  go_enter Try.func9, Try.ntmps9
  go_wp2_with fail
  go_ret
  exact ⟨rfl, HB.out, _, _, _, _, _, HN.out⟩
/-- a block, whole -/
theorem blk_cells {s : List UInt8} {n i : Nat} (hs : s.length = 64 * n) (hi : i < n) : (Lib.byteCells (Dk.blk s i)).length = 64 := by rw [Lib.byteCells_length]; exact Dk.blk_len hs hi
theorem blk_range {W : World} {R i : Nat} {s : List UInt8} {t : TypeId} (hR : W.heap[R]? = some (.cells (Lib.byteCells s).toArray t (0, 0))) : W.rangeAt R (i * 64) (Lib.byteCells (Dk.blk s i)) := by
  intro j v hv
  rw [Lib.cell_of_heap hR]
  simp only [List.getElem?_toArray, Lib.byteCells, List.getElem?_map, Dk.blk, List.getElem?_take, List.getElem?_drop] at hv ⊢
  by_cases hj : j < 64
  · rw [if_pos hj] at hv
    rw [Nat.mul_comm i 64]; exact hv
  · rw [if_neg hj] at hv; cases hv
theorem dkLoad {W : World} {R n i : Nat} {s : List UInt8} {t : TypeId} (hR : W.heap[R]? = some (.cells (Lib.byteCells s).toArray t (0, 0))) (hs : s.length = 64 * n) (hi : i < n) :
    (Instr.loadAt 66 (.pointer (some ⟨R, i * 64, none⟩))).run Try.prog W = .ok (.agg (Lib.byteCells (Dk.blk s i)).toArray) W := by
  obtain ⟨i1, hi1, hz0, hz1, hz2⟩ := info_parts infoBlk
  exact run_loadAt_mid W R (i * 64) 66 _ _ (blk_range hR) Try.underlying66 rfl (by rw [hi1, blk_cells hs hi]; simp [hz1])
theorem dkStore (W : World) (b : List UInt8) (hb : b.length = 64) (c : Array Value) (hc : c.size = 64) :
    (Instr.storeAt 66 (.pointer (some ⟨W.heap.size, 0, none⟩)) (.agg (Lib.byteCells b).toArray)).run Try.prog (W.alloc (.cells c 66)) = .ok () (W.alloc (.cells (Lib.byteCells b).toArray 66)) := by
  obtain ⟨i1, hi1, hz0, hz1, hz2⟩ := info_parts infoBlk
  exact run_storeAt_new W 66 c _ (by rw [hi1]; simp [hz1, Lib.byteCells, hb]) (by simp [hc, Lib.byteCells, hb]) (all_oneCell_toArray (Lib.byteCells_one b))
end Go.Proofs.Ytpdgadohfhmcnaa
