/-
  WHAT IS WRITTEN, walked: Num of Out: a number as so many bytes.
-/
import Derived.Test.YteblkbgcefgplaaRows
import Derived.Test.YteblkbgcefgplaaMath
import Derived.Test.YteblkbgcefgplaaOut
import Derived.WalkKit
import Derived.ProofKit
import Derived.OpenShut
import Derived.Laws.BitsAllLaws
import Derived.WalkLawsBesides
import Derived.WalkSpells
import Derived.Lib.Hide
import Derived.Below
import Derived.RegionTactic
import Derived.LoopN
import Derived.Laws.IdiomStrings
import Derived.Deep.RegionWith
import Derived.Deep.DrawnRows
import Derived.Outline
import Derived.Laws.ResultCell
namespace Go.Proofs.Yteblkbgcefgplaa
attribute [local go_sem ↓] Go.wp_at_zero Go.wp_at_succ
open Go.ChangeShapes Go.WideShapes Go.ChangeAt Go.RowKit



/-- what the loop over the eight bytes keeps -/
structure NumSt (w : World) (o : ByteArray) (e : Int) (n k : Nat) (wr : World) : Prop where
  cells : ∀ j, j < 8 → wr.cell? ⟨w.heap.size + 1 + 1, j, none⟩ = some (.int .u8 (((if 8 ≤ j + k then n / 2 ^ (8 * (7 - j)) % 256 else 0 : Nat)) : Int))
  free : ∀ j, j < 8 → wr.frozen? ⟨w.heap.size + 1 + 1, j, none⟩ = false
  o0 : wr.cell? ⟨w.heap.size, 0, none⟩ = some (.string o)
  o1 : wr.cell? ⟨w.heap.size, 1, none⟩ = some (.int .i64 e)
  r0 : wr.cell? ⟨w.heap.size + 1, 0, none⟩ = some (.string ⟨#[]⟩)
  r1 : wr.cell? ⟨w.heap.size + 1, 1, none⟩ = some (.int .i64 0)
  fr : ∀ j, wr.frozen? ⟨w.heap.size + 1, j, none⟩ = false
  below : Below w.heap.size w wr
  size : w.heap.size + 1 + 1 < wr.heap.size
theorem NumSt.next {w : World} {o : ByteArray} {e : Int} {n k : Nat} {wr : World} (h : NumSt w o e n k wr) (hk : k < 8) :
    NumSt w o e n (k + 1) (wr.setCell ⟨w.heap.size + 1 + 1, 7 - k, none⟩ (.int .u8 ((n / 2 ^ (8 * k) % 256 : Nat) : Int))) := by
  refine ⟨fun j hj => ?_, fun j hj => ?_, ?_, ?_, ?_, ?_, fun j => ?_, h.below.setCell (by simp; omega) _, by simp [World.setCell]; exact h.size⟩
  · by_cases ej : j = 7 - k
    · subst ej
      rw [World.cell?_setCell_same _ _ _ (h.cells _ hj), if_pos (by omega), show 7 - (7 - k) = k from by omega]
    · rw [World.cell?_setCell_other _ _ _ _ (by simp only [ne_eq, Addr.mk.injEq, not_and]; omega), h.cells j hj]
      by_cases h8 : 8 ≤ j + k
      · rw [if_pos h8, if_pos (by omega)]
      · rw [if_neg h8, if_neg (by omega)]
  · rw [World.frozen?_setCell]; exact h.free j hj
  · rw [World.cell?_setCell_other _ _ _ _ (by simp only [ne_eq, Addr.mk.injEq, not_and]; omega)]; exact h.o0
  · rw [World.cell?_setCell_other _ _ _ _ (by simp only [ne_eq, Addr.mk.injEq, not_and]; omega)]; exact h.o1
  · rw [World.cell?_setCell_other _ _ _ _ (by simp only [ne_eq, Addr.mk.injEq, not_and]; omega)]; exact h.r0
  · rw [World.cell?_setCell_other _ _ _ _ (by simp only [ne_eq, Addr.mk.injEq, not_and]; omega)]; exact h.r1
  · rw [World.frozen?_setCell]; exact h.fr j

theorem byte_cast (n m : Nat) : ((n / 2 ^ m % 256 : Nat) : Int) = (n : Int) / 2 ^ m % 256 := by
  rw [Int.natCast_emod, Int.natCast_ediv, Int.natCast_pow]; rfl
/-- the bytes of the last cells, as a text -/
theorem NumSt.conv {w : World} {o : ByteArray} {e : Int} {n : Nat} {wr W : World} (h : NumSt w o e n 8 wr) (hW : ∀ p, W.cell? p = wr.cell? p) (k : Nat) (hk : k ≤ 8) (cap : Nat) :
    (convert 51 9 (.slice (some (if 8 = 8 - k then ⟨w.heap.size + 1 + 1, 0, none⟩ else ⟨w.heap.size + 1 + 1, 8 - k, none⟩)) k cap)).run Try.prog W = .ok (.string ⟨(Oct.be k n).toArray⟩) W := by
  have hb := run_convert_bytes_back (P := Try.prog) W 51 9 5 (if 8 = 8 - k then ⟨w.heap.size + 1 + 1, 0, none⟩ else ⟨w.heap.size + 1 + 1, 8 - k, none⟩) cap (Oct.be k n) Try.underlying51 Try.underlying5 Try.underlying9 (fun j hj => by
    have hj' : j < k := by rw [Oct.length_be] at hj; exact hj
    rw [if_neg (by omega), hW]
    have ea : (⟨w.heap.size + 1 + 1, 8 - k, none⟩ : Addr).add j = ⟨w.heap.size + 1 + 1, 8 - k + j, none⟩ := by unfold Addr.add; split <;> simp_all
    rw [ea, h.cells _ (by omega), if_pos (by omega)]
    have hat := Oct.be_at k n j hj'
    rw [List.getElem?_eq_getElem hj] at hat
    have hat' := Option.some.inj hat
    rw [hat', UInt8.toNat_ofNat', Oct.pow256, show 7 - (8 - k + j) = k - 1 - j from by omega]
    congr 3
    exact (Nat.mod_mod _ _).symm)
  rw [Oct.length_be] at hb
  exact hb

theorem sl52 (B kk : Nat) (hk : kk ≤ 8) (W : World) :
    (Instr.sliceAt 52 (.pointer (some ⟨B, 0, none⟩)) (some (.int .i64 (8 - (kk : Int)))) none none).run Try.prog W = .ok (.slice (some (if 8 = 8 - kk then ⟨B, 0, none⟩ else ⟨B, 8 - kk, none⟩)) kk kk) W := by
  have hl : Try.prog.arrayLen 52 = 8 := by kernel_rfl
  have hs : (sizeOf (Try.prog.elem 52)).run Try.prog W = .ok 1 W := by
    have : Try.prog.elem 52 = 5 := by kernel_rfl
    rw [this]; exact Try.sizeOf5 W
  rw [run_sliceAt_array_l W 52 ⟨B, 0, none⟩ (by kernel_rfl) .i64 (8 - (kk : Int)) (by omega) (by rw [hl]; omega), hs, hl]
  simp only [Result.andThen_ok, slicedAt]
  have e : (8 - (kk : Int)).toNat = 8 - kk := by omega
  rw [e]
  have e2 : 8 - (8 - kk) = kk := by omega
  rw [e2]
  have ea : (⟨B, 0, none⟩ : Addr).add ((8 - kk) * 1) = ⟨B, 8 - kk, none⟩ := by unfold Addr.add; split <;> simp_all
  rw [ea]

theorem cell_new (W : World) (c : Array Value) (t : TypeId) (g i : Nat) (hg : g = W.heap.size) : (W.alloc (.cells c t)).cell? ⟨g, i, none⟩ = c[i]? := by
  subst hg; exact World.cell?_alloc_new W c t i
theorem cell_old (W : World) (o : Obj) (g i : Nat) (hg : g < W.heap.size) : (W.alloc o).cell? ⟨g, i, none⟩ = W.cell? ⟨g, i, none⟩ := World.cell?_alloc_lt W o ⟨g, i, none⟩ hg
theorem free_new (W : World) (c : Array Value) (t : TypeId) (g i : Nat) (hg : g = W.heap.size) : (W.alloc (.cells c t)).frozen? ⟨g, i, none⟩ = false := by
  subst hg; exact World.frozen?_alloc_new W c t i
theorem free_old (W : World) (o : Obj) (g i : Nat) (hg : g < W.heap.size) : (W.alloc o).frozen? ⟨g, i, none⟩ = W.frozen? ⟨g, i, none⟩ := World.frozen?_alloc_old W o ⟨g, i, none⟩ (Nat.ne_of_lt hg)
theorem NumSt.start (w : World) (o : ByteArray) (e : Int) (n : Nat) :
    NumSt w o e n 0 (((w.alloc (.cells #[.string o, .int .i64 e] 32)).alloc (.cells #[.string ⟨#[]⟩, .int .i64 0] 32)).alloc (.cells #[.int .u8 0, .int .u8 0, .int .u8 0, .int .u8 0, .int .u8 0, .int .u8 0, .int .u8 0, .int .u8 0] 52)) := by
  refine ⟨fun j hj => ?_, fun j _ => ?_, ?_, ?_, ?_, ?_, fun j => ?_, (((Below.refl _ _).alloc (Nat.le_refl _) _).alloc (by simp) _).alloc (by simp; omega) _, by simp⟩
  · rw [if_neg (by omega), cell_new _ _ _ _ _ (by simp)]
    match j, hj with
    | 0, _ => rfl
    | 1, _ => rfl
    | 2, _ => rfl
    | 3, _ => rfl
    | 4, _ => rfl
    | 5, _ => rfl
    | 6, _ => rfl
    | 7, _ => rfl
  · rw [free_new _ _ _ _ _ (by simp)]
  · rw [cell_old _ _ _ _ (by simp; omega), cell_old _ _ _ _ (by simp), cell_new _ _ _ _ _ rfl]; rfl
  · rw [cell_old _ _ _ _ (by simp; omega), cell_old _ _ _ _ (by simp), cell_new _ _ _ _ _ rfl]; rfl
  · rw [cell_old _ _ _ _ (by simp), cell_new _ _ _ _ _ (by simp)]; rfl
  · rw [cell_old _ _ _ _ (by simp), cell_new _ _ _ _ _ (by simp)]; rfl
  · rw [free_old _ _ _ _ (by simp), free_new _ _ _ _ _ (by simp)]

set_option maxHeartbeats 1000000 in
theorem num_any (o : ByteArray) (e : Int) (n : Nat) (b : Int) (w : World) (_hn : n < 18446744073709551616) (ho : o.size ≤ 1000000) :
    Calls Try.prog 13 #[.agg #[.string o, .int .i64 e], .int .u64 (n : Int), .int .i64 b] w fun x w' => x = .returned (.agg #[.string (o ++ ⟨(Oct.be (Oct.width b) n).toArray⟩), .int .i64 e]) ∧ Below w.heap.size w w' := by
  have hwd := width_any b
  have hk8 := Oct.width_le b
  generalize Oct.width b = kk at hwd hk8
  have HWD := Lib.hid hwd
  clear hwd
  go_enter Try.func13, Try.ntmps13
  go_wp2
  go_loopw [9] (fun i wr => ∃ k : Nat, k ≤ 8 ∧ i = .int .i64 k ∧ NumSt w o e n k wr) (fun i _ => 8 - (intOf i).toNat)
  case atStart =>
    refine ⟨0, by omega, rfl, ?_⟩
    exact NumSt.start w o e n
  case round =>
    obtain ⟨k, hk, rfl, hst⟩ := hrel
    have HST := Lib.hid hst
    clear hst
    by_cases hlt : k < 8
    · have g1 := HST.out.cells (7 - k) (by omega)
      have g2 := HST.out.free (7 - k) (by omega)
      have HN := Lib.hid (HST.out.next hlt)
      generalize (((if 8 ≤ 7 - k + k then n / 2 ^ (8 * (7 - (7 - k))) % 256 else 0 : Nat)) : Int) = old at g1
      go_wp2
      go_roundw
      case rel => exact ⟨k + 1, by omega, by go_num, by have := HN.out; rw [byte_cast] at this; exact this⟩
      case measure => simp [intOf]; omega
    · obtain rfl : k = 8 := by omega
      have g1 := HST.out.o0
      have g2 := HST.out.o1
      have hwr : IntKind.i64.wrap (8 - (kk : Int)) = 8 - (kk : Int) := by rw [IntKind.wrap_i64]; omega
      have hcv := HST.out.conv (W := wr.drew) (fun _ => rfl) kk hk8 kk
      have hsl := sl52 (w.heap.size + 1 + 1) kk hk8
      generalize (if 8 = 8 - kk then (⟨w.heap.size + 1 + 1, 0, none⟩ : Addr) else ⟨w.heap.size + 1 + 1, 8 - kk, none⟩) = ad at hcv hsl
      have hr : (ByteArray.mk (Oct.be kk n).toArray).size ≤ 1000000 := by
        show (Oct.be kk n).toArray.size ≤ 1000000
        rw [List.size_toArray, Oct.length_be]; omega
      generalize hre : ByteArray.mk (Oct.be kk n).toArray = r at hcv hr
      have HRE := Lib.hid hre
      clear hre
      go_wp2
      go_region_with (first | (go_at_call 33; refine (HWD.out _).mono ?_; rintro e' w' ⟨rfl, rfl⟩) | (go_at_call 30; refine (raw_any _ _ _ _ ho hr).mono ?_; rintro e' w2 ⟨rfl, hb2⟩; have k0 := (hb2.cell (p := ⟨w.heap.size + 1, 0, none⟩) (by have := HST.out.size; simp; omega)).trans HST.out.r0; have k1 := (hb2.cell (p := ⟨w.heap.size + 1, 1, none⟩) (by have := HST.out.size; simp; omega)).trans HST.out.r1; have k2 := fun j => (hb2.frozen (p := ⟨w.heap.size + 1, j, none⟩) (by have := HST.out.size; simp; omega)).trans (HST.out.fr j)))
      all_goals
        go_wp2
        exact bodyPost_ret (v := .agg #[.string (o ++ r), .int .i64 e]) (by simp [results, Try.results13, go_sem, k0, k1]) rfl
          ⟨by rw [HRE.out], ((Below.trans HST.out.below.drew (hb2.mono (by have := HST.out.size; simp; omega))).setCell (by simp) _).setCell (by simp) _⟩
end Go.Proofs.Yteblkbgcefgplaa
