/-
 A part of the proof.
-/
import Derived.Test.YtaikigponkjkgaaGreatDoorXr01
import Derived.Test.YtaikigponkjkgaaGreatDoorRows
import Derived.WalkKit
import Derived.ProofKit
import Derived.OpenShut
import Derived.Laws.BitsAllLaws
import Derived.WalkLawsBesides
import Derived.WalkSpells
import Derived.Lib.Hide
import Derived.Below
import Derived.RegionTactic
import Derived.LoopN
import Derived.Laws.IdiomStrings
import Derived.Deep.RegionWith
import Derived.Deep.DrawnRows
import Derived.Outline
import Derived.Laws.ResultCell
import Derived.BigQuiet
import Derived.Deep.QuietTactic
section
namespace Go.Proofs.YtaikigponkjkgaaGreatDoor
open Go.ChangeShapes Go.WideShapes Go.ChangeAt Go.RowKit
open Go.Lib (hid)
theorem ret_int {k : IntKind} {a b : Int} (h : a = b) : Ending.returned (.int k a) = .returned (.int k b) := by rw [h]
theorem ret_bool {a b : Bool} (h : a = b) : Ending.returned (.bool a) = .returned (.bool b) := by rw [h]
theorem ret_str {a b : ByteArray} (h : a = b) : Ending.returned (.string a) = .returned (.string b) := by rw [h]
theorem bthen {B : Nat} {w w1 w2 : World} (h : Below B w w1) (h2 : Below w1.heap.size w1 w2) (hB : B ≤ w.heap.size) : Below B w w2 := h.trans (h2.mono (Nat.le_trans hB h.size))

set_option maxHeartbeats 400000 in
theorem width_any (b : Int) (w : World) : Calls Tryz.prog 45 #[.int .i64 b] w fun e w' => e = .returned (.int .i64 ((Oct.width b : Nat) : Int)) ∧ w = w' := by
 by_cases h0 : b ≤ 0
 ·have hw : Hid (Oct.width b = 0) := Oct.width_low h0
  go_enter Tryz.func45, Tryz.ntmps45
  go_wp2
  all_goals
   go_ret
   exact ⟨ret_int (by rw [hw.out]; omega), rfl⟩
 ·by_cases h8 : 8 ≤ b
  ·have hw : Hid (Oct.width b = 8) := Oct.width_high h8
   go_enter Tryz.func45, Tryz.ntmps45
   go_wp2
   all_goals
    go_ret
    exact ⟨ret_int (by rw [hw.out]; omega), rfl⟩
  ·have hw : Hid ((Oct.width b : Int) = b) := Oct.width_mid (by omega) (by omega)
   go_enter Tryz.func45, Tryz.ntmps45
   go_wp2
   all_goals
    go_ret
    exact ⟨ret_int (by rw [hw.out]), rfl⟩

set_option maxHeartbeats 400000 in
theorem raw_any (o s : ByteArray) (e : Int) (w : World) (ho : o.size ≤ 1000000) (hs : s.size ≤ 1000000) :
  Calls Tryz.prog 44 #[.agg #[.string o, .int .i64 e], .string s] w fun x w' => x = .returned (.agg #[.string (o ++ s), .int .i64 e]) ∧ Below w.heap.size w w' := by
 go_enter Tryz.func44, Tryz.ntmps44
 go_wp2
 exact bodyPost_ret (v := .agg #[.string (o ++ s), .int .i64 e]) (by simp [results, Tryz.results44, go_sem]) rfl ⟨rfl, ((Below.refl _ _).alloc (Nat.le_refl _) _).alloc (by simp) _⟩
theorem str_any (o : ByteArray) (e : Int) (w : World) :
  Calls Tryz.prog 20 #[.agg #[.string o, .int .i64 e]] w fun x w' => x = .returned (.string o) ∧ Below w.heap.size w w' := by
 go_enter Tryz.func20, Tryz.ntmps20
 go_wp2
 go_ret
 exact ⟨rfl, (Below.refl _ _).alloc (Nat.le_refl _) _⟩
structure NumSt (w : World) (o : ByteArray) (e : Int) (n k : Nat) (wr : World) : Prop where
 cells : ∀ j, j < 8 → wr.cell? ⟨w.heap.size + 1 + 1, j, none⟩ = some (.int .u8 (((if 8 ≤ j + k then n / 2 ^ (8 * (7 - j)) % 256 else 0 : Nat)) : Int))
 free : ∀ j, j < 8 → wr.frozen? ⟨w.heap.size + 1 + 1, j, none⟩ = false
 o0 : wr.cell? ⟨w.heap.size, 0, none⟩ = some (.string o)
 o1 : wr.cell? ⟨w.heap.size, 1, none⟩ = some (.int .i64 e)
 r0 : wr.cell? ⟨w.heap.size + 1, 0, none⟩ = some (.string ⟨#[]⟩)
 r1 : wr.cell? ⟨w.heap.size + 1, 1, none⟩ = some (.int .i64 0)
 fr : ∀ j, wr.frozen? ⟨w.heap.size + 1, j, none⟩ = false
 below : Below w.heap.size w wr
 size : w.heap.size + 1 + 1 < wr.heap.size
theorem NumSt.next {w : World} {o : ByteArray} {e : Int} {n k : Nat} {wr : World} (h : NumSt w o e n k wr) (hk : k < 8) :
  NumSt w o e n (k + 1) (wr.setCell ⟨w.heap.size + 1 + 1, 7 - k, none⟩ (.int .u8 ((n / 2 ^ (8 * k) % 256 : Nat) : Int))) := by
 refine ⟨fun j hj => ?_, fun j hj => ?_, ?_, ?_, ?_, ?_, fun j => ?_, h.below.setCell (by simp; omega) _, by simp [World.setCell]; exact h.size⟩
 ·by_cases ej : j = 7 - k
  ·subst ej
   rw [World.cell?_setCell_same _ _ _ (h.cells _ hj), if_pos (by omega), show 7 - (7 - k) = k from by omega]
  ·rw [World.cell?_setCell_other _ _ _ _ (by simp only [ne_eq, Addr.mk.injEq, not_and]; omega), h.cells j hj]
   by_cases h8 : 8 ≤ j + k
   ·rw [if_pos h8, if_pos (by omega)]
   ·rw [if_neg h8, if_neg (by omega)]
 ·rw [World.frozen?_setCell]; exact h.free j hj
 ·rw [World.cell?_setCell_other _ _ _ _ (by simp only [ne_eq, Addr.mk.injEq, not_and]; omega)]; exact h.o0
 ·rw [World.cell?_setCell_other _ _ _ _ (by simp only [ne_eq, Addr.mk.injEq, not_and]; omega)]; exact h.o1
 ·rw [World.cell?_setCell_other _ _ _ _ (by simp only [ne_eq, Addr.mk.injEq, not_and]; omega)]; exact h.r0
 ·rw [World.cell?_setCell_other _ _ _ _ (by simp only [ne_eq, Addr.mk.injEq, not_and]; omega)]; exact h.r1
 ·rw [World.frozen?_setCell]; exact h.fr j

theorem byte_cast (n m : Nat) : ((n / 2 ^ m % 256 : Nat) : Int) = (n : Int) / 2 ^ m % 256 := by
 rw [Int.natCast_emod, Int.natCast_ediv, Int.natCast_pow]; rfl
theorem NumSt.conv {w : World} {o : ByteArray} {e : Int} {n : Nat} {wr W : World} (h : NumSt w o e n 8 wr) (hW : ∀ p, W.cell? p = wr.cell? p) (k : Nat) (hk : k ≤ 8) (cap : Nat) :
  (convert 62 9 (.slice (some (if 8 = 8 - k then ⟨w.heap.size + 1 + 1, 0, none⟩ else ⟨w.heap.size + 1 + 1, 8 - k, none⟩)) k cap)).run Tryz.prog W = .ok (.string ⟨(Oct.be k n).toArray⟩) W := by
 have hb := run_convert_bytes_back (P := Tryz.prog) W 62 9 5 (if 8 = 8 - k then ⟨w.heap.size + 1 + 1, 0, none⟩ else ⟨w.heap.size + 1 + 1, 8 - k, none⟩) cap (Oct.be k n) Tryz.underlying62 Tryz.underlying5 Tryz.underlying9 (fun j hj => by
  have hj' : j < k := by rw [Oct.length_be] at hj; exact hj
  rw [if_neg (by omega), hW]
  have ea : (⟨w.heap.size + 1 + 1, 8 - k, none⟩ : Addr).add j = ⟨w.heap.size + 1 + 1, 8 - k + j, none⟩ := by unfold Addr.add; split <;> simp_all
  rw [ea, h.cells _ (by omega), if_pos (by omega)]
  have hat := Oct.be_at k n j hj'
  rw [List.getElem?_eq_getElem hj] at hat
  have hat' := Option.some.inj hat
  rw [hat', UInt8.toNat_ofNat', Oct.pow256, show 7 - (8 - k + j) = k - 1 - j from by omega]
  congr 3
  exact (Nat.mod_mod _ _).symm)
 rw [Oct.length_be] at hb
 exact hb

theorem sl52 (B kk : Nat) (hk : kk ≤ 8) (W : World) :
  (Instr.sliceAt 94 (.pointer (some ⟨B, 0, none⟩)) (some (.int .i64 (8 - (kk : Int)))) none none).run Tryz.prog W = .ok (.slice (some (if 8 = 8 - kk then ⟨B, 0, none⟩ else ⟨B, 8 - kk, none⟩)) kk kk) W := by
 have hl : Tryz.prog.arrayLen 94 = 8 := by kernel_rfl
 have hs : (sizeOf (Tryz.prog.elem 94)).run Tryz.prog W = .ok 1 W := by
  have : Tryz.prog.elem 94 = 5 := by kernel_rfl
  rw [this]; exact Tryz.sizeOf5 W
 rw [run_sliceAt_array_l W 94 ⟨B, 0, none⟩ (by kernel_rfl) .i64 (8 - (kk : Int)) (by omega) (by rw [hl]; omega), hs, hl]
 simp only [Result.andThen_ok, slicedAt]
 have e : (8 - (kk : Int)).toNat = 8 - kk := by omega
 rw [e]
 have e2 : 8 - (8 - kk) = kk := by omega
 rw [e2]
 have ea : (⟨B, 0, none⟩ : Addr).add ((8 - kk) * 1) = ⟨B, 8 - kk, none⟩ := by unfold Addr.add; split <;> simp_all
 rw [ea]

theorem cell_new (W : World) (c : Array Value) (t : TypeId) (g i : Nat) (hg : g = W.heap.size) : (W.alloc (.cells c t)).cell? ⟨g, i, none⟩ = c[i]? := by
 subst hg; exact World.cell?_alloc_new W c t i
theorem cell_old (W : World) (o : Obj) (g i : Nat) (hg : g < W.heap.size) : (W.alloc o).cell? ⟨g, i, none⟩ = W.cell? ⟨g, i, none⟩ := World.cell?_alloc_lt W o ⟨g, i, none⟩ hg
theorem free_new (W : World) (c : Array Value) (t : TypeId) (g i : Nat) (hg : g = W.heap.size) : (W.alloc (.cells c t)).frozen? ⟨g, i, none⟩ = false := by
 subst hg; exact World.frozen?_alloc_new W c t i
theorem free_old (W : World) (o : Obj) (g i : Nat) (hg : g < W.heap.size) : (W.alloc o).frozen? ⟨g, i, none⟩ = W.frozen? ⟨g, i, none⟩ := World.frozen?_alloc_old W o ⟨g, i, none⟩ (Nat.ne_of_lt hg)
theorem NumSt.start (w : World) (o : ByteArray) (e : Int) (n : Nat) :
  NumSt w o e n 0 (((w.alloc (.cells #[.string o, .int .i64 e] 70)).alloc (.cells #[.string ⟨#[]⟩, .int .i64 0] 70)).alloc (.cells #[.int .u8 0, .int .u8 0, .int .u8 0, .int .u8 0, .int .u8 0, .int .u8 0, .int .u8 0, .int .u8 0] 94)) := by
 refine ⟨fun j hj => ?_, fun j _ => ?_, ?_, ?_, ?_, ?_, fun j => ?_, (((Below.refl _ _).alloc (Nat.le_refl _) _).alloc (by simp) _).alloc (by simp; omega) _, by simp⟩
 ·rw [if_neg (by omega), cell_new _ _ _ _ _ (by simp)]
  match j, hj with
  | 0, _ => rfl
  | 1, _ => rfl
  | 2, _ => rfl
  | 3, _ => rfl
  | 4, _ => rfl
  | 5, _ => rfl
  | 6, _ => rfl
  | 7, _ => rfl
 ·rw [free_new _ _ _ _ _ (by simp)]
 ·rw [cell_old _ _ _ _ (by simp; omega), cell_old _ _ _ _ (by simp), cell_new _ _ _ _ _ rfl]; rfl
 ·rw [cell_old _ _ _ _ (by simp; omega), cell_old _ _ _ _ (by simp), cell_new _ _ _ _ _ rfl]; rfl
 ·rw [cell_old _ _ _ _ (by simp), cell_new _ _ _ _ _ (by simp)]; rfl
 ·rw [cell_old _ _ _ _ (by simp), cell_new _ _ _ _ _ (by simp)]; rfl
 ·rw [free_old _ _ _ _ (by simp), free_new _ _ _ _ _ (by simp)]

set_option maxHeartbeats 1000000 in
theorem num_any (o : ByteArray) (e : Int) (n : Nat) (b : Int) (w : World) (_hn : n < 18446744073709551616) (ho : o.size ≤ 1000000) :
  Calls Tryz.prog 19 #[.agg #[.string o, .int .i64 e], .int .u64 (n : Int), .int .i64 b] w fun x w' => x = .returned (.agg #[.string (o ++ ⟨(Oct.be (Oct.width b) n).toArray⟩), .int .i64 e]) ∧ Below w.heap.size w w' := by
 have hwd := width_any b
 have hk8 := Oct.width_le b
 generalize Oct.width b = kk at hwd hk8
 have HWD := hid hwd
 clear hwd
 go_enter Tryz.func19, Tryz.ntmps19
 go_wp2
 go_loopw [9] (fun i wr => ∃ k : Nat, k ≤ 8 ∧ i = .int .i64 k ∧ NumSt w o e n k wr) (fun i _ => 8 - (intOf i).toNat)
 case atStart =>
  refine ⟨0, by omega, rfl, ?_⟩
  exact NumSt.start w o e n
 case round =>
  obtain ⟨k, hk, rfl, hst⟩ := hrel
  have HST := hid hst
  clear hst
  by_cases hlt : k < 8
  ·have g1 := HST.out.cells (7 - k) (by omega)
   have g2 := HST.out.free (7 - k) (by omega)
   have HN := hid (HST.out.next hlt)
   generalize (((if 8 ≤ 7 - k + k then n / 2 ^ (8 * (7 - (7 - k))) % 256 else 0 : Nat)) : Int) = old at g1
   go_wp2
   go_roundw
   case rel => exact ⟨k + 1, by omega, by go_num, by have := HN.out; rw [byte_cast] at this; exact this⟩
   case measure => simp [intOf]; omega
  ·obtain rfl : k = 8 := by omega
   have g1 := HST.out.o0
   have g2 := HST.out.o1
   have hwr : IntKind.i64.wrap (8 - (kk : Int)) = 8 - (kk : Int) := by rw [IntKind.wrap_i64]; omega
   have hcv := HST.out.conv (W := wr.drew) (fun _ => rfl) kk hk8 kk
   have hsl := sl52 (w.heap.size + 1 + 1) kk hk8
   generalize (if 8 = 8 - kk then (⟨w.heap.size + 1 + 1, 0, none⟩ : Addr) else ⟨w.heap.size + 1 + 1, 8 - kk, none⟩) = ad at hcv hsl
   have hr : (ByteArray.mk (Oct.be kk n).toArray).size ≤ 1000000 := by
    show (Oct.be kk n).toArray.size ≤ 1000000
    rw [List.size_toArray, Oct.length_be]; omega
   generalize hre : ByteArray.mk (Oct.be kk n).toArray = r at hcv hr
   have HRE := hid hre
   clear hre
   go_wp2
   go_region_with (first | (go_at_call 45; refine (HWD.out _).mono ?_; rintro e' w' ⟨rfl, rfl⟩) | (go_at_call 44; refine (raw_any _ _ _ _ ho hr).mono ?_; rintro e' w2 ⟨rfl, hb2⟩; have k0 := (hb2.cell (p := ⟨w.heap.size + 1, 0, none⟩) (by have := HST.out.size; simp; omega)).trans HST.out.r0; have k1 := (hb2.cell (p := ⟨w.heap.size + 1, 1, none⟩) (by have := HST.out.size; simp; omega)).trans HST.out.r1; have k2 := fun j => (hb2.frozen (p := ⟨w.heap.size + 1, j, none⟩) (by have := HST.out.size; simp; omega)).trans (HST.out.fr j)))
   all_goals
    go_wp2
    exact bodyPost_ret (v := .agg #[.string (o ++ r), .int .i64 e]) (by simp [results, Tryz.results19, go_sem, k0, k1]) rfl
     ⟨by rw [HRE.out], ((Below.trans HST.out.below.drew (hb2.mono (by have := HST.out.size; simp; omega))).setCell (by simp) _).setCell (by simp) _⟩
def textB (s : ByteArray) : ByteArray := ⟨(Oct.be 2 s.size).toArray⟩ ++ s
theorem be_size (k n : Nat) : (ByteArray.mk (Oct.be k n).toArray).size = k := by
 show (Oct.be k n).toArray.size = k
 rw [List.size_toArray, Oct.length_be]

set_option maxHeartbeats 1000000 in
theorem text_any (o s : ByteArray) (e : Int) (w : World) (ho : o.size ≤ 900000) (hs : s.size ≤ 65535) :
  Calls Tryz.prog 35 #[.agg #[.string o, .int .i64 e], .string s] w fun x w' => x = .returned (.agg #[.string (o ++ textB s), .int .i64 e]) ∧ Below w.heap.size w w' := by
 have hc : ∀ w : World, Calls Tryz.prog 19 #[.agg #[.string o, .int .i64 e], .int .u64 (s.size : Int), .int .i64 2] w fun x w' => x = .returned (.agg #[.string (o ++ ⟨(Oct.be 2 s.size).toArray⟩), .int .i64 e]) ∧ Below w.heap.size w w' := fun w => by
  have := num_any o e s.size 2 w (by omega) (by omega)
  rw [show Oct.width 2 = 2 from rfl] at this
  exact this
 have hz := be_size 2 s.size
 have HT : Hid (o ++ textB s = o ++ ⟨(Oct.be 2 s.size).toArray⟩ ++ s) := by unfold textB; rw [ByteArray.append_assoc]; exact (rfl : _ = _)
 have hz2 : (o ++ ⟨(Oct.be 2 s.size).toArray⟩).size ≤ 1000000 := by rw [ByteArray.size_append, hz]; omega
 generalize o ++ ByteArray.mk (Oct.be 2 s.size).toArray = r at hc HT hz2
 have HC := hid hc
 clear hc hz
 go_enter Tryz.func35, Tryz.ntmps35
 go_wp2_with fail
 refine (HC.out _).mono ?_
 rintro x w1 ⟨rfl, hb1⟩
 have hz1 := hb1.size
 simp at hz1
 have r0 := (hb1.cell (p := ⟨w.heap.size + 1, 0, none⟩) (by simp)).trans (cell_new _ _ _ _ _ (by simp))
 have r1 := (hb1.cell (p := ⟨w.heap.size + 1, 1, none⟩) (by simp)).trans (cell_new _ _ _ _ _ (by simp))
 have r2 := fun j => (hb1.frozen (p := ⟨w.heap.size + 1, j, none⟩) (by simp)).trans (free_new _ _ _ _ _ (by simp))
 have HB1 := hid (Below.trans (((Below.refl _ _).alloc (Nat.le_refl _) _).alloc (by simp) _) (hb1.mono (by simp; omega)))
 clear hb1
 go_wp2_with fail
 refine (raw_any _ _ _ _ hz2 (by omega)).mono ?_
 rintro x w2 ⟨rfl, hb2⟩
 have k0 := (hb2.cell (p := ⟨w.heap.size + 1, 0, none⟩) (by simp; omega)).trans r0
 have k1 := (hb2.cell (p := ⟨w.heap.size + 1, 1, none⟩) (by simp; omega)).trans r1
 have k2 := fun j => (hb2.frozen (p := ⟨w.heap.size + 1, j, none⟩) (by simp; omega)).trans (r2 j)
 have HB2 := hid (Below.trans HB1.out (hb2.mono (by omega)))
 clear hb2 r0 r1 r2
 simp at k0 k1
 have HT' := HT.out
 clear HT
 go_wp2
 exact bodyPost_ret (v := .agg #[.string (r ++ s), .int .i64 e]) (by simp [results, Tryz.results35, go_sem, k0, k1]) rfl
  ⟨by rw [HT'], (HB2.out.setCell (by simp) _).setCell (by simp) _⟩

structure InAt (b : Nat) (r : ByteArray) (e : Int) (w : World) : Prop where
 c0 : w.cell? ⟨b, 0, none⟩ = some (.string r)
 c1 : w.cell? ⟨b, 1, none⟩ = some (.int .i64 e)
 fr : ∀ j, w.frozen? ⟨b, j, none⟩ = false
 lt : b < w.heap.size

def rawOut (r : ByteArray) (n : Int) : ByteArray := if n ≤ 0 then ByteArray.empty else if (r.size : Int) < n then ByteArray.empty else r.extract 0 n.toNat
def rawRest (r : ByteArray) (n : Int) : ByteArray := if n ≤ 0 then r else if (r.size : Int) < n then ByteArray.empty else r.extract n.toNat r.size
def rawErr (r : ByteArray) (e n : Int) : Int := if 0 < n ∧ (r.size : Int) < n ∧ e = 0 then 3 else e

theorem only_setCell {a w : World} {g : Nat} (h : a.grownBy w (some g)) {p : Addr} (hp : p.block = g) (u : Value) : a.grownBy (w.setCell p u) (some g) :=
 ⟨h.os, h.tape, h.output, by simpa [World.setCell] using h.size, fun i hi hne => (Below.heap_setCell w p u i (by
  rintro rfl
  exact hne (by rw [hp]))).trans (h.block i hi hne)⟩
theorem only_alloc {a w : World} {row : Option Nat} (h : a.grownBy w row) (o : Obj) : a.grownBy (w.alloc o) row :=
 ⟨h.os, h.tape, h.output, Nat.le_trans h.size (by simp), fun i hi hne => (Below.heap_alloc w o i (Nat.lt_of_lt_of_le hi h.size)).trans (h.block i hi hne)⟩
theorem only_drew {a w : World} {row : Option Nat} (h : a.grownBy w row) : a.grownBy w.drew row := ⟨h.os, h.tape, h.output, h.size, h.block⟩
theorem InAt.alloc {b : Nat} {r : ByteArray} {e : Int} {w : World} (h : InAt b r e w) (o : Obj) : InAt b r e (w.alloc o) :=
 ⟨(cell_old _ _ _ _ h.lt).trans h.c0, (cell_old _ _ _ _ h.lt).trans h.c1, fun j => (free_old _ _ _ _ h.lt).trans (h.fr j), by have := h.lt; simp; omega⟩
theorem InAt.drew {b : Nat} {r : ByteArray} {e : Int} {w : World} (h : InAt b r e w) : InAt b r e w.drew := ⟨h.c0, h.c1, h.fr, h.lt⟩
theorem ne_cell (b i j : Nat) (h : i ≠ j) : (⟨b, i, none⟩ : Addr) ≠ ⟨b, j, none⟩ := by simp only [ne_eq, Addr.mk.injEq, not_and]; omega
theorem InAt.rest {b : Nat} {r : ByteArray} {e : Int} {w : World} (h : InAt b r e w) (r' : ByteArray) : InAt b r' e (w.setCell ⟨b, 0, none⟩ (.string r')) :=
 ⟨World.cell?_setCell_same _ _ _ h.c0, (World.cell?_setCell_other _ _ _ _ (ne_cell b 0 1 (by decide))).trans h.c1, fun j => by rw [World.frozen?_setCell]; exact h.fr j, by have := h.lt; simp [World.setCell]; exact this⟩
theorem InAt.code {b : Nat} {r : ByteArray} {e : Int} {w : World} (h : InAt b r e w) (e' : Int) : InAt b r e' (w.setCell ⟨b, 1, none⟩ (.int .i64 e')) :=
 ⟨(World.cell?_setCell_other _ _ _ _ (ne_cell b 1 0 (by decide))).trans h.c0, World.cell?_setCell_same _ _ _ h.c1, fun j => by rw [World.frozen?_setCell]; exact h.fr j, by have := h.lt; simp [World.setCell]; exact this⟩

set_option maxHeartbeats 400000 in
theorem fail_keep (b : Nat) (r : ByteArray) (e code : Int) (w : World) (h : InAt b r e w) (hk : code = 0 ∨ e ≠ 0) :
  Calls Tryz.prog 94 #[.pointer (some ⟨b, 0, none⟩), .int .i64 code] w fun x w' => x = .returned (.tuple #[]) ∧ w = w' := by
 obtain ⟨c0, c1, fr, lt⟩ := h
 by_cases h0 : code = 0
 ·have k0 : (code == 0) = true := by simp; omega
  clear h0 hk
  go_enter Tryz.func94, Tryz.ntmps94
  go_wp2
  refine bodyPost_ret (results_none rfl _ _ _) rfl ?_
  exact ⟨rfl, rfl⟩
 ·have k0 : (code == 0) = false := by simp; omega
  have k1 : (e != 0) = true := by simp; omega
  clear h0 hk
  go_enter Tryz.func94, Tryz.ntmps94
  go_wp2
  refine bodyPost_ret (results_none rfl _ _ _) rfl ?_
  exact ⟨rfl, rfl⟩

set_option maxHeartbeats 400000 in
theorem fail_set (b : Nat) (r : ByteArray) (code : Int) (w : World) (h : InAt b r 0 w) (hc : code ≠ 0) :
  Calls Tryz.prog 94 #[.pointer (some ⟨b, 0, none⟩), .int .i64 code] w fun x w' => x = .returned (.tuple #[]) ∧ (w.setCell ⟨b, 1, none⟩ (.int .i64 code)).setCell ⟨b, 0, none⟩ (.string ByteArray.empty) = w' := by
 have c0 := h.c0
 have c1 := h.c1
 have fr := h.fr
 have lt := h.lt
 have k0 : (code == 0) = false := by simp; omega
 clear hc h
 go_enter Tryz.func94, Tryz.ntmps94
 go_wp2
 go_end0
 exact ⟨rfl, rfl⟩

def Post (b : Nat) (w : World) (v : Value) (r : ByteArray) (e : Int) (x : Ending) (w' : World) : Prop := x = .returned v ∧ InAt b r e w' ∧ w.grownBy w' (some b)

def failRest (r : ByteArray) (e code : Int) : ByteArray := if code = 0 ∨ e ≠ 0 then r else ByteArray.empty
def failErr (e code : Int) : Int := if code = 0 ∨ e ≠ 0 then e else code
theorem fail_any (b : Nat) (r : ByteArray) (e code : Int) (w : World) (h : InAt b r e w) :
  Calls Tryz.prog 94 #[.pointer (some ⟨b, 0, none⟩), .int .i64 code] w (Post b w (.tuple #[]) (failRest r e code) (failErr e code)) := by
 by_cases hk : code = 0 ∨ e ≠ 0
 ·have e1 : failRest r e code = r := if_pos hk
  have e2 : failErr e code = e := if_pos hk
  rw [e1, e2]
  refine (fail_keep b r e code w h hk).mono ?_
  rintro x w' ⟨rfl, rfl⟩
  exact ⟨rfl, h, World.grownBy.refl _ _⟩
 ·have e1 : failRest r e code = ByteArray.empty := if_neg hk
  have e2 : failErr e code = code := if_neg hk
  rw [e1, e2]
  have he : e = 0 := by omega
  subst he
  refine (fail_set b r code w h (by omega)).mono ?_
  rintro x w' ⟨rfl, rfl⟩
  have g1 := only_setCell (p := ⟨b, 1, none⟩) (World.grownBy.refl w (some b)) rfl (.int .i64 code)
  have g2 := only_setCell (p := ⟨b, 0, none⟩) g1 rfl (.string ByteArray.empty)
  exact ⟨rfl, (h.code code).rest _, g2⟩

set_option maxHeartbeats 1000000 in
theorem iraw_low (b : Nat) (r : ByteArray) (e n : Int) (w : World) (h : InAt b r e w) (hn : n ≤ 0) :
  Calls Tryz.prog 56 #[.pointer (some ⟨b, 0, none⟩), .int .i64 n] w (Post b w (.string (rawOut r n)) (rawRest r n) (rawErr r e n)) := by
 have e1 : rawOut r n = ByteArray.empty := by unfold rawOut; rw [if_pos hn]
 have e2 : rawRest r n = r := by unfold rawRest; rw [if_pos hn]
 have e3 : rawErr r e n = e := by unfold rawErr; rw [if_neg (by omega)]
 rw [e1, e2, e3]
 have H := hid h
 clear h e1 e2 e3
 go_enter Tryz.func56, Tryz.ntmps56
 go_wp2_with fail
 go_ret
 exact ⟨rfl, H.out, World.grownBy.refl _ _⟩

set_option maxHeartbeats 1000000 in
theorem iraw_short (b : Nat) (r : ByteArray) (e n : Int) (w : World) (h : InAt b r e w) (hn : 0 < n) (hs : (r.size : Int) < n) (hinv : e ≠ 0 → r = ByteArray.empty) :
  Calls Tryz.prog 56 #[.pointer (some ⟨b, 0, none⟩), .int .i64 n] w (Post b w (.string (rawOut r n)) (rawRest r n) (rawErr r e n)) := by
 have e1 : rawOut r n = ByteArray.empty := by unfold rawOut; rw [if_neg (by omega), if_pos hs]
 have e2 : rawRest r n = failRest r e 3 := by
  unfold rawRest failRest
  rw [if_neg (by omega), if_pos hs]
  by_cases he : e = 0
  ·rw [if_neg (by omega)]
  ·rw [if_pos (by omega)]; exact (hinv he).symm
 have e3 : rawErr r e n = failErr e 3 := by
  unfold rawErr failErr
  by_cases he : e = 0
  ·rw [if_pos (by omega), if_neg (by omega)]
  ·rw [if_neg (by omega), if_pos (by omega)]
 rw [e1, e2, e3]
 have H := hid (fail_any b r e 3 w h)
 have c0 := h.c0
 clear h e1 e2 e3 hinv
 go_enter Tryz.func56, Tryz.ntmps56
 go_wp2_with fail
 refine H.out.mono ?_
 rintro x w1 ⟨rfl, h1, h2⟩
 have H1 := hid h1
 have H2 := hid h2
 clear h1 h2
 go_wp2_with fail
 go_ret
 exact ⟨rfl, H1.out, H2.out⟩

set_option maxHeartbeats 1000000 in
theorem iraw_ok (b : Nat) (r : ByteArray) (e n : Int) (w : World) (h : InAt b r e w) (hn : 0 < n) (hs : n ≤ r.size) :
  Calls Tryz.prog 56 #[.pointer (some ⟨b, 0, none⟩), .int .i64 n] w (Post b w (.string (rawOut r n)) (rawRest r n) (rawErr r e n)) := by
 have e1 : rawOut r n = r.extract 0 n.toNat := by unfold rawOut; rw [if_neg (by omega), if_neg (by omega)]
 have e2 : rawRest r n = r.extract n.toNat r.size := by unfold rawRest; rw [if_neg (by omega), if_neg (by omega)]
 have e3 : rawErr r e n = e := by unfold rawErr; rw [if_neg (by omega)]
 rw [e1, e2, e3]
 have H := hid h
 have c0 := h.c0
 have fr := h.fr
 clear h e1 e2 e3
 go_enter Tryz.func56, Tryz.ntmps56
 go_wp2_with fail
 go_ret
 exact ⟨rfl, H.out.rest _, only_setCell (World.grownBy.refl _ _) rfl _⟩

theorem iraw_any (b : Nat) (r : ByteArray) (e n : Int) (w : World) (h : InAt b r e w) (hinv : e ≠ 0 → r = ByteArray.empty) :
  Calls Tryz.prog 56 #[.pointer (some ⟨b, 0, none⟩), .int .i64 n] w (Post b w (.string (rawOut r n)) (rawRest r n) (rawErr r e n)) := by
 by_cases hn : n ≤ 0
 ·exact iraw_low b r e n w h hn
 ·by_cases hs : (r.size : Int) < n
  ·exact iraw_short b r e n w h (by omega) hs hinv
  ·exact iraw_ok b r e n w h (by omega) (by omega)

set_option maxHeartbeats 400000 in
theorem new_any (s : ByteArray) (w : World) :
  Calls Tryz.prog 25 #[.string s] w fun x w' => x = .returned (.pointer (some ⟨w.heap.size, 0, none⟩)) ∧ w.alloc (.cells #[.string s, .int .i64 0] 107) = w' := by
 go_enter Tryz.func25, Tryz.ntmps25
 go_wp2_with fail
 go_ret
 exact ⟨rfl, rfl⟩

theorem rawOut_size (r : ByteArray) (k : Nat) : (rawOut r (k : Int)).size ≤ k := by
 unfold rawOut
 split
 ·simp
 ·split
  ·simp
  ·rw [ByteArray.size_extract]; omega
theorem take_snoc (s : ByteArray) (k : Nat) (h : k < s.size) : s.data.toList.take (k + 1) = s.data.toList.take k ++ [s[k]] := by
 rw [List.take_succ_eq_append_getElem (by simpa using h)]; rfl
theorem val_step (s : ByteArray) (k : Nat) (h : k < s.size) : Oct.val (s.data.toList.take (k + 1)) = Oct.val (s.data.toList.take k) * 256 + s[k].toNat := by
 rw [take_snoc s k h, Oct.val_snoc]
theorem or_step (X Y : Nat) (hX : X < 256 ^ 7) (hY : Y < 2 ^ 8) : bits .or .u64 (IntKind.u64.wrap ((X : Int) * 256)) (Y : Int) = ((X * 256 + Y : Nat) : Int) := by
 have h7 : X < 72057594037927936 := hX
 have h8 : Y < 256 := hY
 have e : IntKind.u64.wrap ((X : Int) * 256) = ((X * 256 : Nat) : Int) := by rw [IntKind.wrap_u64]; omega
 rw [e, u64_or_nat _ _ (by omega) (by omega), nat_join 8 _ _ (by simp) hY]
def numVal (s : ByteArray) : Nat := Oct.val s.data.toList
set_option maxHeartbeats 1000000 in
theorem inum_any (b : Nat) (r : ByteArray) (e n : Int) (w : World) (h : InAt b r e w) (hinv : e ≠ 0 → r = ByteArray.empty) :
  Calls Tryz.prog 26 #[.pointer (some ⟨b, 0, none⟩), .int .i64 n] w (Post b w (.int .u64 ((numVal (rawOut r (Oct.width n)) : Nat) : Int)) (rawRest r (Oct.width n)) (rawErr r e (Oct.width n))) := by
 have hw := width_any n
 have hr := iraw_any b r e (Oct.width n) w h hinv
 have h8 := Oct.width_le n
 generalize Oct.width n = k at *
 have h1s := rawOut_size r k
 generalize rawOut r (k : Int) = s at *
 have HW := hid hw
 have HR := hid hr
 clear hw hr h hinv
 have hc9 := fun W : World => run_bytes_of_string (P := Tryz.prog) W 9 62 5 s Tryz.underlying9 Tryz.underlying62 Tryz.underlying5
 go_enter Tryz.func26, Tryz.ntmps26
 go_wp2_with (first | (go_at_call 45; refine (HW.out _).mono ?_; rintro x w' ⟨rfl, rfl⟩) | (go_at_call 56; refine HR.out.mono ?_; rintro x w1 ⟨rfl, h1, h2⟩; have hl1 := h1.lt; have H1 := hid h1; have H2 := hid h2; clear h1 h2))
 go_loopw [5, 14] (fun x i wr => ∃ j : Nat, j ≤ s.size ∧ i = .int .i64 j ∧ x = .int .u64 ((Oct.val (s.data.toList.take j) : Nat) : Int) ∧ wr = (w1.alloc (.cells (bytesRow s (grownCap w1 s.size 0 5)) 5 ((bytesRow s (grownCap w1 s.size 0 5)).size, (bytesRow s (grownCap w1 s.size 0 5)).size + 1))).drew) (fun _ i _ => s.size - (intOf i).toNat)
 case atStart => exact ⟨0, by omega, rfl, rfl, rfl⟩
 case round =>
  obtain ⟨j, hj, rfl, rfl, rfl⟩ := hrel
  clear hc9
  by_cases hlt : j < s.size
  ·have hjd : j < s.data.size := hlt
   have hcell : (w1.alloc (.cells (bytesRow s (grownCap w1 s.size 0 5)) 5 ((bytesRow s (grownCap w1 s.size 0 5)).size, (bytesRow s (grownCap w1 s.size 0 5)).size + 1))).cell? ⟨w1.heap.size, j, none⟩ = some (.int .u8 (s[j].toNat : Int)) := (World.cell?_alloc_mark _ _ _ _ _).trans (bytesRow_at s _ j hjd)
   have hl := s[j].toNat_lt
   have hs := take_snoc s j hlt
   have hv := val_step s j hlt
   have HV := hid hv
   clear hv hs
   have hX := Oct.val_lt (s.data.toList.take j)
   generalize s[j].toNat = Y at *
   generalize Oct.val (s.data.toList.take j) = X at *
   have HOR := hid (or_step X Y (by
    refine Nat.lt_of_lt_of_le hX ?_
    have hlen : (s.data.toList.take j).length ≤ 7 := by simp; omega
    exact Nat.pow_le_pow_right (n := 256) (by decide) hlen) hl)
   clear hX
   go_wp2
   go_roundw
   case rel => exact ⟨j + 1, by omega, by go_num, by rw [HV.out, HOR.out], trivial⟩
   case measure => simp [intOf]; omega
  ·obtain rfl : j = s.size := by omega
   have HX := hid (show Oct.val (s.data.toList.take s.size) = numVal s by unfold numVal; rw [List.take_of_length_le (by simp)])
   generalize Oct.val (s.data.toList.take s.size) = X at *
   go_wp2
   go_ret
   exact ⟨ret_int (by rw [HX.out]), (H1.out.alloc _).drew, only_drew (only_alloc H2.out _)⟩
theorem ex1 : (ByteArray.mk #[]) ++ ByteArray.mk (Oct.be (Oct.width 2) 258).toArray = ByteArray.mk #[1, 2] := by decide
theorem ex2 : (ByteArray.mk #[]) ++ textB (ByteArray.mk #[97, 98]) = ByteArray.mk #[0, 2, 97, 98] := by decide
theorem ex3 : numVal (rawOut (ByteArray.mk #[1, 2]) (Oct.width 2)) = 258 := by decide

set_option maxHeartbeats 1000000 in
theorem octAwake_any (w : World) : Calls Tryz.prog 139 #[] w fun x w' => x = .returned (.bool true) ∧ Below w.heap.size w w' := by
 have h1 : ∀ W, Calls Tryz.prog 19 #[.agg #[.string ⟨#[]⟩, .int .i64 0], .int .u64 258, .int .i64 2] W fun x w' => x = .returned (.agg #[.string ⟨#[1, 2]⟩, .int .i64 0]) ∧ Below W.heap.size W w' := fun W => by
  have := num_any ⟨#[]⟩ 0 258 2 W (by omega) (by decide)
  rw [ex1] at this
  exact this
 have h2 : ∀ W, Calls Tryz.prog 35 #[.agg #[.string ⟨#[]⟩, .int .i64 0], .string ⟨#[97, 98]⟩] W fun x w' => x = .returned (.agg #[.string ⟨#[0, 2, 97, 98]⟩, .int .i64 0]) ∧ Below W.heap.size W w' := fun W => by
  have := text_any ⟨#[]⟩ ⟨#[97, 98]⟩ 0 W (by decide) (by decide)
  rw [ex2] at this
  exact this
 have h3 : ∀ b W, InAt b ⟨#[1, 2]⟩ 0 W → Calls Tryz.prog 26 #[.pointer (some ⟨b, 0, none⟩), .int .i64 2] W fun x w' => x = .returned (.int .u64 258) ∧ W.grownBy w' (some b) := fun b W hW => by
  have := inum_any b ⟨#[1, 2]⟩ 0 2 W hW (fun h => absurd rfl h)
  rw [ex3] at this
  exact this.mono fun _ _ h => ⟨h.1, h.2.2⟩
 have H1 := hid h1
 have H2 := hid h2
 have H3 := hid h3
 clear h1 h2 h3
 go_enter Tryz.func139, Tryz.ntmps139
 go_wp2_with fail
 refine (H1.out _).mono ?_
 rintro x w1 ⟨rfl, b1⟩
 have B1 := hid b1
 clear b1
 go_wp2_with fail
 refine (str_any _ _ _).mono ?_
 rintro x w2 ⟨rfl, b2⟩
 have B2 := hid (Below.trans B1.out (b2.mono B1.out.size))
 clear b2
 go_wp2_with fail
 refine (H2.out _).mono ?_
 rintro x w3 ⟨rfl, b3⟩
 have B3 := hid (Below.trans B2.out (b3.mono B2.out.size))
 clear b3
 go_wp2_with fail
 refine (str_any _ _ _).mono ?_
 rintro x w4 ⟨rfl, b4⟩
 have B4 := hid (Below.trans B3.out (b4.mono B3.out.size))
 clear b4
 go_wp2_with fail
 refine (new_any _ _).mono ?_
 rintro x w5 ⟨rfl, rfl⟩
 go_wp2_with fail
 refine (H3.out _ _ ⟨cell_new _ _ _ _ _ rfl, cell_new _ _ _ _ _ rfl, fun j => free_new _ _ _ _ _ rfl, by simp⟩).mono ?_
 rintro x w6 ⟨rfl, g6⟩
 have hs4 := B4.out.size
 have B6 := hid ((B4.out.alloc hs4 _).grown g6 (by simp; omega) (fun k hk => by injection hk with hk; omega))
 clear g6
 go_wp2_with fail
 go_ret
 exact ⟨rfl, B6.out⟩
end Go.Proofs.YtaikigponkjkgaaGreatDoor
end
