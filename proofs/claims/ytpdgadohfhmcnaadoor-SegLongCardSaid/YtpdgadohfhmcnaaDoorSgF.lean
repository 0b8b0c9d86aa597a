/-
  RECORDS: two rows of texts that are the same; few short texts; how many bytes; noughts; the examples of the sum.
-/
import Derived.Test.YtpdgadohfhmcnaaDoorSgE
import Derived.Lib.SlBytesRow
import Derived.Lib.BufferRead
namespace Go.Proofs.YtpdgadohfhmcnaaDoor
open Go.ChangeShapes Go.WideShapes Go.ChangeAt Go.RowKit

def SmSt (w : World) (n g : Nat) (i : Value) (wr : World) : Prop := ∃ k : Nat, k + g = n ∧ i = .int .i64 (k : Int) ∧ Below w.heap.size w wr
set_option maxHeartbeats 2000000 in
theorem r16Same_any (A B : Option Addr) (ca cb : Nat) (l : List (List UInt8)) (w : World) (hl : l.length ≤ 9223372036854775807) (hA : Sts w A l) (hB : Sts w B l) :
    Calls Tryd.prog 15 #[.slice A l.length ca, .slice B l.length cb] w fun e w' => e = .returned (.bool true) ∧ Below w.heap.size w w' := by
  have HA := Lib.hid hA
  have HB := Lib.hid hB
  clear hA hB
  go_enter Tryd.func15, Tryd.ntmps15
  go_wp2_with fail
  go_loopg [13] l.length (fun g i wr => SmSt w l.length g i wr)
  case atStart => exact ⟨0, by omega, rfl, Below.refl _ _⟩
  case round =>
    obtain ⟨k, hk, rfl, hbw⟩ := hrel
    have HW := Lib.hid hbw
    have HK := Lib.hid hk
    clear hk hbw
    by_cases hlt : k < l.length
    · obtain ⟨b, off, rfl, hb, hc⟩ := HA.out.at_ k hlt
      obtain ⟨b2, off2, rfl, hb2, hc2⟩ := HB.out.at_ k hlt
      have k1 := (HW.out.cell (p := ⟨b, off + k, none⟩) hb).trans hc
      have k2 := (HW.out.cell (p := ⟨b2, off2 + k, none⟩) hb2).trans hc2
      clear hc hc2
      generalize l.getD k [] = x at *
      go_wp2_with fail
      go_region_with fail
      all_goals
        go_wp2_with fail
        go_roundg (gk - 1)
        case rel => exact ⟨k + 1, by have := HK.out; omega, by go_num, HW.out.drew⟩
        case measure => have := HK.out; omega
    · go_wp2_with fail
      go_ret
      exact ⟨rfl, HW.out⟩
def Lt16 (l : List (List UInt8)) : Prop := l.length ≤ 12 ∧ ∀ i, i < l.length → (l.getD i []).length ≤ 400
def LtSt (w : World) (l : List (List UInt8)) (g : Nat) (i : Value) (wr : World) : Prop :=
  ∃ k : Nat, k + g = l.length ∧ i = .int .i64 (k : Int) ∧ (∀ j, j < k → (l.getD j []).length ≤ 400) ∧ w = wr
def LtPost (l : List (List UInt8)) (w : World) (e : Ending) (w' : World) : Prop := (e = .returned (.bool true) ∧ Lt16 l ∨ e = .returned (.bool false)) ∧ w = w'
set_option maxHeartbeats 2000000 in
theorem light16_any (A : Option Addr) (ca : Nat) (l : List (List UInt8)) (w : World) (hl : l.length ≤ 9223372036854775807) (hA : Sts w A l) :
    Calls Tryd.prog 9 #[.slice A l.length ca] w (LtPost l w) := by
  have HA := Lib.hid hA
  clear hA
  go_enter Tryd.func9, Tryd.ntmps9
  go_wp2_with fail
  go_loopg [7] l.length (fun g i wr => LtSt w l g i wr)
  case atStart => exact ⟨0, by omega, rfl, fun j hj => absurd hj (by omega), rfl⟩
  case round =>
    obtain ⟨k, hk, rfl, hall, rfl⟩ := hrel
    have HK := Lib.hid hk
    have HALL := Lib.hid hall
    clear hk hall
    by_cases hlt : k < l.length
    · obtain ⟨b, off, rfl, hb, hc⟩ := HA.out.at_ k hlt
      have hz : (ofL (l.getD k [])).size = (l.getD k []).length := ofL_size _
      by_cases h5 : 400 < (l.getD k []).length
      · generalize l.getD k [] = x at *
        go_wp2_with fail
        go_ret
        exact ⟨Or.inr rfl, rfl⟩
      · have HN := Lib.hid (show ∀ j, j < k + 1 → (l.getD j []).length ≤ 400 from fun j hj => by
          by_cases e : j = k
          · rw [e]; omega
          · exact HALL.out j (by omega))
        generalize l.getD k [] = x at *
        go_wp2_with fail
        go_roundg (gk - 1)
        case rel => exact ⟨k + 1, by have := HK.out; omega, by go_num, HN.out, rfl⟩
        case measure => have := HK.out; omega
    · have HF := Lib.hid (show l.length ≤ 12 → Lt16 l from fun h => ⟨h, fun i hi => HALL.out i (by have := HK.out; omega)⟩)
      by_cases h12 : l.length ≤ 12
      · go_wp2_with fail
        go_ret
        exact ⟨Or.inl ⟨by simp; omega, HF.out h12⟩, rfl⟩
      · go_wp2_with fail
        go_ret
        exact ⟨Or.inr (by simp; omega), rfl⟩
theorem infoU : (Tryd.prog.info? 5).map (fun i => (i.zero, i.size, i.bytes)) = some (some (.int .u8 0), 1, 1) := by kernel_rfl
theorem sg_text {w : World} {g : Nat} {s : List UInt8} (h : w.heap[g]? = some (.cells (Lib.byteCells s).toArray 5)) {n : Nat} (hn : s.length = n) (c : Nat) :
    (convert 43 9 (.slice (some ⟨g, 0, none⟩) n c)).run Tryd.prog w = .ok (.string (ofL s)) w := by
  have hby : Lib.Bytes w g 0 (ofL s) := by
    intro i hi
    rw [Nat.zero_add, Lib.cell_of_heap h, ofL_get]
    have hi' : i < s.length := by rw [← ofL_size s]; exact hi
    simp [Lib.byteCells, List.getD_eq_getElem?_getD, hi']
  have := Lib.run_convert_whole (P := Tryd.prog) w 43 5 9 Tryd.underlying43 Tryd.underlying5 Tryd.underlying9 g 0 (ofL s) hby c
  rw [ofL_size, hn] at this
  exact this
theorem sgNoughts_any (n : Nat) (w : World) (hn : n ≤ 1000000) :
    Calls Tryd.prog 19 #[.int .i64 (n : Int)] w fun e w' => e = .returned (.string (ofL (List.replicate n 0))) ∧ Below w.heap.size w w' := by
  obtain ⟨i1, hi1, hz0, hz1, hz2⟩ := info_parts infoU
  have hmk := run_make (P := Tryd.prog) w 43 5 i1 _ Tryd.underlying43 hi1 hz0 .i64 .i64 (n : Int) (n : Int) (by omega) (Int.le_refl _) (by rw [hz2]; omega) (by omega)
  have e : (madeCells (Value.int .u8 0).cells (n * 1)) = (Lib.byteCells (List.replicate n 0)).toArray := by
    apply Array.toList_inj.1
    rw [show (Value.int .u8 0).cells = #[Value.int .u8 0] from rfl, toList_madeCells_one, Nat.mul_one]
    simp [Lib.byteCells]
  rw [hz1, Int.toNat_natCast, e] at hmk
  have hR := heap_alloc_new w (.cells (Lib.byteCells (List.replicate n 0)).toArray 5)
  have htx := sg_text hR (n := n) (by simp) n
  have HB := Lib.hid ((Below.refl w.heap.size w).alloc (Nat.le_refl _) (.cells (Lib.byteCells (List.replicate n 0)).toArray 5))
  clear hR e hz0 hz1 hz2 hi1
  generalize List.replicate n (0 : UInt8) = z at *
  go_enter Tryd.func19, Tryd.ntmps19
  go_wp2_with fail
  go_ret
  exact ⟨rfl, HB.out⟩
theorem sgLaw2_any (w : World) (hT : Tab w) : Calls Tryd.prog 20 #[] w fun e w' => e = .returned (.bool true) ∧ Below w.heap.size w w' := by
  have H := Lib.hid (crcAwake_any w hT)
  clear hT
  go_enter Tryd.func20, Tryd.ntmps20
  go_wp2_with fail
  refine H.out.mono ?_
  rintro e w1 ⟨rfl, hb⟩
  go_wp2_with fail
  go_ret
  exact ⟨rfl, hb⟩
end Go.Proofs.YtpdgadohfhmcnaaDoor
