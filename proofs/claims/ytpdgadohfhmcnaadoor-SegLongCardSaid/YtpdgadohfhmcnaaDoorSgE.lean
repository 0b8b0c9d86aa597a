/-
  ALL RECORDS AT THE FRONT of bytes: the program's Scan; two rows of texts held against each other; noughts.
-/
import Derived.Test.YtpdgadohfhmcnaaDoorSgC
import Derived.Test.YtpdgadohfhmcnaaDoorSgD
namespace Go.Proofs.YtpdgadohfhmcnaaDoor
open Go.ChangeShapes Go.WideShapes Go.ChangeAt Go.RowKit

def tcs (l : List (List UInt8)) : List Value := l.map fun r => .string (ofL r)
theorem infoTx : (Tryd.prog.info? 9).map (fun i => (i.zero, i.size, i.bytes)) = some (some (.string ⟨#[]⟩), 1, 16) := by kernel_rfl
theorem sts_of_cells {w : World} {A : Option Addr} {l : List (List UInt8)} (h : 0 < l.length → ∃ g, A = some ⟨g, 0, none⟩ ∧ g < w.heap.size ∧ ∀ j, j < l.length * 1 → w.cell? ⟨g, j, none⟩ = (tcs l)[j]?) : Sts w A l := ⟨fun i hi => by
  obtain ⟨g, rfl, hg, hc⟩ := h (by omega)
  refine ⟨g, 0, rfl, hg, ?_⟩
  rw [Nat.zero_add, hc i (by omega)]
  simp [tcs, List.getD_eq_getElem?_getD, hi]⟩
def ScSt (w : World) (l : List UInt8) (g : Nat) (v i : Value) (wr : World) : Prop :=
  ∃ (u : Nat) (rs : List (List UInt8)), u + g = l.length ∧ i = .int .i64 (u : Int) ∧ Sg.all l = (rs ++ (Sg.all (l.drop u)).1, u + (Sg.all (l.drop u)).2) ∧ rs.length ≤ u ∧ wr.ownsRow w.heap.size 9 1 v rs.length (tcs rs) ∧ Below w.heap.size w wr
set_option maxRecDepth 100000 in
set_option maxHeartbeats 4000000 in
theorem sgScan_any (l : List UInt8) (w : World) (hl : l.length ≤ 1000000) (hT : Tab w) :
    Calls Tryd.prog 14 #[.string (ofL l)] w fun e w' => (∃ A c, e = .returned (.tuple #[.slice A (Sg.all l).1.length c, .int .i64 ((Sg.all l).2 : Int)]) ∧ Sts w' A (Sg.all l).1) ∧ Below w.heap.size w w' := by
  have hz : (ofL l).size = l.length := ofL_size l
  have HT := Lib.hid hT
  clear hT
  obtain ⟨i1, hi1, hz0, hz1, hz2⟩ := info_parts infoTx
  go_enter Tryd.func14, Tryd.ntmps14
  go_wp2_with fail
  go_loopg [4, 5] l.length (fun g v i wr => ScSt w l g v i wr)
  case atStart => exact ⟨0, [], by omega, rfl, by simp, by simp, World.ownsRow_nil _ _ _ _, Below.refl _ _⟩
  case round =>
    obtain ⟨u, rs, hu, rfl, hall, hru, hO, hb⟩ := hrel
    obtain ⟨A, cp, rfl, hcp, -, hcell⟩ := Rw.own_cells hO
    have HU := Lib.hid hu
    have HO := Lib.hid hO
    have HB := Lib.hid hb
    have HRU := Lib.hid hru
    have HCE := Lib.hid hcell
    have hul : u ≤ l.length := by omega
    have hsl := fun W => slice_from_l (P := Tryd.prog) Tryd.underlying9 l .i64 (u : Int) u rfl hul W
    have HN := Lib.hid (fun W h => sgNext_any (l.drop u) W (by rw [List.length_drop]; omega) h)
    clear hO hb hcell hu
    by_cases h0 : Sg.code (l.drop u) = 0
    · have hlg := Sg.code_long h0
      rw [List.length_drop] at hlg
      have hv : snextV (l.drop u) = .tuple #[.string (ofL (Sg.rc (l.drop u))), .int .i64 ((Sg.len4 (l.drop u) + 9 : Nat) : Int), .int .i64 0] := if_pos h0
      rw [hv] at HN
      rw [Sg.all_ok h0, List.drop_drop] at hall
      generalize Sg.rc (l.drop u) = x at *
      generalize Sg.len4 (l.drop u) = m at *
      have HA := Lib.hid (show Sg.all l = ((rs ++ [x]) ++ (Sg.all (l.drop (u + (m + 9)))).1, u + (m + 9) + (Sg.all (l.drop (u + (m + 9)))).2) by rw [hall]; simp only [List.append_assoc, List.singleton_append, Prod.mk.injEq, true_and]; omega)
      have HLG := Lib.hid hlg
      have HTC := Lib.hid (show tcs (rs ++ [x]) = tcs rs ++ [.string (ofL x)] by simp [tcs])
      have hrl : rs.length + 1 ≤ 1000000 := by omega
      clear hall h0 hv
      go_wp2_with fail
      refine (HN.out _ (HT.out.below HB.out HT.out.pos)).mono ?_
      rintro y w1 ⟨rfl, b1⟩
      have HO1 := Lib.hid (Rw.own_on HO.out b1)
      have HB1 := Lib.hid (bthen HB.out b1 (Nat.le_refl _))
      have HB2 := Lib.hid (HB1.out.alloc HB1.out.size (.cells #[.string (ofL x)] 9))
      clear b1
      go_wp2_with (first
        | (at_builtin; refine wpList_append_lies _ rfl _ _ 22 rfl w.heap.size 9 i1 _ 1 16 Tryd.underlying22 hi1 hz0 hz1 hz2 rfl (by omega) (.slice A rs.length cp) rs.length (tcs rs) (by rfl) (HO1.out.alloc _) ⟨w1.heap.size, 0, none⟩ 1 1 [.string (ofL x)] (by rfl) (by rfl) (World.news_of_block (heap_alloc_new w1 _)) (by simp [Value.oneCell']) (by omega) (by unfold maxLen; omega) (by omega) HB2.out.size _ rfl ?_; intro gg cap w2 hown1 hgrow hat hlt'; have HW := Lib.hid hown1; have HG := Lib.hid hgrow; clear hown1 hgrow hat hlt'))
      have HB3 := Lib.hid (HB2.out.grown HG.out HB2.out.size (fun q hq => (HO1.out.lt q hq).1))
      go_roundg (gk - (m + 9))
      case rel => exact ⟨u + (m + 9), rs ++ [x], by have := HU.out; have := HLG.out; omega, by have h1 := HLG.out; have h2 := HU.out; go_num, HA.out, by have := HRU.out; simp; omega, by rw [HTC.out, List.length_append]; exact HW.out, HB3.out⟩
      case measure => have := HU.out; have := HLG.out; omega
    · have hv : snextV (l.drop u) = .tuple #[.string ⟨#[]⟩, .int .i64 0, .int .i64 (Sg.code (l.drop u) : Int)] := if_neg h0
      rw [hv] at HN
      rw [Sg.all_no h0, List.append_nil, Nat.add_zero] at hall
      have hbn : ((Sg.code (l.drop u) : Int) != 0) = true := by simpa using h0
      have HA := Lib.hid hall
      generalize Sg.code (l.drop u) = cd at *
      clear hall h0 hv
      go_wp2_with fail
      refine (HN.out _ (HT.out.below HB.out HT.out.pos)).mono ?_
      rintro y w1 ⟨rfl, b1⟩
      have HO1 := Lib.hid (Rw.own_on HO.out b1)
      have HB1 := Lib.hid (bthen HB.out b1 (Nat.le_refl _))
      clear b1
      go_wp2_with fail
      go_ret2
      refine ⟨?_, HB1.out⟩
      rw [HA.out]
      obtain ⟨A', c', e', -, -, hc'⟩ := Rw.own_cells HO1.out
      obtain ⟨rfl, -, rfl⟩ := Value.slice.inj e'
      exact ⟨A, cp, rfl, sts_of_cells hc'⟩
end Go.Proofs.YtpdgadohfhmcnaaDoor
