/-
  THE LAW SegJoins: of two rows of records, one behind the other, all are told; behind noughts none.
-/
import Derived.Test.YtpdgadohfhmcnaaDoorSgH
namespace Go.Proofs.YtpdgadohfhmcnaaDoor
open Go.ChangeShapes Go.WideShapes Go.ChangeAt Go.RowKit

set_option maxRecDepth 100000 in
set_option maxHeartbeats 4000000 in
/-- as sgScan_any, with the room -/
theorem sgScanC_any (l : List UInt8) (w : World) (hl : l.length ≤ 1000000) (hT : Tab w) :
    Calls Tryd.prog 14 #[.string (ofL l)] w fun e w' => (∃ A c, e = .returned (.tuple #[.slice A (Sg.all l).1.length c, .int .i64 ((Sg.all l).2 : Int)]) ∧ Sts w' A (Sg.all l).1 ∧ (Sg.all l).1.length ≤ c) ∧ Below w.heap.size w w' := by
  have hz : (ofL l).size = l.length := ofL_size l
  have HT := Lib.hid hT
  clear hT
  obtain ⟨i1, hi1, hz0, hz1, hz2⟩ := info_parts infoTx
  go_enter Tryd.func14, Tryd.ntmps14
  go_wp2_with fail
  go_loopg [4, 5] l.length (fun g v i wr => ScSt w l g v i wr)
  case atStart => exact ⟨0, [], by omega, rfl, by simp, by simp, World.ownsRow_nil _ _ _ _, Below.refl _ _⟩
  case round =>
    obtain ⟨u, rs, hu, rfl, hall, hru, hO, hb⟩ := hrel
    obtain ⟨A, cp, rfl, hcp, -, hcell⟩ := Rw.own_cells hO
    have HU := Lib.hid hu
    have HO := Lib.hid hO
    have HB := Lib.hid hb
    have HRU := Lib.hid hru
    have HCE := Lib.hid hcell
    have hul : u ≤ l.length := by omega
    have hsl := fun W => slice_from_l (P := Tryd.prog) Tryd.underlying9 l .i64 (u : Int) u rfl hul W
    have HN := Lib.hid (fun W h => sgNext_any (l.drop u) W (by rw [List.length_drop]; omega) h)
    clear hO hb hcell hu
    by_cases h0 : Sg.code (l.drop u) = 0
    · have hlg := Sg.code_long h0
      rw [List.length_drop] at hlg
      have hv : snextV (l.drop u) = .tuple #[.string (ofL (Sg.rc (l.drop u))), .int .i64 ((Sg.len4 (l.drop u) + 9 : Nat) : Int), .int .i64 0] := if_pos h0
      rw [hv] at HN
      rw [Sg.all_ok h0, List.drop_drop] at hall
      generalize Sg.rc (l.drop u) = x at *
      generalize Sg.len4 (l.drop u) = m at *
      have HA := Lib.hid (show Sg.all l = ((rs ++ [x]) ++ (Sg.all (l.drop (u + (m + 9)))).1, u + (m + 9) + (Sg.all (l.drop (u + (m + 9)))).2) by rw [hall]; simp only [List.append_assoc, List.singleton_append, Prod.mk.injEq, true_and]; omega)
      have HLG := Lib.hid hlg
      have HTC := Lib.hid (show tcs (rs ++ [x]) = tcs rs ++ [.string (ofL x)] by simp [tcs])
      have hrl : rs.length + 1 ≤ 1000000 := by omega
      clear hall h0 hv
      go_wp2_with fail
      refine (HN.out _ (HT.out.below HB.out HT.out.pos)).mono ?_
      rintro y w1 ⟨rfl, b1⟩
      have HO1 := Lib.hid (Rw.own_on HO.out b1)
      have HB1 := Lib.hid (bthen HB.out b1 (Nat.le_refl _))
      have HB2 := Lib.hid (HB1.out.alloc HB1.out.size (.cells #[.string (ofL x)] 9))
      clear b1
      go_wp2_with (first
        | (at_builtin; refine wpList_append_lies _ rfl _ _ 22 rfl w.heap.size 9 i1 _ 1 16 Tryd.underlying22 hi1 hz0 hz1 hz2 rfl (by omega) (.slice A rs.length cp) rs.length (tcs rs) (by rfl) (HO1.out.alloc _) ⟨w1.heap.size, 0, none⟩ 1 1 [.string (ofL x)] (by rfl) (by rfl) (World.news_of_block (heap_alloc_new w1 _)) (by simp [Value.oneCell']) (by omega) (by unfold maxLen; omega) (by omega) HB2.out.size _ rfl ?_; intro gg cap w2 hown1 hgrow hat hlt'; have HW := Lib.hid hown1; have HG := Lib.hid hgrow; clear hown1 hgrow hat hlt'))
      have HB3 := Lib.hid (HB2.out.grown HG.out HB2.out.size (fun q hq => (HO1.out.lt q hq).1))
      go_roundg (gk - (m + 9))
      case rel => exact ⟨u + (m + 9), rs ++ [x], by have := HU.out; have := HLG.out; omega, by have h1 := HLG.out; have h2 := HU.out; go_num, HA.out, by have := HRU.out; simp; omega, by rw [HTC.out, List.length_append]; exact HW.out, HB3.out⟩
      case measure => have := HU.out; have := HLG.out; omega
    · have hv : snextV (l.drop u) = .tuple #[.string ⟨#[]⟩, .int .i64 0, .int .i64 (Sg.code (l.drop u) : Int)] := if_neg h0
      rw [hv] at HN
      rw [Sg.all_no h0, List.append_nil, Nat.add_zero] at hall
      have hbn : ((Sg.code (l.drop u) : Int) != 0) = true := by simpa using h0
      have HA := Lib.hid hall
      generalize Sg.code (l.drop u) = cd at *
      clear hall h0 hv
      go_wp2_with fail
      refine (HN.out _ (HT.out.below HB.out HT.out.pos)).mono ?_
      rintro y w1 ⟨rfl, b1⟩
      have HO1 := Lib.hid (Rw.own_on HO.out b1)
      have HB1 := Lib.hid (bthen HB.out b1 (Nat.le_refl _))
      clear b1
      go_wp2_with fail
      go_ret2
      refine ⟨?_, HB1.out⟩
      rw [HA.out]
      obtain ⟨A', c', e', -, -, hc'⟩ := Rw.own_cells HO1.out
      obtain ⟨rfl, -, rfl⟩ := Value.slice.inj e'
      exact ⟨A, cp, rfl, sts_of_cells hc', hcp⟩
def dropA (A : Option Addr) (ca k : Nat) : Option Addr := if ca = k then A else A.map (·.add k)
theorem strs_drop (A : Option Addr) (n m ca k : Nat) (hk : n = k + m) (W : World) : (Instr.slice 22 (.slice A n ca) (some (.int .i64 (k : Int))) none none).run Tryd.prog W = .ok (.slice (dropA A ca k) m (ca - k)) W := by
  obtain ⟨i1, hi1, -, -, -⟩ := info_parts infoTx
  have he : Tryd.prog.elem 22 = 9 := by simp [Program.elem, Tryd.underlying22]
  have hcs : Tryd.prog.cellsOf 9 = 1 := by kernel_rfl
  rw [run_slice_l (w := W) 22 A n ca (by rw [he]; exact Tryd.underlying22) .i64 (k : Int) (by omega) (by omega), he, run_sizeOf _ hi1, hcs]
  subst hk
  simp [Result.andThen, sliced, dropA]
theorem Sts.drop {w : World} {A : Option Addr} {l m : List (List UInt8)} {c : Nat} (h : Sts w A (l ++ m)) (hc : (l ++ m).length ≤ c) : Sts w (dropA A c l.length) m := ⟨fun i hi => by
  rw [List.length_append] at hc
  obtain ⟨b, off, rfl, hb, hx⟩ := h.at_ (l.length + i) (by rw [List.length_append]; omega)
  refine ⟨b, off + l.length, ?_, hb, ?_⟩
  · unfold dropA
    rw [if_neg (by omega)]
    show some (Addr.add ⟨b, off, none⟩ l.length) = _
    unfold Addr.add
    split
    · rename_i h0
      have : l.length = 0 := by simpa using h0
      rw [this]; rfl
    · rfl
  · rw [show off + l.length + i = off + (l.length + i) by omega, hx]
    rw [show (l ++ m).getD (l.length + i) [] = m.getD i [] by rw [List.getD_eq_getElem?_getD, List.getD_eq_getElem?_getD, List.getElem?_append_right (by omega), Nat.add_sub_cancel_left]]⟩
theorem Sts.front {w : World} {A : Option Addr} {l m : List (List UInt8)} (h : Sts w A (l ++ m)) : Sts w A l := by
  have := h.take l.length
  rwa [List.take_left' rfl] at this
theorem all_two {l m : List (List UInt8)} (hl : ∀ r ∈ l, Sg.Good r) (hm : ∀ r ∈ m, Sg.Good r) : Sg.all (Sg.encs l ++ Sg.encs m) = (l ++ m, (Sg.encs l).length + (Sg.encs m).length) := by
  have h := Sg.all_encs m [] hm
  rw [List.append_nil, show Sg.all [] = ([], 0) from rfl] at h
  rw [Sg.all_encs l _ hl, h]
  simp
theorem lt16_all {l : List (List UInt8)} (h : Lt16 l) : ∀ r ∈ l, r.length ≤ 400 := fun r hr => by
  obtain ⟨i, hi, rfl⟩ := List.getElem_of_mem hr
  have := h.2 i hi
  rwa [List.getD_eq_getElem?_getD, List.getElem?_eq_getElem hi] at this
theorem lt16_encs {l : List (List UInt8)} (h : Lt16 l) : (Sg.encs l).length ≤ 12 * 409 := Nat.le_trans (encs_le (lt16_all h)) (Nat.mul_le_mul_right _ h.1)
theorem sbytesV_no {l : List (List UInt8)} (h : bcode l ≠ 0) : sbytesV l = .tuple #[.string ⟨#[]⟩, .int .i64 (bcode l : Int)] := if_neg h
theorem sbytesV_ok {l : List (List UInt8)} (h : bcode l = 0) : sbytesV l = .tuple #[.string (ofL (Sg.encs l)), .int .i64 0] := if_pos h
set_option maxRecDepth 100000 in
set_option maxHeartbeats 8000000 in
theorem segJoins_walk (A B : Option Addr) (ca cb : Nat) (l m : List (List UInt8)) (w : World) (hla : l.length ≤ ca) (hca : ca ≤ 9223372036854775807) (hmb : m.length ≤ cb) (hcb : cb ≤ 9223372036854775807) (hA : Sts w A l) (hB : Sts w B m) (hT : Tab w) :
    Calls Tryd.prog 7 #[.slice A l.length ca, .slice B m.length cb] w (FaPost w) := by
  have HAW := Lib.hid (fun W h => awake16_any W h)
  have HLA := Lib.hid (fun W h => light16_any A ca l W (by omega) h)
  have HLB := Lib.hid (fun W h => light16_any B cb m W (by omega) h)
  have HA := Lib.hid hA
  have HB := Lib.hid hB
  have HT := Lib.hid hT
  clear hA hB hT
  go_enter Tryd.func7, Tryd.ntmps7
  go_wp2_with fail
  refine (HAW.out _ HT.out).mono ?_
  rintro x w1 ⟨rfl, b1⟩
  have B1 := Lib.hid b1
  clear b1
  go_wp2_with fail
  refine (HLA.out _ (HA.out.on B1.out)).mono ?_
  rintro x w2 ⟨h2, rfl⟩
  rcases h2 with ⟨rfl, hfa⟩ | rfl
  · have HFA := Lib.hid hfa
    clear hfa
    go_wp2_with fail
    refine (HLB.out _ (HB.out.on B1.out)).mono ?_
    rintro x w2 ⟨h2, rfl⟩
    rcases h2 with ⟨rfl, hfb⟩ | rfl
    · have HFB := Lib.hid hfb
      clear hfb
      have HBA := Lib.hid (fun W h hT => sgBytes_any A ca l W (by have := HFA.out.1; omega) (fun r hr => by have := lt16_all HFA.out r hr; omega) h hT)
      have HBB := Lib.hid (fun W h hT => sgBytes_any B cb m W (by have := HFB.out.1; omega) (fun r hr => by have := lt16_all HFB.out r hr; omega) h hT)
      by_cases hga : bcode l = 0
      · rw [sbytesV_ok hga] at HBA
        by_cases hgb : bcode m = 0
        · rw [sbytesV_ok hgb] at HBB
          have hna := lt16_encs HFA.out
          have hnb := lt16_encs HFB.out
          have hsa : (ofL (Sg.encs l)).size = (Sg.encs l).length := ofL_size _
          have hsb : (ofL (Sg.encs m)).size = (Sg.encs m).length := ofL_size _
          have HS := Lib.hid (fun W h => sgScanC_any (Sg.encs l ++ Sg.encs m) W (by rw [List.length_append]; omega) h)
          rw [all_two (bcode_good hga) (bcode_good hgb), ← ofL_app, List.length_append, show (((Sg.encs l).length + (Sg.encs m).length : Nat) : Int) = ((Sg.encs l).length : Int) + ((Sg.encs m).length : Int) from by omega] at HS
          have HZ := Lib.hid (fun W h => sgScanC_any ([0, 0, 0, 0] ++ Sg.encs m) W (by rw [List.length_append]; simp; omega) h)
          rw [Sg.all_no (Sg.code_zero _), ← ofL_app, show ofL [0, 0, 0, 0] = ⟨#[0, 0, 0, 0]⟩ from rfl, show (([] : List (List UInt8)), 0).1.length = 0 from rfl] at HZ
          have hl12 := HFA.out.1
          have hm12 := HFB.out.1
          clear hga hgb
          generalize ofL (Sg.encs l) = q1 at *
          generalize ofL (Sg.encs m) = q2 at *
          generalize (Sg.encs l).length = n1 at *
          generalize (Sg.encs m).length = n2 at *
          go_wp2_with fail
          refine (HBA.out _ (HA.out.on B1.out) (HT.out.below B1.out HT.out.pos)).mono ?_
          rintro x w3 ⟨rfl, b3⟩
          have B3 := Lib.hid (bthen B1.out b3 (Nat.le_refl _))
          clear b3
          go_wp2_with fail
          refine (HBB.out _ (HB.out.on B3.out) (HT.out.below B3.out HT.out.pos)).mono ?_
          rintro x w4 ⟨rfl, b4⟩
          have B4 := Lib.hid (bthen B3.out b4 (Nat.le_refl _))
          clear b4
          go_wp2_with fail
          refine (HS.out _ (HT.out.below B4.out HT.out.pos)).mono ?_
          rintro x w5 ⟨⟨A2, c2, rfl, h5, hc2⟩, b5⟩
          have H5 := Lib.hid h5
          have HC2 := Lib.hid hc2
          have B5 := Lib.hid (bthen B4.out b5 (Nat.le_refl _))
          clear h5 b5 hc2
          go_wp2_with fail
          refine (HZ.out _ (HT.out.below B5.out HT.out.pos)).mono ?_
          rintro x w6 ⟨⟨A3, c3, rfl, -, -⟩, b6⟩
          have B6 := Lib.hid (bthen B5.out b6 (Nat.le_refl _))
          have H6 := Lib.hid (H5.out.on b6)
          clear b6
          have hcu := fun W => strs_cut A2 (l.length + m.length) c2 l.length (by have := HC2.out; omega) W
          have hdr := fun W => strs_drop A2 (l.length + m.length) m.length c2 l.length rfl W
          go_wp2_with fail
          refine (r16Same_any A2 A c2 ca l _ (by omega) H6.out.front (HA.out.on B6.out)).mono ?_
          rintro x w7 ⟨rfl, b7⟩
          have B7 := Lib.hid (bthen B6.out b7 (Nat.le_refl _))
          have H7 := Lib.hid (H6.out.on b7)
          clear b7
          go_wp2_with fail
          refine (r16Same_any (dropA A2 c2 l.length) B (c2 - l.length) cb m _ (by omega) (H7.out.drop (by rw [List.length_append]; exact HC2.out)) (HB.out.on B7.out)).mono ?_
          rintro x w8 ⟨rfl, b8⟩
          have B8 := Lib.hid (bthen B7.out b8 (Nat.le_refl _))
          clear b8
          go_wp2_with fail
          go_ret
          exact ⟨rfl, B8.out⟩
        · rw [sbytesV_no hgb] at HBB
          have hbn : ((bcode m : Int) != 0) = true := by simpa using hgb
          have hbe : ((bcode m : Int) == 0) = false := by simpa using hgb
          generalize bcode m = cd at *
          clear hga hgb
          go_wp2_with fail
          refine (HBA.out _ (HA.out.on B1.out) (HT.out.below B1.out HT.out.pos)).mono ?_
          rintro x w3 ⟨rfl, b3⟩
          have B3 := Lib.hid (bthen B1.out b3 (Nat.le_refl _))
          clear b3
          go_wp2_with fail
          refine (HBB.out _ (HB.out.on B3.out) (HT.out.below B3.out HT.out.pos)).mono ?_
          rintro x w4 ⟨rfl, b4⟩
          have B4 := Lib.hid (bthen B3.out b4 (Nat.le_refl _))
          clear b4
          go_wp2_with fail
          go_ret
          exact ⟨rfl, B4.out⟩
      · rw [sbytesV_no hga] at HBA
        have hbn : ((bcode l : Int) != 0) = true := by simpa using hga
        have hbe : ((bcode l : Int) == 0) = false := by simpa using hga
        generalize bcode l = cd at *
        clear hga
        by_cases hgb : bcode m = 0
        · rw [sbytesV_ok hgb] at HBB
          clear hgb
          go_wp2_with fail
          refine (HBA.out _ (HA.out.on B1.out) (HT.out.below B1.out HT.out.pos)).mono ?_
          rintro x w3 ⟨rfl, b3⟩
          have B3 := Lib.hid (bthen B1.out b3 (Nat.le_refl _))
          clear b3
          go_wp2_with fail
          refine (HBB.out _ (HB.out.on B3.out) (HT.out.below B3.out HT.out.pos)).mono ?_
          rintro x w4 ⟨rfl, b4⟩
          have B4 := Lib.hid (bthen B3.out b4 (Nat.le_refl _))
          clear b4
          go_wp2_with fail
          go_ret
          exact ⟨rfl, B4.out⟩
        · rw [sbytesV_no hgb] at HBB
          have hbn2 : ((bcode m : Int) != 0) = true := by simpa using hgb
          have hbe2 : ((bcode m : Int) == 0) = false := by simpa using hgb
          generalize bcode m = cd2 at *
          clear hgb
          go_wp2_with fail
          refine (HBA.out _ (HA.out.on B1.out) (HT.out.below B1.out HT.out.pos)).mono ?_
          rintro x w3 ⟨rfl, b3⟩
          have B3 := Lib.hid (bthen B1.out b3 (Nat.le_refl _))
          clear b3
          go_wp2_with fail
          refine (HBB.out _ (HB.out.on B3.out) (HT.out.below B3.out HT.out.pos)).mono ?_
          rintro x w4 ⟨rfl, b4⟩
          have B4 := Lib.hid (bthen B3.out b4 (Nat.le_refl _))
          clear b4
          go_wp2_with fail
          go_ret
          exact ⟨rfl, B4.out⟩
    · go_wp2_with fail
      go_ret
      exact ⟨rfl, B1.out⟩
  · go_wp2_with fail
    go_ret
    exact ⟨rfl, B1.out⟩
end Go.Proofs.YtpdgadohfhmcnaaDoor
