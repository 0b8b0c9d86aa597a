/-
  THE LAW SegFalls: of a beginning of records' bytes, with noughts behind, just those are told that are whole.
-/
import Derived.Test.YtpdgadohfhmcnaaDoorSgG
namespace Go.Proofs.YtpdgadohfhmcnaaDoor
open Go.ChangeShapes Go.WideShapes Go.ChangeAt Go.RowKit

theorem strs_cut (A : Option Addr) (n ca k : Nat) (hk : k ≤ ca) (W : World) : (Instr.slice 22 (.slice A n ca) none (some (.int .i64 (k : Int))) none).run Tryd.prog W = .ok (.slice A k ca) W := by
  obtain ⟨i1, hi1, -, -, -⟩ := info_parts infoTx
  have he : Tryd.prog.elem 22 = 9 := by simp [Program.elem, Tryd.underlying22]
  rw [run_slice_h (w := W) 22 A n ca (by rw [he]; exact Tryd.underlying22) .i64 (k : Int) (by omega) (by omega), he, run_sizeOf _ hi1]
  have h0 : ∀ s : Nat, (A.map fun a => a.add (0 * s)) = A := by
    intro s
    cases A with
    | none => rfl
    | some a => simp [Addr.add]
  simp only [Result.andThen, sliced, h0]
  simp
theorem Sts.take {w : World} {A : Option Addr} {l : List (List UInt8)} (h : Sts w A l) (k : Nat) : Sts w A (l.take k) := ⟨fun i hi => by
  rw [List.length_take] at hi
  have := h.at_ i (by omega)
  rwa [show (l.take k).getD i [] = l.getD i [] by simp [List.getD_eq_getElem?_getD, List.getElem?_take, show i < k by omega]]⟩
def FaSt (w : World) (l : List (List UInt8)) (t g : Nat) (v9 v10 : Value) (wr : World) : Prop :=
  ∃ k : Nat, k + g = l.length ∧ v10 = .int .i64 (k : Int) ∧ v9 = .int .i64 (((Sg.encs (l.take k)).length : Nat) : Int) ∧ (Sg.encs (l.take k)).length ≤ t ∧ Below w.heap.size w wr
def FaPost (w : World) (e : Ending) (w' : World) : Prop := e = .returned (.bool true) ∧ Below w.heap.size w w'
set_option maxRecDepth 100000 in
set_option maxHeartbeats 8000000 in
theorem segFalls_walk (A : Option Addr) (ca : Nat) (l : List (List UInt8)) (c z : Int) (w : World) (hlc : l.length ≤ ca) (hca : ca ≤ 9223372036854775807) (hA : Sts w A l) (hT : Tab w) (hc : -9223372036854775808 ≤ c ∧ c ≤ 9223372036854775807) (hz : -9223372036854775808 ≤ z ∧ z ≤ 9223372036854775807) :
    Calls Tryd.prog 5 #[.slice A l.length ca, .int .i64 c, .int .i64 z] w (FaPost w) := by
  have HAW := Lib.hid (fun W h => awake16_any W h)
  have HLI := Lib.hid (fun W h => light16_any A ca l W (by omega) h)
  have HA := Lib.hid hA
  have HT := Lib.hid hT
  clear hA hT
  go_enter Tryd.func5, Tryd.ntmps5
  go_wp2_with fail
  refine (HAW.out _ HT.out).mono ?_
  rintro x w1 ⟨rfl, b1⟩
  have B1 := Lib.hid b1
  clear b1
  go_wp2_with fail
  refine (HLI.out _ (HA.out.on B1.out)).mono ?_
  rintro x w2 ⟨h2, rfl⟩
  rcases h2 with ⟨rfl, hf⟩ | rfl
  · have HF := Lib.hid hf
    clear hf
    by_cases h0 : z < 0
    · go_wp2_with fail
      go_ret
      exact ⟨rfl, B1.out⟩
    by_cases h6 : 600 < z
    · go_wp2_with fail
      go_ret
      exact ⟨rfl, B1.out⟩
    obtain ⟨m, rfl⟩ : ∃ m : Nat, z = (m : Int) := ⟨z.toNat, by omega⟩
    have hfr : ∀ r ∈ l, r.length ≤ 400 := fun r hr => by
      obtain ⟨i, hi, rfl⟩ := List.getElem_of_mem hr
      have := HF.out.2 i hi
      rwa [List.getD_eq_getElem?_getD, List.getElem?_eq_getElem hi] at this
    have HBY := Lib.hid (fun W h hT => sgBytes_any A ca l W (by have := HF.out.1; omega) (fun r hr => by have := hfr r hr; omega) h hT)
    have h12 := HF.out.1
    by_cases hg : bcode l = 0
    · have hv : sbytesV l = .tuple #[.string (ofL (Sg.encs l)), .int .i64 0] := if_pos hg
      have HGD := Lib.hid (bcode_good hg)
      rw [hv] at HBY
      have hNB : (Sg.encs l).length ≤ 12 * 409 := Nat.le_trans (encs_le hfr) (Nat.mul_le_mul_right _ h12)
      have HNB := Lib.hid hNB
      have hsz : (ofL (Sg.encs l)).size = (Sg.encs l).length := ofL_size _
      obtain ⟨t, ht⟩ : ∃ t : Nat, t = (max 0 (min c ((Sg.encs l).length : Int))).toNat := ⟨_, rfl⟩
      have hmx : max 0 (min c ((Sg.encs l).length : Int)) = (t : Int) := by omega
      have HTN := Lib.hid (show t ≤ (Sg.encs l).length by omega)
      have HFR := Lib.hid hfr
      have htn : t ≤ 12 * 409 := by omega
      clear hg hv h0 ht hfr
      go_wp2_with fail
      refine (HBY.out _ (HA.out.on B1.out) (HT.out.below B1.out HT.out.pos)).mono ?_
      rintro x w3 ⟨rfl, b3⟩
      have B3 := Lib.hid (bthen B1.out b3 (Nat.le_refl _))
      clear b3
      go_wp2_with fail
      clear hmx hsz hNB
      go_loopg [9, 10] l.length (fun g v9 v10 wr => FaSt w l t g v9 v10 wr)
      case atStart => exact ⟨0, by omega, rfl, rfl, Nat.zero_le _, B3.out⟩
      case round =>
        obtain ⟨k, hk, rfl, rfl, hnt, hb⟩ := hrel
        have HK := Lib.hid hk
        have HNT := Lib.hid hnt
        have HB := Lib.hid hb
        clear hk hb
        by_cases hlt : k < l.length
        · obtain ⟨b, off, rfl, hbl, x0⟩ := HA.out.at_ k hlt
          have y0 := (HB.out.cell (p := ⟨b, off + k, none⟩) hbl).trans x0
          have h4 := HF.out.2 k hlt
          have HEN := Lib.hid (encs_take hlt)
          have HGE := Lib.hid (show l.getD k [] = l[k] by rw [List.getD_eq_getElem?_getD, List.getElem?_eq_getElem hlt]; rfl)
          clear x0 hbl
          generalize l.getD k [] = x at *
          have HSZ := Lib.hid (fun W => sgSize_any x W (by omega))
          have HEL := Lib.hid (show (Sg.encs (l.take (k + 1))).length = (Sg.encs (l.take k)).length + (x.length + 9) by rw [HEN.out, List.length_append, Sg.enc_len])
          by_cases hfit : (Sg.encs (l.take k)).length + (x.length + 9) ≤ t
          · generalize hnn : (Sg.encs (l.take k)).length = n at *
            clear hnn
            go_wp2_with fail
            refine (HSZ.out _).mono ?_
            rintro y w4 ⟨rfl, rfl⟩
            go_wp2_with fail
            refine (HSZ.out _).mono ?_
            rintro y w5 ⟨rfl, rfl⟩
            go_wp2_with fail
            go_roundg (gk - 1)
            case rel => exact ⟨k + 1, by have := HK.out; omega, by go_num, by rw [HEL.out]; go_num, by rw [HEL.out]; exact hfit, HB.out⟩
            case measure => have := HK.out; omega
          · have HST := Lib.hid (show ∀ hk' : k < l.length, t < (Sg.encs (l.take k)).length + (l[k].length + 9) from fun hk' => by rw [← HGE.out]; omega)
            have hk' : k ≤ l.length := by have := HK.out; omega
            have hfa := Sg.falls (l := l) (k := k) (cut := t) m HGD.out hk' HNT.out HST.out HTN.out
            have hlk : (l.take k).length = k := by rw [List.length_take]; omega
            have HN := Lib.hid (fun W => sgNoughts_any m W (by omega))
            have HS := Lib.hid (fun W h => sgScan_any ((Sg.encs l).take t ++ List.replicate m 0) W (by rw [List.length_append, List.length_replicate, List.length_take]; have := HNB.out; omega) h)
            rw [hfa, hlk, ← ofL_app] at HS
            have HSA := Lib.hid (fun A2 c2 W (h1 : Sts W A2 (l.take k)) (h2 : Sts W (some ⟨b, off, none⟩) (l.take k)) => r16Same_any A2 (some ⟨b, off, none⟩) c2 ca (l.take k) W (by omega) h1 h2)
            rw [hlk] at HSA
            have hsl := fun W => slice_to_l (P := Tryd.prog) Tryd.underlying9 (Sg.encs l) .i64 (t : Int) t rfl HTN.out W
            have hcu := fun W => strs_cut (some ⟨b, off, none⟩) l.length ca k (by omega) W
            have HAK := Lib.hid (HA.out.take k)
            have hkc : k ≤ ca := by omega
            have hq1 : (ofL ((Sg.encs l).take t)).size ≤ 5000 := by rw [ofL_size, List.length_take]; have := HNB.out; omega
            have hq2 : (ofL (List.replicate m (0 : UInt8))).size ≤ 600 := by rw [ofL_size, List.length_replicate]; omega
            clear hfa hlk hk'
            generalize ofL ((Sg.encs l).take t) = q at *
            generalize ofL (List.replicate m (0 : UInt8)) = q2 at *
            generalize hnn : (Sg.encs (l.take k)).length = n at *
            clear hnn
            go_wp2_with fail
            refine (HSZ.out _).mono ?_
            rintro y w4 ⟨rfl, rfl⟩
            go_wp2_with fail
            go_region_with (first
              | (go_at_call 19; refine (HN.out _).mono ?_; rintro x w5 ⟨rfl, b5⟩; have B5 := Lib.hid (bthen HB.out.drew b5 (Nat.le_refl _)); clear b5)
              | (go_at_call 14; refine (HS.out _ (HT.out.below B5.out HT.out.pos)).mono ?_; rintro x w6 ⟨⟨A2, c2, rfl, h6⟩, b6⟩; have H6 := Lib.hid h6; have B6 := Lib.hid (bthen B5.out b6 (Nat.le_refl _)); clear h6 b6))
            all_goals
              go_wp2_with fail
              refine (HSA.out A2 c2 _ H6.out (HAK.out.on B6.out)).mono ?_
              rintro x w7 ⟨rfl, b7⟩
              have B7 := Lib.hid (bthen B6.out b7 (Nat.le_refl _))
              clear b7
              go_wp2_with fail
              go_ret
              exact ⟨rfl, B7.out⟩
        · have HST := Lib.hid (show ∀ hk' : k < l.length, t < (Sg.encs (l.take k)).length + (l[k].length + 9) from fun hk' => absurd hk' hlt)
          have hk' : k ≤ l.length := by have := HK.out; omega
          have hfa := Sg.falls (l := l) (k := k) (cut := t) m HGD.out hk' HNT.out HST.out HTN.out
          have hlk : (l.take k).length = k := by rw [List.length_take]; omega
          have HN := Lib.hid (fun W => sgNoughts_any m W (by omega))
          have HS := Lib.hid (fun W h => sgScan_any ((Sg.encs l).take t ++ List.replicate m 0) W (by rw [List.length_append, List.length_replicate, List.length_take]; have := HNB.out; omega) h)
          rw [hfa, hlk, ← ofL_app] at HS
          have HSA := Lib.hid (fun A2 c2 W (h1 : Sts W A2 (l.take k)) (h2 : Sts W A (l.take k)) => r16Same_any A2 A c2 ca (l.take k) W (by omega) h1 h2)
          rw [hlk] at HSA
          have hsl := fun W => slice_to_l (P := Tryd.prog) Tryd.underlying9 (Sg.encs l) .i64 (t : Int) t rfl HTN.out W
          have hcu := fun W => strs_cut A l.length ca k (by omega) W
          have HAK := Lib.hid (HA.out.take k)
          have hkc : k ≤ ca := by omega
          have hq1 : (ofL ((Sg.encs l).take t)).size ≤ 5000 := by rw [ofL_size, List.length_take]; have := HNB.out; omega
          have hq2 : (ofL (List.replicate m (0 : UInt8))).size ≤ 600 := by rw [ofL_size, List.length_replicate]; omega
          clear hfa hlk hk'
          generalize ofL ((Sg.encs l).take t) = q at *
          generalize ofL (List.replicate m (0 : UInt8)) = q2 at *
          generalize hnn : (Sg.encs (l.take k)).length = n at *
          clear hnn
          go_wp2_with fail
          go_region_with (first
            | (go_at_call 19; refine (HN.out _).mono ?_; rintro x w5 ⟨rfl, b5⟩; have B5 := Lib.hid (bthen HB.out.drew b5 (Nat.le_refl _)); clear b5)
            | (go_at_call 14; refine (HS.out _ (HT.out.below B5.out HT.out.pos)).mono ?_; rintro x w6 ⟨⟨A2, c2, rfl, h6⟩, b6⟩; have H6 := Lib.hid h6; have B6 := Lib.hid (bthen B5.out b6 (Nat.le_refl _)); clear h6 b6))
          all_goals
            go_wp2_with fail
            refine (HSA.out A2 c2 _ H6.out (HAK.out.on B6.out)).mono ?_
            rintro x w7 ⟨rfl, b7⟩
            have B7 := Lib.hid (bthen B6.out b7 (Nat.le_refl _))
            clear b7
            go_wp2_with fail
            go_ret
            exact ⟨rfl, B7.out⟩
    · have hv : sbytesV l = .tuple #[.string ⟨#[]⟩, .int .i64 (bcode l : Int)] := if_neg hg
      have hbn : ((bcode l : Int) != 0) = true := by simpa using hg
      rw [hv] at HBY
      generalize bcode l = cd at *
      clear hg hv h0
      go_wp2_with fail
      refine (HBY.out _ (HA.out.on B1.out) (HT.out.below B1.out HT.out.pos)).mono ?_
      rintro x w3 ⟨rfl, b3⟩
      have B3 := Lib.hid (bthen B1.out b3 (Nat.le_refl _))
      clear b3
      go_wp2_with fail
      go_ret
      exact ⟨rfl, B3.out⟩
  · go_wp2_with fail
    go_ret
    exact ⟨rfl, B1.out⟩
end Go.Proofs.YtpdgadohfhmcnaaDoor
