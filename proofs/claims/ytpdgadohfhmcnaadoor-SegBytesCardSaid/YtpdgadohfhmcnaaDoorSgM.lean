/-
  THE LAW SegBytes: records as they stand are the document's; read again they are those.
-/
import Derived.Test.YtpdgadohfhmcnaaDoorSgI
import Derived.Test.YtpdgadohfhmcnaaDoorSgL
namespace Go.Proofs.YtpdgadohfhmcnaaDoor
open Go.ChangeShapes Go.WideShapes Go.ChangeAt Go.RowKit

def TlSt (w : World) (l : List (List UInt8)) (g : Nat) (v i : Value) (wr : World) : Prop :=
  ∃ k t : Nat, k + g = l.length ∧ i = .int .i64 (k : Int) ∧ v = .int .i64 (t : Int) ∧ t + 9 * k = (Sg.encs (l.take k)).length ∧ w = wr
theorem encs_take_len {l : List (List UInt8)} {k : Nat} (h : k < l.length) : (Sg.encs (l.take (k + 1))).length = (Sg.encs (l.take k)).length + ((l.getD k []).length + 9) := by rw [encs_take h, List.length_append, Sg.enc_len]
theorem encs_le_all (l : List (List UInt8)) (k : Nat) : (Sg.encs (l.take k)).length ≤ (Sg.encs l).length := by
  have h : Sg.encs l = Sg.encs (l.take k) ++ Sg.encs (l.drop k) := by unfold Sg.encs; rw [← List.flatMap_append, List.take_append_drop]
  rw [h, List.length_append]
  omega
set_option maxHeartbeats 2000000 in
theorem total16_any (A : Option Addr) (ca : Nat) (l : List (List UInt8)) (w : World) (hl : l.length ≤ 100) (he : (Sg.encs l).length ≤ 1000000) (hA : Sts w A l) :
    Calls Tryd.prog 13 #[.slice A l.length ca] w fun e w' => (∃ t : Nat, e = .returned (.int .i64 (t : Int)) ∧ t + 9 * l.length = (Sg.encs l).length) ∧ w = w' := by
  have HA := Lib.hid hA
  clear hA
  go_enter Tryd.func13, Tryd.ntmps13
  go_wp2_with fail
  go_loopg [3, 8] l.length (fun g v i wr => TlSt w l g v i wr)
  case atStart => exact ⟨0, 0, by omega, rfl, rfl, rfl, rfl⟩
  case round =>
    obtain ⟨k, t, hk, rfl, rfl, ht, rfl⟩ := hrel
    have HK := Lib.hid hk
    have HTT := Lib.hid ht
    clear hk
    by_cases hlt : k < l.length
    · obtain ⟨b, off, rfl, hb, hc⟩ := HA.out.at_ k hlt
      have hz : (ofL (l.getD k [])).size = (l.getD k []).length := ofL_size _
      have h1 := encs_take_len hlt
      have h2 := encs_le_all l (k + 1)
      have HN := Lib.hid h1
      generalize l.getD k [] = x at *
      have hx : t + x.length ≤ 1000000 := by omega
      clear h1 h2 ht
      go_wp2_with fail
      go_roundg (gk - 1)
      case rel => exact ⟨k + 1, t + x.length, by have := HK.out; omega, by go_num, by go_num, by have := HN.out; have := HTT.out; omega, rfl⟩
      case measure => have := HK.out; omega
    · have e : l.take k = l := List.take_of_length_le (by omega)
      rw [e] at HTT
      clear ht
      go_wp2_with fail
      go_ret
      exact ⟨⟨t, rfl, by have := HTT.out; have := HK.out; omega⟩, rfl⟩
def ByS (w : World) (l : List (List UInt8)) (g : Nat) (v i : Value) (wr : World) : Prop :=
  ∃ k : Nat, k + g = l.length ∧ i = .int .i64 (k : Int) ∧ v = .int .i64 (((Sg.encs (l.take k)).length : Nat) : Int) ∧ w = wr
theorem sbytesV_form (l : List (List UInt8)) (hc : bcode l ≤ 100) : ∃ (a : ByteArray) (c : Nat), sbytesV l = .tuple #[.string a, .int .i64 (c : Int)] ∧ c = bcode l ∧ (c = 0 → a = ofL (Sg.encs l)) := by
  unfold sbytesV
  split
  · exact ⟨_, 0, rfl, by omega, fun _ => rfl⟩
  · exact ⟨_, _, rfl, rfl, fun h => absurd h (by assumption)⟩
theorem rcode_le (r : List UInt8) : Sg.rcode r ≤ 100 := by
  unfold Sg.rcode
  split
  · decide
  · split <;> decide
theorem bcode_le : ∀ l : List (List UInt8), bcode l ≤ 100
  | [] => Nat.zero_le _
  | r :: l => by
    show (if Sg.rcode r ≠ 0 then Sg.rcode r else bcode l) ≤ 100
    split
    · exact rcode_le r
    · exact bcode_le l
set_option maxRecDepth 100000 in
set_option maxHeartbeats 8000000 in
theorem segBytes_walk (A : Option Addr) (ca : Nat) (l : List (List UInt8)) (s : List UInt8) (w : World) (hlc : l.length ≤ ca) (hca : ca ≤ 9223372036854775807) (hA : Sts w A l) (hT : Tab w) :
    Calls Tryd.prog 3 #[.slice A l.length ca, .string (ofL s)] w (FaPost w) := by
  have HAW := Lib.hid (fun W h => awake16_any W h)
  have HLI := Lib.hid (fun W h => light16_any A ca l W (by omega) h)
  have hz : (ofL s).size = s.length := ofL_size s
  have HA := Lib.hid hA
  have HT := Lib.hid hT
  clear hA hT
  go_enter Tryd.func3, Tryd.ntmps3
  go_wp2_with fail
  refine (HAW.out _ HT.out).mono ?_
  rintro x w1 ⟨rfl, b1⟩
  have B1 := Lib.hid b1
  clear b1
  go_wp2_with fail
  refine (HLI.out _ (HA.out.on B1.out)).mono ?_
  rintro x w2 ⟨h2, rfl⟩
  rcases h2 with ⟨rfl, hf⟩ | rfl
  · have HF := Lib.hid hf
    clear hf
    by_cases h40 : 40 < s.length
    · go_wp2_with fail
      go_ret
      exact ⟨rfl, B1.out⟩
    have h12 := HF.out.1
    have hne := lt16_encs HF.out
    have HBY := Lib.hid (fun W h hT => sgBytes_any A ca l W (by have := HF.out.1; omega) (fun r hr => by have := lt16_all HF.out r hr; omega) h hT)
    have HRB := Lib.hid (fun W h => r16Bytes_any A ca l W (by have := HF.out.1; omega) (fun r hr => by have := lt16_all HF.out r hr; omega) h)
    obtain ⟨q, c, hv, hcb, hq⟩ := sbytesV_form l (bcode_le l)
    rw [hv] at HBY HRB
    have HCB := Lib.hid hcb
    have HQ := Lib.hid hq
    have HNE := Lib.hid hne
    have hcc : c ≤ 100 := by rw [hcb]; exact bcode_le l
    clear hv hcb hq hne
    go_wp2_with fail
    refine (HBY.out _ (HA.out.on B1.out) (HT.out.below B1.out HT.out.pos)).mono ?_
    rintro x w3 ⟨rfl, b3⟩
    have B3 := Lib.hid (bthen B1.out b3 (Nat.le_refl _))
    clear b3
    go_wp2_with fail
    refine (HRB.out _ (HA.out.on B3.out)).mono ?_
    rintro x w4 ⟨rfl, b4⟩
    have B4 := Lib.hid (bthen B3.out b4 (Nat.le_refl _))
    clear b4
    go_wp2_with fail
    go_loopg [9, 44] l.length (fun g v i wr => ByS w4 l g v i wr)
    case atStart => exact ⟨0, by omega, rfl, rfl, rfl⟩
    case round =>
      obtain ⟨k, hk, rfl, rfl, rfl⟩ := hrel
      have HK := Lib.hid hk
      clear hk
      by_cases hlt : k < l.length
      · obtain ⟨b, off, rfl, hbl, x0⟩ := HA.out.at_ k hlt
        have y0 := (B4.out.cell (p := ⟨b, off + k, none⟩) hbl).trans x0
        have h4 := HF.out.2 k hlt
        have h1 := encs_take_len hlt
        have h2 := encs_le_all l (k + 1)
        have HN := Lib.hid h1
        have h3 := HNE.out
        clear x0 hbl
        generalize l.getD k [] = x at *
        have HSZ := Lib.hid (fun W => sgSize_any x W (by omega))
        generalize (Sg.encs (l.take k)).length = n at *
        have hx : n + (x.length + 9) ≤ 1000000 := by omega
        clear h1 h2 h3
        go_wp2_with fail
        refine (HSZ.out _).mono ?_
        rintro y w5 ⟨rfl, rfl⟩
        go_wp2_with fail
        go_roundg (gk - 1)
        case rel => exact ⟨k + 1, by have := HK.out; omega, by go_num, by rw [HN.out]; go_num, rfl⟩
        case measure => have := HK.out; omega
      · have e : l.take k = l := List.take_of_length_le (by omega)
        rw [e]
        clear e
        by_cases h0 : c = 0
        · subst h0
          have hq := HQ.out rfl
          have HGD := Lib.hid (bcode_good HCB.out.symm)
          subst hq
          have HS := Lib.hid (fun W h => sgScanC_any (Sg.encs l ++ s) W (by rw [List.length_append]; have := HNE.out; omega) h)
          rw [Sg.all_encs l s HGD.out, ← ofL_app, List.length_append, show (((Sg.encs l).length + (Sg.all s).2 : Nat) : Int) = ((Sg.encs l).length : Int) + ((Sg.all s).2 : Int) from by omega] at HS
          have hsq : (ofL (Sg.encs l)).size = (Sg.encs l).length := ofL_size _
          have hnq := HNE.out
          have hn2 : (Sg.all s).2 ≥ 0 := Nat.zero_le _
          generalize ofL (Sg.encs l) = q at *
          generalize (Sg.encs l).length = n at *
          generalize (Sg.all s).2 = n2 at *
          generalize (Sg.all s).1 = m at *
          go_wp2_with fail
          refine (HS.out _ (HT.out.below B4.out HT.out.pos)).mono ?_
          rintro y w5 ⟨⟨A2, c2, rfl, h5, hc2⟩, b5⟩
          have S5 := Lib.hid h5
          have B5 := Lib.hid (bthen B4.out b5 (Nat.le_refl _))
          clear h5 b5
          have hcu := fun W => strs_cut A2 (l.length + m.length) c2 l.length (by omega) W
          go_wp2_with fail
          refine (r16Same_any A2 A c2 ca l _ (by omega) S5.out.front (HA.out.on B5.out)).mono ?_
          rintro y w6 ⟨rfl, b6⟩
          have B6 := Lib.hid (bthen B5.out b6 (Nat.le_refl _))
          clear b6
          go_wp2_with fail
          go_ret
          exact ⟨rfl, B6.out⟩
        · have HTO := Lib.hid (fun W h => total16_any A ca l W (by omega) (by have := HNE.out; omega) h)
          have hbn : ((c : Int) != 0) = true := by simpa using h0
          have hnq := HNE.out
          generalize (Sg.encs l).length = n at *
          clear h0
          go_wp2_with fail
          refine (HTO.out _ (HA.out.on B4.out)).mono ?_
          rintro y w5 ⟨⟨t, rfl, ht⟩, rfl⟩
          go_wp2_with fail
          go_ret
          exact ⟨by simp; omega, B4.out⟩
  · go_wp2_with fail
    go_ret
    exact ⟨rfl, B1.out⟩
end Go.Proofs.YtpdgadohfhmcnaaDoor
