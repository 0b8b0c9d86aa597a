/-
  THE DOCUMENT's OWN RECORDS: Scan; Bytes.
-/
import Derived.Test.YtpdgadohfhmcnaaDoorSgK
namespace Go.Proofs.YtpdgadohfhmcnaaDoor
open Go.ChangeShapes Go.WideShapes Go.ChangeAt Go.RowKit

theorem rnextV_form (l : List UInt8) : ∃ (a : ByteArray) (b c : Int), rnextV l = .tuple #[.string a, .int .i64 b, .int .i64 c] := by
  unfold rnextV
  split
  · exact ⟨_, _, _, rfl⟩
  · exact ⟨_, _, _, rfl⟩
theorem tup3 {a b c x y z : Value} (h : Value.tuple #[a, b, c] = Value.tuple #[x, y, z]) : a = x ∧ b = y ∧ c = z := by
  have h1 := Value.tuple.inj h
  have h2 := congrArg Array.toList h1
  simpa using h2
def RsSt (w : World) (l : List UInt8) (g : Nat) (v i v6 v7 v8 : Value) (wr : World) : Prop :=
  ∃ (u : Nat) (rs : List (List UInt8)), u + g = l.length ∧ i = .int .i64 (u : Int) ∧ Sg.all l = (rs ++ (Sg.all (l.drop u)).1, u + (Sg.all (l.drop u)).2) ∧ rs.length ≤ u ∧ wr.ownsRow w.heap.size 9 1 v rs.length (tcs rs) ∧ Below w.heap.size w wr ∧ rnextV (l.drop u) = .tuple #[v6, v7, v8]
set_option maxRecDepth 100000 in
set_option maxHeartbeats 4000000 in
theorem r16Scan_any (l : List UInt8) (w : World) (hl : l.length ≤ 100000) :
    Calls Tryd.prog 18 #[.string (ofL l)] w fun e w' => (∃ A c, e = .returned (.tuple #[.slice A (Sg.all l).1.length c, .int .i64 ((Sg.all l).2 : Int)]) ∧ Sts w' A (Sg.all l).1) ∧ Below w.heap.size w w' := by
  have hz : (ofL l).size = l.length := ofL_size l
  obtain ⟨i1, hi1, hz0, hz1, hz2⟩ := info_parts infoTx
  have H0 := Lib.hid (fun W => r16Next_any l W hl)
  obtain ⟨a0, b0, c0, hf0⟩ := rnextV_form l
  rw [hf0] at H0
  have HF0 := Lib.hid hf0
  clear hf0
  go_enter Tryd.func18, Tryd.ntmps18
  go_wp2_with fail
  refine (H0.out _).mono ?_
  rintro y w0 ⟨rfl, bb0⟩
  have HB0 := Lib.hid bb0
  clear bb0
  go_wp2_with fail
  go_loopg [4, 5, 6, 7, 8] l.length (fun g v i v6 v7 v8 wr => RsSt w l g v i v6 v7 v8 wr)
  case atStart => exact ⟨0, [], by omega, rfl, by simp, by simp, World.ownsRow_nil _ _ _ _, HB0.out, HF0.out⟩
  case round =>
    obtain ⟨u, rs, hu, rfl, hall, hru, hO, hb, hnx⟩ := hrel
    obtain ⟨A, cp, rfl, hcp, -, hcell⟩ := Rw.own_cells hO
    have HU := Lib.hid hu
    have HO := Lib.hid hO
    have HB := Lib.hid hb
    have HRU := Lib.hid hru
    have HCE := Lib.hid hcell
    have hul : u ≤ l.length := by omega
    clear hO hb hcell hu
    by_cases h0 : Sg.code (l.drop u) = 0
    · have hlg := Sg.code_long h0
      rw [List.length_drop] at hlg
      obtain ⟨rfl, rfl, rfl⟩ := tup3 (hnx.symm.trans (rnextV_ok h0))
      rw [Sg.all_ok h0, List.drop_drop] at hall
      clear hnx
      generalize Sg.rc (l.drop u) = x at *
      generalize Sg.len4 (l.drop u) = m at *
      have HA := Lib.hid (show Sg.all l = ((rs ++ [x]) ++ (Sg.all (l.drop (u + (m + 9)))).1, u + (m + 9) + (Sg.all (l.drop (u + (m + 9)))).2) by rw [hall]; simp only [List.append_assoc, List.singleton_append, Prod.mk.injEq, true_and]; omega)
      have HTC := Lib.hid (show tcs (rs ++ [x]) = tcs rs ++ [.string (ofL x)] by simp [tcs])
      have hrl : rs.length + 1 ≤ 1000000 := by omega
      have hsl := fun W => slice_from_l (P := Tryd.prog) Tryd.underlying9 l .i64 ((u + (m + 9) : Nat) : Int) (u + (m + 9)) rfl (by omega) W
      rw [show ((u + (m + 9) : Nat) : Int) = (u : Int) + ((m : Int) + 9) by omega] at hsl
      have HN := Lib.hid (fun W => r16Next_any (l.drop (u + (m + 9))) W (by rw [List.length_drop]; omega))
      obtain ⟨a1, b1, c1, hf1⟩ := rnextV_form (l.drop (u + (m + 9)))
      rw [hf1] at HN
      have HF1 := Lib.hid hf1
      clear hall h0 hf1
      have HB2 := Lib.hid (HB.out.alloc HB.out.size (.cells #[.string (ofL x)] 9))
      go_wp2_with (first
        | (at_builtin; refine wpList_append_lies _ rfl _ _ 22 rfl w.heap.size 9 i1 _ 1 16 Tryd.underlying22 hi1 hz0 hz1 hz2 rfl (by omega) (.slice A rs.length cp) rs.length (tcs rs) (by rfl) (HO.out.alloc _) ⟨wr.heap.size, 0, none⟩ 1 1 [.string (ofL x)] (by rfl) (by rfl) (World.news_of_block (heap_alloc_new wr _)) (by simp [Value.oneCell']) (by omega) (by unfold maxLen; omega) (by omega) HB2.out.size _ rfl ?_; intro gg cap w2 hown1 hgrow hat hlt'; have HW := Lib.hid hown1; have HG := Lib.hid hgrow; clear hown1 hgrow hat hlt'))
      have HB3 := Lib.hid (HB2.out.grown HG.out HB2.out.size (fun q hq => (HO.out.lt q hq).1))
      refine (HN.out _).mono ?_
      rintro y w4 ⟨rfl, b4⟩
      have HW4 := Lib.hid (Rw.own_on HW.out b4)
      have HB4 := Lib.hid (bthen HB3.out b4 (Nat.le_refl _))
      clear b4
      go_wp2_with fail
      go_roundg (gk - (m + 9))
      case rel => exact ⟨u + (m + 9), rs ++ [x], by have := HU.out; omega, by go_num, HA.out, by have := HRU.out; simp; omega, by rw [HTC.out, List.length_append]; exact HW4.out, HB4.out, HF1.out⟩
      case measure => have := HU.out; omega
    · obtain ⟨rfl, rfl, rfl⟩ := tup3 (hnx.symm.trans (rnextV_no rfl h0))
      rw [Sg.all_no h0, List.append_nil, Nat.add_zero] at hall
      have hbn : ((Sg.code (l.drop u) : Int) == 0) = false := by simpa using h0
      have HA := Lib.hid hall
      generalize Sg.code (l.drop u) = cd at *
      clear hall h0 hnx
      go_wp2_with fail
      go_ret2
      refine ⟨?_, HB.out⟩
      rw [HA.out]
      exact ⟨A, cp, rfl, sts_of_cells HCE.out⟩
def RbSt (w : World) (l : List (List UInt8)) (g : Nat) (v i : Value) (wr : World) : Prop :=
  ∃ k : Nat, k + g = l.length ∧ i = .int .i64 (k : Int) ∧ v = .string (ofL (Sg.encs (l.take k))) ∧ (∀ r ∈ l.take k, Sg.Good r) ∧ Below w.heap.size w wr
set_option maxRecDepth 100000 in
set_option maxHeartbeats 4000000 in
theorem r16Bytes_any (A : Option Addr) (ca : Nat) (l : List (List UInt8)) (w : World) (hl : l.length ≤ 20) (hr : ∀ r ∈ l, r.length ≤ 200000) (hA : Sts w A l) :
    Calls Tryd.prog 11 #[.slice A l.length ca] w fun e w' => e = .returned (sbytesV l) ∧ Below w.heap.size w w' := by
  have HA := Lib.hid hA
  have HRR := Lib.hid hr
  clear hA hr
  go_enter Tryd.func11, Tryd.ntmps11
  go_wp2_with fail
  go_loopg [4, 9] l.length (fun g v i wr => RbSt w l g v i wr)
  case atStart => exact ⟨0, by omega, rfl, rfl, (fun r hr => by simp at hr), Below.refl _ _⟩
  case round =>
    obtain ⟨k, hk, rfl, rfl, hgood, hb⟩ := hrel
    have HK := Lib.hid hk
    have HG := Lib.hid hgood
    have HB := Lib.hid hb
    clear hk hgood hb
    by_cases hlt : k < l.length
    · obtain ⟨b, off, rfl, hbl, x0⟩ := HA.out.at_ k hlt
      have y0 := (HB.out.cell (p := ⟨b, off + k, none⟩) hbl).trans x0
      have hmem : l.getD k [] ∈ l := by rw [List.getD_eq_getElem?_getD, List.getElem?_eq_getElem hlt]; exact List.getElem_mem hlt
      have hrk := HRR.out _ hmem
      have HEN := Lib.hid (encs_take hlt)
      have HLE := Lib.hid (show (Sg.encs (l.take k)).length ≤ 4000180 from by
        have h1 := encs_le (l := l.take k) (m := 200000) (fun r hr => HRR.out r (List.mem_of_mem_take hr))
        have h2 : (l.take k).length ≤ 20 := by rw [List.length_take]; omega
        have h3 : (l.take k).length * 200009 ≤ 20 * 200009 := Nat.mul_le_mul_right _ h2
        omega)
      have HFI := Lib.hid (bcode_first hlt HG.out)
      have HTK := Lib.hid (show ∀ r ∈ l.take (k + 1), r ∈ l.take k ∨ r = l.getD k [] from fun r hr => by
        rw [List.take_succ_eq_append_getElem hlt] at hr
        rcases List.mem_append.1 hr with h | h
        · exact .inl h
        · right; rw [List.getD_eq_getElem?_getD, List.getElem?_eq_getElem hlt]; simpa using h)
      clear x0 hbl hmem
      generalize l.getD k [] = x at *
      have hz : (ofL x).size = x.length := ofL_size x
      have hbe : (ofL x).toList.isEmpty = decide (x = []) := by rw [ofL_str]; cases x <;> simp
      by_cases h15 : x.length = 0
      · have hc : Sg.rcode x = 15 := by unfold Sg.rcode; rw [if_pos h15]
        have HV := Lib.hid (show sbytesV l = .tuple #[.string ⟨#[]⟩, .int .i64 15] by unfold sbytesV; rw [HFI.out (by omega), if_neg (by omega), hc]; rfl)
        rw [decide_eq_true (List.eq_nil_of_length_eq_zero h15)] at hbe
        clear hc h15
        go_wp2_with fail
        go_ret2
        exact ⟨by rw [HV.out]; rfl, HB.out⟩
      rw [decide_eq_false (fun h => h15 (by rw [h]; rfl))] at hbe
      by_cases h5 : 131072 < x.length
      · have hc : Sg.rcode x = 5 := by unfold Sg.rcode; rw [if_neg h15, if_pos h5]
        have HV := Lib.hid (show sbytesV l = .tuple #[.string ⟨#[]⟩, .int .i64 5] by unfold sbytesV; rw [HFI.out (by omega), if_neg (by omega), hc]; rfl)
        clear hc
        go_wp2_with fail
        go_ret2
        exact ⟨by rw [HV.out]; rfl, HB.out⟩
      have HX := Lib.hid (show Sg.rcode x = 0 by unfold Sg.rcode; rw [if_neg h15, if_neg h5])
      have HO := Lib.hid (fun W => r16One_any x W hrk)
      have hs1 : (ofL (Sg.encs (l.take k))).size ≤ 4000180 := by rw [ofL_size]; exact HLE.out
      have hs2 : (ofL (Sg.enc x)).size ≤ 200009 := by rw [ofL_size, Sg.enc_len]; omega
      have HE := Lib.hid (show ofL (Sg.encs (l.take k)) ++ ofL (Sg.enc x) = ofL (Sg.encs (l.take (k + 1))) by rw [HEN.out, ofL_app])
      generalize ofL (Sg.encs (l.take k)) = q1 at *
      generalize ofL (Sg.enc x) = q2 at *
      go_wp2_with fail
      refine (HO.out _).mono ?_
      rintro y w4 ⟨rfl, b4⟩
      have HB4 := Lib.hid (bthen HB.out b4 (Nat.le_refl _))
      clear b4
      go_wp2_with fail
      go_roundg (gk - 1)
      case rel => exact ⟨k + 1, by have := HK.out; omega, by go_num, by rw [← HE.out], fun r hr => (HTK.out r hr).elim (HG.out r) (fun e => e ▸ Sg.rcode_good.1 HX.out), HB4.out⟩
      case measure => have := HK.out; omega
    · have e : l.take k = l := List.take_of_length_le (by omega)
      rw [e] at HG ⊢
      have HV := Lib.hid (show sbytesV l = .tuple #[.string (ofL (Sg.encs l)), .int .i64 0] by unfold sbytesV; rw [if_pos (bcode_zero HG.out)])
      clear e
      go_wp2_with fail
      go_ret2
      exact ⟨by rw [HV.out]; rfl, HB.out⟩
end Go.Proofs.YtpdgadohfhmcnaaDoor
