/-
  THE RECORD AT THE FRONT of bytes: the program's Next.
-/
import Derived.Test.YtpdgadohfhmcnaaDoorSgC
namespace Go.Proofs.YtpdgadohfhmcnaaDoor
open Go.ChangeShapes Go.WideShapes Go.ChangeAt Go.RowKit

/-! ### what is read -/
def nS1 (l : List UInt8) : LSt := lRaw (l, 0) 4
def nL (l : List UInt8) : Nat := Oct.val (lOut l 4)
def nC (l : List UInt8) : Nat := if nL l = 0 then 15 else if 131072 < nL l then 5 else 0
def nS2 (l : List UInt8) : LSt := lFail (nS1 l) (nC l : Int)
def nS3 (l : List UInt8) : LSt := lRaw (nS2 l) (nL l)
def nS4 (l : List UInt8) : LSt := lRaw (nS3 l) 4
def nS5 (l : List UInt8) : LSt := lRaw (nS4 l) 1
theorem nok1 (l : List UInt8) : lOk (nS1 l) := lOk_raw (lOk_new l) 4
theorem nok2 (l : List UInt8) : lOk (nS2 l) := lOk_fail (nok1 l) _
theorem nok3 (l : List UInt8) : lOk (nS3 l) := lOk_raw (nok2 l) _
theorem nok4 (l : List UInt8) : lOk (nS4 l) := lOk_raw (nok3 l) 4
theorem n_err2 {l : List UInt8} {e : Int} (h : (nS2 l).2 = e) (he : e ≠ 0) : (nS5 l).2 = e := by
  have h3 : nS3 l = nS2 l := lRaw_err (nok2 l) (by rw [h]; exact he) _
  have h4 : nS4 l = nS3 l := lRaw_err (nok3 l) (by rw [h3, h]; exact he) _
  have h5 : nS5 l = nS4 l := lRaw_err (nok4 l) (by rw [h4, h3, h]; exact he) _
  rw [h5, h4, h3, h]
structure NxOk (l : List UInt8) : Prop where
  lo : Sg.len4 l + 9 ≤ l.length
  nz : 0 < Sg.len4 l
  hi : Sg.len4 l ≤ 131072
  e5 : (nS5 l).2 = 0
  ln : nL l = Sg.len4 l
  rd : lOut (nS2 l).1 (nL l) = Sg.rc l
  sm : Oct.val (lOut (nS3 l).1 4) = Oct.val ((l.drop (Sg.len4 l + 4)).take 4)
  en : Oct.val (lOut (nS4 l).1 1) = (l.getD (Sg.len4 l + 8) 0).toNat
theorem nL_of {l : List UInt8} (h : 4 ≤ l.length) : nL l = Sg.len4 l := by unfold nL Sg.len4; rw [lOut_of h]
theorem nS1_of {l : List UInt8} (h : 4 ≤ l.length) : nS1 l = (l.drop 4, 0) := lRaw_of h
theorem n_err {l : List UInt8} (h : Sg.code l = 3 ∨ Sg.code l = 15 ∨ Sg.code l = 5) : (nS5 l).2 = (Sg.code l : Int) := by
  by_cases h4 : l.length < 4
  · have hc : Sg.code l = 3 := by unfold Sg.code; rw [if_pos h4]
    have h1 : nS1 l = ([], 3) := lRaw_short h4
    refine n_err2 ?_ (by omega)
    rw [hc]
    unfold nS2 lFail
    rw [h1]
    rw [if_pos (.inr (by decide))]; rfl
  · have hl := nL_of (l := l) (by omega)
    have h1 := nS1_of (l := l) (by omega)
    by_cases h0 : Sg.len4 l = 0
    · have hc : Sg.code l = 15 := by unfold Sg.code; rw [if_neg h4, if_pos h0]
      refine n_err2 ?_ (by omega)
      unfold nS2 nC lFail
      rw [h1, hl, if_pos h0, if_neg (by simp), hc]
    · by_cases h5 : 131072 < Sg.len4 l
      · have hc : Sg.code l = 5 := by unfold Sg.code; rw [if_neg h4, if_neg h0, if_pos h5]
        refine n_err2 ?_ (by omega)
        unfold nS2 nC lFail
        rw [h1, hl, if_neg h0, if_pos h5, if_neg (by simp), hc]
      · have h9 : l.length < Sg.len4 l + 9 := by
          rcases Nat.lt_or_ge l.length (Sg.len4 l + 9) with hlt | hge
          · exact hlt
          · exfalso
            unfold Sg.code at h
            rw [if_neg h4, if_neg h0, if_neg h5, if_neg (by omega)] at h
            split at h
            · omega
            · split at h <;> omega
        have hc : Sg.code l = 3 := by unfold Sg.code; rw [if_neg h4, if_neg h0, if_neg h5, if_pos h9]
        have h2 : nS2 l = (l.drop 4, 0) := by unfold nS2 nC lFail; rw [h1, hl, if_neg h0, if_neg h5, if_pos (.inl rfl)]
        rw [hc]
        unfold nS5 nS4 nS3
        rw [h2, hl]
        by_cases ha : (l.drop 4).length < Sg.len4 l
        · rw [lRaw_short ha, lRaw_err (fun _ => rfl) (by decide), lRaw_err (fun _ => rfl) (by decide)]; rfl
        · rw [lRaw_of (r := l.drop 4) (n := Sg.len4 l) (by omega), List.drop_drop]
          by_cases hb : (l.drop (4 + Sg.len4 l)).length < 4
          · rw [lRaw_short hb, lRaw_err (fun _ => rfl) (by decide)]; rfl
          · rw [lRaw_of (r := l.drop (4 + Sg.len4 l)) (n := 4) (by omega), lRaw_short (by simp only [List.length_drop] at hb ⊢; omega)]; rfl
theorem n_ok {l : List UInt8} (h3 : Sg.code l ≠ 3) (h15 : Sg.code l ≠ 15) (h5 : Sg.code l ≠ 5) : NxOk l := by
  have h4 : ¬ l.length < 4 := fun h => h3 (by unfold Sg.code; rw [if_pos h])
  have h0 : ¬ Sg.len4 l = 0 := fun h => h15 (by unfold Sg.code; rw [if_neg h4, if_pos h])
  have hh : ¬ 131072 < Sg.len4 l := fun h => h5 (by unfold Sg.code; rw [if_neg h4, if_neg h0, if_pos h])
  have h9 : ¬ l.length < Sg.len4 l + 9 := fun h => h3 (by unfold Sg.code; rw [if_neg h4, if_neg h0, if_neg hh, if_pos h])
  have hl := nL_of (l := l) (by omega)
  have h1 := nS1_of (l := l) (by omega)
  have h2 : nS2 l = (l.drop 4, 0) := by unfold nS2 nC lFail; rw [h1, hl, if_neg h0, if_neg hh, if_pos (.inl rfl)]
  have hs3 : nS3 l = (l.drop (Sg.len4 l + 4), 0) := by unfold nS3; rw [h2, hl, lRaw_of (by rw [List.length_drop]; omega), List.drop_drop, Nat.add_comm]
  have hs4 : nS4 l = (l.drop (Sg.len4 l + 8), 0) := by unfold nS4; rw [hs3, lRaw_of (by rw [List.length_drop]; omega), List.drop_drop]
  have hs5 : nS5 l = (l.drop (Sg.len4 l + 9), 0) := by unfold nS5; rw [hs4, lRaw_of (by rw [List.length_drop]; omega), List.drop_drop]
  refine ⟨by omega, by omega, by omega, by rw [hs5], hl, ?_, ?_, ?_⟩
  · rw [h2, hl, lOut_of (by rw [List.length_drop]; omega)]; rfl
  · rw [hs3, lOut_of (by rw [List.length_drop]; omega)]
  · rw [hs4, lOut_of (by rw [List.length_drop]; omega), List.take_one]
    have : (l.drop (Sg.len4 l + 8)).head? = some (l.getD (Sg.len4 l + 8) 0) := by
      rw [List.head?_drop, List.getD_eq_getElem?_getD, List.getElem?_eq_getElem (by omega)]; rfl
    rw [this]
    simp [Oct.val]
/-- what seg.Next answers -/
def snextV (l : List UInt8) : Value := if Sg.code l = 0 then .tuple #[.string (ofL (Sg.rc l)), .int .i64 ((Sg.len4 l + 9 : Nat) : Int), .int .i64 0] else .tuple #[.string ⟨#[]⟩, .int .i64 0, .int .i64 (Sg.code l : Int)]
theorem ncode_of {l : List UInt8} (h : NxOk l) : Sg.code l = if l.getD (Sg.len4 l + 8) 0 ≠ 165 then 4 else if Oct.val ((l.drop (Sg.len4 l + 4)).take 4) ≠ Crc.sum (l.take (Sg.len4 l + 4)) then 14 else 0 := by
  have h1 := h.lo
  have h2 := h.nz
  have h3 := h.hi
  conv => lhs; unfold Sg.code
  rw [if_neg (by omega), if_neg (by omega), if_neg (by omega), if_neg (by omega)]
/-- while a record is read -/
structure NxS (w : World) (s : LSt) (wr : World) : Prop where
  inl : InL w.heap.size s wr
  below : Below w.heap.size w wr
theorem NxS.call {w : World} {s s' : LSt} {wr w' : World} (h : NxS w s wr) (h1 : InL w.heap.size s' w') (g : wr.grownBy w' (some w.heap.size)) : NxS w s' w' :=
  ⟨h1, below_in h.below g h.below.size (Nat.le_refl _)⟩
set_option maxRecDepth 100000 in
set_option maxHeartbeats 8000000 in
theorem sgNext_any (l : List UInt8) (w : World) (hl : l.length ≤ 1000000) (hT : Tab w) :
    Calls Tryd.prog 16 #[.string (ofL l)] w fun e w' => e = .returned (snextV l) ∧ Below w.heap.size w w' := by
  have hz : (ofL l).size = l.length := ofL_size l
  have HT := Lib.hid hT
  have HN := Lib.hid (inew_l l w)
  have C1 := Lib.hid (fun W h => inum_l w.heap.size (l, 0) 4 4 W (by omega) rfl h (lOk_new l))
  have C2 := Lib.hid (fun W => sgCheck_any (nL l) W)
  have C3 := Lib.hid (fun W h => ifail_l w.heap.size (nS1 l) (nC l : Int) W h)
  have C4 := Lib.hid (fun W h => iraw_l w.heap.size (nS2 l) (nL l) ((nL l : Nat) : Int) W rfl h (nok2 l))
  have C5 := Lib.hid (fun W h => inum_l w.heap.size (nS3 l) 4 4 W (by omega) rfl h (nok3 l))
  have C6 := Lib.hid (fun W h => inum_l w.heap.size (nS4 l) 1 1 W (by omega) rfl h (nok4 l))
  have C7 := Lib.hid (fun W h => ierr_l w.heap.size (nS5 l) W h)
  rw [show lRaw (l, 0) 4 = nS1 l from rfl, show Oct.val (lOut (l, (0 : Int)).1 4) = nL l from rfl] at C1
  rw [show (if nL l = 0 then 15 else if 131072 < nL l then 5 else 0) = nC l from rfl] at C2
  rw [show lFail (nS1 l) (nC l : Int) = nS2 l from rfl] at C3
  rw [show lRaw (nS2 l) (nL l) = nS3 l from rfl] at C4
  rw [show lRaw (nS3 l) 4 = nS4 l from rfl] at C5
  rw [show lRaw (nS4 l) 1 = nS5 l from rfl] at C6
  have hERR := Lib.hid (show Sg.code l = 3 ∨ Sg.code l = 15 ∨ Sg.code l = 5 → (nS5 l).2 = (Sg.code l : Int) from n_err)
  have hOK := Lib.hid (show Sg.code l ≠ 3 → Sg.code l ≠ 15 → Sg.code l ≠ 5 → NxOk l from n_ok)
  have b1 : nL l < 256 ^ 4 := val_out_lt l 4
  have hcv : IntKind.i64.wrap ((nL l : Nat) : Int) = ((nL l : Nat) : Int) := by rw [IntKind.wrap_i64]; omega
  generalize hn1 : nL l = n1 at *
  generalize hn5 : Oct.val (lOut (nS3 l).1 4) = n5 at *
  generalize hn6 : Oct.val (lOut (nS4 l).1 1) = n6 at *
  generalize hbd : lOut (nS2 l).1 n1 = bd at *
  have N1 := Lib.hid hn1
  have N5 := Lib.hid hn5
  have N6 := Lib.hid hn6
  have ND := Lib.hid hbd
  clear hn1 hn5 hn6 hbd hT b1
  go_enter Tryd.func16, Tryd.ntmps16
  go_wp2_with fail
  refine HN.out.mono ?_
  rintro x w0 ⟨rfl, h0, b0⟩
  have HS0 := Lib.hid (show NxS w (l, 0) w0 from ⟨h0, b0⟩)
  clear h0 b0
  go_wp2_with fail
  refine (C1.out _ HS0.out.inl).mono ?_
  rintro x w1 ⟨rfl, h1, g1⟩
  have HS1 := Lib.hid (HS0.out.call h1 g1)
  clear h1 g1
  go_wp2_with fail
  refine (C2.out _).mono ?_
  rintro x w1b ⟨rfl, rfl⟩
  go_wp2_with fail
  refine (C3.out _ HS1.out.inl).mono ?_
  rintro x w2 ⟨rfl, h1, g1⟩
  have HS2 := Lib.hid (HS1.out.call h1 g1)
  clear h1 g1
  go_wp2_with fail
  refine (C4.out _ HS2.out.inl).mono ?_
  rintro x w3 ⟨rfl, h1, g1⟩
  have HS3 := Lib.hid (HS2.out.call h1 g1)
  clear h1 g1
  go_wp2_with fail
  refine (C5.out _ HS3.out.inl).mono ?_
  rintro x w4 ⟨rfl, h1, g1⟩
  have HS4 := Lib.hid (HS3.out.call h1 g1)
  clear h1 g1
  go_wp2_with fail
  refine (C6.out _ HS4.out.inl).mono ?_
  rintro x w5 ⟨rfl, h1, g1⟩
  have HS5 := Lib.hid (HS4.out.call h1 g1)
  clear h1 g1 hcv
  go_wp2_with fail
  refine (C7.out _ HS5.out.inl).mono ?_
  rintro x w6 ⟨rfl, rfl⟩
  have HB := Lib.hid HS5.out.below
  by_cases hE : Sg.code l = 3 ∨ Sg.code l = 15 ∨ Sg.code l = 5
  · have hv : snextV l = .tuple #[.string ⟨#[]⟩, .int .i64 0, .int .i64 (Sg.code l : Int)] := if_neg (by omega)
    have he := hERR.out hE
    have k0 : ((nS5 l).2 != 0) = true := by rw [he, bne_iff_ne]; omega
    have HV := Lib.hid hv
    have HE := Lib.hid he
    clear hv he hE
    go_wp2_with fail
    go_ret3
    exact ⟨by rw [HV.out, ← HE.out]; rfl, HB.out⟩
  · have hR := hOK.out (by omega) (by omega) (by omega)
    have hc := ncode_of hR
    have k0 : ((nS5 l).2 != 0) = false := by rw [hR.e5]; rfl
    have HR := Lib.hid hR
    have en : n6 = (l.getD (Sg.len4 l + 8) 0).toNat := by rw [← N6.out]; exact hR.en
    have hbdq : bd = Sg.rc l := by rw [← ND.out, ← N1.out]; exact hR.rd
    clear hE
    by_cases h165 : l.getD (Sg.len4 l + 8) 0 ≠ 165
    · rw [if_pos h165] at hc
      have hv : snextV l = .tuple #[.string ⟨#[]⟩, .int .i64 0, .int .i64 4] := by unfold snextV; rw [if_neg (by omega), hc]; rfl
      have k1 : ((n6 : Int) != 165) = true := by
        rw [bne_iff_ne]
        intro h
        apply h165
        apply UInt8.toNat_inj.1
        show _ = 165
        omega
      have HV := Lib.hid hv
      clear hv hc h165 en hR hbdq
      go_wp2_with fail
      go_ret3
      exact ⟨by rw [HV.out]; rfl, HB.out⟩
    · rw [if_neg h165] at hc
      have k1 : ((n6 : Int) != 165) = false := by
        have h2 : l.getD (Sg.len4 l + 8) 0 = 165 := by
          rcases Decidable.em (l.getD (Sg.len4 l + 8) 0 = 165) with h | h
          · exact h
          · exact absurd h h165
        have h3 : n6 = 165 := by rw [en, h2]; rfl
        rw [h3]; rfl
      have hn5 : n5 = Oct.val ((l.drop (Sg.len4 l + 4)).take 4) := by rw [← N5.out]; exact hR.sm
      have hsl := fun W => slice_to_l (P := Tryd.prog) Tryd.underlying9 l .i64 4 4 rfl (by have := hR.lo; omega) W
      have hcat : (ofL (l.take 4)).data.toList ++ (ofL bd).data.toList = l.take (Sg.len4 l + 4) := by
        rw [toList_ofL, toList_ofL, hbdq]
        unfold Sg.rc
        rw [Nat.add_comm, List.take_add]
      have HSUM := Lib.hid (fun W g h h0 h1 => sum_twoB (ofL (l.take 4)) (ofL bd) g 2 W (by rw [ofL_size, List.length_take]; omega) (by rw [ofL_size, hbdq]; unfold Sg.rc; rw [List.length_take]; have := hR.hi; omega) h h0 h1)
      rw [hcat] at HSUM
      have hslt := Crc.sum_lt (l.take (Sg.len4 l + 4))
      have hcw : IntKind.u64.wrap ((Crc.sum (l.take (Sg.len4 l + 4)) : Nat) : Int) = ((Crc.sum (l.take (Sg.len4 l + 4)) : Nat) : Int) := by rw [IntKind.wrap_u64]; omega
      have HSZ := Lib.hid (fun W => sgSize_any bd W (by rw [hbdq]; unfold Sg.rc; rw [List.length_take]; have := hR.hi; omega))
      have hbl : bd.length = Sg.len4 l := by rw [hbdq]; unfold Sg.rc; rw [List.length_take, List.length_drop]; have := hR.lo; omega
      rw [hbl] at HSZ
      rw [← hn5] at hc
      have HBQ := Lib.hid hbdq
      generalize Crc.sum (l.take (Sg.len4 l + 4)) = S at *
      have HB2 := Lib.hid (fun o => HB.out.alloc HB.out.size o)
      by_cases hs : n5 ≠ S
      · rw [if_pos hs] at hc
        have hv : snextV l = .tuple #[.string ⟨#[]⟩, .int .i64 0, .int .i64 14] := by unfold snextV; rw [if_neg (by omega), hc]; rfl
        have k2 : ((n5 : Int) != (S : Int)) = true := by rw [bne_iff_ne]; omega
        have HV := Lib.hid hv
        clear hv hc h165 en hR hbdq hn5 hcat hs hbl hslt
        go_wp2_with fail
        refine (HSUM.out _ _ ((HT.out.below HB.out HT.out.pos).alloc _) (cell_new _ _ _ _ _ rfl) (cell_new _ _ _ _ _ rfl)).mono ?_
        rintro x w7 ⟨rfl, rfl⟩
        go_wp2_with fail
        go_ret3
        exact ⟨by rw [HV.out]; rfl, HB2.out _⟩
      · rw [if_neg hs] at hc
        have hv : snextV l = .tuple #[.string (ofL bd), .int .i64 ((Sg.len4 l + 9 : Nat) : Int), .int .i64 0] := by unfold snextV; rw [if_pos hc, hbdq]
        have k2 : ((n5 : Int) != (S : Int)) = false := by rw [show n5 = S by omega]; simp
        have HV := Lib.hid hv
        clear hv hc h165 en hR hbdq hn5 hcat hs hbl hslt
        go_wp2_with fail
        refine (HSUM.out _ _ ((HT.out.below HB.out HT.out.pos).alloc _) (cell_new _ _ _ _ _ rfl) (cell_new _ _ _ _ _ rfl)).mono ?_
        rintro x w7 ⟨rfl, rfl⟩
        go_wp2_with fail
        refine (HSZ.out _).mono ?_
        rintro x w8 ⟨rfl, rfl⟩
        go_wp2_with fail
        go_ret3
        exact ⟨by rw [HV.out]; rfl, HB2.out _⟩
end Go.Proofs.YtpdgadohfhmcnaaDoor
