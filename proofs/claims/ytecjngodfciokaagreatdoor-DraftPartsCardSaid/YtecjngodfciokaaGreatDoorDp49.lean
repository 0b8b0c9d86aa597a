/-
  THE LAW DraftParts: walked.
-/
import Derived.Test.YtecjngodfciokaaGreatDoorDp45
import Derived.Test.YtecjngodfciokaaGreatDoorDp48

section
namespace Go.Proofs.YtecjngodfciokaaGreatDoor
open Go.ChangeShapes Go.WideShapes Go.ChangeAt Go.RowKit
set_option maxRecDepth 100000 in
set_option maxHeartbeats 32000000 in
theorem draftParts_walk (A0 : Option Addr) (c0 : Nat) (l : List Dp) (A1 : Option Addr) (c1 : Nat) (more : List Dp) (T : Nat) (w : World) (hl : l.length ≤ 9223372036854775807) (hI : Din w A0 l) (hm : more.length ≤ 9223372036854775807) (hJ : Din w A1 more) (hT : T < 18446744073709551616) (hL : Len w) :
    Calls Tryz.prog 4 #[.slice A0 l.length c0, .slice A1 more.length c1, .int .u64 (T : Int)] w fun e w' => e = .returned (.bool true) ∧ Below w.heap.size w w' := by
  have HAW := Lib.hid (fun W g => awake26_any W g)
  have HLI := Lib.hid (fun W g => law23Light_any l A0 c0 W hl g)
  have HLM := Lib.hid (fun W g => law23Light_any more A1 c1 W hm g)
  have HI := Lib.hid hI
  have HJ := Lib.hid hJ
  have HT := Lib.hid hT
  have HL0 := Lib.hid hL
  clear hI hJ hT hL hl hm
  go_enter Tryz.func4, Tryz.ntmps4
  go_wp2_with fail
  refine (HAW.out _ HL0.out).mono ?_
  rintro e w1 ⟨rfl, b1⟩
  have HB1 := Lib.hid b1
  clear b1
  cases h1 : dsLight l with
  | false =>
    rw [h1] at HLI
    clear h1
    go_wp2_with fail
    refine (HLI.out _ (din_on HI.out HB1.out)).mono ?_
    rintro e w2 ⟨rfl, b2⟩
    have HB2 := Lib.hid (bthen HB1.out b2 (Nat.le_refl _))
    clear b2
    go_wp2_with fail
    go_ret
    exact ⟨rfl, HB2.out⟩
  | true =>
    have hl1 := dsLight_yes h1
    rw [h1] at HLI
    clear h1
    go_wp2_with fail
    refine (HLI.out _ (din_on HI.out HB1.out)).mono ?_
    rintro e w2 ⟨rfl, b2⟩
    have HB2 := Lib.hid (bthen HB1.out b2 (Nat.le_refl _))
    clear b2
    cases h2 : dsLight more with
    | false =>
      rw [h2] at HLM
      clear h2 hl1
      go_wp2_with fail
      refine (HLM.out _ (din_on HJ.out HB2.out)).mono ?_
      rintro e w3 ⟨rfl, b3⟩
      have HB3 := Lib.hid (bthen HB2.out b3 (Nat.le_refl _))
      clear b3
      go_wp2_with fail
      go_ret
      exact ⟨rfl, HB3.out⟩
    | true =>
      have hl2 := dsLight_yes h2
      rw [h2] at HLM
      clear h2
      go_wp2_with fail
      refine (HLM.out _ (din_on HJ.out HB2.out)).mono ?_
      rintro e w3 ⟨rfl, b3⟩
      have HB3 := Lib.hid (bthen HB2.out b3 (Nat.le_refl _))
      clear b3
      have HDI := Lib.hid (dps_of_din HI.out hl1.2)
      have HDJ := Lib.hid (dps_of_din HJ.out hl2.2)
      have HGI := Lib.hid (good_of HI.out hl1.2)
      have HGJ := Lib.hid (good_of HJ.out hl2.2)
      have HN1 := Lib.hid hl1.1
      have HN2 := Lib.hid hl2.1
      clear hl1 hl2 HB1 HB2 HLI HLM HAW
      go_wp2_with fail
      refine (drAdd0_any l A0 c0 _ (HDI.out.on HB3.out) (by have := HN1.out; omega) (HL0.out.on HB3.out)).mono ?_
      rintro e w4 (⟨hne, rfl, b4⟩ | ⟨h0, A', c', mm, rfl, hc', h16, hmm, hD, hIn, b4⟩)
      · have HB4 := Lib.hid (bthen HB3.out b4 (Nat.le_refl _))
        clear b4
        generalize Dr.addN [] (l.map Dp.x) = N1 at *
        have hb : ((N1 : Int) != 0) = true := by simp; omega
        clear hne
        have HE5 := Lib.hid (BoxC.new (w := w4) (W := w4) (Nat.le_refl _) #[.slice none 0 0] 27)
        have HB5 := Lib.hid (bthen HB4.out (rtOne w4 (.cells #[.slice none 0 0] 27)) (Nat.le_refl _))
        go_upto_region 6 with fail
        generalize w4.alloc (.cells #[.slice none 0 0] 27) = W5 at *
        have x0 := HE5.out.cs 0 _ rfl
        have xl := HE5.out.lt
        go_wp2_with fail
        refine (drLen_any none 0 0 _).mono ?_
        rintro e w6 ⟨rfl, b6⟩
        have HB6 := Lib.hid (bthen HB5.out b6 (Nat.le_refl _))
        clear b6
        go_wp2_with fail
        go_ret
        exact ⟨rfl, HB6.out⟩
      · have HB4 := Lib.hid (bthen HB3.out b4 (Nat.le_refl _))
        have HC := Lib.hid hc'
        have H16 := Lib.hid h16
        have HMM := Lib.hid hmm
        have H0 := Lib.hid h0
        have HE5 := Lib.hid (BoxC.new (w := w) (W := w4) HB4.out.size #[.slice A' mm.length c'] 27)
        have HX5 := rtOne w4 (.cells #[.slice A' mm.length c'] 27)
        have HB5 := Lib.hid (bthen HB4.out HX5 (Nat.le_refl _))
        have HD5 := Lib.hid (hD.on HX5)
        have HIN5 := Lib.hid (hIn.mono HX5.size)
        clear b4 hc' h16 hmm h0 hD hIn HX5
        generalize hg5 : w4.heap.size = g5 at *
        go_upto_region 6 with fail
        try rw [hg5]
        generalize w4.alloc (.cells #[.slice A' mm.length c'] 27) = W5 at *
        have x0 := HE5.out.cs 0 _ rfl
        have xl := HE5.out.lt
        go_wp2_with fail
        refine (drAddI_any mm more A' c' A1 c1 _ HC.out HD5.out HIN5.out (HDJ.out.on HB5.out) H16.out (by have := HN2.out; omega) (HL0.out.on HB5.out)).mono ?_
        intro e w6 h6
        obtain ⟨my, AY, cY, rfl, hmy, hy16, hDy, b6⟩ := addI_flat h6 HD5.out H16.out HMM.out
        have hAN := Dr.addN_append [] (l.map Dp.x) (more.map Dp.x)
        rw [if_neg (by rw [H0.out]; simp), List.nil_append] at hAN
        have hG6 : Good (my.map Dp.x) := by
          rw [hmy]
          split
          · exact good_append (good_own HGI.out) (good_own HGJ.out)
          · exact good_own HGI.out
        have HGY := Lib.hid hG6
        have HMY := Lib.hid hmy
        have HY16 := Lib.hid hy16
        have HAN := Lib.hid hAN
        have hB6 := bthen HB5.out b6 (Nat.le_refl _)
        have HE7 := Lib.hid (BoxC.new (w := w) (W := w6) hB6.size #[.slice AY my.length cY] 27)
        have HX7 := rtOne w6 (.cells #[.slice AY my.length cY] 27)
        have HB7 := Lib.hid (bthen hB6 HX7 (Nat.le_refl _))
        have HDY := Lib.hid (hDy.on HX7)
        clear h6 hmy hy16 hDy b6 hAN hG6 hB6 HX7 x0 xl HIN5 HD5 HE5 HC H16 HMM
        generalize hF : Dr.addN (List.map Dr.own (l.map Dp.x)) (more.map Dp.x) = F at *
        clear hF
        generalize hg7 : w6.heap.size = g7 at *
        go_upto_region 9 with fail
        try rw [hg7]
        generalize w6.alloc (.cells #[.slice AY my.length cY] 27) = w7 at *
        obtain ⟨iD, hiD, hzD, hsD, hbD⟩ := info_parts infoDe
        have hB8 := rtOne w7 (.cells #[] 39)
        have hown8 := World.ownsRow_made (e := 39) (size := 29) w7 #[] 0 (Nat.le_refl _) (by unfold maxLen; omega) rfl
        have hs8 : (w7.alloc (.cells #[] 39)).heap.size = w7.heap.size + 1 := by simp
        obtain ⟨v9, w9, hr9, ho9, hg9, -⟩ := appAny_run (P := Tryz.prog) (W := w7.alloc (.cells #[] 39)) 22 39 iD _ 29 344 Tryz.underlying22 hiD hzD hsD hbD (by rfl) (by decide) (by decide) hown8 (A := A0) (n := l.length) (c := c0) ((HDI.out.on (bthen HB7.out hB8 (Nat.le_refl _))).row) (dps_len _) (dps_one l) (by have := HN1.out; omega) (by omega)
        have hb9 := hB8.grown hg9 (by omega) (fun k hk => (hown8.lt k hk).1)
        rw [Nat.zero_add, List.nil_append] at ho9
        obtain ⟨v10, w10, hr10, ho10, hg10, -⟩ := appAny_run (P := Tryz.prog) (W := w9) 22 39 iD _ 29 344 Tryz.underlying22 hiD hzD hsD hbD (by rfl) (by decide) (by decide) ho9 (A := A1) (n := more.length) (c := c1) ((HDJ.out.on (bthen HB7.out hb9 (Nat.le_refl _))).row) (dps_len _) (dps_one more) (by have := HN1.out; have := HN2.out; omega) hb9.size
        have hb10 := hb9.grown hg10 hb9.size (fun k hk => (ho9.lt k hk).1)
        have HB10 := Lib.hid (bthen HB7.out hb10 (Nat.le_refl _))
        have HE10 := Lib.hid (HE7.out.on hb10)
        have HDY10 := Lib.hid (HDY.out.on hb10)
        obtain ⟨A9, c9, rfl, -, -, -, -⟩ := Rws.of_own ho9
        obtain ⟨A10, c10, rfl, -, -, hrow10, -⟩ := Rws.of_own ho10
        have HD10 := Lib.hid (show Dps w10 A10 (l ++ more) from ⟨by rw [List.flatMap_append]; exact hrow10, fun p hp => by
          rcases List.mem_append.1 hp with hp | hp
          · exact (HDI.out.on HB10.out).ok p hp
          · exact (HDJ.out.on HB10.out).ok p hp⟩)
        have HR9 := Lib.hid hr9
        have HR10 := Lib.hid hr10
        have HA3 := Lib.hid (fun W h1 h2 => drAdd0_any (l ++ more) A10 c10 W h1 (by rw [List.length_append]; have := HN1.out; have := HN2.out; omega) h2)
        rw [List.length_append] at HA3
        clear hB8 hown8 hs8 hr9 ho9 hg9 hb9 hr10 ho10 hg10 hb10 hrow10 hiD hzD hsD hbD
        go_wp2_with (first
          | (at_builtin; refine wpList_append_run (by rfl) _ _ 22 (by rfl) _ _ (by rfl) (by rfl) HR9.out ?_)
          | (at_builtin; refine wpList_append_run (by rfl) _ _ 22 (by rfl) _ _ (by rfl) (by rfl) HR10.out ?_))
        refine (HA3.out _ HD10.out (HL0.out.on HB10.out)).mono ?_
        intro e w11 h11
        obtain ⟨mz, AZ, cZ, rfl, hmz, hz16, hDz, b11⟩ := add0_flat h11
        have hz2 : Dr.addN [] ((l ++ more).map Dp.x) = F := by rw [List.map_append]; exact HAN.out
        rw [hz2] at hmz
        rw [hz2]
        have hG11 : Good (mz.map Dp.x) := by
          rw [hmz]
          split
          · rw [List.map_append, List.map_append]; exact good_append (good_own HGI.out) (good_own HGJ.out)
          · exact good_nil
        have HGZ := Lib.hid hG11
        have HMZ := Lib.hid hmz
        have HZ16 := Lib.hid hz16
        have hB11 := bthen HB10.out b11 (Nat.le_refl _)
        have HE12 := Lib.hid (BoxC.new (w := w) (W := w11) hB11.size #[.slice AZ mz.length cZ] 27)
        have HX12 := rtOne w11 (.cells #[.slice AZ mz.length cZ] 27)
        have HB12 := Lib.hid (bthen hB11 HX12 (Nat.le_refl _))
        have HDZ := Lib.hid (hDz.on HX12)
        have HEY := Lib.hid ((HE10.out.on b11).on HX12)
        have HDY12 := Lib.hid ((HDY10.out.on b11).on HX12)
        clear h11 hmz hz16 hDz b11 hz2 hG11 hB11 HX12 HA3 HE10 HDY10 HR9 HR10 HD10
        have hff : ((F : Int) != (F : Int)) = false := by simp
        generalize hg12 : w11.heap.size = g12 at *
        go_upto_region 10 with fail
        try rw [hg12]
        generalize w11.alloc (.cells #[.slice AZ mz.length cZ] 27) = w12 at *
        have y0 := HEY.out.cs 0 _ rfl
        have yl := HEY.out.lt
        go_wp2_with fail
        refine (drAtG_any T AY cY my _ HDY12.out HY16.out HT.out (good_due HGY.out rfl)).mono ?_
        rintro e w13 ⟨Aq, cq, q1, rfl, hcq, hq1, hDq, b13⟩
        have hl1 : q1.length ≤ 100000 := by
          have h := congrArg List.length hq1
          simp only [List.length_map] at h
          have := HY16.out
          omega
        have hga := good_at HT.out HGY.out
        have HALL1 := Lib.hid (fun W h => law22All_any q1 Aq cq W hl1 h)
        have hlt1 := good_all hga hq1
        have HDN1 := Lib.hid (good_din hDq hga hq1)
        have HQ1 := Lib.hid hq1
        have HB13 := Lib.hid (bthen HB12.out b13 (Nat.le_refl _))
        have HEZ13 := Lib.hid (HE12.out.on b13)
        have HEY13 := Lib.hid (HEY.out.on b13)
        have HDZ13 := Lib.hid (HDZ.out.on b13)
        have HDY13 := Lib.hid (HDY12.out.on b13)
        clear hcq hq1 hDq b13 hl1 hga y0 yl
        go_wp2_with fail
        refine (HALL1.out _ HDN1.out).mono ?_
        rintro e w14 ⟨A2, c2, q2, rfl, hc2, hq2, hD2, b14⟩
        rw [hlt1]
        have HQ2 := Lib.hid ((hq2 hlt1).trans HQ1.out)
        have HD2 := Lib.hid hD2
        have HB14 := Lib.hid (bthen HB13.out b14 (Nat.le_refl _))
        have HEZ14 := Lib.hid (HEZ13.out.on b14)
        have HEY14 := Lib.hid (HEY13.out.on b14)
        have HDZ14 := Lib.hid (HDZ13.out.on b14)
        clear hc2 hq2 hD2 b14 hlt1
        have z0 := HEZ14.out.cs 0 _ rfl
        have zl := HEZ14.out.lt
        go_wp2_with fail
        refine (drAtG_any T AZ cZ mz _ HDZ14.out HZ16.out HT.out (good_due HGZ.out rfl)).mono ?_
        rintro e w15 ⟨Ar, cr, q3, rfl, hcr, hq3, hDr, b15⟩
        have hl3 : q3.length ≤ 100000 := by
          have h := congrArg List.length hq3
          simp only [List.length_map] at h
          have := HZ16.out
          omega
        have hgz := good_at HT.out HGZ.out
        have HALL3 := Lib.hid (fun W h => law22All_any q3 Ar cr W hl3 h)
        have hlt3 := good_all hgz hq3
        have HDN3 := Lib.hid (good_din hDr hgz hq3)
        have HQ3 := Lib.hid hq3
        have HB15 := Lib.hid (bthen HB14.out b15 (Nat.le_refl _))
        have HEZ15 := Lib.hid (HEZ14.out.on b15)
        have HEY15 := Lib.hid (HEY14.out.on b15)
        have HD215 := Lib.hid (HD2.out.on b15)
        clear hcr hq3 hDr b15 hl3 hgz z0 zl
        go_wp2_with fail
        refine (HALL3.out _ HDN3.out).mono ?_
        rintro e w16 ⟨A4, c4, q4, rfl, hc4, hq4, hD4, b16⟩
        rw [hlt3]
        have HQ4 := Lib.hid ((hq4 hlt3).trans HQ3.out)
        have HD4 := Lib.hid hD4
        have HB16 := Lib.hid (bthen HB15.out b16 (Nat.le_refl _))
        have HEZ16 := Lib.hid (HEZ15.out.on b16)
        have HEY16 := Lib.hid (HEY15.out.on b16)
        have HD216 := Lib.hid (HD215.out.on b16)
        clear hc4 hq4 hD4 b16 hlt3 HALL1 HALL3 HDN1 HDN3
        by_cases hF0 : F = 0
        · have hne : ((F : Int) != 0) = false := by rw [hF0]; rfl
          have heq : ((F : Int) == 0) = true := by rw [hF0]; rfl
          have hsame : dsSame q2 q4 = true := by
            unfold dsSame
            refine decide_eq_true ?_
            have h1 := HMY.out
            have h2 := HMZ.out
            rw [if_pos hF0] at h1 h2
            rw [HQ2.out, HQ4.out, h1, h2]
            simp only [List.map_append]
          have hn2 : q2.length ≤ 100000 := by
            have h := congrArg List.length HQ2.out
            simp only [List.length_map] at h
            have := HY16.out
            omega
          have hn4 : q4.length ≤ 100000 := by
            have h := congrArg List.length HQ4.out
            simp only [List.length_map] at h
            have := HZ16.out
            omega
          have HSA := Lib.hid (r22SameAll_any q2 q4 A2 c2 A4 c4 w16 hn2 hn4 HD216.out HD4.out)
          rw [hsame] at HSA
          clear hF0 hsame hn2 hn4
          go_wp2_with fail
          refine HSA.out.mono ?_
          rintro e w17 ⟨rfl, b17⟩
          have HB17 := Lib.hid (bthen HB16.out b17 (Nat.le_refl _))
          clear b17
          go_wp2_with fail
          go_ret
          exact ⟨rfl, HB17.out⟩
        · have hne : ((F : Int) != 0) = true := by simp; omega
          have heq : ((F : Int) == 0) = false := by simp; omega
          have hly : ((my.length : Int) == (l.length : Int)) = true := by
            have h1 := HMY.out
            rw [if_neg hF0] at h1
            have h := congrArg List.length h1
            simp only [List.length_map] at h
            simp
            omega
          have hlz : ((mz.length : Int) == 0) = true := by
            have h1 := HMZ.out
            rw [if_neg hF0] at h1
            have h := congrArg List.length h1
            simp only [List.length_map, List.length_nil] at h
            rw [h]
            rfl
          clear hF0
          have y0 := HEY16.out.cs 0 _ rfl
          have yl := HEY16.out.lt
          generalize my.length = ny at *
          generalize mz.length = nz at *
          generalize l.length = nl at *
          go_wp2_with fail
          refine (drLen_any AY ny cY _).mono ?_
          rintro e w17 ⟨rfl, b17⟩
          have HB17 := Lib.hid (bthen HB16.out b17 (Nat.le_refl _))
          have HEZ17 := Lib.hid (HEZ16.out.on b17)
          clear b17 y0 yl
          have z0 := HEZ17.out.cs 0 _ rfl
          have zl := HEZ17.out.lt
          go_wp2_with fail
          refine (drLen_any AZ nz cZ _).mono ?_
          rintro e w18 ⟨rfl, b18⟩
          have HB18 := Lib.hid (bthen HB17.out b18 (Nat.le_refl _))
          clear b18
          go_wp2_with fail
          go_ret
          exact ⟨rfl, HB18.out⟩
end Go.Proofs.YtecjngodfciokaaGreatDoor
end
