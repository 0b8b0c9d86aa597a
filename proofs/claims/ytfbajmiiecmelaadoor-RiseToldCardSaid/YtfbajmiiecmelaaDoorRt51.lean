/-
  THE LAW RiseTold, walked.
-/
import Derived.Test.YtfbajmiiecmelaaDoorRt46
import Derived.Test.YtfbajmiiecmelaaDoorRt50
import Derived.Deep.QuietTactic
import Derived.BigQuiet
section
namespace Go.Proofs.YtfbajmiiecmelaaDoor
open Go.ChangeShapes Go.WideShapes Go.ChangeAt Go.RowKit
set_option maxRecDepth 100000 in
set_option maxHeartbeats 16000000 in
theorem riseTold_walk (A0 A1 : Option Addr) (c0 c1 : Nat) (l : List Mp) (ak : List Nat) (w : World) (hl : l.length ≤ 9223372036854775807) (_hl1 : ak.length ≤ 9223372036854775807) (hA : MaRow w A0 l) (hB : U8s w A1 ak) (hL : Len w) :
    Calls Tryd.prog 3 #[.slice A0 l.length c0, .slice A1 ak.length c1] w fun e w' => e = .returned (.bool true) ∧ Below w.heap.size w w' := by
  have HA := Lib.hid hA
  have HAS := Lib.hid hB
  have HL := Lib.hid hL
  have HLi := Lib.hid (fun W h => light20_any A0 c0 l W hl h)
  have HAW := Lib.hid (awake20_any w hL)
  obtain ⟨iM, hiM, hzM0, hzM1, hzM2⟩ := info_parts infoMl
  clear hA hL hB
  go_enter Tryd.func3, Tryd.ntmps3
  go_wp2_with fail
  refine HAW.out.mono ?_
  rintro e w1 ⟨rfl, b1⟩
  have HB1 := Lib.hid b1
  have HA1 := Lib.hid (HA.out.on b1)
  clear b1
  go_wp2_with fail
  refine (HLi.out _ HA1.out).mono ?_
  rintro e w3 ⟨⟨rfl, hfew⟩ | rfl, b3⟩
  · have HB3 := Lib.hid (bthen HB1.out b3 (Nat.le_refl _))
    have hle1 := hfew.1
    have HFEW := Lib.hid hfew.2
    clear b3 hfew
    have HS := Lib.hid (RtIn.start w w3 HB3.out 28)
    have hge : w.heap.size ≤ w3.heap.size := HB3.out.size
    go_wp2_with fail
    go_loopg [6, 7, 8, 9] (l.length + 1) (fun g vg vt vl vk wr => RoSt w w3 l g vg vt vl vk wr)
    case atStart => exact ⟨0, 0, none, 0, [], [], [], by omega, rfl, rfl, HS.out, fun h => absurd h (by omega)⟩
    case round =>
      obtain ⟨k, t, A, c, kp, gs, ps, hk, rfl, rfl, hI, hend⟩ := hrel
      have HK := Lib.hid hk
      have HI := Lib.hid hI
      have HEND := Lib.hid hend
      clear hk hI hend
      generalize gk = gO at *
      by_cases hlt : k ≤ l.length
      · obtain ⟨Ag, cg, hvg, -⟩ := HI.out.gs
        obtain ⟨At, ct, hvt, -⟩ := HI.out.ps
        subst hvg
        subst hvt
        have hGk := rsG_le l k
        have hkn := HI.out.kx
        have hkl := congrArg List.length hkn
        rw [List.length_map, lastN_len] at hkl
        obtain ⟨G, hG⟩ : ∃ G, rsG l k = G := ⟨_, rfl⟩
        rw [hG] at HI hGk hkl ⊢
        have hkp1 : kp.length ≤ 16 := by omega
        have hkp2 : kp.length ≤ G.length := by omega
        have hkp3 : 0 < G.length → 0 < kp.length := by omega
        have HKP := Lib.hid hkl
        have HG := Lib.hid hG
        have htl := HI.out.le
        clear hkn hkl hG
        have HTO := Lib.hid (fun W => rsTotal_any G.length kp.length c A W)
        have e0 := HI.out.box.cs 0 _ rfl
        have e1 := HI.out.box.cs 1 _ rfl
        have el := HI.out.box.lt
        by_cases hkL : k < l.length
        · have hq1 : decide ((k : Int) < (l.length : Int)) = true := decide_eq_true (by omega)
          have hq2 : decide (k < l.length) = true := decide_eq_true hkL
          by_cases hka : k < ak.length
          · have hq3 : decide ((k : Int) < (ak.length : Int)) = true := decide_eq_true (by omega)
            have hq4 : decide (k < ak.length) = true := decide_eq_true hka
            obtain ⟨ba, oa, hAe, hba, hca, ha256⟩ := (HAS.out.on HI.out.gr).get hka
            subst hAe
            obtain ⟨a, ha⟩ : ∃ a, ak.getD k 0 = a := ⟨_, rfl⟩
            rw [ha] at hca ha256
            have HAE := Lib.hid ha
            clear ha
            obtain ⟨m, hm⟩ : ∃ m, a % 3 = m := ⟨_, rfl⟩
            have hm1 : (a : Int) % 3 = (m : Int) := by omega
            have hm2 : (a : Int).tmod 3 = (m : Int) := by rw [Int.tmod_eq_emod_of_nonneg (by omega)]; exact hm1
            have hmm : m ≤ 2 := by omega
            have hm3 : ((m : Int) == 16) = false := by rw [beq_eq_false_iff_ne]; omega
            clear hm
            go_wp2_with fail
            refine (HTO.out _).mono ?_
            rintro e w4 ⟨rfl, b4⟩
            clear hm1 hm2 hm3 hca
            have HI4 := Lib.hid (HI.out.on b4)
            clear b4 e0 e1 el
            have e0 := HI4.out.box.cs 0 _ rfl
            have e1 := HI4.out.box.cs 1 _ rfl
            have el := HI4.out.box.lt
            have hsub : IntKind.u64.wrap ((G.length : Int) - (t : Int)) = ((G.length - t : Nat) : Int) := by rw [IntKind.wrap_u64]; omega
            by_cases h16 : 16 < G.length - t
            · have hd16 : decide ((G.length : Int) - (t : Int) > 16) = true := decide_eq_true (by omega)
              clear hsub
              go_wp2_with fail
              go_ret
              exact ⟨rfl, HI4.out.gr⟩
            · have hd16 : decide ((G.length : Int) - (t : Int) > 16) = false := decide_eq_false (by omega)
              have hh16 : G.length - t ≤ 16 := by omega
              clear hsub h16
              go_wp2_with fail
              go_loopg [7, 8, 58] m (fun g vt vl vi wr => RiSt w w3 G A c kp gs (.slice Ag G.length cg) m t g vt vl vi wr)
              case atStart => exact ⟨0, ps, by omega, rfl, rfl, HI4.out⟩
              case round =>
                obtain ⟨i, ps2, hi, rfl, rfl, hI2⟩ := hrel
                have HII := Lib.hid hi
                have HI5 := Lib.hid hI2
                clear hi hI2 e0 e1 el
                obtain ⟨At2, ct2, hvt2, -⟩ := HI5.out.ps
                subst hvt2
                have htl2 := HI5.out.le
                obtain ⟨j, hj⟩ : ∃ j, t + i = j := ⟨_, rfl⟩
                rw [hj] at HI5 htl2
                have hjt : t ≤ j := by omega
                have HJ := Lib.hid hj
                have e0 := HI5.out.box.cs 0 _ rfl
                have e1 := HI5.out.box.cs 1 _ rfl
                have el := HI5.out.box.lt
                rw [hj]
                clear hj
                by_cases him : i < m
                · have HAF := Lib.hid (rsAfter_any G.length c A kp j wr (by omega) hkp2 hkp3 (by omega) (by omega) HI5.out.kM.m)
                  by_cases hjT : j < G.length
                  · obtain ⟨ha1, ha2⟩ := rt_aft hjT (by omega)
                    have haf := HAF.out
                    unfold RsAftPost at haf
                    rw [HI5.out.kx, lastN_len, ← HKP.out] at haf
                    rw [lastN_len, ← HKP.out] at ha1
                    rw [ha1, ha2, decide_eq_true hjT] at haf
                    have HAF2 := Lib.hid haf
                    clear haf HAF ha1 ha2
                    obtain ⟨y, hy⟩ : ∃ y, G.getD j Ml.zero = y := ⟨_, rfl⟩
                    rw [hy] at HAF2
                    have HYE := Lib.hid hy
                    clear hy
                    have HYK := Lib.hid (rt_kept HI5.out.kx hjT (by omega))
                    go_wp2_with fail
                    refine HAF2.out.mono ?_
                    rintro e w6 ⟨Ay, cy, rfl, ho, b6⟩
                    have HT7 := Lib.hid (alloc1B w6 (.cells #[.int .u64 (y.id : Int), .string (ofL y.shop), .string (ofL y.key), .slice Ay y.head.length cy, .string (ofL y.body), .int .u64 (y.due : Int), .int .u8 (y.hops : Int)] 32))
                    have HZ7 := Lib.hid (BoxC.new (w := w6) (W := w6) (Nat.le_refl _) #[.int .u64 (y.id : Int), .string (ofL y.shop), .string (ofL y.key), .slice Ay y.head.length cy, .string (ofL y.body), .int .u64 (y.due : Int), .int .u8 (y.hops : Int)] 32)
                    have HI7 := Lib.hid (HI5.out.on (bthen b6 HT7.out (Nat.le_refl _)))
                    have HOR := Lib.hid ho.row
                    have HO7 := Lib.hid ((ho.row.1).on HT7.out)
                    have HS6 := Lib.hid b6.size
                    have HS7 := Lib.hid (show (w6.alloc (.cells #[.int .u64 (y.id : Int), .string (ofL y.shop), .string (ofL y.key), .slice Ay y.head.length cy, .string (ofL y.body), .int .u64 (y.due : Int), .int .u8 (y.hops : Int)] 32)).heap.size = w6.heap.size + 1 by simp)
                    clear ho b6 e0 e1 el
                    simp only [maV]
                    have hnn : (((j + 1 : Nat) : Int) != ((j : Int) + 1)) = false := by simp
                    go_upto_region 25 with fail
                    generalize w6.alloc (.cells #[.int .u64 (y.id : Int), .string (ofL y.shop), .string (ofL y.key), .slice Ay y.head.length cy, .string (ofL y.body), .int .u64 (y.due : Int), .int .u8 (y.hops : Int)] 32) = w7 at *
                    obtain ⟨b6, hb6⟩ : ∃ b, w6.heap.size = b := ⟨_, rfl⟩
                    rw [hb6] at HZ7 HS6 HS7 HOR
                    try rw [hb6]
                    have HB6 := Lib.hid hb6
                    clear hb6
                    have z0 := HZ7.out.cs 0 _ rfl
                    have z1 := HZ7.out.cs 1 _ rfl
                    have z2 := HZ7.out.cs 2 _ rfl
                    have z3 := HZ7.out.cs 3 _ rfl
                    have z4 := HZ7.out.cs 4 _ rfl
                    have z5 := HZ7.out.cs 5 _ rfl
                    have z6 := HZ7.out.cs 6 _ rfl
                    have zl := HZ7.out.lt
                    have HV := Lib.hid (show RtIn w w3 w3.heap.size w3.heap.size (w3.heap.size + 1) [.int .u64 (G.length : Int), .slice A kp.length c] G G j A c kp gs ps2 (.slice Ag G.length cg) (.slice At2 j ct2) (w7.alloc (.cells #[.int .u64 (y.id : Int), .string (ofL y.shop), .string (ofL y.key), .slice Ay y.head.length cy, .string (ofL y.body), .int .u64 (y.due : Int), .int .u8 (y.hops : Int)] 32)) from HI7.out.on (alloc1B _ _))
                    have HNW := Lib.hid (show ∀ jj u, (mcs [(⟨y, Ay, cy⟩ : Mp)])[jj]? = some u → (w7.alloc (.cells #[.int .u64 (y.id : Int), .string (ofL y.shop), .string (ofL y.key), .slice Ay y.head.length cy, .string (ofL y.body), .int .u64 (y.due : Int), .int .u8 (y.hops : Int)] 32)).cell? ((⟨w7.heap.size, 0, none⟩ : Addr).add jj) = some u from fun jj u hu => by
                      rw [mcs_one1] at hu
                      rw [rws_add, Nat.zero_add]
                      exact (World.cell?_alloc_new w7 #[.int .u64 (y.id : Int), .string (ofL y.shop), .string (ofL y.key), .slice Ay y.head.length cy, .string (ofL y.body), .int .u64 (y.due : Int), .int .u8 (y.hops : Int)] 32 jj).trans (by simpa [mpL, maL] using hu))
                    have HPO := Lib.hid (show MaOk (w7.alloc (.cells #[.int .u64 (y.id : Int), .string (ofL y.shop), .string (ofL y.key), .slice Ay y.head.length cy, .string (ofL y.body), .int .u64 (y.due : Int), .int .u8 (y.hops : Int)] 32)) y Ay cy from by
                      obtain ⟨p, hp, hpx⟩ := HYK.out
                      have hok := (HI5.out.kM.m.hd p hp)
                      rw [hpx, HYE.out] at hok
                      exact ⟨hok.shop, hok.key, hok.body, hok.len, HOR.out.2.1, hok.lite, HO7.out.on (alloc1B _ _)⟩)
                    have HPA := Lib.hid (show ∀ a, Ay = some a → RtU w3.heap.size (.slice Ag G.length cg) (.slice At2 j ct2) (w7.alloc (.cells #[.int .u64 (y.id : Int), .string (ofL y.shop), .string (ofL y.key), .slice Ay y.head.length cy, .string (ofL y.body), .int .u64 (y.due : Int), .int .u8 (y.hops : Int)] 32)) a.block from fun a ha => by
                      have h1 := HOR.out.2.2 a ha
                      have h2 := HI5.out.box.lt
                      refine ⟨by omega, fun e => ?_, fun e => ?_, ?_⟩
                      · have := (HI5.out.gO.lt _ e).2; omega
                      · have := (HI5.out.tO.lt _ e).2; omega
                      · have := HS7.out; simp; omega)
                    have hbs : w3.heap.size + 1 ≤ (w7.alloc (.cells #[.int .u64 (y.id : Int), .string (ofL y.shop), .string (ofL y.key), .slice Ay y.head.length cy, .string (ofL y.body), .int .u64 (y.due : Int), .int .u8 (y.hops : Int)] 32)).heap.size := Nat.succ_le_of_lt HV.out.box.lt
                    go_wp2_with (at_builtin; refine wpList_append_lies _ rfl _ _ 22 rfl (w3.heap.size + 1) 32 iM _ 7 96 Tryd.underlying22 hiM hzM0 hzM1 hzM2 rfl (by decide) (.slice At2 j ct2) j (mcs ps2) (by rfl) HV.out.tO ⟨w7.heap.size, 0, none⟩ 1 1 (mcs [(⟨y, Ay, cy⟩ : Mp)]) (by rfl) (by rfl) HNW.out (mcs_one _) (by omega) (by unfold maxLen; omega) (by omega) hbs _ rfl ?_; intro gg cap w8 hown hgrow hat hlt8; have HI8 := Lib.hid (HV.out.got (p := ⟨y, Ay, cy⟩) HPO.out HPA.out hjT HYE.out.symm hgrow hown hat); clear hown hgrow hat hlt8 z0 z1 z2 z3 z4 z5 z6 zl hbs)
                    go_roundg (gk - 1)
                    case rel => exact ⟨i + 1, ps2 ++ [⟨y, Ay, cy⟩], by have := HII.out; omega, by rw [show t + (i + 1) = j + 1 by have := HJ.out; omega]; go_num, by go_num, by rw [show t + (i + 1) = j + 1 by have := HJ.out; omega]; exact HI8.out⟩
                    case measure => have := HII.out; omega
                  · have haf := HAF.out
                    unfold RsAftPost at haf
                    rw [HI5.out.kx, lastN_len, ← HKP.out, show decide (j < G.length) = false from decide_eq_false hjT, show Rs.aft G.length (lastN 16 G) j = Ml.zero by unfold Rs.aft; rw [if_pos (by omega)]] at haf
                    simp only [show ∀ A c, maV Ml.zero A c = .agg #[.int .u64 0, .string ⟨#[]⟩, .string ⟨#[]⟩, .slice A 0 c, .string ⟨#[]⟩, .int .u64 0, .int .u8 0] from fun _ _ => rfl] at haf
                    have HAF2 := Lib.hid haf
                    clear haf HAF
                    have HJT := Lib.hid (show j = G.length by omega)
                    go_wp2_with fail
                    refine HAF2.out.mono ?_
                    rintro e w6 ⟨Ay, cy, rfl, ho, b6⟩
                    have HI6 := Lib.hid (HI5.out.on (bthen b6 (alloc1B w6 (.cells #[.int .u64 0, .string ⟨#[]⟩, .string ⟨#[]⟩, .slice Ay 0 cy, .string ⟨#[]⟩, .int .u64 0, .int .u8 0] 32)) (Nat.le_refl _)))
                    clear ho b6 e0 e1 el HAF2
                    go_upto_region 28 with fail
                    generalize w6.alloc (.cells #[.int .u64 0, .string ⟨#[]⟩, .string ⟨#[]⟩, .slice Ay 0 cy, .string ⟨#[]⟩, .int .u64 0, .int .u8 0] 32) = w7 at *
                    obtain ⟨hin, bb, off, hAe, hbb, hcl⟩ := (HA.out.on HI6.out.gr).get hkL
                    subst hAe
                    have hin0 := (HA.out.get hkL).1
                    have hli := HFEW.out k hkL
                    obtain ⟨hT, hKq, hCq⟩ := rs_add hkL (by omega)
                    rw [HG.out] at hT hKq hCq
                    have hGs := rsG_succ hkL
                    rw [HG.out] at hGs
                    generalize l.getD k Mp.zero = p at *
                    obtain ⟨x, Ax, cx⟩ := p
                    dsimp only at hin hin0 hli hT hKq hGs hCq
                    obtain ⟨G1, hG1⟩ : ∃ G1, rsG l (k + 1) = G1 := ⟨_, rfl⟩
                    rw [hG1] at hT hKq hGs
                    have HG1 := Lib.hid hG1
                    have hMo : MaOk w7 x Ax cx := ml_light_Ok hli hin.cap hin.row
                    have q0 := hcl 0 _ rfl
                    have q1 := hcl 1 _ rfl
                    have q2 := hcl 2 _ rfl
                    have q3 := hcl 3 _ rfl
                    have q4 := hcl 4 _ rfl
                    have q5 := hcl 5 _ rfl
                    have q6 := hcl 6 _ rfl
                    rw [Nat.add_zero] at q0
                    dsimp only at q0 q1 q2 q3 q4 q5 q6
                    have e0 := HI6.out.box.cs 0 _ rfl
                    have e1 := HI6.out.box.cs 1 _ rfl
                    have hgw : w3.heap.size ≤ w7.heap.size := Nat.le_of_lt HI6.out.box.lt
                    have HMO := Lib.hid hMo
                    have HHD := Lib.hid (show x.head ≠ [] → ∀ a, Ax = some a → a.block < w3.heap.size from fun hh a ha => Nat.lt_of_lt_of_le (rs_prs_in hin0.row hh ha) hge)
                    have HPT := Lib.hid (fun W' (hb : Below w7.heap.size w7 W') => rsPutB_any (RtU w3.heap.size (.slice Ag G.length cg) (.slice At2 j ct2) w7) G.length c A kp x Ax cx W' hkp1 HI6.out.kc HI6.out.kn (by omega) (HMO.out.on hb) (HI6.out.kM.on hb) (HL.out.on (bthen HI6.out.gr hb (Nat.le_refl _))))
                    unfold RsPutPostB at HPT
                    rw [HI6.out.kx, hT, hKq, hCq] at HPT
                    simp only [maV] at HPT
                    have HGP := Lib.hid (show ∃ m, G1 = G ++ m by by_cases hc0 : x.code ≠ 0; exact ⟨[], by rw [hGs, if_pos hc0, List.append_nil]⟩; exact ⟨[x], by rw [hGs, if_neg hc0]⟩)
                    have HGS := Lib.hid hGs
                    have hi1 : (0 : Int) ≤ (k : Int) := by omega
                    have hi2 : (k : Int) < (l.length : Int) := by omega
                    have hi3 : ((k : Int)).toNat = k := by omega
                    clear hcl hin hin0 hli hT hKq hCq hGs hG1 hMo
                    refine wp_region_held_drew (S := fun a => Below w7.heap.size w7 a) (by kernel_rfl) (by (try dsimp only); exact (Below.refl _ _).drew) (fun hHeld => ?_)
                    refine wpAnyH_take (i := 0) (oi := { dst := some 84, op := Go.Op.load 28 (Go.Operand.tmp 5), type := 28, pos := "law.go:123", after := #[], guard := none }) (v := ?_) rfl (by kernel_rfl) (by kernel_rfl) (by kernel_rfl) (fun _ _ _ h => h) (Or.inl ⟨by rfl, ?_⟩) (by assumption) ?_
                    rotate_left 1
                    · intro w hSw; (try dsimp only at hSw); have e0 := cell_on hSw e0; have e1 := cell_on hSw e1; have q0 := cell_on hSw q0; have q1 := cell_on hSw q1; have q2 := cell_on hSw q2; have q3 := cell_on hSw q3; have q4 := cell_on hSw q4; have q5 := cell_on hSw q5; have q6 := cell_on hSw q6; go_simp; try with_reducible rfl
                    try simp only [Act.put, List.setIfInBounds_toArray, List.set_cons_zero, List.set_cons_succ]
                    refine wpAnyH_take (i := 1) (oi := { dst := some 85, op := Go.Op.move (Go.Operand.tmp 0), type := 22, pos := "law.go:123", after := #[], guard := none }) (v := ?_) rfl (by kernel_rfl) (by kernel_rfl) (by kernel_rfl) (fun _ _ _ h => h) (Or.inl ⟨by rfl, ?_⟩) (by assumption) ?_
                    rotate_left 1
                    · intro w hSw; (try dsimp only at hSw); go_simp; try with_reducible rfl
                    try simp only [Act.put, List.setIfInBounds_toArray, List.set_cons_zero, List.set_cons_succ]
                    refine wpAnyH_take (i := 2) (oi := { dst := some 86, op := Go.Op.move (Go.Operand.tmp 9), type := 3, pos := "law.go:123", after := #[], guard := none }) (v := ?_) rfl (by kernel_rfl) (by kernel_rfl) (by kernel_rfl) (fun _ _ _ h => h) (Or.inl ⟨by rfl, ?_⟩) (by assumption) ?_
                    rotate_left 1
                    · intro w hSw; (try dsimp only at hSw); go_simp; try with_reducible rfl
                    try simp only [Act.put, List.setIfInBounds_toArray, List.set_cons_zero, List.set_cons_succ]
                    refine wpAnyH_take (i := 3) (oi := { dst := some 87, op := Go.Op.indexAddr 22 (Go.Operand.tmp 85) (Go.Operand.tmp 86), type := 0, pos := "law.go:123", after := #[{ on := 1, ground := Go.Ground.data }, { on := 2, ground := Go.Ground.data }], guard := none }) (v := ?_) rfl (by kernel_rfl) (by kernel_rfl) (by kernel_rfl) (fun _ _ _ h => h) (Or.inl ⟨by rfl, ?_⟩) (by assumption) ?_
                    rotate_left 1
                    · intro w hSw; (try dsimp only at hSw); go_simp; try with_reducible rfl
                    try simp only [Act.put, List.setIfInBounds_toArray, List.set_cons_zero, List.set_cons_succ]
                    refine wpAnyH_take (i := 4) (oi := { dst := some 88, op := Go.Op.load 32 (Go.Operand.tmp 87), type := 32, pos := "law.go:123", after := #[{ on := 3, ground := Go.Ground.data }], guard := none }) (v := ?_) rfl (by kernel_rfl) (by kernel_rfl) (by kernel_rfl) (fun _ _ _ h => h) (Or.inl ⟨by rfl, ?_⟩) (by assumption) ?_
                    rotate_left 1
                    · intro w hSw; (try dsimp only at hSw); have e0 := cell_on hSw e0; have e1 := cell_on hSw e1; have q0 := cell_on hSw q0; have q1 := cell_on hSw q1; have q2 := cell_on hSw q2; have q3 := cell_on hSw q3; have q4 := cell_on hSw q4; have q5 := cell_on hSw q5; have q6 := cell_on hSw q6; go_simp; try with_reducible rfl
                    try simp only [Act.put, List.setIfInBounds_toArray, List.set_cons_zero, List.set_cons_succ]
                    refine wpAnyH_ready (rs := [5, 9]) (by kernel_rfl) (by simp) ?_
                    refine AllReadyH.cons (o := { dst := some 89, op := Go.Op.call { callee := Go.Callee.value (Go.Operand.func 9), args := #[Go.Operand.tmp 84, Go.Operand.tmp 88], argTypes := #[28, 32] }, type := 36, pos := "law.go:123", after := #[{ on := 0, ground := Go.Ground.data }, { on := 4, ground := Go.Ground.data }], guard := none }) rfl (fun K hK => ?_) (AllReadyH.cons (o := { dst := some 14, op := Go.Op.alloc 28, type := 0, pos := "law.go:123", after := #[], guard := none }) rfl (fun K hK => ?_) (AllReadyH.nil))
                    · skip
                      go_simp
                      go_at_call 9
                      refine (HPT.out _ hHeld).mono ?_
                      rintro e wx ⟨A8, c8, kp8, rfl, hm8, hc8, hn8, hM8, hb2⟩
                      try replace HNB := Lib.hid (HNB.out.on hb2)
                      have HB5 := Lib.hid hb2
                      have HM8 := Lib.hid hm8
                      have HC8 := Lib.hid hc8
                      have HN8 := Lib.hid hn8
                      have HMM := Lib.hid hM8
                      clear hm8 hc8 hn8 hM8
                      refine hK.out _ _ (bthen hHeld hb2 (Nat.le_refl _)) (fun hHeld2 => ?_)
                      clear hK K hHeld hb2
                      have hHeld := hHeld2
                      clear hHeld2
                      try simp only [Act.put, List.setIfInBounds_toArray, List.set_cons_zero, List.set_cons_succ]
                      refine wpAnyH_take (i := 6) (oi := { dst := some 83, op := Go.Op.move (Go.Operand.tmp 89), type := 36, pos := "law.go:123", after := #[{ on := 5, ground := Go.Ground.data }], guard := none }) (v := ?_) rfl (by kernel_rfl) (by kernel_rfl) (by kernel_rfl) (fun _ _ _ h => h) (Or.inl ⟨by rfl, ?_⟩) (by assumption) ?_
                      rotate_left 1
                      · intro w hSw; (try dsimp only at hSw); go_simp; try with_reducible rfl
                      try simp only [Act.put, List.setIfInBounds_toArray, List.set_cons_zero, List.set_cons_succ]
                      refine wpAnyH_take (i := 7) (oi := { dst := some 90, op := Go.Op.extract (Go.Operand.tmp 83) 0, type := 28, pos := "law.go:123", after := #[{ on := 6, ground := Go.Ground.data }], guard := none }) (v := ?_) rfl (by kernel_rfl) (by kernel_rfl) (by kernel_rfl) (fun _ _ _ h => h) (Or.inl ⟨by rfl, ?_⟩) (by assumption) ?_
                      rotate_left 1
                      · intro w hSw; (try dsimp only at hSw); go_simp; try with_reducible rfl
                      try simp only [Act.put, List.setIfInBounds_toArray, List.set_cons_zero, List.set_cons_succ]
                      refine wpAnyH_take (i := 8) (oi := { dst := some 91, op := Go.Op.extract (Go.Operand.tmp 83) 1, type := 35, pos := "law.go:123", after := #[{ on := 6, ground := Go.Ground.data }, { on := 10, ground := Go.Ground.gcOnly Go.Departure.lateStores }], guard := none }) (v := ?_) rfl (by kernel_rfl) (by kernel_rfl) (by kernel_rfl) (fun _ _ _ h => h) (Or.inl ⟨by rfl, ?_⟩) (by assumption) ?_
                      rotate_left 1
                      · intro w hSw; (try dsimp only at hSw); go_simp; try with_reducible rfl
                      try simp only [Act.put, List.setIfInBounds_toArray, List.set_cons_zero, List.set_cons_succ]
                      refine wpAnyH_ready (rs := [9]) (by kernel_rfl) (by simp) ?_
                      refine AllReadyH.cons (o := { dst := some 14, op := Go.Op.alloc 28, type := 0, pos := "law.go:123", after := #[], guard := none }) rfl (fun K hK => ?_) (AllReadyH.nil)
                      go_simp
                      have HNB := Lib.hid (BoxC.new (w := w3) (W := _) (Nat.le_trans hgw hHeld.size) #[.int .u64 0, .slice none 0 0] 28)
                      have HB0 := Lib.hid hHeld
                      have HNL := Lib.hid hHeld.size
                      have hPre := hHeld
                      refine hK.out _ _ (hHeld.alloc hHeld.size _) (fun hHeld2 => ?_)
                      clear hK K hHeld
                      have hHeld := hHeld2
                      clear hHeld2
                      try simp only [Act.put, List.setIfInBounds_toArray, List.set_cons_zero, List.set_cons_succ]
                      refine wpAnyH_ready (rs := [10]) (by kernel_rfl) (by simp) ?_
                      refine AllReadyH.cons (o := { dst := none, op := Go.Op.store 28 (Go.Operand.tmp 14) (Go.Operand.tmp 90), type := 0, pos := "law.go:123", after := #[{ on := 9, ground := Go.Ground.data }, { on := 7, ground := Go.Ground.data }, { on := 5, ground := Go.Ground.chain }, { on := 0, ground := Go.Ground.phase }, { on := 1, ground := Go.Ground.phase }, { on := 2, ground := Go.Ground.phase }, { on := 3, ground := Go.Ground.phase }, { on := 4, ground := Go.Ground.phase }, { on := 5, ground := Go.Ground.phase }, { on := 6, ground := Go.Ground.phase }, { on := 7, ground := Go.Ground.phase }, { on := 8, ground := Go.Ground.textOnly Go.Departure.lateStores }, { on := 9, ground := Go.Ground.phase }], guard := none }) rfl (fun K hK => ?_) (AllReadyH.nil)
                      have n0 := HNB.out.cs 0 _ rfl
                      have n1 := HNB.out.cs 1 _ rfl
                      have nf := HNB.out.s
                      unfold Soft at nf
                      have nl := HNB.out.lt
                      have nge : w7.heap.size ≤ _ := HNL.out
                      try simp only [show w7.drew.heap.size = w7.heap.size from rfl] at n0 n1 nf nl nge
                      go_simp
                      refine hK.out _ _ ?_ (fun hHeld2 => ?_)
                      · (try dsimp only); first | with_reducible exact hPre.alloc hPre.size _ | ((repeat with_reducible refine below_put nge ?_); with_reducible exact hHeld)
                      clear n0 n1 nf nl nge hPre
                      clear hK K hHeld
                      have hHeld := hHeld2
                      clear hHeld2
                      try simp only [Act.put, List.setIfInBounds_toArray, List.set_cons_zero, List.set_cons_succ]
                      refine wpAnyH_take (i := 11) (oi := { dst := some 15, op := Go.Op.assign (Go.Operand.tmp 91), type := 35, pos := "law.go:123", after := #[{ on := 8, ground := Go.Ground.data }, { on := 10, ground := Go.Ground.chain }, { on := 0, ground := Go.Ground.phase }, { on := 1, ground := Go.Ground.phase }, { on := 2, ground := Go.Ground.phase }, { on := 3, ground := Go.Ground.phase }, { on := 4, ground := Go.Ground.phase }, { on := 5, ground := Go.Ground.phase }, { on := 6, ground := Go.Ground.phase }, { on := 7, ground := Go.Ground.phase }, { on := 8, ground := Go.Ground.phase }, { on := 9, ground := Go.Ground.phase }, { on := 10, ground := Go.Ground.phase }], guard := none }) (v := ?_) rfl (by kernel_rfl) (by kernel_rfl) (by kernel_rfl) (fun _ _ _ h => h) (Or.inl ⟨by rfl, ?_⟩) (by assumption) ?_
                      rotate_left 1
                      · intro w hSw; (try dsimp only at hSw); go_simp; try with_reducible rfl
                      try simp only [Act.put, List.setIfInBounds_toArray, List.set_cons_zero, List.set_cons_succ]
                      refine wpAnyH_done (by kernel_rfl) ?_ _
                      have hZ := hHeld
                      clear hHeld
                      first
                        | (have HY := Lib.hid (HI6.out.putA (Below.refl _ _).drew HB5.out HGP.out HM8.out HC8.out HN8.out HMM.out 28)
                           generalize wx.alloc (.cells #[.int .u64 (G1.length : Int), .slice A8 kp8.length c8] 28) = w9 at *
                           generalize wx.heap.size = gy at *)
                        | (have HY := Lib.hid (HI6.out.putB ((Below.refl _ _).drew.alloc (Nat.le_refl _) _) HB5.out HGP.out HM8.out HC8.out HN8.out HMM.out HNB.out rfl (Nat.le_refl _) (by simp))
                           rw [show w7.drew.heap.size = w7.heap.size from rfl] at HY
                           obtain ⟨gy, hgy⟩ : ∃ gy, w7.heap.size = gy := ⟨_, rfl⟩
                           rw [hgy] at HY hZ
                           try rw [hgy]
                           generalize (wx.setCell ⟨gy, 0, none⟩ (.int .u64 (G1.length : Int))).setCell ⟨gy, 1, none⟩ (.slice A8 kp8.length c8) = w9 at *
                           rw [← hgy] at hZ
                           clear hgy)
                      have q0 := cell_on hZ q0
                      have q1 := cell_on hZ q1
                      have q2 := cell_on hZ q2
                      have q3 := cell_on hZ q3
                      have q4 := cell_on hZ q4
                      have q5 := cell_on hZ q5
                      have q6 := cell_on hZ q6
                      have HMO2 := Lib.hid (HMO.out.on hZ)
                      clear e0 e1 hZ HB5 HMM HPT
                      try clear HNB HB0 HNL
                      by_cases hcode : x.code = 0
                      · have hcd : ((x.code : Int) == 0) = true := by simpa using hcode
                        have hG2 : G1 = G ++ [x] := by rw [HGS.out, if_neg (by omega)]
                        have HG2 := Lib.hid hG2
                        have HL1 := Lib.hid (show G.length + 1 = G1.length by rw [hG2, List.length_append]; rfl)
                        clear hG2
                        rw [show (x.code : Int) = 0 by omega]
                        have HV := Lib.hid (HY.out.on (alloc1B w9 (.cells #[.int .u64 (x.id : Int), .string (ofL x.shop), .string (ofL x.key), .slice Ax x.head.length cx, .string (ofL x.body), .int .u64 (x.due : Int), .int .u8 (x.hops : Int)] 32)))
                        have HNW := Lib.hid (show ∀ jj u, (mcs [(⟨x, Ax, cx⟩ : Mp)])[jj]? = some u → (w9.alloc (.cells #[.int .u64 (x.id : Int), .string (ofL x.shop), .string (ofL x.key), .slice Ax x.head.length cx, .string (ofL x.body), .int .u64 (x.due : Int), .int .u8 (x.hops : Int)] 32)).cell? ((⟨w9.heap.size, 0, none⟩ : Addr).add jj) = some u from fun jj u hu => by
                          rw [mcs_one1] at hu
                          rw [rws_add, Nat.zero_add]
                          exact (World.cell?_alloc_new w9 #[.int .u64 (x.id : Int), .string (ofL x.shop), .string (ofL x.key), .slice Ax x.head.length cx, .string (ofL x.body), .int .u64 (x.due : Int), .int .u8 (x.hops : Int)] 32 jj).trans (by simpa [mpL, maL] using hu))
                        have HPO := Lib.hid (HMO2.out.on (alloc1B w9 (.cells #[.int .u64 (x.id : Int), .string (ofL x.shop), .string (ofL x.key), .slice Ax x.head.length cx, .string (ofL x.body), .int .u64 (x.due : Int), .int .u8 (x.hops : Int)] 32)))
                        have hbs : w3.heap.size + 1 ≤ (w9.alloc (.cells #[.int .u64 (x.id : Int), .string (ofL x.shop), .string (ofL x.key), .slice Ax x.head.length cx, .string (ofL x.body), .int .u64 (x.due : Int), .int .u8 (x.hops : Int)] 32)).heap.size := Nat.succ_le_of_lt HV.out.box.lt
                        go_upto_region 30 with fail
                        go_wp2_with (at_builtin; refine wpList_append_lies _ rfl _ _ 22 rfl (w3.heap.size + 1) 32 iM _ 7 96 Tryd.underlying22 hiM hzM0 hzM1 hzM2 rfl (by decide) (.slice Ag G.length cg) G.length (mcs gs) (by rfl) HV.out.gO ⟨w9.heap.size, 0, none⟩ 1 1 (mcs [(⟨x, Ax, cx⟩ : Mp)]) (by rfl) (by rfl) HNW.out (mcs_one _) (by omega) (by unfold maxLen; omega) (by omega) hbs _ rfl ?_; intro gg cap w10 hown hgrow hat hlt10; rw [HL1.out]; rw [HL1.out] at hown; have HI9 := Lib.hid (HV.out.good (p := ⟨x, Ax, cx⟩) HPO.out HHD.out HG2.out hgrow hown hat); clear hown hgrow hat hlt10 q0 q1 q2 q3 q4 q5 q6 hbs; have y0 := HI9.out.ybox.cs 0 _ rfl; have y1 := HI9.out.ybox.cs 1 _ rfl; have yl := HI9.out.ybox.lt; have e0 := HI9.out.box.cs 0 _ rfl; have e1 := HI9.out.box.cs 1 _ rfl; have el := HI9.out.box.lt; have ef : ∀ jj, w10.frozen? ⟨w3.heap.size, jj, none⟩ = false := HI9.out.box.s; have HD := Lib.hid (HI9.out.done hge))
                        go_roundg (gO - 1)
                        case rel => exact ⟨k + 1, j, A8, c8, kp8, gs ++ [⟨x, Ax, cx⟩], ps2, by have := HK.out; omega, rfl, by go_num, by rw [HG1.out]; exact HD.out, fun h => absurd h (by omega)⟩
                        case measure => have := HK.out; omega
                      · have hcd : ((x.code : Int) == 0) = false := by simpa using hcode
                        have hG2 : G1 = G := by rw [HGS.out, if_pos hcode]
                        subst hG2
                        have HI9 := HY
                        clear q0 q1 q2 q3 q4 q5 q6
                        have y0 := HI9.out.ybox.cs 0 _ rfl
                        have y1 := HI9.out.ybox.cs 1 _ rfl
                        have yl := HI9.out.ybox.lt
                        have e0 := HI9.out.box.cs 0 _ rfl
                        have e1 := HI9.out.box.cs 1 _ rfl
                        have el := HI9.out.box.lt
                        have ef : ∀ jj, w9.frozen? ⟨w3.heap.size, jj, none⟩ = false := HI9.out.box.s
                        have HD := Lib.hid (HI9.out.done hge)
                        go_wp2_with fail
                        go_roundg (gO - 1)
                        case rel => exact ⟨k + 1, j, A8, c8, kp8, gs, ps2, by have := HK.out; omega, rfl, by go_num, by rw [HG1.out]; exact HD.out, fun h => absurd h (by omega)⟩
                        case measure => have := HK.out; omega
                    · skip
                      go_simp
                      have HNB := Lib.hid (BoxC.new (w := w3) (W := _) (Nat.le_trans hgw hHeld.size) #[.int .u64 0, .slice none 0 0] 28)
                      have HB0 := Lib.hid hHeld
                      have HNL := Lib.hid hHeld.size
                      have hPre := hHeld
                      refine hK.out _ _ (hHeld.alloc hHeld.size _) (fun hHeld2 => ?_)
                      clear hK K hHeld
                      have hHeld := hHeld2
                      clear hHeld2
                      try simp only [Act.put, List.setIfInBounds_toArray, List.set_cons_zero, List.set_cons_succ]
                      refine wpAnyH_ready (rs := [5]) (by kernel_rfl) (by simp) ?_
                      refine AllReadyH.cons (o := { dst := some 89, op := Go.Op.call { callee := Go.Callee.value (Go.Operand.func 9), args := #[Go.Operand.tmp 84, Go.Operand.tmp 88], argTypes := #[28, 32] }, type := 36, pos := "law.go:123", after := #[{ on := 0, ground := Go.Ground.data }, { on := 4, ground := Go.Ground.data }], guard := none }) rfl (fun K hK => ?_) (AllReadyH.nil)
                      go_simp
                      go_at_call 9
                      refine (HPT.out _ hHeld).mono ?_
                      rintro e wx ⟨A8, c8, kp8, rfl, hm8, hc8, hn8, hM8, hb2⟩
                      try replace HNB := Lib.hid (HNB.out.on hb2)
                      have HB5 := Lib.hid hb2
                      have HM8 := Lib.hid hm8
                      have HC8 := Lib.hid hc8
                      have HN8 := Lib.hid hn8
                      have HMM := Lib.hid hM8
                      clear hm8 hc8 hn8 hM8
                      refine hK.out _ _ (bthen hHeld hb2 (Nat.le_refl _)) (fun hHeld2 => ?_)
                      clear hK K hHeld hb2
                      have hHeld := hHeld2
                      clear hHeld2
                      try simp only [Act.put, List.setIfInBounds_toArray, List.set_cons_zero, List.set_cons_succ]
                      refine wpAnyH_take (i := 6) (oi := { dst := some 83, op := Go.Op.move (Go.Operand.tmp 89), type := 36, pos := "law.go:123", after := #[{ on := 5, ground := Go.Ground.data }], guard := none }) (v := ?_) rfl (by kernel_rfl) (by kernel_rfl) (by kernel_rfl) (fun _ _ _ h => h) (Or.inl ⟨by rfl, ?_⟩) (by assumption) ?_
                      rotate_left 1
                      · intro w hSw; (try dsimp only at hSw); go_simp; try with_reducible rfl
                      try simp only [Act.put, List.setIfInBounds_toArray, List.set_cons_zero, List.set_cons_succ]
                      refine wpAnyH_take (i := 7) (oi := { dst := some 90, op := Go.Op.extract (Go.Operand.tmp 83) 0, type := 28, pos := "law.go:123", after := #[{ on := 6, ground := Go.Ground.data }], guard := none }) (v := ?_) rfl (by kernel_rfl) (by kernel_rfl) (by kernel_rfl) (fun _ _ _ h => h) (Or.inl ⟨by rfl, ?_⟩) (by assumption) ?_
                      rotate_left 1
                      · intro w hSw; (try dsimp only at hSw); go_simp; try with_reducible rfl
                      try simp only [Act.put, List.setIfInBounds_toArray, List.set_cons_zero, List.set_cons_succ]
                      refine wpAnyH_take (i := 8) (oi := { dst := some 91, op := Go.Op.extract (Go.Operand.tmp 83) 1, type := 35, pos := "law.go:123", after := #[{ on := 6, ground := Go.Ground.data }, { on := 10, ground := Go.Ground.gcOnly Go.Departure.lateStores }], guard := none }) (v := ?_) rfl (by kernel_rfl) (by kernel_rfl) (by kernel_rfl) (fun _ _ _ h => h) (Or.inl ⟨by rfl, ?_⟩) (by assumption) ?_
                      rotate_left 1
                      · intro w hSw; (try dsimp only at hSw); go_simp; try with_reducible rfl
                      try simp only [Act.put, List.setIfInBounds_toArray, List.set_cons_zero, List.set_cons_succ]
                      refine wpAnyH_ready (rs := [10]) (by kernel_rfl) (by simp) ?_
                      refine AllReadyH.cons (o := { dst := none, op := Go.Op.store 28 (Go.Operand.tmp 14) (Go.Operand.tmp 90), type := 0, pos := "law.go:123", after := #[{ on := 9, ground := Go.Ground.data }, { on := 7, ground := Go.Ground.data }, { on := 5, ground := Go.Ground.chain }, { on := 0, ground := Go.Ground.phase }, { on := 1, ground := Go.Ground.phase }, { on := 2, ground := Go.Ground.phase }, { on := 3, ground := Go.Ground.phase }, { on := 4, ground := Go.Ground.phase }, { on := 5, ground := Go.Ground.phase }, { on := 6, ground := Go.Ground.phase }, { on := 7, ground := Go.Ground.phase }, { on := 8, ground := Go.Ground.textOnly Go.Departure.lateStores }, { on := 9, ground := Go.Ground.phase }], guard := none }) rfl (fun K hK => ?_) (AllReadyH.nil)
                      have n0 := HNB.out.cs 0 _ rfl
                      have n1 := HNB.out.cs 1 _ rfl
                      have nf := HNB.out.s
                      unfold Soft at nf
                      have nl := HNB.out.lt
                      have nge : w7.heap.size ≤ _ := HNL.out
                      try simp only [show w7.drew.heap.size = w7.heap.size from rfl] at n0 n1 nf nl nge
                      go_simp
                      refine hK.out _ _ ?_ (fun hHeld2 => ?_)
                      · (try dsimp only); first | with_reducible exact hPre.alloc hPre.size _ | ((repeat with_reducible refine below_put nge ?_); with_reducible exact hHeld)
                      clear n0 n1 nf nl nge hPre
                      clear hK K hHeld
                      have hHeld := hHeld2
                      clear hHeld2
                      try simp only [Act.put, List.setIfInBounds_toArray, List.set_cons_zero, List.set_cons_succ]
                      refine wpAnyH_take (i := 11) (oi := { dst := some 15, op := Go.Op.assign (Go.Operand.tmp 91), type := 35, pos := "law.go:123", after := #[{ on := 8, ground := Go.Ground.data }, { on := 10, ground := Go.Ground.chain }, { on := 0, ground := Go.Ground.phase }, { on := 1, ground := Go.Ground.phase }, { on := 2, ground := Go.Ground.phase }, { on := 3, ground := Go.Ground.phase }, { on := 4, ground := Go.Ground.phase }, { on := 5, ground := Go.Ground.phase }, { on := 6, ground := Go.Ground.phase }, { on := 7, ground := Go.Ground.phase }, { on := 8, ground := Go.Ground.phase }, { on := 9, ground := Go.Ground.phase }, { on := 10, ground := Go.Ground.phase }], guard := none }) (v := ?_) rfl (by kernel_rfl) (by kernel_rfl) (by kernel_rfl) (fun _ _ _ h => h) (Or.inl ⟨by rfl, ?_⟩) (by assumption) ?_
                      rotate_left 1
                      · intro w hSw; (try dsimp only at hSw); go_simp; try with_reducible rfl
                      try simp only [Act.put, List.setIfInBounds_toArray, List.set_cons_zero, List.set_cons_succ]
                      refine wpAnyH_done (by kernel_rfl) ?_ _
                      have hZ := hHeld
                      clear hHeld
                      first
                        | (have HY := Lib.hid (HI6.out.putA (Below.refl _ _).drew HB5.out HGP.out HM8.out HC8.out HN8.out HMM.out 28)
                           generalize wx.alloc (.cells #[.int .u64 (G1.length : Int), .slice A8 kp8.length c8] 28) = w9 at *
                           generalize wx.heap.size = gy at *)
                        | (have HY := Lib.hid (HI6.out.putB ((Below.refl _ _).drew.alloc (Nat.le_refl _) _) HB5.out HGP.out HM8.out HC8.out HN8.out HMM.out HNB.out rfl (Nat.le_refl _) (by simp))
                           rw [show w7.drew.heap.size = w7.heap.size from rfl] at HY
                           obtain ⟨gy, hgy⟩ : ∃ gy, w7.heap.size = gy := ⟨_, rfl⟩
                           rw [hgy] at HY hZ
                           try rw [hgy]
                           generalize (wx.setCell ⟨gy, 0, none⟩ (.int .u64 (G1.length : Int))).setCell ⟨gy, 1, none⟩ (.slice A8 kp8.length c8) = w9 at *
                           rw [← hgy] at hZ
                           clear hgy)
                      have q0 := cell_on hZ q0
                      have q1 := cell_on hZ q1
                      have q2 := cell_on hZ q2
                      have q3 := cell_on hZ q3
                      have q4 := cell_on hZ q4
                      have q5 := cell_on hZ q5
                      have q6 := cell_on hZ q6
                      have HMO2 := Lib.hid (HMO.out.on hZ)
                      clear e0 e1 hZ HB5 HMM HPT
                      try clear HNB HB0 HNL
                      by_cases hcode : x.code = 0
                      · have hcd : ((x.code : Int) == 0) = true := by simpa using hcode
                        have hG2 : G1 = G ++ [x] := by rw [HGS.out, if_neg (by omega)]
                        have HG2 := Lib.hid hG2
                        have HL1 := Lib.hid (show G.length + 1 = G1.length by rw [hG2, List.length_append]; rfl)
                        clear hG2
                        rw [show (x.code : Int) = 0 by omega]
                        have HV := Lib.hid (HY.out.on (alloc1B w9 (.cells #[.int .u64 (x.id : Int), .string (ofL x.shop), .string (ofL x.key), .slice Ax x.head.length cx, .string (ofL x.body), .int .u64 (x.due : Int), .int .u8 (x.hops : Int)] 32)))
                        have HNW := Lib.hid (show ∀ jj u, (mcs [(⟨x, Ax, cx⟩ : Mp)])[jj]? = some u → (w9.alloc (.cells #[.int .u64 (x.id : Int), .string (ofL x.shop), .string (ofL x.key), .slice Ax x.head.length cx, .string (ofL x.body), .int .u64 (x.due : Int), .int .u8 (x.hops : Int)] 32)).cell? ((⟨w9.heap.size, 0, none⟩ : Addr).add jj) = some u from fun jj u hu => by
                          rw [mcs_one1] at hu
                          rw [rws_add, Nat.zero_add]
                          exact (World.cell?_alloc_new w9 #[.int .u64 (x.id : Int), .string (ofL x.shop), .string (ofL x.key), .slice Ax x.head.length cx, .string (ofL x.body), .int .u64 (x.due : Int), .int .u8 (x.hops : Int)] 32 jj).trans (by simpa [mpL, maL] using hu))
                        have HPO := Lib.hid (HMO2.out.on (alloc1B w9 (.cells #[.int .u64 (x.id : Int), .string (ofL x.shop), .string (ofL x.key), .slice Ax x.head.length cx, .string (ofL x.body), .int .u64 (x.due : Int), .int .u8 (x.hops : Int)] 32)))
                        have hbs : w3.heap.size + 1 ≤ (w9.alloc (.cells #[.int .u64 (x.id : Int), .string (ofL x.shop), .string (ofL x.key), .slice Ax x.head.length cx, .string (ofL x.body), .int .u64 (x.due : Int), .int .u8 (x.hops : Int)] 32)).heap.size := Nat.succ_le_of_lt HV.out.box.lt
                        go_upto_region 30 with fail
                        go_wp2_with (at_builtin; refine wpList_append_lies _ rfl _ _ 22 rfl (w3.heap.size + 1) 32 iM _ 7 96 Tryd.underlying22 hiM hzM0 hzM1 hzM2 rfl (by decide) (.slice Ag G.length cg) G.length (mcs gs) (by rfl) HV.out.gO ⟨w9.heap.size, 0, none⟩ 1 1 (mcs [(⟨x, Ax, cx⟩ : Mp)]) (by rfl) (by rfl) HNW.out (mcs_one _) (by omega) (by unfold maxLen; omega) (by omega) hbs _ rfl ?_; intro gg cap w10 hown hgrow hat hlt10; rw [HL1.out]; rw [HL1.out] at hown; have HI9 := Lib.hid (HV.out.good (p := ⟨x, Ax, cx⟩) HPO.out HHD.out HG2.out hgrow hown hat); clear hown hgrow hat hlt10 q0 q1 q2 q3 q4 q5 q6 hbs; have y0 := HI9.out.ybox.cs 0 _ rfl; have y1 := HI9.out.ybox.cs 1 _ rfl; have yl := HI9.out.ybox.lt; have e0 := HI9.out.box.cs 0 _ rfl; have e1 := HI9.out.box.cs 1 _ rfl; have el := HI9.out.box.lt; have ef : ∀ jj, w10.frozen? ⟨w3.heap.size, jj, none⟩ = false := HI9.out.box.s; have HD := Lib.hid (HI9.out.done hge))
                        go_roundg (gO - 1)
                        case rel => exact ⟨k + 1, j, A8, c8, kp8, gs ++ [⟨x, Ax, cx⟩], ps2, by have := HK.out; omega, rfl, by go_num, by rw [HG1.out]; exact HD.out, fun h => absurd h (by omega)⟩
                        case measure => have := HK.out; omega
                      · have hcd : ((x.code : Int) == 0) = false := by simpa using hcode
                        have hG2 : G1 = G := by rw [HGS.out, if_pos hcode]
                        subst hG2
                        have HI9 := HY
                        clear q0 q1 q2 q3 q4 q5 q6
                        have y0 := HI9.out.ybox.cs 0 _ rfl
                        have y1 := HI9.out.ybox.cs 1 _ rfl
                        have yl := HI9.out.ybox.lt
                        have e0 := HI9.out.box.cs 0 _ rfl
                        have e1 := HI9.out.box.cs 1 _ rfl
                        have el := HI9.out.box.lt
                        have ef : ∀ jj, w9.frozen? ⟨w3.heap.size, jj, none⟩ = false := HI9.out.box.s
                        have HD := Lib.hid (HI9.out.done hge)
                        go_wp2_with fail
                        go_roundg (gO - 1)
                        case rel => exact ⟨k + 1, j, A8, c8, kp8, gs, ps2, by have := HK.out; omega, rfl, by go_num, by rw [HG1.out]; exact HD.out, fun h => absurd h (by omega)⟩
                        case measure => have := HK.out; omega
                · have HJT := Lib.hid (show i = m by have := HII.out; omega)
                  have HI6 := HI5
                  go_upto_region 28 with fail
                  obtain ⟨hin, bb, off, hAe, hbb, hcl⟩ := (HA.out.on HI6.out.gr).get hkL
                  subst hAe
                  have hin0 := (HA.out.get hkL).1
                  have hli := HFEW.out k hkL
                  obtain ⟨hT, hKq, hCq⟩ := rs_add hkL (by omega)
                  rw [HG.out] at hT hKq hCq
                  have hGs := rsG_succ hkL
                  rw [HG.out] at hGs
                  generalize l.getD k Mp.zero = p at *
                  obtain ⟨x, Ax, cx⟩ := p
                  dsimp only at hin hin0 hli hT hKq hGs hCq
                  obtain ⟨G1, hG1⟩ : ∃ G1, rsG l (k + 1) = G1 := ⟨_, rfl⟩
                  rw [hG1] at hT hKq hGs
                  have HG1 := Lib.hid hG1
                  have hMo : MaOk wr x Ax cx := ml_light_Ok hli hin.cap hin.row
                  have q0 := hcl 0 _ rfl
                  have q1 := hcl 1 _ rfl
                  have q2 := hcl 2 _ rfl
                  have q3 := hcl 3 _ rfl
                  have q4 := hcl 4 _ rfl
                  have q5 := hcl 5 _ rfl
                  have q6 := hcl 6 _ rfl
                  rw [Nat.add_zero] at q0
                  dsimp only at q0 q1 q2 q3 q4 q5 q6
                  have e0 := HI6.out.box.cs 0 _ rfl
                  have e1 := HI6.out.box.cs 1 _ rfl
                  have hgw : w3.heap.size ≤ wr.heap.size := Nat.le_of_lt HI6.out.box.lt
                  have HMO := Lib.hid hMo
                  have HHD := Lib.hid (show x.head ≠ [] → ∀ a, Ax = some a → a.block < w3.heap.size from fun hh a ha => Nat.lt_of_lt_of_le (rs_prs_in hin0.row hh ha) hge)
                  have HPT := Lib.hid (fun W' (hb : Below wr.heap.size wr W') => rsPutB_any (RtU w3.heap.size (.slice Ag G.length cg) (.slice At2 j ct2) wr) G.length c A kp x Ax cx W' hkp1 HI6.out.kc HI6.out.kn (by omega) (HMO.out.on hb) (HI6.out.kM.on hb) (HL.out.on (bthen HI6.out.gr hb (Nat.le_refl _))))
                  unfold RsPutPostB at HPT
                  rw [HI6.out.kx, hT, hKq, hCq] at HPT
                  simp only [maV] at HPT
                  have HGP := Lib.hid (show ∃ m, G1 = G ++ m by by_cases hc0 : x.code ≠ 0; exact ⟨[], by rw [hGs, if_pos hc0, List.append_nil]⟩; exact ⟨[x], by rw [hGs, if_neg hc0]⟩)
                  have HGS := Lib.hid hGs
                  have hi1 : (0 : Int) ≤ (k : Int) := by omega
                  have hi2 : (k : Int) < (l.length : Int) := by omega
                  have hi3 : ((k : Int)).toNat = k := by omega
                  clear hcl hin hin0 hli hT hKq hCq hGs hG1 hMo
                  refine wp_region_held_drew (S := fun a => Below wr.heap.size wr a) (by kernel_rfl) (by (try dsimp only); exact (Below.refl _ _).drew) (fun hHeld => ?_)
                  refine wpAnyH_take (i := 0) (oi := { dst := some 84, op := Go.Op.load 28 (Go.Operand.tmp 5), type := 28, pos := "law.go:123", after := #[], guard := none }) (v := ?_) rfl (by kernel_rfl) (by kernel_rfl) (by kernel_rfl) (fun _ _ _ h => h) (Or.inl ⟨by rfl, ?_⟩) (by assumption) ?_
                  rotate_left 1
                  · intro w hSw; (try dsimp only at hSw); have e0 := cell_on hSw e0; have e1 := cell_on hSw e1; have q0 := cell_on hSw q0; have q1 := cell_on hSw q1; have q2 := cell_on hSw q2; have q3 := cell_on hSw q3; have q4 := cell_on hSw q4; have q5 := cell_on hSw q5; have q6 := cell_on hSw q6; go_simp; try with_reducible rfl
                  try simp only [Act.put, List.setIfInBounds_toArray, List.set_cons_zero, List.set_cons_succ]
                  refine wpAnyH_take (i := 1) (oi := { dst := some 85, op := Go.Op.move (Go.Operand.tmp 0), type := 22, pos := "law.go:123", after := #[], guard := none }) (v := ?_) rfl (by kernel_rfl) (by kernel_rfl) (by kernel_rfl) (fun _ _ _ h => h) (Or.inl ⟨by rfl, ?_⟩) (by assumption) ?_
                  rotate_left 1
                  · intro w hSw; (try dsimp only at hSw); go_simp; try with_reducible rfl
                  try simp only [Act.put, List.setIfInBounds_toArray, List.set_cons_zero, List.set_cons_succ]
                  refine wpAnyH_take (i := 2) (oi := { dst := some 86, op := Go.Op.move (Go.Operand.tmp 9), type := 3, pos := "law.go:123", after := #[], guard := none }) (v := ?_) rfl (by kernel_rfl) (by kernel_rfl) (by kernel_rfl) (fun _ _ _ h => h) (Or.inl ⟨by rfl, ?_⟩) (by assumption) ?_
                  rotate_left 1
                  · intro w hSw; (try dsimp only at hSw); go_simp; try with_reducible rfl
                  try simp only [Act.put, List.setIfInBounds_toArray, List.set_cons_zero, List.set_cons_succ]
                  refine wpAnyH_take (i := 3) (oi := { dst := some 87, op := Go.Op.indexAddr 22 (Go.Operand.tmp 85) (Go.Operand.tmp 86), type := 0, pos := "law.go:123", after := #[{ on := 1, ground := Go.Ground.data }, { on := 2, ground := Go.Ground.data }], guard := none }) (v := ?_) rfl (by kernel_rfl) (by kernel_rfl) (by kernel_rfl) (fun _ _ _ h => h) (Or.inl ⟨by rfl, ?_⟩) (by assumption) ?_
                  rotate_left 1
                  · intro w hSw; (try dsimp only at hSw); go_simp; try with_reducible rfl
                  try simp only [Act.put, List.setIfInBounds_toArray, List.set_cons_zero, List.set_cons_succ]
                  refine wpAnyH_take (i := 4) (oi := { dst := some 88, op := Go.Op.load 32 (Go.Operand.tmp 87), type := 32, pos := "law.go:123", after := #[{ on := 3, ground := Go.Ground.data }], guard := none }) (v := ?_) rfl (by kernel_rfl) (by kernel_rfl) (by kernel_rfl) (fun _ _ _ h => h) (Or.inl ⟨by rfl, ?_⟩) (by assumption) ?_
                  rotate_left 1
                  · intro w hSw; (try dsimp only at hSw); have e0 := cell_on hSw e0; have e1 := cell_on hSw e1; have q0 := cell_on hSw q0; have q1 := cell_on hSw q1; have q2 := cell_on hSw q2; have q3 := cell_on hSw q3; have q4 := cell_on hSw q4; have q5 := cell_on hSw q5; have q6 := cell_on hSw q6; go_simp; try with_reducible rfl
                  try simp only [Act.put, List.setIfInBounds_toArray, List.set_cons_zero, List.set_cons_succ]
                  refine wpAnyH_ready (rs := [5, 9]) (by kernel_rfl) (by simp) ?_
                  refine AllReadyH.cons (o := { dst := some 89, op := Go.Op.call { callee := Go.Callee.value (Go.Operand.func 9), args := #[Go.Operand.tmp 84, Go.Operand.tmp 88], argTypes := #[28, 32] }, type := 36, pos := "law.go:123", after := #[{ on := 0, ground := Go.Ground.data }, { on := 4, ground := Go.Ground.data }], guard := none }) rfl (fun K hK => ?_) (AllReadyH.cons (o := { dst := some 14, op := Go.Op.alloc 28, type := 0, pos := "law.go:123", after := #[], guard := none }) rfl (fun K hK => ?_) (AllReadyH.nil))
                  · skip
                    go_simp
                    go_at_call 9
                    refine (HPT.out _ hHeld).mono ?_
                    rintro e wx ⟨A8, c8, kp8, rfl, hm8, hc8, hn8, hM8, hb2⟩
                    try replace HNB := Lib.hid (HNB.out.on hb2)
                    have HB5 := Lib.hid hb2
                    have HM8 := Lib.hid hm8
                    have HC8 := Lib.hid hc8
                    have HN8 := Lib.hid hn8
                    have HMM := Lib.hid hM8
                    clear hm8 hc8 hn8 hM8
                    refine hK.out _ _ (bthen hHeld hb2 (Nat.le_refl _)) (fun hHeld2 => ?_)
                    clear hK K hHeld hb2
                    have hHeld := hHeld2
                    clear hHeld2
                    try simp only [Act.put, List.setIfInBounds_toArray, List.set_cons_zero, List.set_cons_succ]
                    refine wpAnyH_take (i := 6) (oi := { dst := some 83, op := Go.Op.move (Go.Operand.tmp 89), type := 36, pos := "law.go:123", after := #[{ on := 5, ground := Go.Ground.data }], guard := none }) (v := ?_) rfl (by kernel_rfl) (by kernel_rfl) (by kernel_rfl) (fun _ _ _ h => h) (Or.inl ⟨by rfl, ?_⟩) (by assumption) ?_
                    rotate_left 1
                    · intro w hSw; (try dsimp only at hSw); go_simp; try with_reducible rfl
                    try simp only [Act.put, List.setIfInBounds_toArray, List.set_cons_zero, List.set_cons_succ]
                    refine wpAnyH_take (i := 7) (oi := { dst := some 90, op := Go.Op.extract (Go.Operand.tmp 83) 0, type := 28, pos := "law.go:123", after := #[{ on := 6, ground := Go.Ground.data }], guard := none }) (v := ?_) rfl (by kernel_rfl) (by kernel_rfl) (by kernel_rfl) (fun _ _ _ h => h) (Or.inl ⟨by rfl, ?_⟩) (by assumption) ?_
                    rotate_left 1
                    · intro w hSw; (try dsimp only at hSw); go_simp; try with_reducible rfl
                    try simp only [Act.put, List.setIfInBounds_toArray, List.set_cons_zero, List.set_cons_succ]
                    refine wpAnyH_take (i := 8) (oi := { dst := some 91, op := Go.Op.extract (Go.Operand.tmp 83) 1, type := 35, pos := "law.go:123", after := #[{ on := 6, ground := Go.Ground.data }, { on := 10, ground := Go.Ground.gcOnly Go.Departure.lateStores }], guard := none }) (v := ?_) rfl (by kernel_rfl) (by kernel_rfl) (by kernel_rfl) (fun _ _ _ h => h) (Or.inl ⟨by rfl, ?_⟩) (by assumption) ?_
                    rotate_left 1
                    · intro w hSw; (try dsimp only at hSw); go_simp; try with_reducible rfl
                    try simp only [Act.put, List.setIfInBounds_toArray, List.set_cons_zero, List.set_cons_succ]
                    refine wpAnyH_ready (rs := [9]) (by kernel_rfl) (by simp) ?_
                    refine AllReadyH.cons (o := { dst := some 14, op := Go.Op.alloc 28, type := 0, pos := "law.go:123", after := #[], guard := none }) rfl (fun K hK => ?_) (AllReadyH.nil)
                    go_simp
                    have HNB := Lib.hid (BoxC.new (w := w3) (W := _) (Nat.le_trans hgw hHeld.size) #[.int .u64 0, .slice none 0 0] 28)
                    have HB0 := Lib.hid hHeld
                    have HNL := Lib.hid hHeld.size
                    have hPre := hHeld
                    refine hK.out _ _ (hHeld.alloc hHeld.size _) (fun hHeld2 => ?_)
                    clear hK K hHeld
                    have hHeld := hHeld2
                    clear hHeld2
                    try simp only [Act.put, List.setIfInBounds_toArray, List.set_cons_zero, List.set_cons_succ]
                    refine wpAnyH_ready (rs := [10]) (by kernel_rfl) (by simp) ?_
                    refine AllReadyH.cons (o := { dst := none, op := Go.Op.store 28 (Go.Operand.tmp 14) (Go.Operand.tmp 90), type := 0, pos := "law.go:123", after := #[{ on := 9, ground := Go.Ground.data }, { on := 7, ground := Go.Ground.data }, { on := 5, ground := Go.Ground.chain }, { on := 0, ground := Go.Ground.phase }, { on := 1, ground := Go.Ground.phase }, { on := 2, ground := Go.Ground.phase }, { on := 3, ground := Go.Ground.phase }, { on := 4, ground := Go.Ground.phase }, { on := 5, ground := Go.Ground.phase }, { on := 6, ground := Go.Ground.phase }, { on := 7, ground := Go.Ground.phase }, { on := 8, ground := Go.Ground.textOnly Go.Departure.lateStores }, { on := 9, ground := Go.Ground.phase }], guard := none }) rfl (fun K hK => ?_) (AllReadyH.nil)
                    have n0 := HNB.out.cs 0 _ rfl
                    have n1 := HNB.out.cs 1 _ rfl
                    have nf := HNB.out.s
                    unfold Soft at nf
                    have nl := HNB.out.lt
                    have nge : wr.heap.size ≤ _ := HNL.out
                    try simp only [show wr.drew.heap.size = wr.heap.size from rfl] at n0 n1 nf nl nge
                    go_simp
                    refine hK.out _ _ ?_ (fun hHeld2 => ?_)
                    · (try dsimp only); first | with_reducible exact hPre.alloc hPre.size _ | ((repeat with_reducible refine below_put nge ?_); with_reducible exact hHeld)
                    clear n0 n1 nf nl nge hPre
                    clear hK K hHeld
                    have hHeld := hHeld2
                    clear hHeld2
                    try simp only [Act.put, List.setIfInBounds_toArray, List.set_cons_zero, List.set_cons_succ]
                    refine wpAnyH_take (i := 11) (oi := { dst := some 15, op := Go.Op.assign (Go.Operand.tmp 91), type := 35, pos := "law.go:123", after := #[{ on := 8, ground := Go.Ground.data }, { on := 10, ground := Go.Ground.chain }, { on := 0, ground := Go.Ground.phase }, { on := 1, ground := Go.Ground.phase }, { on := 2, ground := Go.Ground.phase }, { on := 3, ground := Go.Ground.phase }, { on := 4, ground := Go.Ground.phase }, { on := 5, ground := Go.Ground.phase }, { on := 6, ground := Go.Ground.phase }, { on := 7, ground := Go.Ground.phase }, { on := 8, ground := Go.Ground.phase }, { on := 9, ground := Go.Ground.phase }, { on := 10, ground := Go.Ground.phase }], guard := none }) (v := ?_) rfl (by kernel_rfl) (by kernel_rfl) (by kernel_rfl) (fun _ _ _ h => h) (Or.inl ⟨by rfl, ?_⟩) (by assumption) ?_
                    rotate_left 1
                    · intro w hSw; (try dsimp only at hSw); go_simp; try with_reducible rfl
                    try simp only [Act.put, List.setIfInBounds_toArray, List.set_cons_zero, List.set_cons_succ]
                    refine wpAnyH_done (by kernel_rfl) ?_ _
                    have hZ := hHeld
                    clear hHeld
                    first
                      | (have HY := Lib.hid (HI6.out.putA (Below.refl _ _).drew HB5.out HGP.out HM8.out HC8.out HN8.out HMM.out 28)
                         generalize wx.alloc (.cells #[.int .u64 (G1.length : Int), .slice A8 kp8.length c8] 28) = w9 at *
                         generalize wx.heap.size = gy at *)
                      | (have HY := Lib.hid (HI6.out.putB ((Below.refl _ _).drew.alloc (Nat.le_refl _) _) HB5.out HGP.out HM8.out HC8.out HN8.out HMM.out HNB.out rfl (Nat.le_refl _) (by simp))
                         rw [show wr.drew.heap.size = wr.heap.size from rfl] at HY
                         obtain ⟨gy, hgy⟩ : ∃ gy, wr.heap.size = gy := ⟨_, rfl⟩
                         rw [hgy] at HY hZ
                         try rw [hgy]
                         generalize (wx.setCell ⟨gy, 0, none⟩ (.int .u64 (G1.length : Int))).setCell ⟨gy, 1, none⟩ (.slice A8 kp8.length c8) = w9 at *
                         rw [← hgy] at hZ
                         clear hgy)
                    have q0 := cell_on hZ q0
                    have q1 := cell_on hZ q1
                    have q2 := cell_on hZ q2
                    have q3 := cell_on hZ q3
                    have q4 := cell_on hZ q4
                    have q5 := cell_on hZ q5
                    have q6 := cell_on hZ q6
                    have HMO2 := Lib.hid (HMO.out.on hZ)
                    clear e0 e1 hZ HB5 HMM HPT
                    try clear HNB HB0 HNL
                    by_cases hcode : x.code = 0
                    · have hcd : ((x.code : Int) == 0) = true := by simpa using hcode
                      have hG2 : G1 = G ++ [x] := by rw [HGS.out, if_neg (by omega)]
                      have HG2 := Lib.hid hG2
                      have HL1 := Lib.hid (show G.length + 1 = G1.length by rw [hG2, List.length_append]; rfl)
                      clear hG2
                      rw [show (x.code : Int) = 0 by omega]
                      have HV := Lib.hid (HY.out.on (alloc1B w9 (.cells #[.int .u64 (x.id : Int), .string (ofL x.shop), .string (ofL x.key), .slice Ax x.head.length cx, .string (ofL x.body), .int .u64 (x.due : Int), .int .u8 (x.hops : Int)] 32)))
                      have HNW := Lib.hid (show ∀ jj u, (mcs [(⟨x, Ax, cx⟩ : Mp)])[jj]? = some u → (w9.alloc (.cells #[.int .u64 (x.id : Int), .string (ofL x.shop), .string (ofL x.key), .slice Ax x.head.length cx, .string (ofL x.body), .int .u64 (x.due : Int), .int .u8 (x.hops : Int)] 32)).cell? ((⟨w9.heap.size, 0, none⟩ : Addr).add jj) = some u from fun jj u hu => by
                        rw [mcs_one1] at hu
                        rw [rws_add, Nat.zero_add]
                        exact (World.cell?_alloc_new w9 #[.int .u64 (x.id : Int), .string (ofL x.shop), .string (ofL x.key), .slice Ax x.head.length cx, .string (ofL x.body), .int .u64 (x.due : Int), .int .u8 (x.hops : Int)] 32 jj).trans (by simpa [mpL, maL] using hu))
                      have HPO := Lib.hid (HMO2.out.on (alloc1B w9 (.cells #[.int .u64 (x.id : Int), .string (ofL x.shop), .string (ofL x.key), .slice Ax x.head.length cx, .string (ofL x.body), .int .u64 (x.due : Int), .int .u8 (x.hops : Int)] 32)))
                      have hbs : w3.heap.size + 1 ≤ (w9.alloc (.cells #[.int .u64 (x.id : Int), .string (ofL x.shop), .string (ofL x.key), .slice Ax x.head.length cx, .string (ofL x.body), .int .u64 (x.due : Int), .int .u8 (x.hops : Int)] 32)).heap.size := Nat.succ_le_of_lt HV.out.box.lt
                      go_upto_region 30 with fail
                      go_wp2_with (at_builtin; refine wpList_append_lies _ rfl _ _ 22 rfl (w3.heap.size + 1) 32 iM _ 7 96 Tryd.underlying22 hiM hzM0 hzM1 hzM2 rfl (by decide) (.slice Ag G.length cg) G.length (mcs gs) (by rfl) HV.out.gO ⟨w9.heap.size, 0, none⟩ 1 1 (mcs [(⟨x, Ax, cx⟩ : Mp)]) (by rfl) (by rfl) HNW.out (mcs_one _) (by omega) (by unfold maxLen; omega) (by omega) hbs _ rfl ?_; intro gg cap w10 hown hgrow hat hlt10; rw [HL1.out]; rw [HL1.out] at hown; have HI9 := Lib.hid (HV.out.good (p := ⟨x, Ax, cx⟩) HPO.out HHD.out HG2.out hgrow hown hat); clear hown hgrow hat hlt10 q0 q1 q2 q3 q4 q5 q6 hbs; have y0 := HI9.out.ybox.cs 0 _ rfl; have y1 := HI9.out.ybox.cs 1 _ rfl; have yl := HI9.out.ybox.lt; have e0 := HI9.out.box.cs 0 _ rfl; have e1 := HI9.out.box.cs 1 _ rfl; have el := HI9.out.box.lt; have ef : ∀ jj, w10.frozen? ⟨w3.heap.size, jj, none⟩ = false := HI9.out.box.s; have HD := Lib.hid (HI9.out.done hge))
                      go_roundg (gO - 1)
                      case rel => exact ⟨k + 1, j, A8, c8, kp8, gs ++ [⟨x, Ax, cx⟩], ps2, by have := HK.out; omega, rfl, by go_num, by rw [HG1.out]; exact HD.out, fun h => absurd h (by omega)⟩
                      case measure => have := HK.out; omega
                    · have hcd : ((x.code : Int) == 0) = false := by simpa using hcode
                      have hG2 : G1 = G := by rw [HGS.out, if_pos hcode]
                      subst hG2
                      have HI9 := HY
                      clear q0 q1 q2 q3 q4 q5 q6
                      have y0 := HI9.out.ybox.cs 0 _ rfl
                      have y1 := HI9.out.ybox.cs 1 _ rfl
                      have yl := HI9.out.ybox.lt
                      have e0 := HI9.out.box.cs 0 _ rfl
                      have e1 := HI9.out.box.cs 1 _ rfl
                      have el := HI9.out.box.lt
                      have ef : ∀ jj, w9.frozen? ⟨w3.heap.size, jj, none⟩ = false := HI9.out.box.s
                      have HD := Lib.hid (HI9.out.done hge)
                      go_wp2_with fail
                      go_roundg (gO - 1)
                      case rel => exact ⟨k + 1, j, A8, c8, kp8, gs, ps2, by have := HK.out; omega, rfl, by go_num, by rw [HG1.out]; exact HD.out, fun h => absurd h (by omega)⟩
                      case measure => have := HK.out; omega
                  · skip
                    go_simp
                    have HNB := Lib.hid (BoxC.new (w := w3) (W := _) (Nat.le_trans hgw hHeld.size) #[.int .u64 0, .slice none 0 0] 28)
                    have HB0 := Lib.hid hHeld
                    have HNL := Lib.hid hHeld.size
                    have hPre := hHeld
                    refine hK.out _ _ (hHeld.alloc hHeld.size _) (fun hHeld2 => ?_)
                    clear hK K hHeld
                    have hHeld := hHeld2
                    clear hHeld2
                    try simp only [Act.put, List.setIfInBounds_toArray, List.set_cons_zero, List.set_cons_succ]
                    refine wpAnyH_ready (rs := [5]) (by kernel_rfl) (by simp) ?_
                    refine AllReadyH.cons (o := { dst := some 89, op := Go.Op.call { callee := Go.Callee.value (Go.Operand.func 9), args := #[Go.Operand.tmp 84, Go.Operand.tmp 88], argTypes := #[28, 32] }, type := 36, pos := "law.go:123", after := #[{ on := 0, ground := Go.Ground.data }, { on := 4, ground := Go.Ground.data }], guard := none }) rfl (fun K hK => ?_) (AllReadyH.nil)
                    go_simp
                    go_at_call 9
                    refine (HPT.out _ hHeld).mono ?_
                    rintro e wx ⟨A8, c8, kp8, rfl, hm8, hc8, hn8, hM8, hb2⟩
                    try replace HNB := Lib.hid (HNB.out.on hb2)
                    have HB5 := Lib.hid hb2
                    have HM8 := Lib.hid hm8
                    have HC8 := Lib.hid hc8
                    have HN8 := Lib.hid hn8
                    have HMM := Lib.hid hM8
                    clear hm8 hc8 hn8 hM8
                    refine hK.out _ _ (bthen hHeld hb2 (Nat.le_refl _)) (fun hHeld2 => ?_)
                    clear hK K hHeld hb2
                    have hHeld := hHeld2
                    clear hHeld2
                    try simp only [Act.put, List.setIfInBounds_toArray, List.set_cons_zero, List.set_cons_succ]
                    refine wpAnyH_take (i := 6) (oi := { dst := some 83, op := Go.Op.move (Go.Operand.tmp 89), type := 36, pos := "law.go:123", after := #[{ on := 5, ground := Go.Ground.data }], guard := none }) (v := ?_) rfl (by kernel_rfl) (by kernel_rfl) (by kernel_rfl) (fun _ _ _ h => h) (Or.inl ⟨by rfl, ?_⟩) (by assumption) ?_
                    rotate_left 1
                    · intro w hSw; (try dsimp only at hSw); go_simp; try with_reducible rfl
                    try simp only [Act.put, List.setIfInBounds_toArray, List.set_cons_zero, List.set_cons_succ]
                    refine wpAnyH_take (i := 7) (oi := { dst := some 90, op := Go.Op.extract (Go.Operand.tmp 83) 0, type := 28, pos := "law.go:123", after := #[{ on := 6, ground := Go.Ground.data }], guard := none }) (v := ?_) rfl (by kernel_rfl) (by kernel_rfl) (by kernel_rfl) (fun _ _ _ h => h) (Or.inl ⟨by rfl, ?_⟩) (by assumption) ?_
                    rotate_left 1
                    · intro w hSw; (try dsimp only at hSw); go_simp; try with_reducible rfl
                    try simp only [Act.put, List.setIfInBounds_toArray, List.set_cons_zero, List.set_cons_succ]
                    refine wpAnyH_take (i := 8) (oi := { dst := some 91, op := Go.Op.extract (Go.Operand.tmp 83) 1, type := 35, pos := "law.go:123", after := #[{ on := 6, ground := Go.Ground.data }, { on := 10, ground := Go.Ground.gcOnly Go.Departure.lateStores }], guard := none }) (v := ?_) rfl (by kernel_rfl) (by kernel_rfl) (by kernel_rfl) (fun _ _ _ h => h) (Or.inl ⟨by rfl, ?_⟩) (by assumption) ?_
                    rotate_left 1
                    · intro w hSw; (try dsimp only at hSw); go_simp; try with_reducible rfl
                    try simp only [Act.put, List.setIfInBounds_toArray, List.set_cons_zero, List.set_cons_succ]
                    refine wpAnyH_ready (rs := [10]) (by kernel_rfl) (by simp) ?_
                    refine AllReadyH.cons (o := { dst := none, op := Go.Op.store 28 (Go.Operand.tmp 14) (Go.Operand.tmp 90), type := 0, pos := "law.go:123", after := #[{ on := 9, ground := Go.Ground.data }, { on := 7, ground := Go.Ground.data }, { on := 5, ground := Go.Ground.chain }, { on := 0, ground := Go.Ground.phase }, { on := 1, ground := Go.Ground.phase }, { on := 2, ground := Go.Ground.phase }, { on := 3, ground := Go.Ground.phase }, { on := 4, ground := Go.Ground.phase }, { on := 5, ground := Go.Ground.phase }, { on := 6, ground := Go.Ground.phase }, { on := 7, ground := Go.Ground.phase }, { on := 8, ground := Go.Ground.textOnly Go.Departure.lateStores }, { on := 9, ground := Go.Ground.phase }], guard := none }) rfl (fun K hK => ?_) (AllReadyH.nil)
                    have n0 := HNB.out.cs 0 _ rfl
                    have n1 := HNB.out.cs 1 _ rfl
                    have nf := HNB.out.s
                    unfold Soft at nf
                    have nl := HNB.out.lt
                    have nge : wr.heap.size ≤ _ := HNL.out
                    try simp only [show wr.drew.heap.size = wr.heap.size from rfl] at n0 n1 nf nl nge
                    go_simp
                    refine hK.out _ _ ?_ (fun hHeld2 => ?_)
                    · (try dsimp only); first | with_reducible exact hPre.alloc hPre.size _ | ((repeat with_reducible refine below_put nge ?_); with_reducible exact hHeld)
                    clear n0 n1 nf nl nge hPre
                    clear hK K hHeld
                    have hHeld := hHeld2
                    clear hHeld2
                    try simp only [Act.put, List.setIfInBounds_toArray, List.set_cons_zero, List.set_cons_succ]
                    refine wpAnyH_take (i := 11) (oi := { dst := some 15, op := Go.Op.assign (Go.Operand.tmp 91), type := 35, pos := "law.go:123", after := #[{ on := 8, ground := Go.Ground.data }, { on := 10, ground := Go.Ground.chain }, { on := 0, ground := Go.Ground.phase }, { on := 1, ground := Go.Ground.phase }, { on := 2, ground := Go.Ground.phase }, { on := 3, ground := Go.Ground.phase }, { on := 4, ground := Go.Ground.phase }, { on := 5, ground := Go.Ground.phase }, { on := 6, ground := Go.Ground.phase }, { on := 7, ground := Go.Ground.phase }, { on := 8, ground := Go.Ground.phase }, { on := 9, ground := Go.Ground.phase }, { on := 10, ground := Go.Ground.phase }], guard := none }) (v := ?_) rfl (by kernel_rfl) (by kernel_rfl) (by kernel_rfl) (fun _ _ _ h => h) (Or.inl ⟨by rfl, ?_⟩) (by assumption) ?_
                    rotate_left 1
                    · intro w hSw; (try dsimp only at hSw); go_simp; try with_reducible rfl
                    try simp only [Act.put, List.setIfInBounds_toArray, List.set_cons_zero, List.set_cons_succ]
                    refine wpAnyH_done (by kernel_rfl) ?_ _
                    have hZ := hHeld
                    clear hHeld
                    first
                      | (have HY := Lib.hid (HI6.out.putA (Below.refl _ _).drew HB5.out HGP.out HM8.out HC8.out HN8.out HMM.out 28)
                         generalize wx.alloc (.cells #[.int .u64 (G1.length : Int), .slice A8 kp8.length c8] 28) = w9 at *
                         generalize wx.heap.size = gy at *)
                      | (have HY := Lib.hid (HI6.out.putB ((Below.refl _ _).drew.alloc (Nat.le_refl _) _) HB5.out HGP.out HM8.out HC8.out HN8.out HMM.out HNB.out rfl (Nat.le_refl _) (by simp))
                         rw [show wr.drew.heap.size = wr.heap.size from rfl] at HY
                         obtain ⟨gy, hgy⟩ : ∃ gy, wr.heap.size = gy := ⟨_, rfl⟩
                         rw [hgy] at HY hZ
                         try rw [hgy]
                         generalize (wx.setCell ⟨gy, 0, none⟩ (.int .u64 (G1.length : Int))).setCell ⟨gy, 1, none⟩ (.slice A8 kp8.length c8) = w9 at *
                         rw [← hgy] at hZ
                         clear hgy)
                    have q0 := cell_on hZ q0
                    have q1 := cell_on hZ q1
                    have q2 := cell_on hZ q2
                    have q3 := cell_on hZ q3
                    have q4 := cell_on hZ q4
                    have q5 := cell_on hZ q5
                    have q6 := cell_on hZ q6
                    have HMO2 := Lib.hid (HMO.out.on hZ)
                    clear e0 e1 hZ HB5 HMM HPT
                    try clear HNB HB0 HNL
                    by_cases hcode : x.code = 0
                    · have hcd : ((x.code : Int) == 0) = true := by simpa using hcode
                      have hG2 : G1 = G ++ [x] := by rw [HGS.out, if_neg (by omega)]
                      have HG2 := Lib.hid hG2
                      have HL1 := Lib.hid (show G.length + 1 = G1.length by rw [hG2, List.length_append]; rfl)
                      clear hG2
                      rw [show (x.code : Int) = 0 by omega]
                      have HV := Lib.hid (HY.out.on (alloc1B w9 (.cells #[.int .u64 (x.id : Int), .string (ofL x.shop), .string (ofL x.key), .slice Ax x.head.length cx, .string (ofL x.body), .int .u64 (x.due : Int), .int .u8 (x.hops : Int)] 32)))
                      have HNW := Lib.hid (show ∀ jj u, (mcs [(⟨x, Ax, cx⟩ : Mp)])[jj]? = some u → (w9.alloc (.cells #[.int .u64 (x.id : Int), .string (ofL x.shop), .string (ofL x.key), .slice Ax x.head.length cx, .string (ofL x.body), .int .u64 (x.due : Int), .int .u8 (x.hops : Int)] 32)).cell? ((⟨w9.heap.size, 0, none⟩ : Addr).add jj) = some u from fun jj u hu => by
                        rw [mcs_one1] at hu
                        rw [rws_add, Nat.zero_add]
                        exact (World.cell?_alloc_new w9 #[.int .u64 (x.id : Int), .string (ofL x.shop), .string (ofL x.key), .slice Ax x.head.length cx, .string (ofL x.body), .int .u64 (x.due : Int), .int .u8 (x.hops : Int)] 32 jj).trans (by simpa [mpL, maL] using hu))
                      have HPO := Lib.hid (HMO2.out.on (alloc1B w9 (.cells #[.int .u64 (x.id : Int), .string (ofL x.shop), .string (ofL x.key), .slice Ax x.head.length cx, .string (ofL x.body), .int .u64 (x.due : Int), .int .u8 (x.hops : Int)] 32)))
                      have hbs : w3.heap.size + 1 ≤ (w9.alloc (.cells #[.int .u64 (x.id : Int), .string (ofL x.shop), .string (ofL x.key), .slice Ax x.head.length cx, .string (ofL x.body), .int .u64 (x.due : Int), .int .u8 (x.hops : Int)] 32)).heap.size := Nat.succ_le_of_lt HV.out.box.lt
                      go_upto_region 30 with fail
                      go_wp2_with (at_builtin; refine wpList_append_lies _ rfl _ _ 22 rfl (w3.heap.size + 1) 32 iM _ 7 96 Tryd.underlying22 hiM hzM0 hzM1 hzM2 rfl (by decide) (.slice Ag G.length cg) G.length (mcs gs) (by rfl) HV.out.gO ⟨w9.heap.size, 0, none⟩ 1 1 (mcs [(⟨x, Ax, cx⟩ : Mp)]) (by rfl) (by rfl) HNW.out (mcs_one _) (by omega) (by unfold maxLen; omega) (by omega) hbs _ rfl ?_; intro gg cap w10 hown hgrow hat hlt10; rw [HL1.out]; rw [HL1.out] at hown; have HI9 := Lib.hid (HV.out.good (p := ⟨x, Ax, cx⟩) HPO.out HHD.out HG2.out hgrow hown hat); clear hown hgrow hat hlt10 q0 q1 q2 q3 q4 q5 q6 hbs; have y0 := HI9.out.ybox.cs 0 _ rfl; have y1 := HI9.out.ybox.cs 1 _ rfl; have yl := HI9.out.ybox.lt; have e0 := HI9.out.box.cs 0 _ rfl; have e1 := HI9.out.box.cs 1 _ rfl; have el := HI9.out.box.lt; have ef : ∀ jj, w10.frozen? ⟨w3.heap.size, jj, none⟩ = false := HI9.out.box.s; have HD := Lib.hid (HI9.out.done hge))
                      go_roundg (gO - 1)
                      case rel => exact ⟨k + 1, j, A8, c8, kp8, gs ++ [⟨x, Ax, cx⟩], ps2, by have := HK.out; omega, rfl, by go_num, by rw [HG1.out]; exact HD.out, fun h => absurd h (by omega)⟩
                      case measure => have := HK.out; omega
                    · have hcd : ((x.code : Int) == 0) = false := by simpa using hcode
                      have hG2 : G1 = G := by rw [HGS.out, if_pos hcode]
                      subst hG2
                      have HI9 := HY
                      clear q0 q1 q2 q3 q4 q5 q6
                      have y0 := HI9.out.ybox.cs 0 _ rfl
                      have y1 := HI9.out.ybox.cs 1 _ rfl
                      have yl := HI9.out.ybox.lt
                      have e0 := HI9.out.box.cs 0 _ rfl
                      have e1 := HI9.out.box.cs 1 _ rfl
                      have el := HI9.out.box.lt
                      have ef : ∀ jj, w9.frozen? ⟨w3.heap.size, jj, none⟩ = false := HI9.out.box.s
                      have HD := Lib.hid (HI9.out.done hge)
                      go_wp2_with fail
                      go_roundg (gO - 1)
                      case rel => exact ⟨k + 1, j, A8, c8, kp8, gs, ps2, by have := HK.out; omega, rfl, by go_num, by rw [HG1.out]; exact HD.out, fun h => absurd h (by omega)⟩
                      case measure => have := HK.out; omega
          · have hq3 : decide ((k : Int) < (ak.length : Int)) = false := decide_eq_false (by omega)
            have hq4 : decide (k < ak.length) = false := decide_eq_false hka
            obtain ⟨m, hmm, hm0⟩ : ∃ m : Nat, m ≤ 2 ∧ (0 : Int) = (m : Int) := ⟨0, by omega, rfl⟩
            go_wp2_with fail
            refine (HTO.out _).mono ?_
            rintro e w4 ⟨rfl, b4⟩
            rw [hm0]
            clear hm0
            have HI4 := Lib.hid (HI.out.on b4)
            clear b4 e0 e1 el
            have e0 := HI4.out.box.cs 0 _ rfl
            have e1 := HI4.out.box.cs 1 _ rfl
            have el := HI4.out.box.lt
            have hsub : IntKind.u64.wrap ((G.length : Int) - (t : Int)) = ((G.length - t : Nat) : Int) := by rw [IntKind.wrap_u64]; omega
            by_cases h16 : 16 < G.length - t
            · have hd16 : decide ((G.length : Int) - (t : Int) > 16) = true := decide_eq_true (by omega)
              clear hsub
              go_wp2_with fail
              go_ret
              exact ⟨rfl, HI4.out.gr⟩
            · have hd16 : decide ((G.length : Int) - (t : Int) > 16) = false := decide_eq_false (by omega)
              have hh16 : G.length - t ≤ 16 := by omega
              clear hsub h16
              go_wp2_with fail
              go_loopg [7, 8, 58] m (fun g vt vl vi wr => RiSt w w3 G A c kp gs (.slice Ag G.length cg) m t g vt vl vi wr)
              case atStart => exact ⟨0, ps, by omega, rfl, rfl, HI4.out⟩
              case round =>
                obtain ⟨i, ps2, hi, rfl, rfl, hI2⟩ := hrel
                have HII := Lib.hid hi
                have HI5 := Lib.hid hI2
                clear hi hI2 e0 e1 el
                obtain ⟨At2, ct2, hvt2, -⟩ := HI5.out.ps
                subst hvt2
                have htl2 := HI5.out.le
                obtain ⟨j, hj⟩ : ∃ j, t + i = j := ⟨_, rfl⟩
                rw [hj] at HI5 htl2
                have hjt : t ≤ j := by omega
                have HJ := Lib.hid hj
                have e0 := HI5.out.box.cs 0 _ rfl
                have e1 := HI5.out.box.cs 1 _ rfl
                have el := HI5.out.box.lt
                rw [hj]
                clear hj
                by_cases him : i < m
                · have HAF := Lib.hid (rsAfter_any G.length c A kp j wr (by omega) hkp2 hkp3 (by omega) (by omega) HI5.out.kM.m)
                  by_cases hjT : j < G.length
                  · obtain ⟨ha1, ha2⟩ := rt_aft hjT (by omega)
                    have haf := HAF.out
                    unfold RsAftPost at haf
                    rw [HI5.out.kx, lastN_len, ← HKP.out] at haf
                    rw [lastN_len, ← HKP.out] at ha1
                    rw [ha1, ha2, decide_eq_true hjT] at haf
                    have HAF2 := Lib.hid haf
                    clear haf HAF ha1 ha2
                    obtain ⟨y, hy⟩ : ∃ y, G.getD j Ml.zero = y := ⟨_, rfl⟩
                    rw [hy] at HAF2
                    have HYE := Lib.hid hy
                    clear hy
                    have HYK := Lib.hid (rt_kept HI5.out.kx hjT (by omega))
                    go_wp2_with fail
                    refine HAF2.out.mono ?_
                    rintro e w6 ⟨Ay, cy, rfl, ho, b6⟩
                    have HT7 := Lib.hid (alloc1B w6 (.cells #[.int .u64 (y.id : Int), .string (ofL y.shop), .string (ofL y.key), .slice Ay y.head.length cy, .string (ofL y.body), .int .u64 (y.due : Int), .int .u8 (y.hops : Int)] 32))
                    have HZ7 := Lib.hid (BoxC.new (w := w6) (W := w6) (Nat.le_refl _) #[.int .u64 (y.id : Int), .string (ofL y.shop), .string (ofL y.key), .slice Ay y.head.length cy, .string (ofL y.body), .int .u64 (y.due : Int), .int .u8 (y.hops : Int)] 32)
                    have HI7 := Lib.hid (HI5.out.on (bthen b6 HT7.out (Nat.le_refl _)))
                    have HOR := Lib.hid ho.row
                    have HO7 := Lib.hid ((ho.row.1).on HT7.out)
                    have HS6 := Lib.hid b6.size
                    have HS7 := Lib.hid (show (w6.alloc (.cells #[.int .u64 (y.id : Int), .string (ofL y.shop), .string (ofL y.key), .slice Ay y.head.length cy, .string (ofL y.body), .int .u64 (y.due : Int), .int .u8 (y.hops : Int)] 32)).heap.size = w6.heap.size + 1 by simp)
                    clear ho b6 e0 e1 el
                    simp only [maV]
                    have hnn : (((j + 1 : Nat) : Int) != ((j : Int) + 1)) = false := by simp
                    go_upto_region 25 with fail
                    generalize w6.alloc (.cells #[.int .u64 (y.id : Int), .string (ofL y.shop), .string (ofL y.key), .slice Ay y.head.length cy, .string (ofL y.body), .int .u64 (y.due : Int), .int .u8 (y.hops : Int)] 32) = w7 at *
                    obtain ⟨b6, hb6⟩ : ∃ b, w6.heap.size = b := ⟨_, rfl⟩
                    rw [hb6] at HZ7 HS6 HS7 HOR
                    try rw [hb6]
                    have HB6 := Lib.hid hb6
                    clear hb6
                    have z0 := HZ7.out.cs 0 _ rfl
                    have z1 := HZ7.out.cs 1 _ rfl
                    have z2 := HZ7.out.cs 2 _ rfl
                    have z3 := HZ7.out.cs 3 _ rfl
                    have z4 := HZ7.out.cs 4 _ rfl
                    have z5 := HZ7.out.cs 5 _ rfl
                    have z6 := HZ7.out.cs 6 _ rfl
                    have zl := HZ7.out.lt
                    have HV := Lib.hid (show RtIn w w3 w3.heap.size w3.heap.size (w3.heap.size + 1) [.int .u64 (G.length : Int), .slice A kp.length c] G G j A c kp gs ps2 (.slice Ag G.length cg) (.slice At2 j ct2) (w7.alloc (.cells #[.int .u64 (y.id : Int), .string (ofL y.shop), .string (ofL y.key), .slice Ay y.head.length cy, .string (ofL y.body), .int .u64 (y.due : Int), .int .u8 (y.hops : Int)] 32)) from HI7.out.on (alloc1B _ _))
                    have HNW := Lib.hid (show ∀ jj u, (mcs [(⟨y, Ay, cy⟩ : Mp)])[jj]? = some u → (w7.alloc (.cells #[.int .u64 (y.id : Int), .string (ofL y.shop), .string (ofL y.key), .slice Ay y.head.length cy, .string (ofL y.body), .int .u64 (y.due : Int), .int .u8 (y.hops : Int)] 32)).cell? ((⟨w7.heap.size, 0, none⟩ : Addr).add jj) = some u from fun jj u hu => by
                      rw [mcs_one1] at hu
                      rw [rws_add, Nat.zero_add]
                      exact (World.cell?_alloc_new w7 #[.int .u64 (y.id : Int), .string (ofL y.shop), .string (ofL y.key), .slice Ay y.head.length cy, .string (ofL y.body), .int .u64 (y.due : Int), .int .u8 (y.hops : Int)] 32 jj).trans (by simpa [mpL, maL] using hu))
                    have HPO := Lib.hid (show MaOk (w7.alloc (.cells #[.int .u64 (y.id : Int), .string (ofL y.shop), .string (ofL y.key), .slice Ay y.head.length cy, .string (ofL y.body), .int .u64 (y.due : Int), .int .u8 (y.hops : Int)] 32)) y Ay cy from by
                      obtain ⟨p, hp, hpx⟩ := HYK.out
                      have hok := (HI5.out.kM.m.hd p hp)
                      rw [hpx, HYE.out] at hok
                      exact ⟨hok.shop, hok.key, hok.body, hok.len, HOR.out.2.1, hok.lite, HO7.out.on (alloc1B _ _)⟩)
                    have HPA := Lib.hid (show ∀ a, Ay = some a → RtU w3.heap.size (.slice Ag G.length cg) (.slice At2 j ct2) (w7.alloc (.cells #[.int .u64 (y.id : Int), .string (ofL y.shop), .string (ofL y.key), .slice Ay y.head.length cy, .string (ofL y.body), .int .u64 (y.due : Int), .int .u8 (y.hops : Int)] 32)) a.block from fun a ha => by
                      have h1 := HOR.out.2.2 a ha
                      have h2 := HI5.out.box.lt
                      refine ⟨by omega, fun e => ?_, fun e => ?_, ?_⟩
                      · have := (HI5.out.gO.lt _ e).2; omega
                      · have := (HI5.out.tO.lt _ e).2; omega
                      · have := HS7.out; simp; omega)
                    have hbs : w3.heap.size + 1 ≤ (w7.alloc (.cells #[.int .u64 (y.id : Int), .string (ofL y.shop), .string (ofL y.key), .slice Ay y.head.length cy, .string (ofL y.body), .int .u64 (y.due : Int), .int .u8 (y.hops : Int)] 32)).heap.size := Nat.succ_le_of_lt HV.out.box.lt
                    go_wp2_with (at_builtin; refine wpList_append_lies _ rfl _ _ 22 rfl (w3.heap.size + 1) 32 iM _ 7 96 Tryd.underlying22 hiM hzM0 hzM1 hzM2 rfl (by decide) (.slice At2 j ct2) j (mcs ps2) (by rfl) HV.out.tO ⟨w7.heap.size, 0, none⟩ 1 1 (mcs [(⟨y, Ay, cy⟩ : Mp)]) (by rfl) (by rfl) HNW.out (mcs_one _) (by omega) (by unfold maxLen; omega) (by omega) hbs _ rfl ?_; intro gg cap w8 hown hgrow hat hlt8; have HI8 := Lib.hid (HV.out.got (p := ⟨y, Ay, cy⟩) HPO.out HPA.out hjT HYE.out.symm hgrow hown hat); clear hown hgrow hat hlt8 z0 z1 z2 z3 z4 z5 z6 zl hbs)
                    go_roundg (gk - 1)
                    case rel => exact ⟨i + 1, ps2 ++ [⟨y, Ay, cy⟩], by have := HII.out; omega, by rw [show t + (i + 1) = j + 1 by have := HJ.out; omega]; go_num, by go_num, by rw [show t + (i + 1) = j + 1 by have := HJ.out; omega]; exact HI8.out⟩
                    case measure => have := HII.out; omega
                  · have haf := HAF.out
                    unfold RsAftPost at haf
                    rw [HI5.out.kx, lastN_len, ← HKP.out, show decide (j < G.length) = false from decide_eq_false hjT, show Rs.aft G.length (lastN 16 G) j = Ml.zero by unfold Rs.aft; rw [if_pos (by omega)]] at haf
                    simp only [show ∀ A c, maV Ml.zero A c = .agg #[.int .u64 0, .string ⟨#[]⟩, .string ⟨#[]⟩, .slice A 0 c, .string ⟨#[]⟩, .int .u64 0, .int .u8 0] from fun _ _ => rfl] at haf
                    have HAF2 := Lib.hid haf
                    clear haf HAF
                    have HJT := Lib.hid (show j = G.length by omega)
                    go_wp2_with fail
                    refine HAF2.out.mono ?_
                    rintro e w6 ⟨Ay, cy, rfl, ho, b6⟩
                    have HI6 := Lib.hid (HI5.out.on (bthen b6 (alloc1B w6 (.cells #[.int .u64 0, .string ⟨#[]⟩, .string ⟨#[]⟩, .slice Ay 0 cy, .string ⟨#[]⟩, .int .u64 0, .int .u8 0] 32)) (Nat.le_refl _)))
                    clear ho b6 e0 e1 el HAF2
                    go_upto_region 28 with fail
                    generalize w6.alloc (.cells #[.int .u64 0, .string ⟨#[]⟩, .string ⟨#[]⟩, .slice Ay 0 cy, .string ⟨#[]⟩, .int .u64 0, .int .u8 0] 32) = w7 at *
                    obtain ⟨hin, bb, off, hAe, hbb, hcl⟩ := (HA.out.on HI6.out.gr).get hkL
                    subst hAe
                    have hin0 := (HA.out.get hkL).1
                    have hli := HFEW.out k hkL
                    obtain ⟨hT, hKq, hCq⟩ := rs_add hkL (by omega)
                    rw [HG.out] at hT hKq hCq
                    have hGs := rsG_succ hkL
                    rw [HG.out] at hGs
                    generalize l.getD k Mp.zero = p at *
                    obtain ⟨x, Ax, cx⟩ := p
                    dsimp only at hin hin0 hli hT hKq hGs hCq
                    obtain ⟨G1, hG1⟩ : ∃ G1, rsG l (k + 1) = G1 := ⟨_, rfl⟩
                    rw [hG1] at hT hKq hGs
                    have HG1 := Lib.hid hG1
                    have hMo : MaOk w7 x Ax cx := ml_light_Ok hli hin.cap hin.row
                    have q0 := hcl 0 _ rfl
                    have q1 := hcl 1 _ rfl
                    have q2 := hcl 2 _ rfl
                    have q3 := hcl 3 _ rfl
                    have q4 := hcl 4 _ rfl
                    have q5 := hcl 5 _ rfl
                    have q6 := hcl 6 _ rfl
                    rw [Nat.add_zero] at q0
                    dsimp only at q0 q1 q2 q3 q4 q5 q6
                    have e0 := HI6.out.box.cs 0 _ rfl
                    have e1 := HI6.out.box.cs 1 _ rfl
                    have hgw : w3.heap.size ≤ w7.heap.size := Nat.le_of_lt HI6.out.box.lt
                    have HMO := Lib.hid hMo
                    have HHD := Lib.hid (show x.head ≠ [] → ∀ a, Ax = some a → a.block < w3.heap.size from fun hh a ha => Nat.lt_of_lt_of_le (rs_prs_in hin0.row hh ha) hge)
                    have HPT := Lib.hid (fun W' (hb : Below w7.heap.size w7 W') => rsPutB_any (RtU w3.heap.size (.slice Ag G.length cg) (.slice At2 j ct2) w7) G.length c A kp x Ax cx W' hkp1 HI6.out.kc HI6.out.kn (by omega) (HMO.out.on hb) (HI6.out.kM.on hb) (HL.out.on (bthen HI6.out.gr hb (Nat.le_refl _))))
                    unfold RsPutPostB at HPT
                    rw [HI6.out.kx, hT, hKq, hCq] at HPT
                    simp only [maV] at HPT
                    have HGP := Lib.hid (show ∃ m, G1 = G ++ m by by_cases hc0 : x.code ≠ 0; exact ⟨[], by rw [hGs, if_pos hc0, List.append_nil]⟩; exact ⟨[x], by rw [hGs, if_neg hc0]⟩)
                    have HGS := Lib.hid hGs
                    have hi1 : (0 : Int) ≤ (k : Int) := by omega
                    have hi2 : (k : Int) < (l.length : Int) := by omega
                    have hi3 : ((k : Int)).toNat = k := by omega
                    clear hcl hin hin0 hli hT hKq hCq hGs hG1 hMo
                    refine wp_region_held_drew (S := fun a => Below w7.heap.size w7 a) (by kernel_rfl) (by (try dsimp only); exact (Below.refl _ _).drew) (fun hHeld => ?_)
                    refine wpAnyH_take (i := 0) (oi := { dst := some 84, op := Go.Op.load 28 (Go.Operand.tmp 5), type := 28, pos := "law.go:123", after := #[], guard := none }) (v := ?_) rfl (by kernel_rfl) (by kernel_rfl) (by kernel_rfl) (fun _ _ _ h => h) (Or.inl ⟨by rfl, ?_⟩) (by assumption) ?_
                    rotate_left 1
                    · intro w hSw; (try dsimp only at hSw); have e0 := cell_on hSw e0; have e1 := cell_on hSw e1; have q0 := cell_on hSw q0; have q1 := cell_on hSw q1; have q2 := cell_on hSw q2; have q3 := cell_on hSw q3; have q4 := cell_on hSw q4; have q5 := cell_on hSw q5; have q6 := cell_on hSw q6; go_simp; try with_reducible rfl
                    try simp only [Act.put, List.setIfInBounds_toArray, List.set_cons_zero, List.set_cons_succ]
                    refine wpAnyH_take (i := 1) (oi := { dst := some 85, op := Go.Op.move (Go.Operand.tmp 0), type := 22, pos := "law.go:123", after := #[], guard := none }) (v := ?_) rfl (by kernel_rfl) (by kernel_rfl) (by kernel_rfl) (fun _ _ _ h => h) (Or.inl ⟨by rfl, ?_⟩) (by assumption) ?_
                    rotate_left 1
                    · intro w hSw; (try dsimp only at hSw); go_simp; try with_reducible rfl
                    try simp only [Act.put, List.setIfInBounds_toArray, List.set_cons_zero, List.set_cons_succ]
                    refine wpAnyH_take (i := 2) (oi := { dst := some 86, op := Go.Op.move (Go.Operand.tmp 9), type := 3, pos := "law.go:123", after := #[], guard := none }) (v := ?_) rfl (by kernel_rfl) (by kernel_rfl) (by kernel_rfl) (fun _ _ _ h => h) (Or.inl ⟨by rfl, ?_⟩) (by assumption) ?_
                    rotate_left 1
                    · intro w hSw; (try dsimp only at hSw); go_simp; try with_reducible rfl
                    try simp only [Act.put, List.setIfInBounds_toArray, List.set_cons_zero, List.set_cons_succ]
                    refine wpAnyH_take (i := 3) (oi := { dst := some 87, op := Go.Op.indexAddr 22 (Go.Operand.tmp 85) (Go.Operand.tmp 86), type := 0, pos := "law.go:123", after := #[{ on := 1, ground := Go.Ground.data }, { on := 2, ground := Go.Ground.data }], guard := none }) (v := ?_) rfl (by kernel_rfl) (by kernel_rfl) (by kernel_rfl) (fun _ _ _ h => h) (Or.inl ⟨by rfl, ?_⟩) (by assumption) ?_
                    rotate_left 1
                    · intro w hSw; (try dsimp only at hSw); go_simp; try with_reducible rfl
                    try simp only [Act.put, List.setIfInBounds_toArray, List.set_cons_zero, List.set_cons_succ]
                    refine wpAnyH_take (i := 4) (oi := { dst := some 88, op := Go.Op.load 32 (Go.Operand.tmp 87), type := 32, pos := "law.go:123", after := #[{ on := 3, ground := Go.Ground.data }], guard := none }) (v := ?_) rfl (by kernel_rfl) (by kernel_rfl) (by kernel_rfl) (fun _ _ _ h => h) (Or.inl ⟨by rfl, ?_⟩) (by assumption) ?_
                    rotate_left 1
                    · intro w hSw; (try dsimp only at hSw); have e0 := cell_on hSw e0; have e1 := cell_on hSw e1; have q0 := cell_on hSw q0; have q1 := cell_on hSw q1; have q2 := cell_on hSw q2; have q3 := cell_on hSw q3; have q4 := cell_on hSw q4; have q5 := cell_on hSw q5; have q6 := cell_on hSw q6; go_simp; try with_reducible rfl
                    try simp only [Act.put, List.setIfInBounds_toArray, List.set_cons_zero, List.set_cons_succ]
                    refine wpAnyH_ready (rs := [5, 9]) (by kernel_rfl) (by simp) ?_
                    refine AllReadyH.cons (o := { dst := some 89, op := Go.Op.call { callee := Go.Callee.value (Go.Operand.func 9), args := #[Go.Operand.tmp 84, Go.Operand.tmp 88], argTypes := #[28, 32] }, type := 36, pos := "law.go:123", after := #[{ on := 0, ground := Go.Ground.data }, { on := 4, ground := Go.Ground.data }], guard := none }) rfl (fun K hK => ?_) (AllReadyH.cons (o := { dst := some 14, op := Go.Op.alloc 28, type := 0, pos := "law.go:123", after := #[], guard := none }) rfl (fun K hK => ?_) (AllReadyH.nil))
                    · skip
                      go_simp
                      go_at_call 9
                      refine (HPT.out _ hHeld).mono ?_
                      rintro e wx ⟨A8, c8, kp8, rfl, hm8, hc8, hn8, hM8, hb2⟩
                      try replace HNB := Lib.hid (HNB.out.on hb2)
                      have HB5 := Lib.hid hb2
                      have HM8 := Lib.hid hm8
                      have HC8 := Lib.hid hc8
                      have HN8 := Lib.hid hn8
                      have HMM := Lib.hid hM8
                      clear hm8 hc8 hn8 hM8
                      refine hK.out _ _ (bthen hHeld hb2 (Nat.le_refl _)) (fun hHeld2 => ?_)
                      clear hK K hHeld hb2
                      have hHeld := hHeld2
                      clear hHeld2
                      try simp only [Act.put, List.setIfInBounds_toArray, List.set_cons_zero, List.set_cons_succ]
                      refine wpAnyH_take (i := 6) (oi := { dst := some 83, op := Go.Op.move (Go.Operand.tmp 89), type := 36, pos := "law.go:123", after := #[{ on := 5, ground := Go.Ground.data }], guard := none }) (v := ?_) rfl (by kernel_rfl) (by kernel_rfl) (by kernel_rfl) (fun _ _ _ h => h) (Or.inl ⟨by rfl, ?_⟩) (by assumption) ?_
                      rotate_left 1
                      · intro w hSw; (try dsimp only at hSw); go_simp; try with_reducible rfl
                      try simp only [Act.put, List.setIfInBounds_toArray, List.set_cons_zero, List.set_cons_succ]
                      refine wpAnyH_take (i := 7) (oi := { dst := some 90, op := Go.Op.extract (Go.Operand.tmp 83) 0, type := 28, pos := "law.go:123", after := #[{ on := 6, ground := Go.Ground.data }], guard := none }) (v := ?_) rfl (by kernel_rfl) (by kernel_rfl) (by kernel_rfl) (fun _ _ _ h => h) (Or.inl ⟨by rfl, ?_⟩) (by assumption) ?_
                      rotate_left 1
                      · intro w hSw; (try dsimp only at hSw); go_simp; try with_reducible rfl
                      try simp only [Act.put, List.setIfInBounds_toArray, List.set_cons_zero, List.set_cons_succ]
                      refine wpAnyH_take (i := 8) (oi := { dst := some 91, op := Go.Op.extract (Go.Operand.tmp 83) 1, type := 35, pos := "law.go:123", after := #[{ on := 6, ground := Go.Ground.data }, { on := 10, ground := Go.Ground.gcOnly Go.Departure.lateStores }], guard := none }) (v := ?_) rfl (by kernel_rfl) (by kernel_rfl) (by kernel_rfl) (fun _ _ _ h => h) (Or.inl ⟨by rfl, ?_⟩) (by assumption) ?_
                      rotate_left 1
                      · intro w hSw; (try dsimp only at hSw); go_simp; try with_reducible rfl
                      try simp only [Act.put, List.setIfInBounds_toArray, List.set_cons_zero, List.set_cons_succ]
                      refine wpAnyH_ready (rs := [9]) (by kernel_rfl) (by simp) ?_
                      refine AllReadyH.cons (o := { dst := some 14, op := Go.Op.alloc 28, type := 0, pos := "law.go:123", after := #[], guard := none }) rfl (fun K hK => ?_) (AllReadyH.nil)
                      go_simp
                      have HNB := Lib.hid (BoxC.new (w := w3) (W := _) (Nat.le_trans hgw hHeld.size) #[.int .u64 0, .slice none 0 0] 28)
                      have HB0 := Lib.hid hHeld
                      have HNL := Lib.hid hHeld.size
                      have hPre := hHeld
                      refine hK.out _ _ (hHeld.alloc hHeld.size _) (fun hHeld2 => ?_)
                      clear hK K hHeld
                      have hHeld := hHeld2
                      clear hHeld2
                      try simp only [Act.put, List.setIfInBounds_toArray, List.set_cons_zero, List.set_cons_succ]
                      refine wpAnyH_ready (rs := [10]) (by kernel_rfl) (by simp) ?_
                      refine AllReadyH.cons (o := { dst := none, op := Go.Op.store 28 (Go.Operand.tmp 14) (Go.Operand.tmp 90), type := 0, pos := "law.go:123", after := #[{ on := 9, ground := Go.Ground.data }, { on := 7, ground := Go.Ground.data }, { on := 5, ground := Go.Ground.chain }, { on := 0, ground := Go.Ground.phase }, { on := 1, ground := Go.Ground.phase }, { on := 2, ground := Go.Ground.phase }, { on := 3, ground := Go.Ground.phase }, { on := 4, ground := Go.Ground.phase }, { on := 5, ground := Go.Ground.phase }, { on := 6, ground := Go.Ground.phase }, { on := 7, ground := Go.Ground.phase }, { on := 8, ground := Go.Ground.textOnly Go.Departure.lateStores }, { on := 9, ground := Go.Ground.phase }], guard := none }) rfl (fun K hK => ?_) (AllReadyH.nil)
                      have n0 := HNB.out.cs 0 _ rfl
                      have n1 := HNB.out.cs 1 _ rfl
                      have nf := HNB.out.s
                      unfold Soft at nf
                      have nl := HNB.out.lt
                      have nge : w7.heap.size ≤ _ := HNL.out
                      try simp only [show w7.drew.heap.size = w7.heap.size from rfl] at n0 n1 nf nl nge
                      go_simp
                      refine hK.out _ _ ?_ (fun hHeld2 => ?_)
                      · (try dsimp only); first | with_reducible exact hPre.alloc hPre.size _ | ((repeat with_reducible refine below_put nge ?_); with_reducible exact hHeld)
                      clear n0 n1 nf nl nge hPre
                      clear hK K hHeld
                      have hHeld := hHeld2
                      clear hHeld2
                      try simp only [Act.put, List.setIfInBounds_toArray, List.set_cons_zero, List.set_cons_succ]
                      refine wpAnyH_take (i := 11) (oi := { dst := some 15, op := Go.Op.assign (Go.Operand.tmp 91), type := 35, pos := "law.go:123", after := #[{ on := 8, ground := Go.Ground.data }, { on := 10, ground := Go.Ground.chain }, { on := 0, ground := Go.Ground.phase }, { on := 1, ground := Go.Ground.phase }, { on := 2, ground := Go.Ground.phase }, { on := 3, ground := Go.Ground.phase }, { on := 4, ground := Go.Ground.phase }, { on := 5, ground := Go.Ground.phase }, { on := 6, ground := Go.Ground.phase }, { on := 7, ground := Go.Ground.phase }, { on := 8, ground := Go.Ground.phase }, { on := 9, ground := Go.Ground.phase }, { on := 10, ground := Go.Ground.phase }], guard := none }) (v := ?_) rfl (by kernel_rfl) (by kernel_rfl) (by kernel_rfl) (fun _ _ _ h => h) (Or.inl ⟨by rfl, ?_⟩) (by assumption) ?_
                      rotate_left 1
                      · intro w hSw; (try dsimp only at hSw); go_simp; try with_reducible rfl
                      try simp only [Act.put, List.setIfInBounds_toArray, List.set_cons_zero, List.set_cons_succ]
                      refine wpAnyH_done (by kernel_rfl) ?_ _
                      have hZ := hHeld
                      clear hHeld
                      first
                        | (have HY := Lib.hid (HI6.out.putA (Below.refl _ _).drew HB5.out HGP.out HM8.out HC8.out HN8.out HMM.out 28)
                           generalize wx.alloc (.cells #[.int .u64 (G1.length : Int), .slice A8 kp8.length c8] 28) = w9 at *
                           generalize wx.heap.size = gy at *)
                        | (have HY := Lib.hid (HI6.out.putB ((Below.refl _ _).drew.alloc (Nat.le_refl _) _) HB5.out HGP.out HM8.out HC8.out HN8.out HMM.out HNB.out rfl (Nat.le_refl _) (by simp))
                           rw [show w7.drew.heap.size = w7.heap.size from rfl] at HY
                           obtain ⟨gy, hgy⟩ : ∃ gy, w7.heap.size = gy := ⟨_, rfl⟩
                           rw [hgy] at HY hZ
                           try rw [hgy]
                           generalize (wx.setCell ⟨gy, 0, none⟩ (.int .u64 (G1.length : Int))).setCell ⟨gy, 1, none⟩ (.slice A8 kp8.length c8) = w9 at *
                           rw [← hgy] at hZ
                           clear hgy)
                      have q0 := cell_on hZ q0
                      have q1 := cell_on hZ q1
                      have q2 := cell_on hZ q2
                      have q3 := cell_on hZ q3
                      have q4 := cell_on hZ q4
                      have q5 := cell_on hZ q5
                      have q6 := cell_on hZ q6
                      have HMO2 := Lib.hid (HMO.out.on hZ)
                      clear e0 e1 hZ HB5 HMM HPT
                      try clear HNB HB0 HNL
                      by_cases hcode : x.code = 0
                      · have hcd : ((x.code : Int) == 0) = true := by simpa using hcode
                        have hG2 : G1 = G ++ [x] := by rw [HGS.out, if_neg (by omega)]
                        have HG2 := Lib.hid hG2
                        have HL1 := Lib.hid (show G.length + 1 = G1.length by rw [hG2, List.length_append]; rfl)
                        clear hG2
                        rw [show (x.code : Int) = 0 by omega]
                        have HV := Lib.hid (HY.out.on (alloc1B w9 (.cells #[.int .u64 (x.id : Int), .string (ofL x.shop), .string (ofL x.key), .slice Ax x.head.length cx, .string (ofL x.body), .int .u64 (x.due : Int), .int .u8 (x.hops : Int)] 32)))
                        have HNW := Lib.hid (show ∀ jj u, (mcs [(⟨x, Ax, cx⟩ : Mp)])[jj]? = some u → (w9.alloc (.cells #[.int .u64 (x.id : Int), .string (ofL x.shop), .string (ofL x.key), .slice Ax x.head.length cx, .string (ofL x.body), .int .u64 (x.due : Int), .int .u8 (x.hops : Int)] 32)).cell? ((⟨w9.heap.size, 0, none⟩ : Addr).add jj) = some u from fun jj u hu => by
                          rw [mcs_one1] at hu
                          rw [rws_add, Nat.zero_add]
                          exact (World.cell?_alloc_new w9 #[.int .u64 (x.id : Int), .string (ofL x.shop), .string (ofL x.key), .slice Ax x.head.length cx, .string (ofL x.body), .int .u64 (x.due : Int), .int .u8 (x.hops : Int)] 32 jj).trans (by simpa [mpL, maL] using hu))
                        have HPO := Lib.hid (HMO2.out.on (alloc1B w9 (.cells #[.int .u64 (x.id : Int), .string (ofL x.shop), .string (ofL x.key), .slice Ax x.head.length cx, .string (ofL x.body), .int .u64 (x.due : Int), .int .u8 (x.hops : Int)] 32)))
                        have hbs : w3.heap.size + 1 ≤ (w9.alloc (.cells #[.int .u64 (x.id : Int), .string (ofL x.shop), .string (ofL x.key), .slice Ax x.head.length cx, .string (ofL x.body), .int .u64 (x.due : Int), .int .u8 (x.hops : Int)] 32)).heap.size := Nat.succ_le_of_lt HV.out.box.lt
                        go_upto_region 30 with fail
                        go_wp2_with (at_builtin; refine wpList_append_lies _ rfl _ _ 22 rfl (w3.heap.size + 1) 32 iM _ 7 96 Tryd.underlying22 hiM hzM0 hzM1 hzM2 rfl (by decide) (.slice Ag G.length cg) G.length (mcs gs) (by rfl) HV.out.gO ⟨w9.heap.size, 0, none⟩ 1 1 (mcs [(⟨x, Ax, cx⟩ : Mp)]) (by rfl) (by rfl) HNW.out (mcs_one _) (by omega) (by unfold maxLen; omega) (by omega) hbs _ rfl ?_; intro gg cap w10 hown hgrow hat hlt10; rw [HL1.out]; rw [HL1.out] at hown; have HI9 := Lib.hid (HV.out.good (p := ⟨x, Ax, cx⟩) HPO.out HHD.out HG2.out hgrow hown hat); clear hown hgrow hat hlt10 q0 q1 q2 q3 q4 q5 q6 hbs; have y0 := HI9.out.ybox.cs 0 _ rfl; have y1 := HI9.out.ybox.cs 1 _ rfl; have yl := HI9.out.ybox.lt; have e0 := HI9.out.box.cs 0 _ rfl; have e1 := HI9.out.box.cs 1 _ rfl; have el := HI9.out.box.lt; have ef : ∀ jj, w10.frozen? ⟨w3.heap.size, jj, none⟩ = false := HI9.out.box.s; have HD := Lib.hid (HI9.out.done hge))
                        go_roundg (gO - 1)
                        case rel => exact ⟨k + 1, j, A8, c8, kp8, gs ++ [⟨x, Ax, cx⟩], ps2, by have := HK.out; omega, rfl, by go_num, by rw [HG1.out]; exact HD.out, fun h => absurd h (by omega)⟩
                        case measure => have := HK.out; omega
                      · have hcd : ((x.code : Int) == 0) = false := by simpa using hcode
                        have hG2 : G1 = G := by rw [HGS.out, if_pos hcode]
                        subst hG2
                        have HI9 := HY
                        clear q0 q1 q2 q3 q4 q5 q6
                        have y0 := HI9.out.ybox.cs 0 _ rfl
                        have y1 := HI9.out.ybox.cs 1 _ rfl
                        have yl := HI9.out.ybox.lt
                        have e0 := HI9.out.box.cs 0 _ rfl
                        have e1 := HI9.out.box.cs 1 _ rfl
                        have el := HI9.out.box.lt
                        have ef : ∀ jj, w9.frozen? ⟨w3.heap.size, jj, none⟩ = false := HI9.out.box.s
                        have HD := Lib.hid (HI9.out.done hge)
                        go_wp2_with fail
                        go_roundg (gO - 1)
                        case rel => exact ⟨k + 1, j, A8, c8, kp8, gs, ps2, by have := HK.out; omega, rfl, by go_num, by rw [HG1.out]; exact HD.out, fun h => absurd h (by omega)⟩
                        case measure => have := HK.out; omega
                    · skip
                      go_simp
                      have HNB := Lib.hid (BoxC.new (w := w3) (W := _) (Nat.le_trans hgw hHeld.size) #[.int .u64 0, .slice none 0 0] 28)
                      have HB0 := Lib.hid hHeld
                      have HNL := Lib.hid hHeld.size
                      have hPre := hHeld
                      refine hK.out _ _ (hHeld.alloc hHeld.size _) (fun hHeld2 => ?_)
                      clear hK K hHeld
                      have hHeld := hHeld2
                      clear hHeld2
                      try simp only [Act.put, List.setIfInBounds_toArray, List.set_cons_zero, List.set_cons_succ]
                      refine wpAnyH_ready (rs := [5]) (by kernel_rfl) (by simp) ?_
                      refine AllReadyH.cons (o := { dst := some 89, op := Go.Op.call { callee := Go.Callee.value (Go.Operand.func 9), args := #[Go.Operand.tmp 84, Go.Operand.tmp 88], argTypes := #[28, 32] }, type := 36, pos := "law.go:123", after := #[{ on := 0, ground := Go.Ground.data }, { on := 4, ground := Go.Ground.data }], guard := none }) rfl (fun K hK => ?_) (AllReadyH.nil)
                      go_simp
                      go_at_call 9
                      refine (HPT.out _ hHeld).mono ?_
                      rintro e wx ⟨A8, c8, kp8, rfl, hm8, hc8, hn8, hM8, hb2⟩
                      try replace HNB := Lib.hid (HNB.out.on hb2)
                      have HB5 := Lib.hid hb2
                      have HM8 := Lib.hid hm8
                      have HC8 := Lib.hid hc8
                      have HN8 := Lib.hid hn8
                      have HMM := Lib.hid hM8
                      clear hm8 hc8 hn8 hM8
                      refine hK.out _ _ (bthen hHeld hb2 (Nat.le_refl _)) (fun hHeld2 => ?_)
                      clear hK K hHeld hb2
                      have hHeld := hHeld2
                      clear hHeld2
                      try simp only [Act.put, List.setIfInBounds_toArray, List.set_cons_zero, List.set_cons_succ]
                      refine wpAnyH_take (i := 6) (oi := { dst := some 83, op := Go.Op.move (Go.Operand.tmp 89), type := 36, pos := "law.go:123", after := #[{ on := 5, ground := Go.Ground.data }], guard := none }) (v := ?_) rfl (by kernel_rfl) (by kernel_rfl) (by kernel_rfl) (fun _ _ _ h => h) (Or.inl ⟨by rfl, ?_⟩) (by assumption) ?_
                      rotate_left 1
                      · intro w hSw; (try dsimp only at hSw); go_simp; try with_reducible rfl
                      try simp only [Act.put, List.setIfInBounds_toArray, List.set_cons_zero, List.set_cons_succ]
                      refine wpAnyH_take (i := 7) (oi := { dst := some 90, op := Go.Op.extract (Go.Operand.tmp 83) 0, type := 28, pos := "law.go:123", after := #[{ on := 6, ground := Go.Ground.data }], guard := none }) (v := ?_) rfl (by kernel_rfl) (by kernel_rfl) (by kernel_rfl) (fun _ _ _ h => h) (Or.inl ⟨by rfl, ?_⟩) (by assumption) ?_
                      rotate_left 1
                      · intro w hSw; (try dsimp only at hSw); go_simp; try with_reducible rfl
                      try simp only [Act.put, List.setIfInBounds_toArray, List.set_cons_zero, List.set_cons_succ]
                      refine wpAnyH_take (i := 8) (oi := { dst := some 91, op := Go.Op.extract (Go.Operand.tmp 83) 1, type := 35, pos := "law.go:123", after := #[{ on := 6, ground := Go.Ground.data }, { on := 10, ground := Go.Ground.gcOnly Go.Departure.lateStores }], guard := none }) (v := ?_) rfl (by kernel_rfl) (by kernel_rfl) (by kernel_rfl) (fun _ _ _ h => h) (Or.inl ⟨by rfl, ?_⟩) (by assumption) ?_
                      rotate_left 1
                      · intro w hSw; (try dsimp only at hSw); go_simp; try with_reducible rfl
                      try simp only [Act.put, List.setIfInBounds_toArray, List.set_cons_zero, List.set_cons_succ]
                      refine wpAnyH_ready (rs := [10]) (by kernel_rfl) (by simp) ?_
                      refine AllReadyH.cons (o := { dst := none, op := Go.Op.store 28 (Go.Operand.tmp 14) (Go.Operand.tmp 90), type := 0, pos := "law.go:123", after := #[{ on := 9, ground := Go.Ground.data }, { on := 7, ground := Go.Ground.data }, { on := 5, ground := Go.Ground.chain }, { on := 0, ground := Go.Ground.phase }, { on := 1, ground := Go.Ground.phase }, { on := 2, ground := Go.Ground.phase }, { on := 3, ground := Go.Ground.phase }, { on := 4, ground := Go.Ground.phase }, { on := 5, ground := Go.Ground.phase }, { on := 6, ground := Go.Ground.phase }, { on := 7, ground := Go.Ground.phase }, { on := 8, ground := Go.Ground.textOnly Go.Departure.lateStores }, { on := 9, ground := Go.Ground.phase }], guard := none }) rfl (fun K hK => ?_) (AllReadyH.nil)
                      have n0 := HNB.out.cs 0 _ rfl
                      have n1 := HNB.out.cs 1 _ rfl
                      have nf := HNB.out.s
                      unfold Soft at nf
                      have nl := HNB.out.lt
                      have nge : w7.heap.size ≤ _ := HNL.out
                      try simp only [show w7.drew.heap.size = w7.heap.size from rfl] at n0 n1 nf nl nge
                      go_simp
                      refine hK.out _ _ ?_ (fun hHeld2 => ?_)
                      · (try dsimp only); first | with_reducible exact hPre.alloc hPre.size _ | ((repeat with_reducible refine below_put nge ?_); with_reducible exact hHeld)
                      clear n0 n1 nf nl nge hPre
                      clear hK K hHeld
                      have hHeld := hHeld2
                      clear hHeld2
                      try simp only [Act.put, List.setIfInBounds_toArray, List.set_cons_zero, List.set_cons_succ]
                      refine wpAnyH_take (i := 11) (oi := { dst := some 15, op := Go.Op.assign (Go.Operand.tmp 91), type := 35, pos := "law.go:123", after := #[{ on := 8, ground := Go.Ground.data }, { on := 10, ground := Go.Ground.chain }, { on := 0, ground := Go.Ground.phase }, { on := 1, ground := Go.Ground.phase }, { on := 2, ground := Go.Ground.phase }, { on := 3, ground := Go.Ground.phase }, { on := 4, ground := Go.Ground.phase }, { on := 5, ground := Go.Ground.phase }, { on := 6, ground := Go.Ground.phase }, { on := 7, ground := Go.Ground.phase }, { on := 8, ground := Go.Ground.phase }, { on := 9, ground := Go.Ground.phase }, { on := 10, ground := Go.Ground.phase }], guard := none }) (v := ?_) rfl (by kernel_rfl) (by kernel_rfl) (by kernel_rfl) (fun _ _ _ h => h) (Or.inl ⟨by rfl, ?_⟩) (by assumption) ?_
                      rotate_left 1
                      · intro w hSw; (try dsimp only at hSw); go_simp; try with_reducible rfl
                      try simp only [Act.put, List.setIfInBounds_toArray, List.set_cons_zero, List.set_cons_succ]
                      refine wpAnyH_done (by kernel_rfl) ?_ _
                      have hZ := hHeld
                      clear hHeld
                      first
                        | (have HY := Lib.hid (HI6.out.putA (Below.refl _ _).drew HB5.out HGP.out HM8.out HC8.out HN8.out HMM.out 28)
                           generalize wx.alloc (.cells #[.int .u64 (G1.length : Int), .slice A8 kp8.length c8] 28) = w9 at *
                           generalize wx.heap.size = gy at *)
                        | (have HY := Lib.hid (HI6.out.putB ((Below.refl _ _).drew.alloc (Nat.le_refl _) _) HB5.out HGP.out HM8.out HC8.out HN8.out HMM.out HNB.out rfl (Nat.le_refl _) (by simp))
                           rw [show w7.drew.heap.size = w7.heap.size from rfl] at HY
                           obtain ⟨gy, hgy⟩ : ∃ gy, w7.heap.size = gy := ⟨_, rfl⟩
                           rw [hgy] at HY hZ
                           try rw [hgy]
                           generalize (wx.setCell ⟨gy, 0, none⟩ (.int .u64 (G1.length : Int))).setCell ⟨gy, 1, none⟩ (.slice A8 kp8.length c8) = w9 at *
                           rw [← hgy] at hZ
                           clear hgy)
                      have q0 := cell_on hZ q0
                      have q1 := cell_on hZ q1
                      have q2 := cell_on hZ q2
                      have q3 := cell_on hZ q3
                      have q4 := cell_on hZ q4
                      have q5 := cell_on hZ q5
                      have q6 := cell_on hZ q6
                      have HMO2 := Lib.hid (HMO.out.on hZ)
                      clear e0 e1 hZ HB5 HMM HPT
                      try clear HNB HB0 HNL
                      by_cases hcode : x.code = 0
                      · have hcd : ((x.code : Int) == 0) = true := by simpa using hcode
                        have hG2 : G1 = G ++ [x] := by rw [HGS.out, if_neg (by omega)]
                        have HG2 := Lib.hid hG2
                        have HL1 := Lib.hid (show G.length + 1 = G1.length by rw [hG2, List.length_append]; rfl)
                        clear hG2
                        rw [show (x.code : Int) = 0 by omega]
                        have HV := Lib.hid (HY.out.on (alloc1B w9 (.cells #[.int .u64 (x.id : Int), .string (ofL x.shop), .string (ofL x.key), .slice Ax x.head.length cx, .string (ofL x.body), .int .u64 (x.due : Int), .int .u8 (x.hops : Int)] 32)))
                        have HNW := Lib.hid (show ∀ jj u, (mcs [(⟨x, Ax, cx⟩ : Mp)])[jj]? = some u → (w9.alloc (.cells #[.int .u64 (x.id : Int), .string (ofL x.shop), .string (ofL x.key), .slice Ax x.head.length cx, .string (ofL x.body), .int .u64 (x.due : Int), .int .u8 (x.hops : Int)] 32)).cell? ((⟨w9.heap.size, 0, none⟩ : Addr).add jj) = some u from fun jj u hu => by
                          rw [mcs_one1] at hu
                          rw [rws_add, Nat.zero_add]
                          exact (World.cell?_alloc_new w9 #[.int .u64 (x.id : Int), .string (ofL x.shop), .string (ofL x.key), .slice Ax x.head.length cx, .string (ofL x.body), .int .u64 (x.due : Int), .int .u8 (x.hops : Int)] 32 jj).trans (by simpa [mpL, maL] using hu))
                        have HPO := Lib.hid (HMO2.out.on (alloc1B w9 (.cells #[.int .u64 (x.id : Int), .string (ofL x.shop), .string (ofL x.key), .slice Ax x.head.length cx, .string (ofL x.body), .int .u64 (x.due : Int), .int .u8 (x.hops : Int)] 32)))
                        have hbs : w3.heap.size + 1 ≤ (w9.alloc (.cells #[.int .u64 (x.id : Int), .string (ofL x.shop), .string (ofL x.key), .slice Ax x.head.length cx, .string (ofL x.body), .int .u64 (x.due : Int), .int .u8 (x.hops : Int)] 32)).heap.size := Nat.succ_le_of_lt HV.out.box.lt
                        go_upto_region 30 with fail
                        go_wp2_with (at_builtin; refine wpList_append_lies _ rfl _ _ 22 rfl (w3.heap.size + 1) 32 iM _ 7 96 Tryd.underlying22 hiM hzM0 hzM1 hzM2 rfl (by decide) (.slice Ag G.length cg) G.length (mcs gs) (by rfl) HV.out.gO ⟨w9.heap.size, 0, none⟩ 1 1 (mcs [(⟨x, Ax, cx⟩ : Mp)]) (by rfl) (by rfl) HNW.out (mcs_one _) (by omega) (by unfold maxLen; omega) (by omega) hbs _ rfl ?_; intro gg cap w10 hown hgrow hat hlt10; rw [HL1.out]; rw [HL1.out] at hown; have HI9 := Lib.hid (HV.out.good (p := ⟨x, Ax, cx⟩) HPO.out HHD.out HG2.out hgrow hown hat); clear hown hgrow hat hlt10 q0 q1 q2 q3 q4 q5 q6 hbs; have y0 := HI9.out.ybox.cs 0 _ rfl; have y1 := HI9.out.ybox.cs 1 _ rfl; have yl := HI9.out.ybox.lt; have e0 := HI9.out.box.cs 0 _ rfl; have e1 := HI9.out.box.cs 1 _ rfl; have el := HI9.out.box.lt; have ef : ∀ jj, w10.frozen? ⟨w3.heap.size, jj, none⟩ = false := HI9.out.box.s; have HD := Lib.hid (HI9.out.done hge))
                        go_roundg (gO - 1)
                        case rel => exact ⟨k + 1, j, A8, c8, kp8, gs ++ [⟨x, Ax, cx⟩], ps2, by have := HK.out; omega, rfl, by go_num, by rw [HG1.out]; exact HD.out, fun h => absurd h (by omega)⟩
                        case measure => have := HK.out; omega
                      · have hcd : ((x.code : Int) == 0) = false := by simpa using hcode
                        have hG2 : G1 = G := by rw [HGS.out, if_pos hcode]
                        subst hG2
                        have HI9 := HY
                        clear q0 q1 q2 q3 q4 q5 q6
                        have y0 := HI9.out.ybox.cs 0 _ rfl
                        have y1 := HI9.out.ybox.cs 1 _ rfl
                        have yl := HI9.out.ybox.lt
                        have e0 := HI9.out.box.cs 0 _ rfl
                        have e1 := HI9.out.box.cs 1 _ rfl
                        have el := HI9.out.box.lt
                        have ef : ∀ jj, w9.frozen? ⟨w3.heap.size, jj, none⟩ = false := HI9.out.box.s
                        have HD := Lib.hid (HI9.out.done hge)
                        go_wp2_with fail
                        go_roundg (gO - 1)
                        case rel => exact ⟨k + 1, j, A8, c8, kp8, gs, ps2, by have := HK.out; omega, rfl, by go_num, by rw [HG1.out]; exact HD.out, fun h => absurd h (by omega)⟩
                        case measure => have := HK.out; omega
                · have HJT := Lib.hid (show i = m by have := HII.out; omega)
                  have HI6 := HI5
                  go_upto_region 28 with fail
                  obtain ⟨hin, bb, off, hAe, hbb, hcl⟩ := (HA.out.on HI6.out.gr).get hkL
                  subst hAe
                  have hin0 := (HA.out.get hkL).1
                  have hli := HFEW.out k hkL
                  obtain ⟨hT, hKq, hCq⟩ := rs_add hkL (by omega)
                  rw [HG.out] at hT hKq hCq
                  have hGs := rsG_succ hkL
                  rw [HG.out] at hGs
                  generalize l.getD k Mp.zero = p at *
                  obtain ⟨x, Ax, cx⟩ := p
                  dsimp only at hin hin0 hli hT hKq hGs hCq
                  obtain ⟨G1, hG1⟩ : ∃ G1, rsG l (k + 1) = G1 := ⟨_, rfl⟩
                  rw [hG1] at hT hKq hGs
                  have HG1 := Lib.hid hG1
                  have hMo : MaOk wr x Ax cx := ml_light_Ok hli hin.cap hin.row
                  have q0 := hcl 0 _ rfl
                  have q1 := hcl 1 _ rfl
                  have q2 := hcl 2 _ rfl
                  have q3 := hcl 3 _ rfl
                  have q4 := hcl 4 _ rfl
                  have q5 := hcl 5 _ rfl
                  have q6 := hcl 6 _ rfl
                  rw [Nat.add_zero] at q0
                  dsimp only at q0 q1 q2 q3 q4 q5 q6
                  have e0 := HI6.out.box.cs 0 _ rfl
                  have e1 := HI6.out.box.cs 1 _ rfl
                  have hgw : w3.heap.size ≤ wr.heap.size := Nat.le_of_lt HI6.out.box.lt
                  have HMO := Lib.hid hMo
                  have HHD := Lib.hid (show x.head ≠ [] → ∀ a, Ax = some a → a.block < w3.heap.size from fun hh a ha => Nat.lt_of_lt_of_le (rs_prs_in hin0.row hh ha) hge)
                  have HPT := Lib.hid (fun W' (hb : Below wr.heap.size wr W') => rsPutB_any (RtU w3.heap.size (.slice Ag G.length cg) (.slice At2 j ct2) wr) G.length c A kp x Ax cx W' hkp1 HI6.out.kc HI6.out.kn (by omega) (HMO.out.on hb) (HI6.out.kM.on hb) (HL.out.on (bthen HI6.out.gr hb (Nat.le_refl _))))
                  unfold RsPutPostB at HPT
                  rw [HI6.out.kx, hT, hKq, hCq] at HPT
                  simp only [maV] at HPT
                  have HGP := Lib.hid (show ∃ m, G1 = G ++ m by by_cases hc0 : x.code ≠ 0; exact ⟨[], by rw [hGs, if_pos hc0, List.append_nil]⟩; exact ⟨[x], by rw [hGs, if_neg hc0]⟩)
                  have HGS := Lib.hid hGs
                  have hi1 : (0 : Int) ≤ (k : Int) := by omega
                  have hi2 : (k : Int) < (l.length : Int) := by omega
                  have hi3 : ((k : Int)).toNat = k := by omega
                  clear hcl hin hin0 hli hT hKq hCq hGs hG1 hMo
                  refine wp_region_held_drew (S := fun a => Below wr.heap.size wr a) (by kernel_rfl) (by (try dsimp only); exact (Below.refl _ _).drew) (fun hHeld => ?_)
                  refine wpAnyH_take (i := 0) (oi := { dst := some 84, op := Go.Op.load 28 (Go.Operand.tmp 5), type := 28, pos := "law.go:123", after := #[], guard := none }) (v := ?_) rfl (by kernel_rfl) (by kernel_rfl) (by kernel_rfl) (fun _ _ _ h => h) (Or.inl ⟨by rfl, ?_⟩) (by assumption) ?_
                  rotate_left 1
                  · intro w hSw; (try dsimp only at hSw); have e0 := cell_on hSw e0; have e1 := cell_on hSw e1; have q0 := cell_on hSw q0; have q1 := cell_on hSw q1; have q2 := cell_on hSw q2; have q3 := cell_on hSw q3; have q4 := cell_on hSw q4; have q5 := cell_on hSw q5; have q6 := cell_on hSw q6; go_simp; try with_reducible rfl
                  try simp only [Act.put, List.setIfInBounds_toArray, List.set_cons_zero, List.set_cons_succ]
                  refine wpAnyH_take (i := 1) (oi := { dst := some 85, op := Go.Op.move (Go.Operand.tmp 0), type := 22, pos := "law.go:123", after := #[], guard := none }) (v := ?_) rfl (by kernel_rfl) (by kernel_rfl) (by kernel_rfl) (fun _ _ _ h => h) (Or.inl ⟨by rfl, ?_⟩) (by assumption) ?_
                  rotate_left 1
                  · intro w hSw; (try dsimp only at hSw); go_simp; try with_reducible rfl
                  try simp only [Act.put, List.setIfInBounds_toArray, List.set_cons_zero, List.set_cons_succ]
                  refine wpAnyH_take (i := 2) (oi := { dst := some 86, op := Go.Op.move (Go.Operand.tmp 9), type := 3, pos := "law.go:123", after := #[], guard := none }) (v := ?_) rfl (by kernel_rfl) (by kernel_rfl) (by kernel_rfl) (fun _ _ _ h => h) (Or.inl ⟨by rfl, ?_⟩) (by assumption) ?_
                  rotate_left 1
                  · intro w hSw; (try dsimp only at hSw); go_simp; try with_reducible rfl
                  try simp only [Act.put, List.setIfInBounds_toArray, List.set_cons_zero, List.set_cons_succ]
                  refine wpAnyH_take (i := 3) (oi := { dst := some 87, op := Go.Op.indexAddr 22 (Go.Operand.tmp 85) (Go.Operand.tmp 86), type := 0, pos := "law.go:123", after := #[{ on := 1, ground := Go.Ground.data }, { on := 2, ground := Go.Ground.data }], guard := none }) (v := ?_) rfl (by kernel_rfl) (by kernel_rfl) (by kernel_rfl) (fun _ _ _ h => h) (Or.inl ⟨by rfl, ?_⟩) (by assumption) ?_
                  rotate_left 1
                  · intro w hSw; (try dsimp only at hSw); go_simp; try with_reducible rfl
                  try simp only [Act.put, List.setIfInBounds_toArray, List.set_cons_zero, List.set_cons_succ]
                  refine wpAnyH_take (i := 4) (oi := { dst := some 88, op := Go.Op.load 32 (Go.Operand.tmp 87), type := 32, pos := "law.go:123", after := #[{ on := 3, ground := Go.Ground.data }], guard := none }) (v := ?_) rfl (by kernel_rfl) (by kernel_rfl) (by kernel_rfl) (fun _ _ _ h => h) (Or.inl ⟨by rfl, ?_⟩) (by assumption) ?_
                  rotate_left 1
                  · intro w hSw; (try dsimp only at hSw); have e0 := cell_on hSw e0; have e1 := cell_on hSw e1; have q0 := cell_on hSw q0; have q1 := cell_on hSw q1; have q2 := cell_on hSw q2; have q3 := cell_on hSw q3; have q4 := cell_on hSw q4; have q5 := cell_on hSw q5; have q6 := cell_on hSw q6; go_simp; try with_reducible rfl
                  try simp only [Act.put, List.setIfInBounds_toArray, List.set_cons_zero, List.set_cons_succ]
                  refine wpAnyH_ready (rs := [5, 9]) (by kernel_rfl) (by simp) ?_
                  refine AllReadyH.cons (o := { dst := some 89, op := Go.Op.call { callee := Go.Callee.value (Go.Operand.func 9), args := #[Go.Operand.tmp 84, Go.Operand.tmp 88], argTypes := #[28, 32] }, type := 36, pos := "law.go:123", after := #[{ on := 0, ground := Go.Ground.data }, { on := 4, ground := Go.Ground.data }], guard := none }) rfl (fun K hK => ?_) (AllReadyH.cons (o := { dst := some 14, op := Go.Op.alloc 28, type := 0, pos := "law.go:123", after := #[], guard := none }) rfl (fun K hK => ?_) (AllReadyH.nil))
                  · skip
                    go_simp
                    go_at_call 9
                    refine (HPT.out _ hHeld).mono ?_
                    rintro e wx ⟨A8, c8, kp8, rfl, hm8, hc8, hn8, hM8, hb2⟩
                    try replace HNB := Lib.hid (HNB.out.on hb2)
                    have HB5 := Lib.hid hb2
                    have HM8 := Lib.hid hm8
                    have HC8 := Lib.hid hc8
                    have HN8 := Lib.hid hn8
                    have HMM := Lib.hid hM8
                    clear hm8 hc8 hn8 hM8
                    refine hK.out _ _ (bthen hHeld hb2 (Nat.le_refl _)) (fun hHeld2 => ?_)
                    clear hK K hHeld hb2
                    have hHeld := hHeld2
                    clear hHeld2
                    try simp only [Act.put, List.setIfInBounds_toArray, List.set_cons_zero, List.set_cons_succ]
                    refine wpAnyH_take (i := 6) (oi := { dst := some 83, op := Go.Op.move (Go.Operand.tmp 89), type := 36, pos := "law.go:123", after := #[{ on := 5, ground := Go.Ground.data }], guard := none }) (v := ?_) rfl (by kernel_rfl) (by kernel_rfl) (by kernel_rfl) (fun _ _ _ h => h) (Or.inl ⟨by rfl, ?_⟩) (by assumption) ?_
                    rotate_left 1
                    · intro w hSw; (try dsimp only at hSw); go_simp; try with_reducible rfl
                    try simp only [Act.put, List.setIfInBounds_toArray, List.set_cons_zero, List.set_cons_succ]
                    refine wpAnyH_take (i := 7) (oi := { dst := some 90, op := Go.Op.extract (Go.Operand.tmp 83) 0, type := 28, pos := "law.go:123", after := #[{ on := 6, ground := Go.Ground.data }], guard := none }) (v := ?_) rfl (by kernel_rfl) (by kernel_rfl) (by kernel_rfl) (fun _ _ _ h => h) (Or.inl ⟨by rfl, ?_⟩) (by assumption) ?_
                    rotate_left 1
                    · intro w hSw; (try dsimp only at hSw); go_simp; try with_reducible rfl
                    try simp only [Act.put, List.setIfInBounds_toArray, List.set_cons_zero, List.set_cons_succ]
                    refine wpAnyH_take (i := 8) (oi := { dst := some 91, op := Go.Op.extract (Go.Operand.tmp 83) 1, type := 35, pos := "law.go:123", after := #[{ on := 6, ground := Go.Ground.data }, { on := 10, ground := Go.Ground.gcOnly Go.Departure.lateStores }], guard := none }) (v := ?_) rfl (by kernel_rfl) (by kernel_rfl) (by kernel_rfl) (fun _ _ _ h => h) (Or.inl ⟨by rfl, ?_⟩) (by assumption) ?_
                    rotate_left 1
                    · intro w hSw; (try dsimp only at hSw); go_simp; try with_reducible rfl
                    try simp only [Act.put, List.setIfInBounds_toArray, List.set_cons_zero, List.set_cons_succ]
                    refine wpAnyH_ready (rs := [9]) (by kernel_rfl) (by simp) ?_
                    refine AllReadyH.cons (o := { dst := some 14, op := Go.Op.alloc 28, type := 0, pos := "law.go:123", after := #[], guard := none }) rfl (fun K hK => ?_) (AllReadyH.nil)
                    go_simp
                    have HNB := Lib.hid (BoxC.new (w := w3) (W := _) (Nat.le_trans hgw hHeld.size) #[.int .u64 0, .slice none 0 0] 28)
                    have HB0 := Lib.hid hHeld
                    have HNL := Lib.hid hHeld.size
                    have hPre := hHeld
                    refine hK.out _ _ (hHeld.alloc hHeld.size _) (fun hHeld2 => ?_)
                    clear hK K hHeld
                    have hHeld := hHeld2
                    clear hHeld2
                    try simp only [Act.put, List.setIfInBounds_toArray, List.set_cons_zero, List.set_cons_succ]
                    refine wpAnyH_ready (rs := [10]) (by kernel_rfl) (by simp) ?_
                    refine AllReadyH.cons (o := { dst := none, op := Go.Op.store 28 (Go.Operand.tmp 14) (Go.Operand.tmp 90), type := 0, pos := "law.go:123", after := #[{ on := 9, ground := Go.Ground.data }, { on := 7, ground := Go.Ground.data }, { on := 5, ground := Go.Ground.chain }, { on := 0, ground := Go.Ground.phase }, { on := 1, ground := Go.Ground.phase }, { on := 2, ground := Go.Ground.phase }, { on := 3, ground := Go.Ground.phase }, { on := 4, ground := Go.Ground.phase }, { on := 5, ground := Go.Ground.phase }, { on := 6, ground := Go.Ground.phase }, { on := 7, ground := Go.Ground.phase }, { on := 8, ground := Go.Ground.textOnly Go.Departure.lateStores }, { on := 9, ground := Go.Ground.phase }], guard := none }) rfl (fun K hK => ?_) (AllReadyH.nil)
                    have n0 := HNB.out.cs 0 _ rfl
                    have n1 := HNB.out.cs 1 _ rfl
                    have nf := HNB.out.s
                    unfold Soft at nf
                    have nl := HNB.out.lt
                    have nge : wr.heap.size ≤ _ := HNL.out
                    try simp only [show wr.drew.heap.size = wr.heap.size from rfl] at n0 n1 nf nl nge
                    go_simp
                    refine hK.out _ _ ?_ (fun hHeld2 => ?_)
                    · (try dsimp only); first | with_reducible exact hPre.alloc hPre.size _ | ((repeat with_reducible refine below_put nge ?_); with_reducible exact hHeld)
                    clear n0 n1 nf nl nge hPre
                    clear hK K hHeld
                    have hHeld := hHeld2
                    clear hHeld2
                    try simp only [Act.put, List.setIfInBounds_toArray, List.set_cons_zero, List.set_cons_succ]
                    refine wpAnyH_take (i := 11) (oi := { dst := some 15, op := Go.Op.assign (Go.Operand.tmp 91), type := 35, pos := "law.go:123", after := #[{ on := 8, ground := Go.Ground.data }, { on := 10, ground := Go.Ground.chain }, { on := 0, ground := Go.Ground.phase }, { on := 1, ground := Go.Ground.phase }, { on := 2, ground := Go.Ground.phase }, { on := 3, ground := Go.Ground.phase }, { on := 4, ground := Go.Ground.phase }, { on := 5, ground := Go.Ground.phase }, { on := 6, ground := Go.Ground.phase }, { on := 7, ground := Go.Ground.phase }, { on := 8, ground := Go.Ground.phase }, { on := 9, ground := Go.Ground.phase }, { on := 10, ground := Go.Ground.phase }], guard := none }) (v := ?_) rfl (by kernel_rfl) (by kernel_rfl) (by kernel_rfl) (fun _ _ _ h => h) (Or.inl ⟨by rfl, ?_⟩) (by assumption) ?_
                    rotate_left 1
                    · intro w hSw; (try dsimp only at hSw); go_simp; try with_reducible rfl
                    try simp only [Act.put, List.setIfInBounds_toArray, List.set_cons_zero, List.set_cons_succ]
                    refine wpAnyH_done (by kernel_rfl) ?_ _
                    have hZ := hHeld
                    clear hHeld
                    first
                      | (have HY := Lib.hid (HI6.out.putA (Below.refl _ _).drew HB5.out HGP.out HM8.out HC8.out HN8.out HMM.out 28)
                         generalize wx.alloc (.cells #[.int .u64 (G1.length : Int), .slice A8 kp8.length c8] 28) = w9 at *
                         generalize wx.heap.size = gy at *)
                      | (have HY := Lib.hid (HI6.out.putB ((Below.refl _ _).drew.alloc (Nat.le_refl _) _) HB5.out HGP.out HM8.out HC8.out HN8.out HMM.out HNB.out rfl (Nat.le_refl _) (by simp))
                         rw [show wr.drew.heap.size = wr.heap.size from rfl] at HY
                         obtain ⟨gy, hgy⟩ : ∃ gy, wr.heap.size = gy := ⟨_, rfl⟩
                         rw [hgy] at HY hZ
                         try rw [hgy]
                         generalize (wx.setCell ⟨gy, 0, none⟩ (.int .u64 (G1.length : Int))).setCell ⟨gy, 1, none⟩ (.slice A8 kp8.length c8) = w9 at *
                         rw [← hgy] at hZ
                         clear hgy)
                    have q0 := cell_on hZ q0
                    have q1 := cell_on hZ q1
                    have q2 := cell_on hZ q2
                    have q3 := cell_on hZ q3
                    have q4 := cell_on hZ q4
                    have q5 := cell_on hZ q5
                    have q6 := cell_on hZ q6
                    have HMO2 := Lib.hid (HMO.out.on hZ)
                    clear e0 e1 hZ HB5 HMM HPT
                    try clear HNB HB0 HNL
                    by_cases hcode : x.code = 0
                    · have hcd : ((x.code : Int) == 0) = true := by simpa using hcode
                      have hG2 : G1 = G ++ [x] := by rw [HGS.out, if_neg (by omega)]
                      have HG2 := Lib.hid hG2
                      have HL1 := Lib.hid (show G.length + 1 = G1.length by rw [hG2, List.length_append]; rfl)
                      clear hG2
                      rw [show (x.code : Int) = 0 by omega]
                      have HV := Lib.hid (HY.out.on (alloc1B w9 (.cells #[.int .u64 (x.id : Int), .string (ofL x.shop), .string (ofL x.key), .slice Ax x.head.length cx, .string (ofL x.body), .int .u64 (x.due : Int), .int .u8 (x.hops : Int)] 32)))
                      have HNW := Lib.hid (show ∀ jj u, (mcs [(⟨x, Ax, cx⟩ : Mp)])[jj]? = some u → (w9.alloc (.cells #[.int .u64 (x.id : Int), .string (ofL x.shop), .string (ofL x.key), .slice Ax x.head.length cx, .string (ofL x.body), .int .u64 (x.due : Int), .int .u8 (x.hops : Int)] 32)).cell? ((⟨w9.heap.size, 0, none⟩ : Addr).add jj) = some u from fun jj u hu => by
                        rw [mcs_one1] at hu
                        rw [rws_add, Nat.zero_add]
                        exact (World.cell?_alloc_new w9 #[.int .u64 (x.id : Int), .string (ofL x.shop), .string (ofL x.key), .slice Ax x.head.length cx, .string (ofL x.body), .int .u64 (x.due : Int), .int .u8 (x.hops : Int)] 32 jj).trans (by simpa [mpL, maL] using hu))
                      have HPO := Lib.hid (HMO2.out.on (alloc1B w9 (.cells #[.int .u64 (x.id : Int), .string (ofL x.shop), .string (ofL x.key), .slice Ax x.head.length cx, .string (ofL x.body), .int .u64 (x.due : Int), .int .u8 (x.hops : Int)] 32)))
                      have hbs : w3.heap.size + 1 ≤ (w9.alloc (.cells #[.int .u64 (x.id : Int), .string (ofL x.shop), .string (ofL x.key), .slice Ax x.head.length cx, .string (ofL x.body), .int .u64 (x.due : Int), .int .u8 (x.hops : Int)] 32)).heap.size := Nat.succ_le_of_lt HV.out.box.lt
                      go_upto_region 30 with fail
                      go_wp2_with (at_builtin; refine wpList_append_lies _ rfl _ _ 22 rfl (w3.heap.size + 1) 32 iM _ 7 96 Tryd.underlying22 hiM hzM0 hzM1 hzM2 rfl (by decide) (.slice Ag G.length cg) G.length (mcs gs) (by rfl) HV.out.gO ⟨w9.heap.size, 0, none⟩ 1 1 (mcs [(⟨x, Ax, cx⟩ : Mp)]) (by rfl) (by rfl) HNW.out (mcs_one _) (by omega) (by unfold maxLen; omega) (by omega) hbs _ rfl ?_; intro gg cap w10 hown hgrow hat hlt10; rw [HL1.out]; rw [HL1.out] at hown; have HI9 := Lib.hid (HV.out.good (p := ⟨x, Ax, cx⟩) HPO.out HHD.out HG2.out hgrow hown hat); clear hown hgrow hat hlt10 q0 q1 q2 q3 q4 q5 q6 hbs; have y0 := HI9.out.ybox.cs 0 _ rfl; have y1 := HI9.out.ybox.cs 1 _ rfl; have yl := HI9.out.ybox.lt; have e0 := HI9.out.box.cs 0 _ rfl; have e1 := HI9.out.box.cs 1 _ rfl; have el := HI9.out.box.lt; have ef : ∀ jj, w10.frozen? ⟨w3.heap.size, jj, none⟩ = false := HI9.out.box.s; have HD := Lib.hid (HI9.out.done hge))
                      go_roundg (gO - 1)
                      case rel => exact ⟨k + 1, j, A8, c8, kp8, gs ++ [⟨x, Ax, cx⟩], ps2, by have := HK.out; omega, rfl, by go_num, by rw [HG1.out]; exact HD.out, fun h => absurd h (by omega)⟩
                      case measure => have := HK.out; omega
                    · have hcd : ((x.code : Int) == 0) = false := by simpa using hcode
                      have hG2 : G1 = G := by rw [HGS.out, if_pos hcode]
                      subst hG2
                      have HI9 := HY
                      clear q0 q1 q2 q3 q4 q5 q6
                      have y0 := HI9.out.ybox.cs 0 _ rfl
                      have y1 := HI9.out.ybox.cs 1 _ rfl
                      have yl := HI9.out.ybox.lt
                      have e0 := HI9.out.box.cs 0 _ rfl
                      have e1 := HI9.out.box.cs 1 _ rfl
                      have el := HI9.out.box.lt
                      have ef : ∀ jj, w9.frozen? ⟨w3.heap.size, jj, none⟩ = false := HI9.out.box.s
                      have HD := Lib.hid (HI9.out.done hge)
                      go_wp2_with fail
                      go_roundg (gO - 1)
                      case rel => exact ⟨k + 1, j, A8, c8, kp8, gs, ps2, by have := HK.out; omega, rfl, by go_num, by rw [HG1.out]; exact HD.out, fun h => absurd h (by omega)⟩
                      case measure => have := HK.out; omega
                  · skip
                    go_simp
                    have HNB := Lib.hid (BoxC.new (w := w3) (W := _) (Nat.le_trans hgw hHeld.size) #[.int .u64 0, .slice none 0 0] 28)
                    have HB0 := Lib.hid hHeld
                    have HNL := Lib.hid hHeld.size
                    have hPre := hHeld
                    refine hK.out _ _ (hHeld.alloc hHeld.size _) (fun hHeld2 => ?_)
                    clear hK K hHeld
                    have hHeld := hHeld2
                    clear hHeld2
                    try simp only [Act.put, List.setIfInBounds_toArray, List.set_cons_zero, List.set_cons_succ]
                    refine wpAnyH_ready (rs := [5]) (by kernel_rfl) (by simp) ?_
                    refine AllReadyH.cons (o := { dst := some 89, op := Go.Op.call { callee := Go.Callee.value (Go.Operand.func 9), args := #[Go.Operand.tmp 84, Go.Operand.tmp 88], argTypes := #[28, 32] }, type := 36, pos := "law.go:123", after := #[{ on := 0, ground := Go.Ground.data }, { on := 4, ground := Go.Ground.data }], guard := none }) rfl (fun K hK => ?_) (AllReadyH.nil)
                    go_simp
                    go_at_call 9
                    refine (HPT.out _ hHeld).mono ?_
                    rintro e wx ⟨A8, c8, kp8, rfl, hm8, hc8, hn8, hM8, hb2⟩
                    try replace HNB := Lib.hid (HNB.out.on hb2)
                    have HB5 := Lib.hid hb2
                    have HM8 := Lib.hid hm8
                    have HC8 := Lib.hid hc8
                    have HN8 := Lib.hid hn8
                    have HMM := Lib.hid hM8
                    clear hm8 hc8 hn8 hM8
                    refine hK.out _ _ (bthen hHeld hb2 (Nat.le_refl _)) (fun hHeld2 => ?_)
                    clear hK K hHeld hb2
                    have hHeld := hHeld2
                    clear hHeld2
                    try simp only [Act.put, List.setIfInBounds_toArray, List.set_cons_zero, List.set_cons_succ]
                    refine wpAnyH_take (i := 6) (oi := { dst := some 83, op := Go.Op.move (Go.Operand.tmp 89), type := 36, pos := "law.go:123", after := #[{ on := 5, ground := Go.Ground.data }], guard := none }) (v := ?_) rfl (by kernel_rfl) (by kernel_rfl) (by kernel_rfl) (fun _ _ _ h => h) (Or.inl ⟨by rfl, ?_⟩) (by assumption) ?_
                    rotate_left 1
                    · intro w hSw; (try dsimp only at hSw); go_simp; try with_reducible rfl
                    try simp only [Act.put, List.setIfInBounds_toArray, List.set_cons_zero, List.set_cons_succ]
                    refine wpAnyH_take (i := 7) (oi := { dst := some 90, op := Go.Op.extract (Go.Operand.tmp 83) 0, type := 28, pos := "law.go:123", after := #[{ on := 6, ground := Go.Ground.data }], guard := none }) (v := ?_) rfl (by kernel_rfl) (by kernel_rfl) (by kernel_rfl) (fun _ _ _ h => h) (Or.inl ⟨by rfl, ?_⟩) (by assumption) ?_
                    rotate_left 1
                    · intro w hSw; (try dsimp only at hSw); go_simp; try with_reducible rfl
                    try simp only [Act.put, List.setIfInBounds_toArray, List.set_cons_zero, List.set_cons_succ]
                    refine wpAnyH_take (i := 8) (oi := { dst := some 91, op := Go.Op.extract (Go.Operand.tmp 83) 1, type := 35, pos := "law.go:123", after := #[{ on := 6, ground := Go.Ground.data }, { on := 10, ground := Go.Ground.gcOnly Go.Departure.lateStores }], guard := none }) (v := ?_) rfl (by kernel_rfl) (by kernel_rfl) (by kernel_rfl) (fun _ _ _ h => h) (Or.inl ⟨by rfl, ?_⟩) (by assumption) ?_
                    rotate_left 1
                    · intro w hSw; (try dsimp only at hSw); go_simp; try with_reducible rfl
                    try simp only [Act.put, List.setIfInBounds_toArray, List.set_cons_zero, List.set_cons_succ]
                    refine wpAnyH_ready (rs := [10]) (by kernel_rfl) (by simp) ?_
                    refine AllReadyH.cons (o := { dst := none, op := Go.Op.store 28 (Go.Operand.tmp 14) (Go.Operand.tmp 90), type := 0, pos := "law.go:123", after := #[{ on := 9, ground := Go.Ground.data }, { on := 7, ground := Go.Ground.data }, { on := 5, ground := Go.Ground.chain }, { on := 0, ground := Go.Ground.phase }, { on := 1, ground := Go.Ground.phase }, { on := 2, ground := Go.Ground.phase }, { on := 3, ground := Go.Ground.phase }, { on := 4, ground := Go.Ground.phase }, { on := 5, ground := Go.Ground.phase }, { on := 6, ground := Go.Ground.phase }, { on := 7, ground := Go.Ground.phase }, { on := 8, ground := Go.Ground.textOnly Go.Departure.lateStores }, { on := 9, ground := Go.Ground.phase }], guard := none }) rfl (fun K hK => ?_) (AllReadyH.nil)
                    have n0 := HNB.out.cs 0 _ rfl
                    have n1 := HNB.out.cs 1 _ rfl
                    have nf := HNB.out.s
                    unfold Soft at nf
                    have nl := HNB.out.lt
                    have nge : wr.heap.size ≤ _ := HNL.out
                    try simp only [show wr.drew.heap.size = wr.heap.size from rfl] at n0 n1 nf nl nge
                    go_simp
                    refine hK.out _ _ ?_ (fun hHeld2 => ?_)
                    · (try dsimp only); first | with_reducible exact hPre.alloc hPre.size _ | ((repeat with_reducible refine below_put nge ?_); with_reducible exact hHeld)
                    clear n0 n1 nf nl nge hPre
                    clear hK K hHeld
                    have hHeld := hHeld2
                    clear hHeld2
                    try simp only [Act.put, List.setIfInBounds_toArray, List.set_cons_zero, List.set_cons_succ]
                    refine wpAnyH_take (i := 11) (oi := { dst := some 15, op := Go.Op.assign (Go.Operand.tmp 91), type := 35, pos := "law.go:123", after := #[{ on := 8, ground := Go.Ground.data }, { on := 10, ground := Go.Ground.chain }, { on := 0, ground := Go.Ground.phase }, { on := 1, ground := Go.Ground.phase }, { on := 2, ground := Go.Ground.phase }, { on := 3, ground := Go.Ground.phase }, { on := 4, ground := Go.Ground.phase }, { on := 5, ground := Go.Ground.phase }, { on := 6, ground := Go.Ground.phase }, { on := 7, ground := Go.Ground.phase }, { on := 8, ground := Go.Ground.phase }, { on := 9, ground := Go.Ground.phase }, { on := 10, ground := Go.Ground.phase }], guard := none }) (v := ?_) rfl (by kernel_rfl) (by kernel_rfl) (by kernel_rfl) (fun _ _ _ h => h) (Or.inl ⟨by rfl, ?_⟩) (by assumption) ?_
                    rotate_left 1
                    · intro w hSw; (try dsimp only at hSw); go_simp; try with_reducible rfl
                    try simp only [Act.put, List.setIfInBounds_toArray, List.set_cons_zero, List.set_cons_succ]
                    refine wpAnyH_done (by kernel_rfl) ?_ _
                    have hZ := hHeld
                    clear hHeld
                    first
                      | (have HY := Lib.hid (HI6.out.putA (Below.refl _ _).drew HB5.out HGP.out HM8.out HC8.out HN8.out HMM.out 28)
                         generalize wx.alloc (.cells #[.int .u64 (G1.length : Int), .slice A8 kp8.length c8] 28) = w9 at *
                         generalize wx.heap.size = gy at *)
                      | (have HY := Lib.hid (HI6.out.putB ((Below.refl _ _).drew.alloc (Nat.le_refl _) _) HB5.out HGP.out HM8.out HC8.out HN8.out HMM.out HNB.out rfl (Nat.le_refl _) (by simp))
                         rw [show wr.drew.heap.size = wr.heap.size from rfl] at HY
                         obtain ⟨gy, hgy⟩ : ∃ gy, wr.heap.size = gy := ⟨_, rfl⟩
                         rw [hgy] at HY hZ
                         try rw [hgy]
                         generalize (wx.setCell ⟨gy, 0, none⟩ (.int .u64 (G1.length : Int))).setCell ⟨gy, 1, none⟩ (.slice A8 kp8.length c8) = w9 at *
                         rw [← hgy] at hZ
                         clear hgy)
                    have q0 := cell_on hZ q0
                    have q1 := cell_on hZ q1
                    have q2 := cell_on hZ q2
                    have q3 := cell_on hZ q3
                    have q4 := cell_on hZ q4
                    have q5 := cell_on hZ q5
                    have q6 := cell_on hZ q6
                    have HMO2 := Lib.hid (HMO.out.on hZ)
                    clear e0 e1 hZ HB5 HMM HPT
                    try clear HNB HB0 HNL
                    by_cases hcode : x.code = 0
                    · have hcd : ((x.code : Int) == 0) = true := by simpa using hcode
                      have hG2 : G1 = G ++ [x] := by rw [HGS.out, if_neg (by omega)]
                      have HG2 := Lib.hid hG2
                      have HL1 := Lib.hid (show G.length + 1 = G1.length by rw [hG2, List.length_append]; rfl)
                      clear hG2
                      rw [show (x.code : Int) = 0 by omega]
                      have HV := Lib.hid (HY.out.on (alloc1B w9 (.cells #[.int .u64 (x.id : Int), .string (ofL x.shop), .string (ofL x.key), .slice Ax x.head.length cx, .string (ofL x.body), .int .u64 (x.due : Int), .int .u8 (x.hops : Int)] 32)))
                      have HNW := Lib.hid (show ∀ jj u, (mcs [(⟨x, Ax, cx⟩ : Mp)])[jj]? = some u → (w9.alloc (.cells #[.int .u64 (x.id : Int), .string (ofL x.shop), .string (ofL x.key), .slice Ax x.head.length cx, .string (ofL x.body), .int .u64 (x.due : Int), .int .u8 (x.hops : Int)] 32)).cell? ((⟨w9.heap.size, 0, none⟩ : Addr).add jj) = some u from fun jj u hu => by
                        rw [mcs_one1] at hu
                        rw [rws_add, Nat.zero_add]
                        exact (World.cell?_alloc_new w9 #[.int .u64 (x.id : Int), .string (ofL x.shop), .string (ofL x.key), .slice Ax x.head.length cx, .string (ofL x.body), .int .u64 (x.due : Int), .int .u8 (x.hops : Int)] 32 jj).trans (by simpa [mpL, maL] using hu))
                      have HPO := Lib.hid (HMO2.out.on (alloc1B w9 (.cells #[.int .u64 (x.id : Int), .string (ofL x.shop), .string (ofL x.key), .slice Ax x.head.length cx, .string (ofL x.body), .int .u64 (x.due : Int), .int .u8 (x.hops : Int)] 32)))
                      have hbs : w3.heap.size + 1 ≤ (w9.alloc (.cells #[.int .u64 (x.id : Int), .string (ofL x.shop), .string (ofL x.key), .slice Ax x.head.length cx, .string (ofL x.body), .int .u64 (x.due : Int), .int .u8 (x.hops : Int)] 32)).heap.size := Nat.succ_le_of_lt HV.out.box.lt
                      go_upto_region 30 with fail
                      go_wp2_with (at_builtin; refine wpList_append_lies _ rfl _ _ 22 rfl (w3.heap.size + 1) 32 iM _ 7 96 Tryd.underlying22 hiM hzM0 hzM1 hzM2 rfl (by decide) (.slice Ag G.length cg) G.length (mcs gs) (by rfl) HV.out.gO ⟨w9.heap.size, 0, none⟩ 1 1 (mcs [(⟨x, Ax, cx⟩ : Mp)]) (by rfl) (by rfl) HNW.out (mcs_one _) (by omega) (by unfold maxLen; omega) (by omega) hbs _ rfl ?_; intro gg cap w10 hown hgrow hat hlt10; rw [HL1.out]; rw [HL1.out] at hown; have HI9 := Lib.hid (HV.out.good (p := ⟨x, Ax, cx⟩) HPO.out HHD.out HG2.out hgrow hown hat); clear hown hgrow hat hlt10 q0 q1 q2 q3 q4 q5 q6 hbs; have y0 := HI9.out.ybox.cs 0 _ rfl; have y1 := HI9.out.ybox.cs 1 _ rfl; have yl := HI9.out.ybox.lt; have e0 := HI9.out.box.cs 0 _ rfl; have e1 := HI9.out.box.cs 1 _ rfl; have el := HI9.out.box.lt; have ef : ∀ jj, w10.frozen? ⟨w3.heap.size, jj, none⟩ = false := HI9.out.box.s; have HD := Lib.hid (HI9.out.done hge))
                      go_roundg (gO - 1)
                      case rel => exact ⟨k + 1, j, A8, c8, kp8, gs ++ [⟨x, Ax, cx⟩], ps2, by have := HK.out; omega, rfl, by go_num, by rw [HG1.out]; exact HD.out, fun h => absurd h (by omega)⟩
                      case measure => have := HK.out; omega
                    · have hcd : ((x.code : Int) == 0) = false := by simpa using hcode
                      have hG2 : G1 = G := by rw [HGS.out, if_pos hcode]
                      subst hG2
                      have HI9 := HY
                      clear q0 q1 q2 q3 q4 q5 q6
                      have y0 := HI9.out.ybox.cs 0 _ rfl
                      have y1 := HI9.out.ybox.cs 1 _ rfl
                      have yl := HI9.out.ybox.lt
                      have e0 := HI9.out.box.cs 0 _ rfl
                      have e1 := HI9.out.box.cs 1 _ rfl
                      have el := HI9.out.box.lt
                      have ef : ∀ jj, w9.frozen? ⟨w3.heap.size, jj, none⟩ = false := HI9.out.box.s
                      have HD := Lib.hid (HI9.out.done hge)
                      go_wp2_with fail
                      go_roundg (gO - 1)
                      case rel => exact ⟨k + 1, j, A8, c8, kp8, gs, ps2, by have := HK.out; omega, rfl, by go_num, by rw [HG1.out]; exact HD.out, fun h => absurd h (by omega)⟩
                      case measure => have := HK.out; omega
        · have hkE : k = l.length := by omega
          have hq1 : decide ((k : Int) < (l.length : Int)) = false := decide_eq_false (by omega)
          have hq2 : decide (k < l.length) = false := decide_eq_false hkL
          have HKE := Lib.hid hkE
          clear hkE
          have hq3 : (k : Int) < (ak.length : Int) → True := fun _ => trivial
          clear hq3
          by_cases hka : k < ak.length
          · have hq3 : decide ((k : Int) < (ak.length : Int)) = true := decide_eq_true (by omega)
            have hq4 : decide (k < ak.length) = true := decide_eq_true hka
            go_wp2_with fail
            refine (HTO.out _).mono ?_
            rintro e w4 ⟨rfl, b4⟩
            have HI4 := Lib.hid (HI.out.on b4)
            clear b4 e0 e1 el
            have e0 := HI4.out.box.cs 0 _ rfl
            have e1 := HI4.out.box.cs 1 _ rfl
            have el := HI4.out.box.lt
            have hsub : IntKind.u64.wrap ((G.length : Int) - (t : Int)) = ((G.length - t : Nat) : Int) := by rw [IntKind.wrap_u64]; omega
            by_cases h16 : 16 < G.length - t
            · have hd16 : decide ((G.length : Int) - (t : Int) > 16) = true := decide_eq_true (by omega)
              clear hsub
              go_wp2_with fail
              go_ret
              exact ⟨rfl, HI4.out.gr⟩
            · have hd16 : decide ((G.length : Int) - (t : Int) > 16) = false := decide_eq_false (by omega)
              have hh16 : G.length - t ≤ 16 := by omega
              clear hsub h16
              go_wp2_with fail
              go_loopg [7, 8, 58] 16 (fun g vt vl vi wr => RiSt w w3 G A c kp gs (.slice Ag G.length cg) 16 t g vt vl vi wr)
              case atStart => exact ⟨0, ps, by omega, rfl, rfl, HI4.out⟩
              case round =>
                obtain ⟨i, ps2, hi, rfl, rfl, hI2⟩ := hrel
                have HII := Lib.hid hi
                have HI5 := Lib.hid hI2
                clear hi hI2 e0 e1 el
                obtain ⟨At2, ct2, hvt2, -⟩ := HI5.out.ps
                subst hvt2
                have htl2 := HI5.out.le
                obtain ⟨j, hj⟩ : ∃ j, t + i = j := ⟨_, rfl⟩
                rw [hj] at HI5 htl2
                have hjt : t ≤ j := by omega
                have HJ := Lib.hid hj
                have e0 := HI5.out.box.cs 0 _ rfl
                have e1 := HI5.out.box.cs 1 _ rfl
                have el := HI5.out.box.lt
                rw [hj]
                clear hj
                by_cases him : i < 16
                · have HAF := Lib.hid (rsAfter_any G.length c A kp j wr (by omega) hkp2 hkp3 (by omega) (by omega) HI5.out.kM.m)
                  by_cases hjT : j < G.length
                  · obtain ⟨ha1, ha2⟩ := rt_aft hjT (by omega)
                    have haf := HAF.out
                    unfold RsAftPost at haf
                    rw [HI5.out.kx, lastN_len, ← HKP.out] at haf
                    rw [lastN_len, ← HKP.out] at ha1
                    rw [ha1, ha2, decide_eq_true hjT] at haf
                    have HAF2 := Lib.hid haf
                    clear haf HAF ha1 ha2
                    obtain ⟨y, hy⟩ : ∃ y, G.getD j Ml.zero = y := ⟨_, rfl⟩
                    rw [hy] at HAF2
                    have HYE := Lib.hid hy
                    clear hy
                    have HYK := Lib.hid (rt_kept HI5.out.kx hjT (by omega))
                    go_wp2_with fail
                    refine HAF2.out.mono ?_
                    rintro e w6 ⟨Ay, cy, rfl, ho, b6⟩
                    have HT7 := Lib.hid (alloc1B w6 (.cells #[.int .u64 (y.id : Int), .string (ofL y.shop), .string (ofL y.key), .slice Ay y.head.length cy, .string (ofL y.body), .int .u64 (y.due : Int), .int .u8 (y.hops : Int)] 32))
                    have HZ7 := Lib.hid (BoxC.new (w := w6) (W := w6) (Nat.le_refl _) #[.int .u64 (y.id : Int), .string (ofL y.shop), .string (ofL y.key), .slice Ay y.head.length cy, .string (ofL y.body), .int .u64 (y.due : Int), .int .u8 (y.hops : Int)] 32)
                    have HI7 := Lib.hid (HI5.out.on (bthen b6 HT7.out (Nat.le_refl _)))
                    have HOR := Lib.hid ho.row
                    have HO7 := Lib.hid ((ho.row.1).on HT7.out)
                    have HS6 := Lib.hid b6.size
                    have HS7 := Lib.hid (show (w6.alloc (.cells #[.int .u64 (y.id : Int), .string (ofL y.shop), .string (ofL y.key), .slice Ay y.head.length cy, .string (ofL y.body), .int .u64 (y.due : Int), .int .u8 (y.hops : Int)] 32)).heap.size = w6.heap.size + 1 by simp)
                    clear ho b6 e0 e1 el
                    simp only [maV]
                    have hnn : (((j + 1 : Nat) : Int) != ((j : Int) + 1)) = false := by simp
                    go_upto_region 25 with fail
                    generalize w6.alloc (.cells #[.int .u64 (y.id : Int), .string (ofL y.shop), .string (ofL y.key), .slice Ay y.head.length cy, .string (ofL y.body), .int .u64 (y.due : Int), .int .u8 (y.hops : Int)] 32) = w7 at *
                    obtain ⟨b6, hb6⟩ : ∃ b, w6.heap.size = b := ⟨_, rfl⟩
                    rw [hb6] at HZ7 HS6 HS7 HOR
                    try rw [hb6]
                    have HB6 := Lib.hid hb6
                    clear hb6
                    have z0 := HZ7.out.cs 0 _ rfl
                    have z1 := HZ7.out.cs 1 _ rfl
                    have z2 := HZ7.out.cs 2 _ rfl
                    have z3 := HZ7.out.cs 3 _ rfl
                    have z4 := HZ7.out.cs 4 _ rfl
                    have z5 := HZ7.out.cs 5 _ rfl
                    have z6 := HZ7.out.cs 6 _ rfl
                    have zl := HZ7.out.lt
                    have HV := Lib.hid (show RtIn w w3 w3.heap.size w3.heap.size (w3.heap.size + 1) [.int .u64 (G.length : Int), .slice A kp.length c] G G j A c kp gs ps2 (.slice Ag G.length cg) (.slice At2 j ct2) (w7.alloc (.cells #[.int .u64 (y.id : Int), .string (ofL y.shop), .string (ofL y.key), .slice Ay y.head.length cy, .string (ofL y.body), .int .u64 (y.due : Int), .int .u8 (y.hops : Int)] 32)) from HI7.out.on (alloc1B _ _))
                    have HNW := Lib.hid (show ∀ jj u, (mcs [(⟨y, Ay, cy⟩ : Mp)])[jj]? = some u → (w7.alloc (.cells #[.int .u64 (y.id : Int), .string (ofL y.shop), .string (ofL y.key), .slice Ay y.head.length cy, .string (ofL y.body), .int .u64 (y.due : Int), .int .u8 (y.hops : Int)] 32)).cell? ((⟨w7.heap.size, 0, none⟩ : Addr).add jj) = some u from fun jj u hu => by
                      rw [mcs_one1] at hu
                      rw [rws_add, Nat.zero_add]
                      exact (World.cell?_alloc_new w7 #[.int .u64 (y.id : Int), .string (ofL y.shop), .string (ofL y.key), .slice Ay y.head.length cy, .string (ofL y.body), .int .u64 (y.due : Int), .int .u8 (y.hops : Int)] 32 jj).trans (by simpa [mpL, maL] using hu))
                    have HPO := Lib.hid (show MaOk (w7.alloc (.cells #[.int .u64 (y.id : Int), .string (ofL y.shop), .string (ofL y.key), .slice Ay y.head.length cy, .string (ofL y.body), .int .u64 (y.due : Int), .int .u8 (y.hops : Int)] 32)) y Ay cy from by
                      obtain ⟨p, hp, hpx⟩ := HYK.out
                      have hok := (HI5.out.kM.m.hd p hp)
                      rw [hpx, HYE.out] at hok
                      exact ⟨hok.shop, hok.key, hok.body, hok.len, HOR.out.2.1, hok.lite, HO7.out.on (alloc1B _ _)⟩)
                    have HPA := Lib.hid (show ∀ a, Ay = some a → RtU w3.heap.size (.slice Ag G.length cg) (.slice At2 j ct2) (w7.alloc (.cells #[.int .u64 (y.id : Int), .string (ofL y.shop), .string (ofL y.key), .slice Ay y.head.length cy, .string (ofL y.body), .int .u64 (y.due : Int), .int .u8 (y.hops : Int)] 32)) a.block from fun a ha => by
                      have h1 := HOR.out.2.2 a ha
                      have h2 := HI5.out.box.lt
                      refine ⟨by omega, fun e => ?_, fun e => ?_, ?_⟩
                      · have := (HI5.out.gO.lt _ e).2; omega
                      · have := (HI5.out.tO.lt _ e).2; omega
                      · have := HS7.out; simp; omega)
                    have hbs : w3.heap.size + 1 ≤ (w7.alloc (.cells #[.int .u64 (y.id : Int), .string (ofL y.shop), .string (ofL y.key), .slice Ay y.head.length cy, .string (ofL y.body), .int .u64 (y.due : Int), .int .u8 (y.hops : Int)] 32)).heap.size := Nat.succ_le_of_lt HV.out.box.lt
                    go_wp2_with (at_builtin; refine wpList_append_lies _ rfl _ _ 22 rfl (w3.heap.size + 1) 32 iM _ 7 96 Tryd.underlying22 hiM hzM0 hzM1 hzM2 rfl (by decide) (.slice At2 j ct2) j (mcs ps2) (by rfl) HV.out.tO ⟨w7.heap.size, 0, none⟩ 1 1 (mcs [(⟨y, Ay, cy⟩ : Mp)]) (by rfl) (by rfl) HNW.out (mcs_one _) (by omega) (by unfold maxLen; omega) (by omega) hbs _ rfl ?_; intro gg cap w8 hown hgrow hat hlt8; have HI8 := Lib.hid (HV.out.got (p := ⟨y, Ay, cy⟩) HPO.out HPA.out hjT HYE.out.symm hgrow hown hat); clear hown hgrow hat hlt8 z0 z1 z2 z3 z4 z5 z6 zl hbs)
                    go_roundg (gk - 1)
                    case rel => exact ⟨i + 1, ps2 ++ [⟨y, Ay, cy⟩], by have := HII.out; omega, by rw [show t + (i + 1) = j + 1 by have := HJ.out; omega]; go_num, by go_num, by rw [show t + (i + 1) = j + 1 by have := HJ.out; omega]; exact HI8.out⟩
                    case measure => have := HII.out; omega
                  · have haf := HAF.out
                    unfold RsAftPost at haf
                    rw [HI5.out.kx, lastN_len, ← HKP.out, show decide (j < G.length) = false from decide_eq_false hjT, show Rs.aft G.length (lastN 16 G) j = Ml.zero by unfold Rs.aft; rw [if_pos (by omega)]] at haf
                    simp only [show ∀ A c, maV Ml.zero A c = .agg #[.int .u64 0, .string ⟨#[]⟩, .string ⟨#[]⟩, .slice A 0 c, .string ⟨#[]⟩, .int .u64 0, .int .u8 0] from fun _ _ => rfl] at haf
                    have HAF2 := Lib.hid haf
                    clear haf HAF
                    have HJT := Lib.hid (show j = G.length by omega)
                    go_wp2_with fail
                    refine HAF2.out.mono ?_
                    rintro e w6 ⟨Ay, cy, rfl, ho, b6⟩
                    have HI6 := Lib.hid (HI5.out.on (bthen b6 (alloc1B w6 (.cells #[.int .u64 0, .string ⟨#[]⟩, .string ⟨#[]⟩, .slice Ay 0 cy, .string ⟨#[]⟩, .int .u64 0, .int .u8 0] 32)) (Nat.le_refl _)))
                    clear ho b6 e0 e1 el HAF2
                    have HJG := Lib.hid (show j = G.length from by have := HJT.out; have := HJ.out; omega)
                    go_wp2_with fail
                    go_roundg (gO - 1)
                    case rel => exact ⟨k + 1, j, A, c, kp, gs, ps2, by have := HK.out; omega, rfl, by go_num, by rw [show rsG l (k + 1) = G by rw [HKE.out, rsG_end, ← HKE.out]; exact HG.out]; exact HI6.out, fun _ => by rw [show rsG l (k + 1) = G by rw [HKE.out, rsG_end, ← HKE.out]; exact HG.out]; exact HJG.out⟩
                    case measure => have := HK.out; omega
                · have HJT := Lib.hid (show i = 16 by have := HII.out; omega)
                  have HI6 := HI5
                  have HJG := Lib.hid (show j = G.length from by have := HJT.out; have := HJ.out; omega)
                  go_wp2_with fail
                  go_roundg (gO - 1)
                  case rel => exact ⟨k + 1, j, A, c, kp, gs, ps2, by have := HK.out; omega, rfl, by go_num, by rw [show rsG l (k + 1) = G by rw [HKE.out, rsG_end, ← HKE.out]; exact HG.out]; exact HI6.out, fun _ => by rw [show rsG l (k + 1) = G by rw [HKE.out, rsG_end, ← HKE.out]; exact HG.out]; exact HJG.out⟩
                  case measure => have := HK.out; omega
          · have hq3 : decide ((k : Int) < (ak.length : Int)) = false := decide_eq_false (by omega)
            have hq4 : decide (k < ak.length) = false := decide_eq_false hka
            go_wp2_with fail
            refine (HTO.out _).mono ?_
            rintro e w4 ⟨rfl, b4⟩
            have HI4 := Lib.hid (HI.out.on b4)
            clear b4 e0 e1 el
            have e0 := HI4.out.box.cs 0 _ rfl
            have e1 := HI4.out.box.cs 1 _ rfl
            have el := HI4.out.box.lt
            have hsub : IntKind.u64.wrap ((G.length : Int) - (t : Int)) = ((G.length - t : Nat) : Int) := by rw [IntKind.wrap_u64]; omega
            by_cases h16 : 16 < G.length - t
            · have hd16 : decide ((G.length : Int) - (t : Int) > 16) = true := decide_eq_true (by omega)
              clear hsub
              go_wp2_with fail
              go_ret
              exact ⟨rfl, HI4.out.gr⟩
            · have hd16 : decide ((G.length : Int) - (t : Int) > 16) = false := decide_eq_false (by omega)
              have hh16 : G.length - t ≤ 16 := by omega
              clear hsub h16
              go_wp2_with fail
              go_loopg [7, 8, 58] 16 (fun g vt vl vi wr => RiSt w w3 G A c kp gs (.slice Ag G.length cg) 16 t g vt vl vi wr)
              case atStart => exact ⟨0, ps, by omega, rfl, rfl, HI4.out⟩
              case round =>
                obtain ⟨i, ps2, hi, rfl, rfl, hI2⟩ := hrel
                have HII := Lib.hid hi
                have HI5 := Lib.hid hI2
                clear hi hI2 e0 e1 el
                obtain ⟨At2, ct2, hvt2, -⟩ := HI5.out.ps
                subst hvt2
                have htl2 := HI5.out.le
                obtain ⟨j, hj⟩ : ∃ j, t + i = j := ⟨_, rfl⟩
                rw [hj] at HI5 htl2
                have hjt : t ≤ j := by omega
                have HJ := Lib.hid hj
                have e0 := HI5.out.box.cs 0 _ rfl
                have e1 := HI5.out.box.cs 1 _ rfl
                have el := HI5.out.box.lt
                rw [hj]
                clear hj
                by_cases him : i < 16
                · have HAF := Lib.hid (rsAfter_any G.length c A kp j wr (by omega) hkp2 hkp3 (by omega) (by omega) HI5.out.kM.m)
                  by_cases hjT : j < G.length
                  · obtain ⟨ha1, ha2⟩ := rt_aft hjT (by omega)
                    have haf := HAF.out
                    unfold RsAftPost at haf
                    rw [HI5.out.kx, lastN_len, ← HKP.out] at haf
                    rw [lastN_len, ← HKP.out] at ha1
                    rw [ha1, ha2, decide_eq_true hjT] at haf
                    have HAF2 := Lib.hid haf
                    clear haf HAF ha1 ha2
                    obtain ⟨y, hy⟩ : ∃ y, G.getD j Ml.zero = y := ⟨_, rfl⟩
                    rw [hy] at HAF2
                    have HYE := Lib.hid hy
                    clear hy
                    have HYK := Lib.hid (rt_kept HI5.out.kx hjT (by omega))
                    go_wp2_with fail
                    refine HAF2.out.mono ?_
                    rintro e w6 ⟨Ay, cy, rfl, ho, b6⟩
                    have HT7 := Lib.hid (alloc1B w6 (.cells #[.int .u64 (y.id : Int), .string (ofL y.shop), .string (ofL y.key), .slice Ay y.head.length cy, .string (ofL y.body), .int .u64 (y.due : Int), .int .u8 (y.hops : Int)] 32))
                    have HZ7 := Lib.hid (BoxC.new (w := w6) (W := w6) (Nat.le_refl _) #[.int .u64 (y.id : Int), .string (ofL y.shop), .string (ofL y.key), .slice Ay y.head.length cy, .string (ofL y.body), .int .u64 (y.due : Int), .int .u8 (y.hops : Int)] 32)
                    have HI7 := Lib.hid (HI5.out.on (bthen b6 HT7.out (Nat.le_refl _)))
                    have HOR := Lib.hid ho.row
                    have HO7 := Lib.hid ((ho.row.1).on HT7.out)
                    have HS6 := Lib.hid b6.size
                    have HS7 := Lib.hid (show (w6.alloc (.cells #[.int .u64 (y.id : Int), .string (ofL y.shop), .string (ofL y.key), .slice Ay y.head.length cy, .string (ofL y.body), .int .u64 (y.due : Int), .int .u8 (y.hops : Int)] 32)).heap.size = w6.heap.size + 1 by simp)
                    clear ho b6 e0 e1 el
                    simp only [maV]
                    have hnn : (((j + 1 : Nat) : Int) != ((j : Int) + 1)) = false := by simp
                    go_upto_region 25 with fail
                    generalize w6.alloc (.cells #[.int .u64 (y.id : Int), .string (ofL y.shop), .string (ofL y.key), .slice Ay y.head.length cy, .string (ofL y.body), .int .u64 (y.due : Int), .int .u8 (y.hops : Int)] 32) = w7 at *
                    obtain ⟨b6, hb6⟩ : ∃ b, w6.heap.size = b := ⟨_, rfl⟩
                    rw [hb6] at HZ7 HS6 HS7 HOR
                    try rw [hb6]
                    have HB6 := Lib.hid hb6
                    clear hb6
                    have z0 := HZ7.out.cs 0 _ rfl
                    have z1 := HZ7.out.cs 1 _ rfl
                    have z2 := HZ7.out.cs 2 _ rfl
                    have z3 := HZ7.out.cs 3 _ rfl
                    have z4 := HZ7.out.cs 4 _ rfl
                    have z5 := HZ7.out.cs 5 _ rfl
                    have z6 := HZ7.out.cs 6 _ rfl
                    have zl := HZ7.out.lt
                    have HV := Lib.hid (show RtIn w w3 w3.heap.size w3.heap.size (w3.heap.size + 1) [.int .u64 (G.length : Int), .slice A kp.length c] G G j A c kp gs ps2 (.slice Ag G.length cg) (.slice At2 j ct2) (w7.alloc (.cells #[.int .u64 (y.id : Int), .string (ofL y.shop), .string (ofL y.key), .slice Ay y.head.length cy, .string (ofL y.body), .int .u64 (y.due : Int), .int .u8 (y.hops : Int)] 32)) from HI7.out.on (alloc1B _ _))
                    have HNW := Lib.hid (show ∀ jj u, (mcs [(⟨y, Ay, cy⟩ : Mp)])[jj]? = some u → (w7.alloc (.cells #[.int .u64 (y.id : Int), .string (ofL y.shop), .string (ofL y.key), .slice Ay y.head.length cy, .string (ofL y.body), .int .u64 (y.due : Int), .int .u8 (y.hops : Int)] 32)).cell? ((⟨w7.heap.size, 0, none⟩ : Addr).add jj) = some u from fun jj u hu => by
                      rw [mcs_one1] at hu
                      rw [rws_add, Nat.zero_add]
                      exact (World.cell?_alloc_new w7 #[.int .u64 (y.id : Int), .string (ofL y.shop), .string (ofL y.key), .slice Ay y.head.length cy, .string (ofL y.body), .int .u64 (y.due : Int), .int .u8 (y.hops : Int)] 32 jj).trans (by simpa [mpL, maL] using hu))
                    have HPO := Lib.hid (show MaOk (w7.alloc (.cells #[.int .u64 (y.id : Int), .string (ofL y.shop), .string (ofL y.key), .slice Ay y.head.length cy, .string (ofL y.body), .int .u64 (y.due : Int), .int .u8 (y.hops : Int)] 32)) y Ay cy from by
                      obtain ⟨p, hp, hpx⟩ := HYK.out
                      have hok := (HI5.out.kM.m.hd p hp)
                      rw [hpx, HYE.out] at hok
                      exact ⟨hok.shop, hok.key, hok.body, hok.len, HOR.out.2.1, hok.lite, HO7.out.on (alloc1B _ _)⟩)
                    have HPA := Lib.hid (show ∀ a, Ay = some a → RtU w3.heap.size (.slice Ag G.length cg) (.slice At2 j ct2) (w7.alloc (.cells #[.int .u64 (y.id : Int), .string (ofL y.shop), .string (ofL y.key), .slice Ay y.head.length cy, .string (ofL y.body), .int .u64 (y.due : Int), .int .u8 (y.hops : Int)] 32)) a.block from fun a ha => by
                      have h1 := HOR.out.2.2 a ha
                      have h2 := HI5.out.box.lt
                      refine ⟨by omega, fun e => ?_, fun e => ?_, ?_⟩
                      · have := (HI5.out.gO.lt _ e).2; omega
                      · have := (HI5.out.tO.lt _ e).2; omega
                      · have := HS7.out; simp; omega)
                    have hbs : w3.heap.size + 1 ≤ (w7.alloc (.cells #[.int .u64 (y.id : Int), .string (ofL y.shop), .string (ofL y.key), .slice Ay y.head.length cy, .string (ofL y.body), .int .u64 (y.due : Int), .int .u8 (y.hops : Int)] 32)).heap.size := Nat.succ_le_of_lt HV.out.box.lt
                    go_wp2_with (at_builtin; refine wpList_append_lies _ rfl _ _ 22 rfl (w3.heap.size + 1) 32 iM _ 7 96 Tryd.underlying22 hiM hzM0 hzM1 hzM2 rfl (by decide) (.slice At2 j ct2) j (mcs ps2) (by rfl) HV.out.tO ⟨w7.heap.size, 0, none⟩ 1 1 (mcs [(⟨y, Ay, cy⟩ : Mp)]) (by rfl) (by rfl) HNW.out (mcs_one _) (by omega) (by unfold maxLen; omega) (by omega) hbs _ rfl ?_; intro gg cap w8 hown hgrow hat hlt8; have HI8 := Lib.hid (HV.out.got (p := ⟨y, Ay, cy⟩) HPO.out HPA.out hjT HYE.out.symm hgrow hown hat); clear hown hgrow hat hlt8 z0 z1 z2 z3 z4 z5 z6 zl hbs)
                    go_roundg (gk - 1)
                    case rel => exact ⟨i + 1, ps2 ++ [⟨y, Ay, cy⟩], by have := HII.out; omega, by rw [show t + (i + 1) = j + 1 by have := HJ.out; omega]; go_num, by go_num, by rw [show t + (i + 1) = j + 1 by have := HJ.out; omega]; exact HI8.out⟩
                    case measure => have := HII.out; omega
                  · have haf := HAF.out
                    unfold RsAftPost at haf
                    rw [HI5.out.kx, lastN_len, ← HKP.out, show decide (j < G.length) = false from decide_eq_false hjT, show Rs.aft G.length (lastN 16 G) j = Ml.zero by unfold Rs.aft; rw [if_pos (by omega)]] at haf
                    simp only [show ∀ A c, maV Ml.zero A c = .agg #[.int .u64 0, .string ⟨#[]⟩, .string ⟨#[]⟩, .slice A 0 c, .string ⟨#[]⟩, .int .u64 0, .int .u8 0] from fun _ _ => rfl] at haf
                    have HAF2 := Lib.hid haf
                    clear haf HAF
                    have HJT := Lib.hid (show j = G.length by omega)
                    go_wp2_with fail
                    refine HAF2.out.mono ?_
                    rintro e w6 ⟨Ay, cy, rfl, ho, b6⟩
                    have HI6 := Lib.hid (HI5.out.on (bthen b6 (alloc1B w6 (.cells #[.int .u64 0, .string ⟨#[]⟩, .string ⟨#[]⟩, .slice Ay 0 cy, .string ⟨#[]⟩, .int .u64 0, .int .u8 0] 32)) (Nat.le_refl _)))
                    clear ho b6 e0 e1 el HAF2
                    have HJG := Lib.hid (show j = G.length from by have := HJT.out; have := HJ.out; omega)
                    go_wp2_with fail
                    go_roundg (gO - 1)
                    case rel => exact ⟨k + 1, j, A, c, kp, gs, ps2, by have := HK.out; omega, rfl, by go_num, by rw [show rsG l (k + 1) = G by rw [HKE.out, rsG_end, ← HKE.out]; exact HG.out]; exact HI6.out, fun _ => by rw [show rsG l (k + 1) = G by rw [HKE.out, rsG_end, ← HKE.out]; exact HG.out]; exact HJG.out⟩
                    case measure => have := HK.out; omega
                · have HJT := Lib.hid (show i = 16 by have := HII.out; omega)
                  have HI6 := HI5
                  have HJG := Lib.hid (show j = G.length from by have := HJT.out; have := HJ.out; omega)
                  go_wp2_with fail
                  go_roundg (gO - 1)
                  case rel => exact ⟨k + 1, j, A, c, kp, gs, ps2, by have := HK.out; omega, rfl, by go_num, by rw [show rsG l (k + 1) = G by rw [HKE.out, rsG_end, ← HKE.out]; exact HG.out]; exact HI6.out, fun _ => by rw [show rsG l (k + 1) = G by rw [HKE.out, rsG_end, ← HKE.out]; exact HG.out]; exact HJG.out⟩
                  case measure => have := HK.out; omega
      · have hkE : k = l.length + 1 := by have := HK.out; omega
        obtain ⟨Ag, cg, hvg, hmg⟩ := HI.out.gs
        obtain ⟨At, ct, hvt, hmt⟩ := HI.out.ps
        subst hvg
        subst hvt
        have hte := HEND.out (by omega)
        have hGk := rsG_le l k
        have hgx := HI.out.gx
        have htx := HI.out.tx
        obtain ⟨G, hG⟩ : ∃ G, rsG l k = G := ⟨_, rfl⟩
        have HIB := Lib.hid HI.out.box
        have HIR := Lib.hid HI.out.gr
        rw [hG] at HIB hGk hte hgx htx ⊢
        subst hte
        rw [List.take_length] at htx
        have HGX := Lib.hid hgx
        have HTX := Lib.hid htx
        have hgl : gs.length = G.length := by rw [← hgx, List.length_map]
        have hpl : ps.length = G.length := by rw [← htx, List.length_map]
        have HGL := Lib.hid hgl
        have HPL := Lib.hid hpl
        have HKE := Lib.hid hkE
        have HMG := Lib.hid hmg
        have HMT := Lib.hid hmt
        clear hgx htx hgl hpl hmg hmt hG HI hkE hlt
        have hlt' : decide ((k : Int) ≤ (l.length : Int)) = false := decide_eq_false (by have := HKE.out; omega)
        have hlt2 : decide (k ≤ l.length) = false := decide_eq_false (by have := HKE.out; omega)
        have HTO := Lib.hid (fun W => rsTotal_any G.length kp.length c A W)
        have e0 := HIB.out.cs 0 _ rfl
        have e1 := HIB.out.cs 1 _ rfl
        have el := HIB.out.lt
        have hG160 : G.length ≤ 160 := by have := HKE.out; omega
        have hlt3 : ¬ k ≤ l.length := by have := HKE.out; omega
        go_wp2_with fail
        refine (HTO.out _).mono ?_
        rintro e w4 ⟨rfl, b4⟩
        have HMG4 := Lib.hid (HMG.out.on b4)
        have HMT4 := Lib.hid (HMT.out.on b4)
        have HB4 := Lib.hid (bthen HIR.out b4 (Nat.le_refl _))
        clear b4 e0 e1 el
        go_wp2_with fail
        go_loopg [117] G.length (fun g v wr => RxSt w4 G.length g v wr)
        case atStart => exact ⟨0, by omega, rfl, Below.refl _ _⟩
        case round =>
          obtain ⟨i, hi, rfl, hBi⟩ := hrel
          have HII := Lib.hid hi
          have HBI := Lib.hid hBi
          clear hi hBi
          by_cases hiT : i < G.length
          · obtain ⟨b1, o1, hA1e, hb1, hc1⟩ := (HMT4.out.on HBI.out).get (i := i) (by have := HPL.out; omega)
            obtain ⟨b2, o2, hA2e, hb2, hc2⟩ := (HMG4.out.on HBI.out).get (i := i) (by have := HGL.out; omega)
            have hok1 := (HMT4.out.on HBI.out).ok (i := i) (by have := HPL.out; omega)
            have hok2 := (HMG4.out.on HBI.out).ok (i := i) (by have := HGL.out; omega)
            have hxx : (ps.getD i Mp.zero).x = (gs.getD i Mp.zero).x := by rw [mp_getD, mp_getD, HTX.out, HGX.out]
            generalize ps.getD i Mp.zero = p1 at *
            generalize gs.getD i Mp.zero = p2 at *
            obtain ⟨y, A3, c3⟩ := p1
            obtain ⟨y2, A4, c4⟩ := p2
            dsimp only at hok1 hok2 hxx
            subst hxx
            subst hA1e
            subst hA2e
            have q0 := hc1 0 _ rfl
            have q1 := hc1 1 _ rfl
            have q2 := hc1 2 _ rfl
            have q3 := hc1 3 _ rfl
            have q4 := hc1 4 _ rfl
            have q5 := hc1 5 _ rfl
            have q6 := hc1 6 _ rfl
            have z0 := hc2 0 _ rfl
            have z1 := hc2 1 _ rfl
            have z2 := hc2 2 _ rfl
            have z3 := hc2 3 _ rfl
            have z4 := hc2 4 _ rfl
            have z5 := hc2 5 _ rfl
            have z6 := hc2 6 _ rfl
            rw [Nat.add_zero] at q0 z0
            dsimp only at q0 q1 q2 q3 q4 q5 q6 z0 z1 z2 z3 z4 z5 z6
            have HSA := Lib.hid (fun W (hb : Below wr.heap.size wr W) => r13Same_any y y A3 c3 A4 c4 W hok1.len hok1.len (hok1.row.on hb) (hok2.row.on hb))
            rw [maEq_self] at HSA
            simp only [maV] at HSA
            have hi1 : (0 : Int) ≤ (i : Int) := by omega
            have hi2 : (i : Int) < (G.length : Int) := by omega
            have hi3 : ((i : Int)).toNat = i := by omega
            clear hc1 hc2 hok1 hok2 hb1 hb2
            go_upto_region 37 with fail
            refine wp_region_held_drew (S := fun a => Below wr.heap.size wr a) (by kernel_rfl) (by (try dsimp only); exact (Below.refl _ _).drew) (fun hHeld => ?_)
            refine wpAnyH_take (i := 0) (oi := { dst := some 120, op := Go.Op.move (Go.Operand.tmp 7), type := 22, pos := "law.go:134", after := #[], guard := none }) (v := ?_) rfl (by kernel_rfl) (by kernel_rfl) (by kernel_rfl) (fun _ _ _ h => h) (Or.inl ⟨by rfl, ?_⟩) (by assumption) ?_
            rotate_left 1
            · intro w hSw; (try dsimp only at hSw); go_simp; try with_reducible rfl
            try simp only [Act.put, List.setIfInBounds_toArray, List.set_cons_zero, List.set_cons_succ]
            refine wpAnyH_take (i := 1) (oi := { dst := some 121, op := Go.Op.move (Go.Operand.tmp 16), type := 3, pos := "law.go:134", after := #[], guard := none }) (v := ?_) rfl (by kernel_rfl) (by kernel_rfl) (by kernel_rfl) (fun _ _ _ h => h) (Or.inl ⟨by rfl, ?_⟩) (by assumption) ?_
            rotate_left 1
            · intro w hSw; (try dsimp only at hSw); go_simp; try with_reducible rfl
            try simp only [Act.put, List.setIfInBounds_toArray, List.set_cons_zero, List.set_cons_succ]
            refine wpAnyH_take (i := 2) (oi := { dst := some 122, op := Go.Op.indexAddr 22 (Go.Operand.tmp 120) (Go.Operand.tmp 121), type := 0, pos := "law.go:134", after := #[{ on := 0, ground := Go.Ground.data }, { on := 1, ground := Go.Ground.data }], guard := none }) (v := ?_) rfl (by kernel_rfl) (by kernel_rfl) (by kernel_rfl) (fun _ _ _ h => h) (Or.inl ⟨by rfl, ?_⟩) (by assumption) ?_
            rotate_left 1
            · intro w hSw; (try dsimp only at hSw); go_simp; try with_reducible rfl
            try simp only [Act.put, List.setIfInBounds_toArray, List.set_cons_zero, List.set_cons_succ]
            refine wpAnyH_take (i := 3) (oi := { dst := some 123, op := Go.Op.load 32 (Go.Operand.tmp 122), type := 32, pos := "law.go:134", after := #[{ on := 2, ground := Go.Ground.data }], guard := none }) (v := ?_) rfl (by kernel_rfl) (by kernel_rfl) (by kernel_rfl) (fun _ _ _ h => h) (Or.inl ⟨by rfl, ?_⟩) (by assumption) ?_
            rotate_left 1
            · intro w hSw; (try dsimp only at hSw); have q0 := cell_on hSw q0; have q1 := cell_on hSw q1; have q2 := cell_on hSw q2; have q3 := cell_on hSw q3; have q4 := cell_on hSw q4; have q5 := cell_on hSw q5; have q6 := cell_on hSw q6; have z0 := cell_on hSw z0; have z1 := cell_on hSw z1; have z2 := cell_on hSw z2; have z3 := cell_on hSw z3; have z4 := cell_on hSw z4; have z5 := cell_on hSw z5; have z6 := cell_on hSw z6; go_simp; try with_reducible rfl
            try simp only [Act.put, List.setIfInBounds_toArray, List.set_cons_zero, List.set_cons_succ]
            refine wpAnyH_take (i := 4) (oi := { dst := some 124, op := Go.Op.move (Go.Operand.tmp 6), type := 22, pos := "law.go:134", after := #[], guard := none }) (v := ?_) rfl (by kernel_rfl) (by kernel_rfl) (by kernel_rfl) (fun _ _ _ h => h) (Or.inl ⟨by rfl, ?_⟩) (by assumption) ?_
            rotate_left 1
            · intro w hSw; (try dsimp only at hSw); go_simp; try with_reducible rfl
            try simp only [Act.put, List.setIfInBounds_toArray, List.set_cons_zero, List.set_cons_succ]
            refine wpAnyH_take (i := 5) (oi := { dst := some 125, op := Go.Op.move (Go.Operand.tmp 16), type := 3, pos := "law.go:134", after := #[], guard := none }) (v := ?_) rfl (by kernel_rfl) (by kernel_rfl) (by kernel_rfl) (fun _ _ _ h => h) (Or.inl ⟨by rfl, ?_⟩) (by assumption) ?_
            rotate_left 1
            · intro w hSw; (try dsimp only at hSw); go_simp; try with_reducible rfl
            try simp only [Act.put, List.setIfInBounds_toArray, List.set_cons_zero, List.set_cons_succ]
            refine wpAnyH_take (i := 6) (oi := { dst := some 126, op := Go.Op.indexAddr 22 (Go.Operand.tmp 124) (Go.Operand.tmp 125), type := 0, pos := "law.go:134", after := #[{ on := 4, ground := Go.Ground.data }, { on := 5, ground := Go.Ground.data }], guard := none }) (v := ?_) rfl (by kernel_rfl) (by kernel_rfl) (by kernel_rfl) (fun _ _ _ h => h) (Or.inl ⟨by rfl, ?_⟩) (by assumption) ?_
            rotate_left 1
            · intro w hSw; (try dsimp only at hSw); go_simp; try with_reducible rfl
            try simp only [Act.put, List.setIfInBounds_toArray, List.set_cons_zero, List.set_cons_succ]
            refine wpAnyH_take (i := 7) (oi := { dst := some 127, op := Go.Op.load 32 (Go.Operand.tmp 126), type := 32, pos := "law.go:134", after := #[{ on := 6, ground := Go.Ground.data }], guard := none }) (v := ?_) rfl (by kernel_rfl) (by kernel_rfl) (by kernel_rfl) (fun _ _ _ h => h) (Or.inl ⟨by rfl, ?_⟩) (by assumption) ?_
            rotate_left 1
            · intro w hSw; (try dsimp only at hSw); have q0 := cell_on hSw q0; have q1 := cell_on hSw q1; have q2 := cell_on hSw q2; have q3 := cell_on hSw q3; have q4 := cell_on hSw q4; have q5 := cell_on hSw q5; have q6 := cell_on hSw q6; have z0 := cell_on hSw z0; have z1 := cell_on hSw z1; have z2 := cell_on hSw z2; have z3 := cell_on hSw z3; have z4 := cell_on hSw z4; have z5 := cell_on hSw z5; have z6 := cell_on hSw z6; go_simp; try with_reducible rfl
            try simp only [Act.put, List.setIfInBounds_toArray, List.set_cons_zero, List.set_cons_succ]
            refine wpAnyH_ready (rs := [8]) (by kernel_rfl) (by simp) ?_
            refine AllReadyH.cons (o := { dst := some 128, op := Go.Op.call { callee := Go.Callee.value (Go.Operand.func 10), args := #[Go.Operand.tmp 123, Go.Operand.tmp 127], argTypes := #[32, 32] }, type := 4, pos := "law.go:134", after := #[{ on := 3, ground := Go.Ground.data }, { on := 7, ground := Go.Ground.data }], guard := none }) rfl (fun K hK => ?_) (AllReadyH.nil)
            go_simp
            go_at_call 10
            refine (HSA.out _ hHeld).mono ?_
            rintro e wx ⟨rfl, hb2⟩
            refine hK.out _ _ (bthen hHeld hb2 (Nat.le_refl _)) (fun hHeld2 => ?_)
            clear hK K hHeld hb2
            have hHeld := hHeld2
            clear hHeld2
            try simp only [Act.put, List.setIfInBounds_toArray, List.set_cons_zero, List.set_cons_succ]
            refine wpAnyH_take (i := 9) (oi := { dst := some 129, op := Go.Op.unOp Go.UnOp.not 4 (Go.Operand.tmp 128), type := 4, pos := "law.go:134", after := #[{ on := 8, ground := Go.Ground.data }], guard := none }) (v := ?_) rfl (by kernel_rfl) (by kernel_rfl) (by kernel_rfl) (fun _ _ _ h => h) (Or.inl ⟨by rfl, ?_⟩) (by assumption) ?_
            rotate_left 1
            · intro w hSw; (try dsimp only at hSw); go_simp; try with_reducible rfl
            try simp only [Act.put, List.setIfInBounds_toArray, List.set_cons_zero, List.set_cons_succ]
            refine wpAnyH_done (by kernel_rfl) ?_ _
            have hZ := hHeld
            clear hHeld
            have HB5 := Lib.hid (bthen HBI.out hZ (Nat.le_refl _))
            clear hZ q0 q1 q2 q3 q4 q5 q6 z0 z1 z2 z3 z4 z5 z6
            go_wp2_with fail
            go_roundg (gk - 1)
            case rel => exact ⟨i + 1, by have := HII.out; omega, by go_num, HB5.out⟩
            case measure => have := HII.out; omega
          · go_wp2_with fail
            go_ret
            exact ⟨rfl, bthen HB4.out HBI.out (Nat.le_refl _)⟩
  · have HB3 := Lib.hid (bthen HB1.out b3 (Nat.le_refl _))
    clear b3
    go_wp2_with fail
    go_ret
    exact ⟨rfl, HB3.out⟩
end Go.Proofs.YtfbajmiiecmelaaDoor
end
