/-
  THE LAW RiseNumbers, walked.
-/
import Derived.Test.YtfbajmiiecmelaaDoorRn46
import Derived.Deep.QuietTactic
import Derived.BigQuiet
section
namespace Go.Proofs.YtfbajmiiecmelaaDoor
open Go.ChangeShapes Go.WideShapes Go.ChangeAt Go.RowKit
set_option maxRecDepth 100000 in
set_option maxHeartbeats 8000000 in
theorem riseNumbers_walk (A0 : Option Addr) (c0 : Nat) (l : List Mp) (w : World) (hl : l.length ≤ 9223372036854775807) (hA : MaRow w A0 l) (hL : Len w) :
    Calls Tryd.prog 4 #[.slice A0 l.length c0] w fun e w' => e = .returned (.bool true) ∧ Below w.heap.size w w' := by
  have HA := Lib.hid hA
  have HL := Lib.hid hL
  have HLi := Lib.hid (fun W h => light20_any A0 c0 l W hl h)
  have HAW := Lib.hid (awake20_any w hL)
  clear hA hL
  go_enter Tryd.func4, Tryd.ntmps4
  go_wp2_with fail
  refine HAW.out.mono ?_
  rintro e w1 ⟨rfl, b1⟩
  have HB1 := Lib.hid b1
  have HA1 := Lib.hid (HA.out.on b1)
  clear b1
  go_wp2_with fail
  refine (HLi.out _ HA1.out).mono ?_
  rintro e w3 ⟨⟨rfl, hfew⟩ | rfl, b3⟩
  · have HB3 := Lib.hid (bthen HB1.out b3 (Nat.le_refl _))
    have hle1 := hfew.1
    have HFEW := Lib.hid hfew.2
    clear b3 hfew
    have HS := Lib.hid (RsBox.new w3 28)
    have HB4 := Lib.hid (HB3.out.alloc HB3.out.size (.cells #[.int .u64 0, .slice none 0 0] 28))
    have hge : w.heap.size ≤ w3.heap.size := HB3.out.size
    go_wp2_with fail
    go_loopg [22] l.length (fun g i wr => RnSt w w3 l g i wr)
    case atStart => exact ⟨0, by omega, rfl, HS.out, HB4.out⟩
    case round =>
      obtain ⟨k, hk, rfl, hbox, hB⟩ := hrel
      obtain ⟨A, c, ps, hps, hd, hc, hn, hN⟩ := hbox.at_
      have hpl : ps.length = (lastN 16 (rsG l k)).length := by rw [← hps, List.length_map]
      have HK := Lib.hid hk
      have HBe := Lib.hid hB
      have HBX := Lib.hid hbox
      have e0 := hd.cs 0 _ rfl
      have e1 := hd.cs 1 _ rfl
      have el := hd.lt
      have HN := Lib.hid hN
      have HCC := Lib.hid hc
      have HNN := Lib.hid hn
      by_cases hlt : k < l.length
      · obtain ⟨hin, b, off, hAe, hb, hcl⟩ := (HA.out.on hB).get hlt
        have hli := HFEW.out k hlt
        obtain ⟨hT, hKq, -⟩ := rs_add hlt (by omega)
        have hTl : (rsG l k).length ≤ 160 := Nat.le_trans (rsG_le l k) (by omega)
        generalize l.getD k Mp.zero = p at *
        obtain ⟨x, Ax, cx⟩ := p
        dsimp only at hin hli hT hKq
        have h0 : Below wr.heap.size wr (wr.alloc (.cells #[.int .u64 (x.id : Int), .string (ofL x.shop), .string (ofL x.key), .slice Ax x.head.length cx, .string (ofL x.body), .int .u64 (x.due : Int), .int .u8 (x.hops : Int)] 32)) := (Below.refl _ _).alloc (Nat.le_refl _) _
        have hB2 := bthen hB h0 (Nat.le_refl _)
        have HC := Lib.hid (rsPut_any _ (rsG l k).length c A ps x Ax cx _ (by rw [hpl]; exact lastN_le _ _) hc hn (by omega) ((ml_light_Ok hli hin.cap hin.row).on h0) (hN.on h0) (HL.out.on hB2))
        unfold RsPutPost at HC
        rw [hps, hT, hKq] at HC
        simp only [maV] at HC
        have HBX2 := Lib.hid (HBX.out.on h0)
        have HB2 := Lib.hid hB2
        subst hAe
        have q0 := hcl 0 _ rfl
        have q1 := hcl 1 _ rfl
        have q2 := hcl 2 _ rfl
        have q3 := hcl 3 _ rfl
        have q4 := hcl 4 _ rfl
        have q5 := hcl 5 _ rfl
        have q6 := hcl 6 _ rfl
        rw [Nat.add_zero] at q0
        dsimp only at q0 q1 q2 q3 q4 q5 q6
        generalize hcd : Rs.addC (rsG l k).length x = cd at *
        generalize hL1 : lastN 16 (rsG l (k + 1)) = L1 at *
        generalize hT1 : (rsG l (k + 1)).length = T1 at *
        have HL1 := Lib.hid hL1
        have HT1 := Lib.hid hT1
        clear hcl hin hli hT hKq hL1 hT1 hcd hk hbox hB hd hN hc hn hpl hps h0 hB2 HBX HNN HCC HN
        generalize (rsG l k).length = T0 at *
        go_wp2_with fail
        refine HC.out.mono ?_
        rintro e w5 ⟨A', c', ps', rfl, hm', hc', hn', hM', b5⟩
        have hbx1 := HBX2.out.on b5
        have HX := Lib.hid (HBX2.out.fill (T' := T1) b5 hm' hc' hn' hM')
        have HB6 := Lib.hid (((bthen HB2.out b5 (Nat.le_refl _)).setCell (p := ⟨w3.heap.size, 0, none⟩) hge (.int .u64 (T1 : Int))).setCell (p := ⟨w3.heap.size, 1, none⟩) hge (.slice A' ps'.length c'))
        obtain ⟨A2, c2, ps2, -, hd2, -, -, -⟩ := hbx1.at_
        have f0 := hd2.cs 0 _ rfl
        have f1 := hd2.cs 1 _ rfl
        have ff : ∀ j, w5.frozen? ⟨w3.heap.size, j, none⟩ = false := hd2.s
        have fl := hd2.lt
        clear e0 e1 el hc' hn' hm' hM' b5 hd2 hbx1
        go_wp2_with fail
        go_roundg (gk - 1)
        case rel => exact ⟨k + 1, by have := HK.out; omega, by go_num, by rw [HL1.out, HT1.out]; exact HX.out, HB6.out⟩
        case measure => have := HK.out; omega
      · have hkL : k = l.length := by have := HK.out; omega
        have hTl : (rsG l k).length ≤ 160 := Nat.le_trans (rsG_le l k) (by omega)
        have hKl := lastN_len 16 (rsG l k)
        rw [← hpl] at hKl
        have HALL := Lib.hid (fun W h => rsAll_any (rsG l k).length c A ps W (by omega) h)
        have HTO := Lib.hid (fun W => rsTotal_any (rsG l k).length ps.length c A W)
        have HGET := Lib.hid (fun j W hj h => rsAfter_any (rsG l k).length c A ps j W (by omega) (by omega) (by omega) (by omega) hj h)
        obtain ⟨K, hK⟩ : ∃ K, lastN 16 (rsG l k) = K := ⟨_, rfl⟩
        obtain ⟨T, hT⟩ : ∃ T, (rsG l k).length = T := ⟨_, rfl⟩
        rw [hK] at hps
        rw [hT] at HALL HTO HGET hKl e0 hTl hd
        rw [hps] at HALL
        have HD := Lib.hid hd
        clear hk hbox hB hd hN hc hn hpl HBX HNN HCC hT hK
        unfold RsAllPost at HALL
        unfold RsAftPost at HGET
        rw [hps] at HGET
        have hKn : K.length = ps.length := by rw [← hps, List.length_map]
        rw [hKn] at HALL HGET
        obtain ⟨n, hn⟩ : ∃ n, ps.length = n := ⟨_, rfl⟩
        rw [hn] at HALL HTO HGET hKl e1 HD hKn
        have hn1 : n ≤ 16 := by omega
        have hn2 : n ≤ T := by omega
        have hn3 : 0 < T → 0 < n := by omega
        have HN3 := Lib.hid hn3
        have HKN := Lib.hid hKn
        have HPN := Lib.hid hn
        clear hKl hKn hn hn3 hkL
        go_wp2_with fail
        refine (HALL.out _ HN.out.m).mono ?_
        rintro e w5 ⟨A5, c5, p5, rfl, hp5, -, -, hM5, b5⟩
        have HD5 := Lib.hid (HD.out.on b5)
        have HN5 := Lib.hid (HN.out.m.on b5)
        have HM5 := Lib.hid hM5.m
        have HP5 := Lib.hid hp5
        have HB5 := Lib.hid (bthen HBe.out b5 (Nat.le_refl _))
        clear e0 e1 el b5 hM5 hp5
        have e0 := HD5.out.cs 0 _ rfl
        have e1 := HD5.out.cs 1 _ rfl
        have el := HD5.out.lt
        go_wp2_with fail
        refine (HTO.out _).mono ?_
        rintro e w6 ⟨rfl, b6⟩
        have HD6 := Lib.hid (HD5.out.on b6)
        have HN6 := Lib.hid (HN5.out.on b6)
        have HM6 := Lib.hid (HM5.out.on b6)
        have HB6 := Lib.hid (bthen HB5.out b6 (Nat.le_refl _))
        clear e0 e1 el b6
        have hd6 := HD6.out
        have e0 := hd6.cs 0 _ rfl
        have e1 := hd6.cs 1 _ rfl
        have el := hd6.lt
        clear hd6
        have hwf : IntKind.u64.wrap ((T : Int) - (n : Int)) = ((T - n : Nat) : Int) := by rw [IntKind.wrap_u64]; omega
        have hwn : IntKind.u64.wrap (n : Int) = (n : Int) := by rw [IntKind.wrap_u64]; omega
        have hTn : (T : Int) - (n : Int) = ((T - n : Nat) : Int) := by omega
        obtain ⟨F, hF⟩ : ∃ F, T - n = F := ⟨_, rfl⟩
        rw [hF] at hwf hTn
        have HTN := Lib.hid hTn
        clear hTn
        have HF := Lib.hid hF
        clear hF
        go_wp2_with fail
        go_loopg [8] T (fun g v wr => RmSt w6 T g v wr)
        case atStart => exact ⟨0, by omega, rfl, Below.refl _ _⟩
        case round =>
          obtain ⟨j, hj, rfl, hBj⟩ := hrel
          have HJ := Lib.hid hj
          have HBJ := Lib.hid hBj
          have hd := HD6.out.on hBj
          have e0 := hd.cs 0 _ rfl
          have e1 := hd.cs 1 _ rfl
          have el := hd.lt
          clear hj hBj hd
          go_wp2_with fail
          refine (HTO.out _).mono ?_
          rintro e w7 ⟨rfl, b7⟩
          have HD7 := Lib.hid ((HD6.out.on HBJ.out).on b7)
          have HN7 := Lib.hid ((HN6.out.on HBJ.out).on b7)
          have HM7 := Lib.hid ((HM6.out.on HBJ.out).on b7)
          have HB7 := Lib.hid (bthen HBJ.out b7 (Nat.le_refl _))
          clear e0 e1 el b7
          have e0 := HD7.out.cs 0 _ rfl
          have e1 := HD7.out.cs 1 _ rfl
          have el := HD7.out.lt
          by_cases hjT : j < T
          · skip
            have HG := Lib.hid (fun W h => HGET.out j W (by omega) h)
            have hai := Rs.aftI_lt (T := T) (n := n) (k := j) hjT (by omega) (HN3.out (by omega))
            have haN : Rs.aftN T n j = max j F + 1 := by have := HF.out; unfold Rs.aftN; rw [if_neg (by omega)]; omega
            have haI : Rs.aftI T n j = max j F - F := by have := HF.out; unfold Rs.aftI; omega
            have haY : Rs.aft T K j = (p5.getD (Rs.aftI T n j) Mp.zero).x := by unfold Rs.aft; rw [if_neg (by omega), HKN.out, mp_getD, HP5.out]
            have hG2 := HG.out
            rw [decide_eq_true hjT, haN, haY, haI] at hG2
            rw [haI] at hai haY
            have HG3 := Lib.hid hG2
            clear hG2 HG haN haY haI
            obtain ⟨i, hi⟩ : ∃ i, max j F - F = i := ⟨_, rfl⟩
            rw [hi] at HG3 hai
            have hp5l : p5.length = n := by rw [← HKN.out, ← HP5.out, List.length_map]
            obtain ⟨b5, o5, hA5, hb5, hc5⟩ := HM7.out.get (i := i) (by omega)
            have hok5 := HM7.out.ok (i := i) (by omega)
            have HI := Lib.hid hi
            clear hi
            generalize p5.getD i Mp.zero = p at *
            obtain ⟨y, Ap, cp⟩ := p
            dsimp only at hok5
            have q0 := hc5 0 _ rfl
            have q1 := hc5 1 _ rfl
            have q2 := hc5 2 _ rfl
            have q3 := hc5 3 _ rfl
            have q4 := hc5 4 _ rfl
            have q5 := hc5 5 _ rfl
            have q6 := hc5 6 _ rfl
            rw [Nat.add_zero] at q0
            dsimp only at q0 q1 q2 q3 q4 q5 q6
            clear hc5
            have HOK := Lib.hid hok5
            clear hok5
            subst hA5
            have HQ := Lib.hid (And.intro q0 (And.intro q1 (And.intro q2 (And.intro q3 (And.intro q4 (And.intro q5 q6))))))
            have HHB := Lib.hid hb5
            clear q0 q1 q2 q3 q4 q5 q6 hb5
            go_wp2_with fail
            refine (HG3.out _ HN7.out).mono ?_
            rintro e w8 ⟨Ay, cy, rfl, ho, b8⟩
            have HT8 := Lib.hid (alloc1B w8 (.cells #[.int .u64 (y.id : Int), .string (ofL y.shop), .string (ofL y.key), .slice Ay y.head.length cy, .string (ofL y.body), .int .u64 (y.due : Int), .int .u8 (y.hops : Int)] 32))
            have HN8 := Lib.hid (BoxC.new (w := w8) (W := w8) (Nat.le_refl _) #[.int .u64 (y.id : Int), .string (ofL y.shop), .string (ofL y.key), .slice Ay y.head.length cy, .string (ofL y.body), .int .u64 (y.due : Int), .int .u8 (y.hops : Int)] 32)
            have HB8 := Lib.hid (bthen b8 HT8.out (Nat.le_refl _))
            have HO8 := Lib.hid ((ho.row.1).on HT8.out)
            have HS8 := Lib.hid (show w8.heap.size < (w8.alloc (.cells #[.int .u64 (y.id : Int), .string (ofL y.shop), .string (ofL y.key), .slice Ay y.head.length cy, .string (ofL y.body), .int .u64 (y.due : Int), .int .u8 (y.hops : Int)] 32)).heap.size by simp)
            clear ho b8 e0 e1 el
            simp only [maV]
            go_upto_region 17 with fail
            generalize w8.alloc (.cells #[.int .u64 (y.id : Int), .string (ofL y.shop), .string (ofL y.key), .slice Ay y.head.length cy, .string (ofL y.body), .int .u64 (y.due : Int), .int .u8 (y.hops : Int)] 32) = w9 at *
            generalize w8.heap.size = b9 at *
            have z0 := HN8.out.cs 0 _ rfl
            have z1 := HN8.out.cs 1 _ rfl
            have z2 := HN8.out.cs 2 _ rfl
            have z3 := HN8.out.cs 3 _ rfl
            have z4 := HN8.out.cs 4 _ rfl
            have z5 := HN8.out.cs 5 _ rfl
            have z6 := HN8.out.cs 6 _ rfl
            have q0 := cell_on HB8.out HQ.out.1
            have q1 := cell_on HB8.out HQ.out.2.1
            have q2 := cell_on HB8.out HQ.out.2.2.1
            have q3 := cell_on HB8.out HQ.out.2.2.2.1
            have q4 := cell_on HB8.out HQ.out.2.2.2.2.1
            have q5 := cell_on HB8.out HQ.out.2.2.2.2.2.1
            have q6 := cell_on HB8.out HQ.out.2.2.2.2.2.2
            have HOY := Lib.hid (HOK.out.on HB8.out)
            have HSA := Lib.hid (fun W (hb : Below w9.heap.size w9 W) => r13Same_any y y Ay cy Ap cp W HOK.out.len HOK.out.len (HO8.out.on hb) (HOY.out.row.on hb))
            rw [maEq_self] at HSA
            simp only [maV] at HSA
            obtain ⟨M, hM⟩ : ∃ M, max j F = M := ⟨_, rfl⟩
            have hM1 : max (j : Int) (F : Int) = (M : Int) := by omega
            have hM2 : IntKind.u64.wrap ((M : Int) + 1) = (M : Int) + 1 := by rw [IntKind.wrap_u64]; have := HF.out; omega
            have hM3 : IntKind.u64.wrap ((M : Int) + 1 - (F : Int)) = (i : Int) + 1 := by have := HI.out; have := HF.out; clear hM2; rw [IntKind.wrap_u64]; omega
            have hM4 : IntKind.u64.wrap ((i : Int) + 1 - 1) = (i : Int) := by clear hM2 hM3; rw [IntKind.wrap_u64]; omega
            have hM5 : IntKind.u64.wrap (i : Int) = (i : Int) := by clear hM2 hM3 hM4; rw [IntKind.wrap_u64]; omega
            have hi1 : (0 : Int) ≤ (i : Int) := by omega
            have hi2 : (i : Int) < (n : Int) := by omega
            have hi3 : ((i : Int)).toNat = i := by omega
            rw [hM]
            clear hM
            have hM6 : (((M : Int) + 1) != ((M : Int) + 1)) = false := by simp
            refine wp_region_held_drew (S := fun a => Below w9.heap.size w9 a) (by kernel_rfl) (by (try dsimp only); exact (Below.refl _ _).drew) (fun hHeld => ?_)
            refine wpAnyH_take (i := 0) (oi := { dst := some 54, op := Go.Op.move (Go.Operand.tmp 11), type := 4, pos := "law.go:157", after := #[], guard := none }) (v := ?_) rfl (by kernel_rfl) (by kernel_rfl) (by kernel_rfl) (fun _ _ _ h => h) (Or.inl ⟨by rfl, ?_⟩) (by assumption) ?_
            rotate_left 1
            · intro w hSw; (try dsimp only at hSw); go_simp; try with_reducible rfl
            try simp only [Act.put, List.setIfInBounds_toArray, List.set_cons_zero, List.set_cons_succ]
            refine wpAnyH_take (i := 1) (oi := { dst := some 55, op := Go.Op.unOp Go.UnOp.not 4 (Go.Operand.tmp 54), type := 4, pos := "law.go:157", after := #[{ on := 0, ground := Go.Ground.data }], guard := none }) (v := ?_) rfl (by kernel_rfl) (by kernel_rfl) (by kernel_rfl) (fun _ _ _ h => h) (Or.inl ⟨by rfl, ?_⟩) (by assumption) ?_
            rotate_left 1
            · intro w hSw; (try dsimp only at hSw); go_simp; try with_reducible rfl
            try simp only [Act.put, List.setIfInBounds_toArray, List.set_cons_zero, List.set_cons_succ]
            refine wpAnyH_take (i := 2) (oi := { dst := some 56, op := Go.Op.move (Go.Operand.tmp 55), type := 4, pos := "law.go:157", after := #[{ on := 1, ground := Go.Ground.data }], guard := none }) (v := ?_) rfl (by kernel_rfl) (by kernel_rfl) (by kernel_rfl) (fun _ _ _ h => h) (Or.inl ⟨by rfl, ?_⟩) (by assumption) ?_
            rotate_left 1
            · intro w hSw; (try dsimp only at hSw); go_simp; try with_reducible rfl
            try simp only [Act.put, List.setIfInBounds_toArray, List.set_cons_zero, List.set_cons_succ]
            refine wpAnyH_take (i := 3) (oi := { dst := some 57, op := Go.Op.move (Go.Operand.tmp 9), type := 26, pos := "law.go:157", after := #[{ on := 2, ground := Go.Ground.guard }], guard := some (2, false) }) (v := ?_) rfl (by kernel_rfl) (by kernel_rfl) (by kernel_rfl) (fun _ _ _ h => h) (Or.inl ⟨by rfl, ?_⟩) (by assumption) ?_
            rotate_left 1
            · intro w hSw; (try dsimp only at hSw); go_simp; try with_reducible rfl
            try simp only [Act.put, List.setIfInBounds_toArray, List.set_cons_zero, List.set_cons_succ]
            refine wpAnyH_take (i := 4) (oi := { dst := some 58, op := Go.Op.move (Go.Operand.tmp 8), type := 26, pos := "law.go:157", after := #[{ on := 2, ground := Go.Ground.guard }], guard := some (2, false) }) (v := ?_) rfl (by kernel_rfl) (by kernel_rfl) (by kernel_rfl) (fun _ _ _ h => h) (Or.inl ⟨by rfl, ?_⟩) (by assumption) ?_
            rotate_left 1
            · intro w hSw; (try dsimp only at hSw); go_simp; try with_reducible rfl
            try simp only [Act.put, List.setIfInBounds_toArray, List.set_cons_zero, List.set_cons_succ]
            refine wpAnyH_take (i := 5) (oi := { dst := some 59, op := Go.Op.move (Go.Operand.tmp 7), type := 26, pos := "law.go:157", after := #[{ on := 2, ground := Go.Ground.guard }], guard := some (2, false) }) (v := ?_) rfl (by kernel_rfl) (by kernel_rfl) (by kernel_rfl) (fun _ _ _ h => h) (Or.inl ⟨by rfl, ?_⟩) (by assumption) ?_
            rotate_left 1
            · intro w hSw; (try dsimp only at hSw); go_simp; try with_reducible rfl
            try simp only [Act.put, List.setIfInBounds_toArray, List.set_cons_zero, List.set_cons_succ]
            refine wpAnyH_take (i := 6) (oi := { dst := some 60, op := Go.Op.call { callee := Go.Callee.builtin Go.Builtin.max, args := #[Go.Operand.tmp 58, Go.Operand.tmp 59], argTypes := #[26, 26] }, type := 26, pos := "law.go:157", after := #[{ on := 4, ground := Go.Ground.data }, { on := 5, ground := Go.Ground.data }, { on := 2, ground := Go.Ground.guard }], guard := some (2, false) }) (v := ?_) rfl (by kernel_rfl) (by kernel_rfl) (by kernel_rfl) (fun _ _ _ h => h) (Or.inl ⟨by rfl, ?_⟩) (by assumption) ?_
            rotate_left 1
            · intro w hSw; (try dsimp only at hSw); go_simp; try with_reducible rfl
            try simp only [Act.put, List.setIfInBounds_toArray, List.set_cons_zero, List.set_cons_succ]
            refine wpAnyH_take (i := 7) (oi := { dst := some 61, op := Go.Op.binOp Go.BinOp.add 26 (Go.Operand.tmp 60) (Go.Operand.const (Go.Value.int Go.IntKind.u64 1)) 26, type := 26, pos := "law.go:157", after := #[{ on := 6, ground := Go.Ground.data }, { on := 2, ground := Go.Ground.guard }], guard := some (2, false) }) (v := ?_) rfl (by kernel_rfl) (by kernel_rfl) (by kernel_rfl) (fun _ _ _ h => h) (Or.inl ⟨by rfl, ?_⟩) (by assumption) ?_
            rotate_left 1
            · intro w hSw; (try dsimp only at hSw); go_simp; try with_reducible rfl
            try simp only [Act.put, List.setIfInBounds_toArray, List.set_cons_zero, List.set_cons_succ]
            refine wpAnyH_take (i := 8) (oi := { dst := some 62, op := Go.Op.binOp Go.BinOp.neq 26 (Go.Operand.tmp 57) (Go.Operand.tmp 61) 26, type := 4, pos := "law.go:157", after := #[{ on := 3, ground := Go.Ground.data }, { on := 7, ground := Go.Ground.data }, { on := 2, ground := Go.Ground.guard }], guard := some (2, false) }) (v := ?_) rfl (by kernel_rfl) (by kernel_rfl) (by kernel_rfl) (fun _ _ _ h => h) (Or.inl ⟨by rfl, ?_⟩) (by assumption) ?_
            rotate_left 1
            · intro w hSw; (try dsimp only at hSw); go_simp; try with_reducible rfl
            try simp only [Act.put, List.setIfInBounds_toArray, List.set_cons_zero, List.set_cons_succ]
            refine wpAnyH_take (i := 9) (oi := { dst := some 63, op := Go.Op.pick (Go.Operand.tmp 56) (Go.Operand.const (Go.Value.bool true)) (Go.Operand.tmp 62), type := 4, pos := "law.go:157", after := #[{ on := 2, ground := Go.Ground.data }, { on := 8, ground := Go.Ground.data }], guard := none }) (v := ?_) rfl (by kernel_rfl) (by kernel_rfl) (by kernel_rfl) (fun _ _ _ h => h) (Or.inl ⟨by rfl, ?_⟩) (by assumption) ?_
            rotate_left 1
            · intro w hSw; (try dsimp only at hSw); go_simp; try with_reducible rfl
            try simp only [Act.put, List.setIfInBounds_toArray, List.set_cons_zero, List.set_cons_succ]
            refine wpAnyH_take (i := 10) (oi := { dst := some 64, op := Go.Op.move (Go.Operand.tmp 63), type := 4, pos := "law.go:157", after := #[{ on := 9, ground := Go.Ground.data }, { on := 2, ground := Go.Ground.chain }], guard := none }) (v := ?_) rfl (by kernel_rfl) (by kernel_rfl) (by kernel_rfl) (fun _ _ _ h => h) (Or.inl ⟨by rfl, ?_⟩) (by assumption) ?_
            rotate_left 1
            · intro w hSw; (try dsimp only at hSw); go_simp; try with_reducible rfl
            try simp only [Act.put, List.setIfInBounds_toArray, List.set_cons_zero, List.set_cons_succ]
            refine wpAnyH_take (i := 11) (oi := { dst := some 65, op := Go.Op.load 32 (Go.Operand.tmp 10), type := 32, pos := "law.go:157", after := #[{ on := 10, ground := Go.Ground.guard }], guard := some (10, false) }) (v := ?_) rfl (by kernel_rfl) (by kernel_rfl) (by kernel_rfl) (fun _ _ _ h => h) (Or.inl ⟨by rfl, ?_⟩) (by assumption) ?_
            rotate_left 1
            · intro w hSw; (try dsimp only at hSw); have z0 := cell_on hSw z0; have z1 := cell_on hSw z1; have z2 := cell_on hSw z2; have z3 := cell_on hSw z3; have z4 := cell_on hSw z4; have z5 := cell_on hSw z5; have z6 := cell_on hSw z6; have q0 := cell_on hSw q0; have q1 := cell_on hSw q1; have q2 := cell_on hSw q2; have q3 := cell_on hSw q3; have q4 := cell_on hSw q4; have q5 := cell_on hSw q5; have q6 := cell_on hSw q6; go_simp; try with_reducible rfl
            try simp only [Act.put, List.setIfInBounds_toArray, List.set_cons_zero, List.set_cons_succ]
            refine wpAnyH_take (i := 12) (oi := { dst := some 66, op := Go.Op.move (Go.Operand.tmp 6), type := 22, pos := "law.go:157", after := #[{ on := 10, ground := Go.Ground.guard }], guard := some (10, false) }) (v := ?_) rfl (by kernel_rfl) (by kernel_rfl) (by kernel_rfl) (fun _ _ _ h => h) (Or.inl ⟨by rfl, ?_⟩) (by assumption) ?_
            rotate_left 1
            · intro w hSw; (try dsimp only at hSw); go_simp; try with_reducible rfl
            try simp only [Act.put, List.setIfInBounds_toArray, List.set_cons_zero, List.set_cons_succ]
            refine wpAnyH_take (i := 13) (oi := { dst := some 67, op := Go.Op.move (Go.Operand.tmp 9), type := 26, pos := "law.go:157", after := #[{ on := 10, ground := Go.Ground.guard }], guard := some (10, false) }) (v := ?_) rfl (by kernel_rfl) (by kernel_rfl) (by kernel_rfl) (fun _ _ _ h => h) (Or.inl ⟨by rfl, ?_⟩) (by assumption) ?_
            rotate_left 1
            · intro w hSw; (try dsimp only at hSw); go_simp; try with_reducible rfl
            try simp only [Act.put, List.setIfInBounds_toArray, List.set_cons_zero, List.set_cons_succ]
            refine wpAnyH_take (i := 14) (oi := { dst := some 68, op := Go.Op.move (Go.Operand.tmp 7), type := 26, pos := "law.go:157", after := #[{ on := 10, ground := Go.Ground.guard }], guard := some (10, false) }) (v := ?_) rfl (by kernel_rfl) (by kernel_rfl) (by kernel_rfl) (fun _ _ _ h => h) (Or.inl ⟨by rfl, ?_⟩) (by assumption) ?_
            rotate_left 1
            · intro w hSw; (try dsimp only at hSw); go_simp; try with_reducible rfl
            try simp only [Act.put, List.setIfInBounds_toArray, List.set_cons_zero, List.set_cons_succ]
            refine wpAnyH_take (i := 15) (oi := { dst := some 69, op := Go.Op.binOp Go.BinOp.sub 26 (Go.Operand.tmp 67) (Go.Operand.tmp 68) 26, type := 26, pos := "law.go:157", after := #[{ on := 13, ground := Go.Ground.data }, { on := 14, ground := Go.Ground.data }, { on := 10, ground := Go.Ground.guard }], guard := some (10, false) }) (v := ?_) rfl (by kernel_rfl) (by kernel_rfl) (by kernel_rfl) (fun _ _ _ h => h) (Or.inl ⟨by rfl, ?_⟩) (by assumption) ?_
            rotate_left 1
            · intro w hSw; (try dsimp only at hSw); go_simp; try with_reducible rfl
            try simp only [Act.put, List.setIfInBounds_toArray, List.set_cons_zero, List.set_cons_succ]
            refine wpAnyH_take (i := 16) (oi := { dst := some 70, op := Go.Op.binOp Go.BinOp.sub 26 (Go.Operand.tmp 69) (Go.Operand.const (Go.Value.int Go.IntKind.u64 1)) 26, type := 26, pos := "law.go:157", after := #[{ on := 15, ground := Go.Ground.data }, { on := 10, ground := Go.Ground.guard }], guard := some (10, false) }) (v := ?_) rfl (by kernel_rfl) (by kernel_rfl) (by kernel_rfl) (fun _ _ _ h => h) (Or.inl ⟨by rfl, ?_⟩) (by assumption) ?_
            rotate_left 1
            · intro w hSw; (try dsimp only at hSw); go_simp; try with_reducible rfl
            try simp only [Act.put, List.setIfInBounds_toArray, List.set_cons_zero, List.set_cons_succ]
            refine wpAnyH_take (i := 17) (oi := { dst := some 71, op := Go.Op.indexAddr 22 (Go.Operand.tmp 66) (Go.Operand.tmp 70), type := 0, pos := "law.go:157", after := #[{ on := 12, ground := Go.Ground.data }, { on := 16, ground := Go.Ground.data }, { on := 10, ground := Go.Ground.guard }], guard := some (10, false) }) (v := ?_) rfl (by kernel_rfl) (by kernel_rfl) (by kernel_rfl) (fun _ _ _ h => h) (Or.inl ⟨by rfl, ?_⟩) (by assumption) ?_
            rotate_left 1
            · intro w hSw; (try dsimp only at hSw); go_simp; try with_reducible rfl
            try simp only [Act.put, List.setIfInBounds_toArray, List.set_cons_zero, List.set_cons_succ]
            refine wpAnyH_take (i := 18) (oi := { dst := some 72, op := Go.Op.load 32 (Go.Operand.tmp 71), type := 32, pos := "law.go:157", after := #[{ on := 17, ground := Go.Ground.data }, { on := 10, ground := Go.Ground.guard }], guard := some (10, false) }) (v := ?_) rfl (by kernel_rfl) (by kernel_rfl) (by kernel_rfl) (fun _ _ _ h => h) (Or.inl ⟨by rfl, ?_⟩) (by assumption) ?_
            rotate_left 1
            · intro w hSw; (try dsimp only at hSw); have z0 := cell_on hSw z0; have z1 := cell_on hSw z1; have z2 := cell_on hSw z2; have z3 := cell_on hSw z3; have z4 := cell_on hSw z4; have z5 := cell_on hSw z5; have z6 := cell_on hSw z6; have q0 := cell_on hSw q0; have q1 := cell_on hSw q1; have q2 := cell_on hSw q2; have q3 := cell_on hSw q3; have q4 := cell_on hSw q4; have q5 := cell_on hSw q5; have q6 := cell_on hSw q6; go_simp; try with_reducible rfl
            try simp only [Act.put, List.setIfInBounds_toArray, List.set_cons_zero, List.set_cons_succ]
            refine wpAnyH_ready (rs := [19]) (by kernel_rfl) (by simp) ?_
            refine AllReadyH.cons (o := { dst := some 73, op := Go.Op.call { callee := Go.Callee.value (Go.Operand.func 10), args := #[Go.Operand.tmp 65, Go.Operand.tmp 72], argTypes := #[32, 32] }, type := 4, pos := "law.go:157", after := #[{ on := 11, ground := Go.Ground.data }, { on := 18, ground := Go.Ground.data }, { on := 10, ground := Go.Ground.chain }, { on := 10, ground := Go.Ground.guard }], guard := some (10, false) }) rfl (fun K hK => ?_) (AllReadyH.nil)
            go_simp
            go_at_call 10
            refine (HSA.out _ hHeld).mono ?_
            rintro e wx ⟨rfl, hb2⟩
            refine hK.out _ _ (bthen hHeld hb2 (Nat.le_refl _)) (fun hHeld2 => ?_)
            clear hK K hHeld hb2
            have hHeld := hHeld2
            clear hHeld2
            try simp only [Act.put, List.setIfInBounds_toArray, List.set_cons_zero, List.set_cons_succ]
            refine wpAnyH_take (i := 20) (oi := { dst := some 74, op := Go.Op.unOp Go.UnOp.not 4 (Go.Operand.tmp 73), type := 4, pos := "law.go:157", after := #[{ on := 19, ground := Go.Ground.data }, { on := 10, ground := Go.Ground.guard }], guard := some (10, false) }) (v := ?_) rfl (by kernel_rfl) (by kernel_rfl) (by kernel_rfl) (fun _ _ _ h => h) (Or.inl ⟨by rfl, ?_⟩) (by assumption) ?_
            rotate_left 1
            · intro w hSw; (try dsimp only at hSw); go_simp; try with_reducible rfl
            try simp only [Act.put, List.setIfInBounds_toArray, List.set_cons_zero, List.set_cons_succ]
            refine wpAnyH_take (i := 21) (oi := { dst := some 75, op := Go.Op.pick (Go.Operand.tmp 64) (Go.Operand.const (Go.Value.bool true)) (Go.Operand.tmp 74), type := 4, pos := "law.go:157", after := #[{ on := 10, ground := Go.Ground.data }, { on := 20, ground := Go.Ground.data }], guard := none }) (v := ?_) rfl (by kernel_rfl) (by kernel_rfl) (by kernel_rfl) (fun _ _ _ h => h) (Or.inl ⟨by rfl, ?_⟩) (by assumption) ?_
            rotate_left 1
            · intro w hSw; (try dsimp only at hSw); go_simp; try with_reducible rfl
            try simp only [Act.put, List.setIfInBounds_toArray, List.set_cons_zero, List.set_cons_succ]
            refine wpAnyH_done (by kernel_rfl) ?_ _
            have hZ := hHeld
            clear hHeld
            have HB10 := Lib.hid (bthen (bthen HB7.out HB8.out (Nat.le_refl _)) hZ (Nat.le_refl _))
            clear hZ z0 z1 z2 z3 z4 z5 z6 q0 q1 q2 q3 q4 q5 q6 hM2 hM3 hM4 hM5
            go_wp2_with fail
            go_roundg (gk - 1)
            case rel => exact ⟨j + 1, by have := HJ.out; omega, by go_num, HB10.out⟩
            case measure => have := HJ.out; omega
          · skip
            have hjE : j = T := by have := HJ.out; omega
            subst hjE
            have HG := Lib.hid (fun W h => HGET.out j W (by omega) h)
            have hG2 := HG.out
            rw [show decide (j < j) = false by simp, show Rs.aftN j n j = 0 by unfold Rs.aftN; rw [if_pos (Nat.le_refl _)], show Rs.aft j K j = Ml.zero by unfold Rs.aft; rw [if_pos (Nat.le_refl _)]] at hG2
            simp only [show ∀ A c, maV Ml.zero A c = .agg #[.int .u64 0, .string ⟨#[]⟩, .string ⟨#[]⟩, .slice A 0 c, .string ⟨#[]⟩, .int .u64 0, .int .u8 0] from fun _ _ => rfl, show ((0 : Nat) : Int) = 0 from rfl] at hG2
            have HG3 := Lib.hid hG2
            clear hG2 HG
            go_upto_region 19 with fail
            refine wp_region_held_drew (S := fun a => Below w7.heap.size w7 a) (by kernel_rfl) (by (try dsimp only); exact (Below.refl _ _).drew) (fun hHeld => ?_)
            refine wpAnyH_take (i := 0) (oi := { dst := some 77, op := Go.Op.load 28 (Go.Operand.tmp 3), type := 28, pos := "law.go:161", after := #[], guard := none }) (v := ?_) rfl (by kernel_rfl) (by kernel_rfl) (by kernel_rfl) (fun _ _ _ h => h) (Or.inl ⟨by rfl, ?_⟩) (by assumption) ?_
            rotate_left 1
            · intro w hSw; (try dsimp only at hSw); have e0 := cell_on hSw e0; have e1 := cell_on hSw e1; go_simp; try with_reducible rfl
            try simp only [Act.put, List.setIfInBounds_toArray, List.set_cons_zero, List.set_cons_succ]
            refine wpAnyH_take (i := 1) (oi := { dst := some 78, op := Go.Op.load 28 (Go.Operand.tmp 3), type := 28, pos := "law.go:161", after := #[], guard := none }) (v := ?_) rfl (by kernel_rfl) (by kernel_rfl) (by kernel_rfl) (fun _ _ _ h => h) (Or.inl ⟨by rfl, ?_⟩) (by assumption) ?_
            rotate_left 1
            · intro w hSw; (try dsimp only at hSw); have e0 := cell_on hSw e0; have e1 := cell_on hSw e1; go_simp; try with_reducible rfl
            try simp only [Act.put, List.setIfInBounds_toArray, List.set_cons_zero, List.set_cons_succ]
            refine wpAnyH_ready (rs := [2, 8]) (by kernel_rfl) (by simp) ?_
            refine AllReadyH.cons (o := { dst := some 79, op := Go.Op.call { callee := Go.Callee.value (Go.Operand.func 7), args := #[Go.Operand.tmp 78], argTypes := #[28] }, type := 26, pos := "law.go:161", after := #[{ on := 1, ground := Go.Ground.data }], guard := none }) rfl (fun K hK => ?_) (AllReadyH.cons (o := { dst := some 13, op := Go.Op.alloc 32, type := 0, pos := "law.go:161", after := #[], guard := none }) rfl (fun K hK => ?_) (AllReadyH.nil))
            · skip
              go_simp
              go_at_call 7
              refine (HTO.out _).mono ?_
              rintro e wx ⟨rfl, hb2⟩
              try replace HNB := Lib.hid (HNB.out.on hb2)
              refine hK.out _ _ (bthen hHeld hb2 (Nat.le_refl _)) (fun hHeld2 => ?_)
              clear hK K hHeld hb2
              have hHeld := hHeld2
              clear hHeld2
              try simp only [Act.put, List.setIfInBounds_toArray, List.set_cons_zero, List.set_cons_succ]
              refine wpAnyH_ready (rs := [3, 8]) (by kernel_rfl) (by simp) ?_
              refine AllReadyH.cons (o := { dst := some 80, op := Go.Op.call { callee := Go.Callee.value (Go.Operand.func 8), args := #[Go.Operand.tmp 77, Go.Operand.tmp 79], argTypes := #[28, 26] }, type := 33, pos := "law.go:161", after := #[{ on := 0, ground := Go.Ground.data }, { on := 2, ground := Go.Ground.data }, { on := 2, ground := Go.Ground.chain }], guard := none }) rfl (fun K hK => ?_) (AllReadyH.cons (o := { dst := some 13, op := Go.Op.alloc 32, type := 0, pos := "law.go:161", after := #[], guard := none }) rfl (fun K hK => ?_) (AllReadyH.nil))
              · skip
                go_simp
                go_at_call 8
                refine (HG3.out _ (HN7.out.on hHeld)).mono ?_
                rintro e wx ⟨Az, cz, rfl, ho, hb2⟩
                clear ho
                try replace HNB := Lib.hid (HNB.out.on hb2)
                refine hK.out _ _ (bthen hHeld hb2 (Nat.le_refl _)) (fun hHeld2 => ?_)
                clear hK K hHeld hb2
                have hHeld := hHeld2
                clear hHeld2
                try simp only [Act.put, List.setIfInBounds_toArray, List.set_cons_zero, List.set_cons_succ]
                refine wpAnyH_take (i := 4) (oi := { dst := some 76, op := Go.Op.move (Go.Operand.tmp 80), type := 33, pos := "law.go:161", after := #[{ on := 3, ground := Go.Ground.data }], guard := none }) (v := ?_) rfl (by kernel_rfl) (by kernel_rfl) (by kernel_rfl) (fun _ _ _ h => h) (Or.inl ⟨by rfl, ?_⟩) (by assumption) ?_
                rotate_left 1
                · intro w hSw; (try dsimp only at hSw); go_simp; try with_reducible rfl
                try simp only [Act.put, List.setIfInBounds_toArray, List.set_cons_zero, List.set_cons_succ]
                refine wpAnyH_take (i := 5) (oi := { dst := some 81, op := Go.Op.extract (Go.Operand.tmp 76) 0, type := 26, pos := "law.go:161", after := #[{ on := 4, ground := Go.Ground.data }], guard := none }) (v := ?_) rfl (by kernel_rfl) (by kernel_rfl) (by kernel_rfl) (fun _ _ _ h => h) (Or.inl ⟨by rfl, ?_⟩) (by assumption) ?_
                rotate_left 1
                · intro w hSw; (try dsimp only at hSw); go_simp; try with_reducible rfl
                try simp only [Act.put, List.setIfInBounds_toArray, List.set_cons_zero, List.set_cons_succ]
                refine wpAnyH_take (i := 6) (oi := { dst := some 82, op := Go.Op.extract (Go.Operand.tmp 76) 1, type := 32, pos := "law.go:161", after := #[{ on := 4, ground := Go.Ground.data }, { on := 9, ground := Go.Ground.gcOnly Go.Departure.lateStores }], guard := none }) (v := ?_) rfl (by kernel_rfl) (by kernel_rfl) (by kernel_rfl) (fun _ _ _ h => h) (Or.inl ⟨by rfl, ?_⟩) (by assumption) ?_
                rotate_left 1
                · intro w hSw; (try dsimp only at hSw); go_simp; try with_reducible rfl
                try simp only [Act.put, List.setIfInBounds_toArray, List.set_cons_zero, List.set_cons_succ]
                refine wpAnyH_take (i := 7) (oi := { dst := some 83, op := Go.Op.extract (Go.Operand.tmp 76) 2, type := 4, pos := "law.go:161", after := #[{ on := 4, ground := Go.Ground.data }, { on := 10, ground := Go.Ground.gcOnly Go.Departure.lateStores }], guard := none }) (v := ?_) rfl (by kernel_rfl) (by kernel_rfl) (by kernel_rfl) (fun _ _ _ h => h) (Or.inl ⟨by rfl, ?_⟩) (by assumption) ?_
                rotate_left 1
                · intro w hSw; (try dsimp only at hSw); go_simp; try with_reducible rfl
                try simp only [Act.put, List.setIfInBounds_toArray, List.set_cons_zero, List.set_cons_succ]
                refine wpAnyH_ready (rs := [8]) (by kernel_rfl) (by simp) ?_
                refine AllReadyH.cons (o := { dst := some 13, op := Go.Op.alloc 32, type := 0, pos := "law.go:161", after := #[], guard := none }) rfl (fun K hK => ?_) (AllReadyH.nil)
                go_simp
                have HNB := Lib.hid (BoxC.new (w := w7) (W := _) hHeld.size #[.int .u64 0, .string ⟨#[]⟩, .string ⟨#[]⟩, .slice none 0 0, .string ⟨#[]⟩, .int .u64 0, .int .u8 0] 32)
                have hPre := hHeld
                refine hK.out _ _ (hHeld.alloc hHeld.size _) (fun hHeld2 => ?_)
                clear hK K hHeld
                have hHeld := hHeld2
                clear hHeld2
                try simp only [Act.put, List.setIfInBounds_toArray, List.set_cons_zero, List.set_cons_succ]
                refine wpAnyH_take (i := 9) (oi := { dst := some 12, op := Go.Op.assign (Go.Operand.tmp 81), type := 26, pos := "law.go:161", after := #[{ on := 5, ground := Go.Ground.data }, { on := 3, ground := Go.Ground.chain }, { on := 0, ground := Go.Ground.phase }, { on := 1, ground := Go.Ground.phase }, { on := 2, ground := Go.Ground.phase }, { on := 3, ground := Go.Ground.phase }, { on := 4, ground := Go.Ground.phase }, { on := 5, ground := Go.Ground.phase }, { on := 6, ground := Go.Ground.textOnly Go.Departure.lateStores }, { on := 7, ground := Go.Ground.textOnly Go.Departure.lateStores }, { on := 8, ground := Go.Ground.phase }], guard := none }) (v := ?_) rfl (by kernel_rfl) (by kernel_rfl) (by kernel_rfl) (fun _ _ _ h => h) (Or.inl ⟨by rfl, ?_⟩) (by assumption) ?_
                rotate_left 1
                · intro w hSw; (try dsimp only at hSw); go_simp; try with_reducible rfl
                try simp only [Act.put, List.setIfInBounds_toArray, List.set_cons_zero, List.set_cons_succ]
                refine wpAnyH_ready (rs := [10]) (by kernel_rfl) (by simp) ?_
                refine AllReadyH.cons (o := { dst := none, op := Go.Op.store 32 (Go.Operand.tmp 13) (Go.Operand.tmp 82), type := 0, pos := "law.go:161", after := #[{ on := 8, ground := Go.Ground.data }, { on := 6, ground := Go.Ground.data }, { on := 9, ground := Go.Ground.chain }, { on := 0, ground := Go.Ground.phase }, { on := 1, ground := Go.Ground.phase }, { on := 2, ground := Go.Ground.phase }, { on := 3, ground := Go.Ground.phase }, { on := 4, ground := Go.Ground.phase }, { on := 5, ground := Go.Ground.phase }, { on := 6, ground := Go.Ground.phase }, { on := 7, ground := Go.Ground.textOnly Go.Departure.lateStores }, { on := 8, ground := Go.Ground.phase }, { on := 9, ground := Go.Ground.phase }], guard := none }) rfl (fun K hK => ?_) (AllReadyH.nil)
                have n0 := HNB.out.cs 0 _ rfl
                have n1 := HNB.out.cs 1 _ rfl
                have n2 := HNB.out.cs 2 _ rfl
                have n3 := HNB.out.cs 3 _ rfl
                have n4 := HNB.out.cs 4 _ rfl
                have n5 := HNB.out.cs 5 _ rfl
                have n6 := HNB.out.cs 6 _ rfl
                have nf := HNB.out.s
                unfold Soft at nf
                have nl := HNB.out.lt
                have nge := HNB.out.ge
                try simp only [show w7.drew.heap.size = w7.heap.size from rfl] at n0 n1 n2 n3 n4 n5 n6 nf nl nge
                go_simp
                refine hK.out _ _ ?_ (fun hHeld2 => ?_)
                · (try dsimp only); first | with_reducible exact hPre.alloc hPre.size _ | ((repeat with_reducible refine below_put nge ?_); with_reducible exact hHeld)
                clear n0 n1 n2 n3 n4 n5 n6 nf nl nge HNB hPre
                clear hK K hHeld
                have hHeld := hHeld2
                clear hHeld2
                try simp only [Act.put, List.setIfInBounds_toArray, List.set_cons_zero, List.set_cons_succ]
                refine wpAnyH_take (i := 11) (oi := { dst := some 14, op := Go.Op.assign (Go.Operand.tmp 83), type := 4, pos := "law.go:161", after := #[{ on := 7, ground := Go.Ground.data }, { on := 10, ground := Go.Ground.chain }, { on := 0, ground := Go.Ground.phase }, { on := 1, ground := Go.Ground.phase }, { on := 2, ground := Go.Ground.phase }, { on := 3, ground := Go.Ground.phase }, { on := 4, ground := Go.Ground.phase }, { on := 5, ground := Go.Ground.phase }, { on := 6, ground := Go.Ground.phase }, { on := 7, ground := Go.Ground.phase }, { on := 8, ground := Go.Ground.phase }, { on := 9, ground := Go.Ground.phase }, { on := 10, ground := Go.Ground.phase }], guard := none }) (v := ?_) rfl (by kernel_rfl) (by kernel_rfl) (by kernel_rfl) (fun _ _ _ h => h) (Or.inl ⟨by rfl, ?_⟩) (by assumption) ?_
                rotate_left 1
                · intro w hSw; (try dsimp only at hSw); go_simp; try with_reducible rfl
                try simp only [Act.put, List.setIfInBounds_toArray, List.set_cons_zero, List.set_cons_succ]
                refine wpAnyH_done (by kernel_rfl) ?_ _
                have hZ := hHeld
                clear hHeld
                have HBE := Lib.hid (bthen (bthen HB6.out HB7.out (Nat.le_refl _)) hZ (Nat.le_refl _))
                clear hZ e0 e1 el
                have hn16 : decide ((n : Int) ≤ 16) = true := decide_eq_true (by omega)
                go_wp2_with fail
                go_ret
                exact ⟨rfl, HBE.out.trans ⟨rfl, rfl, rfl, Nat.le_refl _, fun _ _ => rfl⟩⟩
              · skip
                go_simp
                have HNB := Lib.hid (BoxC.new (w := w7) (W := _) hHeld.size #[.int .u64 0, .string ⟨#[]⟩, .string ⟨#[]⟩, .slice none 0 0, .string ⟨#[]⟩, .int .u64 0, .int .u8 0] 32)
                have hPre := hHeld
                refine hK.out _ _ (hHeld.alloc hHeld.size _) (fun hHeld2 => ?_)
                clear hK K hHeld
                have hHeld := hHeld2
                clear hHeld2
                try simp only [Act.put, List.setIfInBounds_toArray, List.set_cons_zero, List.set_cons_succ]
                refine wpAnyH_ready (rs := [3]) (by kernel_rfl) (by simp) ?_
                refine AllReadyH.cons (o := { dst := some 80, op := Go.Op.call { callee := Go.Callee.value (Go.Operand.func 8), args := #[Go.Operand.tmp 77, Go.Operand.tmp 79], argTypes := #[28, 26] }, type := 33, pos := "law.go:161", after := #[{ on := 0, ground := Go.Ground.data }, { on := 2, ground := Go.Ground.data }, { on := 2, ground := Go.Ground.chain }], guard := none }) rfl (fun K hK => ?_) (AllReadyH.nil)
                go_simp
                go_at_call 8
                refine (HG3.out _ (HN7.out.on hHeld)).mono ?_
                rintro e wx ⟨Az, cz, rfl, ho, hb2⟩
                clear ho
                try replace HNB := Lib.hid (HNB.out.on hb2)
                refine hK.out _ _ (bthen hHeld hb2 (Nat.le_refl _)) (fun hHeld2 => ?_)
                clear hK K hHeld hb2
                have hHeld := hHeld2
                clear hHeld2
                try simp only [Act.put, List.setIfInBounds_toArray, List.set_cons_zero, List.set_cons_succ]
                refine wpAnyH_take (i := 4) (oi := { dst := some 76, op := Go.Op.move (Go.Operand.tmp 80), type := 33, pos := "law.go:161", after := #[{ on := 3, ground := Go.Ground.data }], guard := none }) (v := ?_) rfl (by kernel_rfl) (by kernel_rfl) (by kernel_rfl) (fun _ _ _ h => h) (Or.inl ⟨by rfl, ?_⟩) (by assumption) ?_
                rotate_left 1
                · intro w hSw; (try dsimp only at hSw); go_simp; try with_reducible rfl
                try simp only [Act.put, List.setIfInBounds_toArray, List.set_cons_zero, List.set_cons_succ]
                refine wpAnyH_take (i := 5) (oi := { dst := some 81, op := Go.Op.extract (Go.Operand.tmp 76) 0, type := 26, pos := "law.go:161", after := #[{ on := 4, ground := Go.Ground.data }], guard := none }) (v := ?_) rfl (by kernel_rfl) (by kernel_rfl) (by kernel_rfl) (fun _ _ _ h => h) (Or.inl ⟨by rfl, ?_⟩) (by assumption) ?_
                rotate_left 1
                · intro w hSw; (try dsimp only at hSw); go_simp; try with_reducible rfl
                try simp only [Act.put, List.setIfInBounds_toArray, List.set_cons_zero, List.set_cons_succ]
                refine wpAnyH_take (i := 6) (oi := { dst := some 82, op := Go.Op.extract (Go.Operand.tmp 76) 1, type := 32, pos := "law.go:161", after := #[{ on := 4, ground := Go.Ground.data }, { on := 9, ground := Go.Ground.gcOnly Go.Departure.lateStores }], guard := none }) (v := ?_) rfl (by kernel_rfl) (by kernel_rfl) (by kernel_rfl) (fun _ _ _ h => h) (Or.inl ⟨by rfl, ?_⟩) (by assumption) ?_
                rotate_left 1
                · intro w hSw; (try dsimp only at hSw); go_simp; try with_reducible rfl
                try simp only [Act.put, List.setIfInBounds_toArray, List.set_cons_zero, List.set_cons_succ]
                refine wpAnyH_take (i := 7) (oi := { dst := some 83, op := Go.Op.extract (Go.Operand.tmp 76) 2, type := 4, pos := "law.go:161", after := #[{ on := 4, ground := Go.Ground.data }, { on := 10, ground := Go.Ground.gcOnly Go.Departure.lateStores }], guard := none }) (v := ?_) rfl (by kernel_rfl) (by kernel_rfl) (by kernel_rfl) (fun _ _ _ h => h) (Or.inl ⟨by rfl, ?_⟩) (by assumption) ?_
                rotate_left 1
                · intro w hSw; (try dsimp only at hSw); go_simp; try with_reducible rfl
                try simp only [Act.put, List.setIfInBounds_toArray, List.set_cons_zero, List.set_cons_succ]
                refine wpAnyH_take (i := 9) (oi := { dst := some 12, op := Go.Op.assign (Go.Operand.tmp 81), type := 26, pos := "law.go:161", after := #[{ on := 5, ground := Go.Ground.data }, { on := 3, ground := Go.Ground.chain }, { on := 0, ground := Go.Ground.phase }, { on := 1, ground := Go.Ground.phase }, { on := 2, ground := Go.Ground.phase }, { on := 3, ground := Go.Ground.phase }, { on := 4, ground := Go.Ground.phase }, { on := 5, ground := Go.Ground.phase }, { on := 6, ground := Go.Ground.textOnly Go.Departure.lateStores }, { on := 7, ground := Go.Ground.textOnly Go.Departure.lateStores }, { on := 8, ground := Go.Ground.phase }], guard := none }) (v := ?_) rfl (by kernel_rfl) (by kernel_rfl) (by kernel_rfl) (fun _ _ _ h => h) (Or.inl ⟨by rfl, ?_⟩) (by assumption) ?_
                rotate_left 1
                · intro w hSw; (try dsimp only at hSw); go_simp; try with_reducible rfl
                try simp only [Act.put, List.setIfInBounds_toArray, List.set_cons_zero, List.set_cons_succ]
                refine wpAnyH_ready (rs := [10]) (by kernel_rfl) (by simp) ?_
                refine AllReadyH.cons (o := { dst := none, op := Go.Op.store 32 (Go.Operand.tmp 13) (Go.Operand.tmp 82), type := 0, pos := "law.go:161", after := #[{ on := 8, ground := Go.Ground.data }, { on := 6, ground := Go.Ground.data }, { on := 9, ground := Go.Ground.chain }, { on := 0, ground := Go.Ground.phase }, { on := 1, ground := Go.Ground.phase }, { on := 2, ground := Go.Ground.phase }, { on := 3, ground := Go.Ground.phase }, { on := 4, ground := Go.Ground.phase }, { on := 5, ground := Go.Ground.phase }, { on := 6, ground := Go.Ground.phase }, { on := 7, ground := Go.Ground.textOnly Go.Departure.lateStores }, { on := 8, ground := Go.Ground.phase }, { on := 9, ground := Go.Ground.phase }], guard := none }) rfl (fun K hK => ?_) (AllReadyH.nil)
                have n0 := HNB.out.cs 0 _ rfl
                have n1 := HNB.out.cs 1 _ rfl
                have n2 := HNB.out.cs 2 _ rfl
                have n3 := HNB.out.cs 3 _ rfl
                have n4 := HNB.out.cs 4 _ rfl
                have n5 := HNB.out.cs 5 _ rfl
                have n6 := HNB.out.cs 6 _ rfl
                have nf := HNB.out.s
                unfold Soft at nf
                have nl := HNB.out.lt
                have nge := HNB.out.ge
                try simp only [show w7.drew.heap.size = w7.heap.size from rfl] at n0 n1 n2 n3 n4 n5 n6 nf nl nge
                go_simp
                refine hK.out _ _ ?_ (fun hHeld2 => ?_)
                · (try dsimp only); first | with_reducible exact hPre.alloc hPre.size _ | ((repeat with_reducible refine below_put nge ?_); with_reducible exact hHeld)
                clear n0 n1 n2 n3 n4 n5 n6 nf nl nge HNB hPre
                clear hK K hHeld
                have hHeld := hHeld2
                clear hHeld2
                try simp only [Act.put, List.setIfInBounds_toArray, List.set_cons_zero, List.set_cons_succ]
                refine wpAnyH_take (i := 11) (oi := { dst := some 14, op := Go.Op.assign (Go.Operand.tmp 83), type := 4, pos := "law.go:161", after := #[{ on := 7, ground := Go.Ground.data }, { on := 10, ground := Go.Ground.chain }, { on := 0, ground := Go.Ground.phase }, { on := 1, ground := Go.Ground.phase }, { on := 2, ground := Go.Ground.phase }, { on := 3, ground := Go.Ground.phase }, { on := 4, ground := Go.Ground.phase }, { on := 5, ground := Go.Ground.phase }, { on := 6, ground := Go.Ground.phase }, { on := 7, ground := Go.Ground.phase }, { on := 8, ground := Go.Ground.phase }, { on := 9, ground := Go.Ground.phase }, { on := 10, ground := Go.Ground.phase }], guard := none }) (v := ?_) rfl (by kernel_rfl) (by kernel_rfl) (by kernel_rfl) (fun _ _ _ h => h) (Or.inl ⟨by rfl, ?_⟩) (by assumption) ?_
                rotate_left 1
                · intro w hSw; (try dsimp only at hSw); go_simp; try with_reducible rfl
                try simp only [Act.put, List.setIfInBounds_toArray, List.set_cons_zero, List.set_cons_succ]
                refine wpAnyH_done (by kernel_rfl) ?_ _
                have hZ := hHeld
                clear hHeld
                have HBE := Lib.hid (bthen (bthen HB6.out HB7.out (Nat.le_refl _)) hZ (Nat.le_refl _))
                clear hZ e0 e1 el
                have hn16 : decide ((n : Int) ≤ 16) = true := decide_eq_true (by omega)
                go_wp2_with fail
                go_ret
                exact ⟨rfl, HBE.out.trans ⟨rfl, rfl, rfl, Nat.le_refl _, fun _ _ => rfl⟩⟩
            · skip
              go_simp
              have HNB := Lib.hid (BoxC.new (w := w7) (W := _) hHeld.size #[.int .u64 0, .string ⟨#[]⟩, .string ⟨#[]⟩, .slice none 0 0, .string ⟨#[]⟩, .int .u64 0, .int .u8 0] 32)
              have hPre := hHeld
              refine hK.out _ _ (hHeld.alloc hHeld.size _) (fun hHeld2 => ?_)
              clear hK K hHeld
              have hHeld := hHeld2
              clear hHeld2
              try simp only [Act.put, List.setIfInBounds_toArray, List.set_cons_zero, List.set_cons_succ]
              refine wpAnyH_ready (rs := [2]) (by kernel_rfl) (by simp) ?_
              refine AllReadyH.cons (o := { dst := some 79, op := Go.Op.call { callee := Go.Callee.value (Go.Operand.func 7), args := #[Go.Operand.tmp 78], argTypes := #[28] }, type := 26, pos := "law.go:161", after := #[{ on := 1, ground := Go.Ground.data }], guard := none }) rfl (fun K hK => ?_) (AllReadyH.nil)
              go_simp
              go_at_call 7
              refine (HTO.out _).mono ?_
              rintro e wx ⟨rfl, hb2⟩
              try replace HNB := Lib.hid (HNB.out.on hb2)
              refine hK.out _ _ (bthen hHeld hb2 (Nat.le_refl _)) (fun hHeld2 => ?_)
              clear hK K hHeld hb2
              have hHeld := hHeld2
              clear hHeld2
              try simp only [Act.put, List.setIfInBounds_toArray, List.set_cons_zero, List.set_cons_succ]
              refine wpAnyH_ready (rs := [3]) (by kernel_rfl) (by simp) ?_
              refine AllReadyH.cons (o := { dst := some 80, op := Go.Op.call { callee := Go.Callee.value (Go.Operand.func 8), args := #[Go.Operand.tmp 77, Go.Operand.tmp 79], argTypes := #[28, 26] }, type := 33, pos := "law.go:161", after := #[{ on := 0, ground := Go.Ground.data }, { on := 2, ground := Go.Ground.data }, { on := 2, ground := Go.Ground.chain }], guard := none }) rfl (fun K hK => ?_) (AllReadyH.nil)
              go_simp
              go_at_call 8
              refine (HG3.out _ (HN7.out.on hHeld)).mono ?_
              rintro e wx ⟨Az, cz, rfl, ho, hb2⟩
              clear ho
              try replace HNB := Lib.hid (HNB.out.on hb2)
              refine hK.out _ _ (bthen hHeld hb2 (Nat.le_refl _)) (fun hHeld2 => ?_)
              clear hK K hHeld hb2
              have hHeld := hHeld2
              clear hHeld2
              try simp only [Act.put, List.setIfInBounds_toArray, List.set_cons_zero, List.set_cons_succ]
              refine wpAnyH_take (i := 4) (oi := { dst := some 76, op := Go.Op.move (Go.Operand.tmp 80), type := 33, pos := "law.go:161", after := #[{ on := 3, ground := Go.Ground.data }], guard := none }) (v := ?_) rfl (by kernel_rfl) (by kernel_rfl) (by kernel_rfl) (fun _ _ _ h => h) (Or.inl ⟨by rfl, ?_⟩) (by assumption) ?_
              rotate_left 1
              · intro w hSw; (try dsimp only at hSw); go_simp; try with_reducible rfl
              try simp only [Act.put, List.setIfInBounds_toArray, List.set_cons_zero, List.set_cons_succ]
              refine wpAnyH_take (i := 5) (oi := { dst := some 81, op := Go.Op.extract (Go.Operand.tmp 76) 0, type := 26, pos := "law.go:161", after := #[{ on := 4, ground := Go.Ground.data }], guard := none }) (v := ?_) rfl (by kernel_rfl) (by kernel_rfl) (by kernel_rfl) (fun _ _ _ h => h) (Or.inl ⟨by rfl, ?_⟩) (by assumption) ?_
              rotate_left 1
              · intro w hSw; (try dsimp only at hSw); go_simp; try with_reducible rfl
              try simp only [Act.put, List.setIfInBounds_toArray, List.set_cons_zero, List.set_cons_succ]
              refine wpAnyH_take (i := 6) (oi := { dst := some 82, op := Go.Op.extract (Go.Operand.tmp 76) 1, type := 32, pos := "law.go:161", after := #[{ on := 4, ground := Go.Ground.data }, { on := 9, ground := Go.Ground.gcOnly Go.Departure.lateStores }], guard := none }) (v := ?_) rfl (by kernel_rfl) (by kernel_rfl) (by kernel_rfl) (fun _ _ _ h => h) (Or.inl ⟨by rfl, ?_⟩) (by assumption) ?_
              rotate_left 1
              · intro w hSw; (try dsimp only at hSw); go_simp; try with_reducible rfl
              try simp only [Act.put, List.setIfInBounds_toArray, List.set_cons_zero, List.set_cons_succ]
              refine wpAnyH_take (i := 7) (oi := { dst := some 83, op := Go.Op.extract (Go.Operand.tmp 76) 2, type := 4, pos := "law.go:161", after := #[{ on := 4, ground := Go.Ground.data }, { on := 10, ground := Go.Ground.gcOnly Go.Departure.lateStores }], guard := none }) (v := ?_) rfl (by kernel_rfl) (by kernel_rfl) (by kernel_rfl) (fun _ _ _ h => h) (Or.inl ⟨by rfl, ?_⟩) (by assumption) ?_
              rotate_left 1
              · intro w hSw; (try dsimp only at hSw); go_simp; try with_reducible rfl
              try simp only [Act.put, List.setIfInBounds_toArray, List.set_cons_zero, List.set_cons_succ]
              refine wpAnyH_take (i := 9) (oi := { dst := some 12, op := Go.Op.assign (Go.Operand.tmp 81), type := 26, pos := "law.go:161", after := #[{ on := 5, ground := Go.Ground.data }, { on := 3, ground := Go.Ground.chain }, { on := 0, ground := Go.Ground.phase }, { on := 1, ground := Go.Ground.phase }, { on := 2, ground := Go.Ground.phase }, { on := 3, ground := Go.Ground.phase }, { on := 4, ground := Go.Ground.phase }, { on := 5, ground := Go.Ground.phase }, { on := 6, ground := Go.Ground.textOnly Go.Departure.lateStores }, { on := 7, ground := Go.Ground.textOnly Go.Departure.lateStores }, { on := 8, ground := Go.Ground.phase }], guard := none }) (v := ?_) rfl (by kernel_rfl) (by kernel_rfl) (by kernel_rfl) (fun _ _ _ h => h) (Or.inl ⟨by rfl, ?_⟩) (by assumption) ?_
              rotate_left 1
              · intro w hSw; (try dsimp only at hSw); go_simp; try with_reducible rfl
              try simp only [Act.put, List.setIfInBounds_toArray, List.set_cons_zero, List.set_cons_succ]
              refine wpAnyH_ready (rs := [10]) (by kernel_rfl) (by simp) ?_
              refine AllReadyH.cons (o := { dst := none, op := Go.Op.store 32 (Go.Operand.tmp 13) (Go.Operand.tmp 82), type := 0, pos := "law.go:161", after := #[{ on := 8, ground := Go.Ground.data }, { on := 6, ground := Go.Ground.data }, { on := 9, ground := Go.Ground.chain }, { on := 0, ground := Go.Ground.phase }, { on := 1, ground := Go.Ground.phase }, { on := 2, ground := Go.Ground.phase }, { on := 3, ground := Go.Ground.phase }, { on := 4, ground := Go.Ground.phase }, { on := 5, ground := Go.Ground.phase }, { on := 6, ground := Go.Ground.phase }, { on := 7, ground := Go.Ground.textOnly Go.Departure.lateStores }, { on := 8, ground := Go.Ground.phase }, { on := 9, ground := Go.Ground.phase }], guard := none }) rfl (fun K hK => ?_) (AllReadyH.nil)
              have n0 := HNB.out.cs 0 _ rfl
              have n1 := HNB.out.cs 1 _ rfl
              have n2 := HNB.out.cs 2 _ rfl
              have n3 := HNB.out.cs 3 _ rfl
              have n4 := HNB.out.cs 4 _ rfl
              have n5 := HNB.out.cs 5 _ rfl
              have n6 := HNB.out.cs 6 _ rfl
              have nf := HNB.out.s
              unfold Soft at nf
              have nl := HNB.out.lt
              have nge := HNB.out.ge
              try simp only [show w7.drew.heap.size = w7.heap.size from rfl] at n0 n1 n2 n3 n4 n5 n6 nf nl nge
              go_simp
              refine hK.out _ _ ?_ (fun hHeld2 => ?_)
              · (try dsimp only); first | with_reducible exact hPre.alloc hPre.size _ | ((repeat with_reducible refine below_put nge ?_); with_reducible exact hHeld)
              clear n0 n1 n2 n3 n4 n5 n6 nf nl nge HNB hPre
              clear hK K hHeld
              have hHeld := hHeld2
              clear hHeld2
              try simp only [Act.put, List.setIfInBounds_toArray, List.set_cons_zero, List.set_cons_succ]
              refine wpAnyH_take (i := 11) (oi := { dst := some 14, op := Go.Op.assign (Go.Operand.tmp 83), type := 4, pos := "law.go:161", after := #[{ on := 7, ground := Go.Ground.data }, { on := 10, ground := Go.Ground.chain }, { on := 0, ground := Go.Ground.phase }, { on := 1, ground := Go.Ground.phase }, { on := 2, ground := Go.Ground.phase }, { on := 3, ground := Go.Ground.phase }, { on := 4, ground := Go.Ground.phase }, { on := 5, ground := Go.Ground.phase }, { on := 6, ground := Go.Ground.phase }, { on := 7, ground := Go.Ground.phase }, { on := 8, ground := Go.Ground.phase }, { on := 9, ground := Go.Ground.phase }, { on := 10, ground := Go.Ground.phase }], guard := none }) (v := ?_) rfl (by kernel_rfl) (by kernel_rfl) (by kernel_rfl) (fun _ _ _ h => h) (Or.inl ⟨by rfl, ?_⟩) (by assumption) ?_
              rotate_left 1
              · intro w hSw; (try dsimp only at hSw); go_simp; try with_reducible rfl
              try simp only [Act.put, List.setIfInBounds_toArray, List.set_cons_zero, List.set_cons_succ]
              refine wpAnyH_done (by kernel_rfl) ?_ _
              have hZ := hHeld
              clear hHeld
              have HBE := Lib.hid (bthen (bthen HB6.out HB7.out (Nat.le_refl _)) hZ (Nat.le_refl _))
              clear hZ e0 e1 el
              have hn16 : decide ((n : Int) ≤ 16) = true := decide_eq_true (by omega)
              go_wp2_with fail
              go_ret
              exact ⟨rfl, HBE.out.trans ⟨rfl, rfl, rfl, Nat.le_refl _, fun _ _ => rfl⟩⟩
  · have HB3 := Lib.hid (bthen HB1.out b3 (Nat.le_refl _))
    clear b3
    go_wp2_with fail
    go_ret
    exact ⟨rfl, HB3.out⟩
end Go.Proofs.YtfbajmiiecmelaaDoor
end
