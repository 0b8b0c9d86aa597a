/-
  RISE READ: the document's, walked.
-/
import Derived.Test.YtjkaljokkpabfaaGreatDoorRr47

section
namespace Go.Proofs.YtjkaljokkpabfaaGreatDoor
open Go.ChangeShapes Go.WideShapes Go.ChangeAt Go.RowKit
namespace Rs
theorem rdF_stop {f : LSt → Ml × LSt} (h1 : ∀ s, lOk s → lOk (f s).2) (h2 : ∀ s, lOk s → s.2 ≠ 0 → (f s).2 = s) {s : LSt} (h : lOk s) {k : Nat} (he : (rdF f k s).2.2 ≠ 0) : ∀ m, (rdF f (k + m) s).2 = (rdF f k s).2
  | 0 => rfl
  | m + 1 => by
    have e := rdF_stop h1 h2 h he m
    rw [← Nat.add_assoc, rdF_snoc, e]
    exact h2 _ (rdF_ok h1 k h) he
theorem rds_stop {s : LSt} (h : lOk s) {k : Nat} (he : (rds k s).2.2 ≠ 0) (m : Nat) : (rds (k + m) s).2 = (rds k s).2 := rdF_stop rd_ok (fun _ h he => rd_err h he) h he m
end Rs
theorem lFail_twice67 (s : LSt) : lFail (lFail s 6) 7 = lFail s 6 := by
  unfold lFail
  by_cases h : s.2 = 0
  · simp [h]
  · simp [h]
def RrSt (w w2 : World) (b c p T n : Nat) (S : ByteArray) (s0 : LSt) (g : Nat) (i : Value) (wr : World) : Prop := ∃ (k : Nat) (v : Value) (l : List Mp), k + g = n ∧ i = .int .i64 (k : Int) ∧ l.map Mp.x = (Rs.rds k s0).1 ∧ RfIn w w2 b c p (RefL b S) T (Rs.rds k s0).2 v v l wr
set_option maxRecDepth 100000 in
set_option maxHeartbeats 16000000 in
theorem r20Read_any (b : Nat) (S : ByteArray) (s : LSt) (w : World) (h : RefL b S s w) (hS : S.size ≤ 1000000) (hok : lOk s) : Calls Tryz.prog 8 #[.pointer (some ⟨b, 0, none⟩)] w (RfPost (RefL b S) b s w) := by
  have HKS := Rs.lOk_readS hok
  have HN8 := Lib.hid (show ∀ W, RefL b S s W → Calls Tryz.prog 21 #[.pointer (some ⟨b, 0, none⟩), .int .i64 8] W (RPostL b S W (.int .u64 ((Rs.readT s : Nat) : Int)) (lRaw s 8)) from fun W h => rinum_l b S s 8 8 W (by omega) rfl h hS)
  have HN1 := Lib.hid (show ∀ W, RefL b S (lRaw s 8) W → Calls Tryz.prog 21 #[.pointer (some ⟨b, 0, none⟩), .int .i64 1] W (RPostL b S W (.int .u64 ((Rs.readN s : Nat) : Int)) (lRaw (lRaw s 8) 1)) from fun W h => rinum_l b S (lRaw s 8) 1 1 W (by omega) rfl h hS)
  have HF6 := Lib.hid (fun W h => rifail_l b S (lRaw (lRaw s 8) 1) 6 W h)
  have HF7 := Lib.hid (fun W h => rifail_l b S (lRaw (lRaw s 8) 1) 7 W h)
  have HF67 := Lib.hid (fun W h => rifail_l b S (lFail (lRaw (lRaw s 8) 1) 6) 7 W h)
  rw [lFail_twice67] at HF67
  have HI0 := Lib.hid ((rdr_ref b S).on h (alloc1B w (.cells #[.int .u64 0, .slice none 0 0] 38)))
  have hbw : b < w.heap.size := (rdr_ref b S).lt h
  have hT := Rs.readT_lt s
  have hN := Rs.readN_lt s
  have HSS := Lib.hid (show Rs.readS s = Rs.mid (Rs.readT s) (Rs.readN s) (lRaw (lRaw s 8) 1) from rfl)
  have HPOST := Lib.hid (fun (e : Ending) (W : World) (h : ∃ (A : Option Addr) (c : Nat) (ps : List Mp), e = .returned (.agg #[.int .u64 ((Rs.readA s).1 : Int), .slice A ps.length c]) ∧ ps.map Mp.x = (Rs.readA s).2 ∧ ps.length ≤ c ∧ (A = none → c = 0) ∧ Mas W A ps ∧ (∀ a, A = some a → w.heap.size ≤ a.block) ∧ (∀ q ∈ ps, q.x.head ≠ [] → ∀ a, q.A = some a → w.heap.size ≤ a.block) ∧ RefL b S (Rs.readE s) W ∧ w.grownBy W (some b)) => show RfPost (RefL b S) b s w e W from h)
  have HAA := Lib.hid (show Rs.readA s = if (Rs.rds (Rs.readN s) (Rs.readS s)).2.2 ≠ 0 then (0, []) else (Rs.readT s, (Rs.rds (Rs.readN s) (Rs.readS s)).1) from rfl)
  have HEE := Lib.hid (show Rs.readE s = (Rs.rds (Rs.readN s) (Rs.readS s)).2 from rfl)
  obtain ⟨iM, hiM, hzM0, hzM1, hzM2⟩ := info_parts infoMl
  have HC0 := Lib.hid (BoxC.new (w := w) (W := w) (Nat.le_refl _) #[.int .u64 0, .slice none 0 0] 38)
  have HG0 := Lib.hid (Rw.gb (alloc1B w (.cells #[.int .u64 0, .slice none 0 0] 38)) (some b))
  clear h
  generalize RfPost (RefL b S) b s w = POST at *
  generalize Rs.readA s = RA at *
  generalize Rs.readE s = RE at *
  generalize Rs.readS s = s0 at *
  generalize Rs.readT s = T at *
  generalize Rs.readN s = n at *
  go_enter Tryz.func8, Tryz.ntmps8
  go_wp2_with fail
  refine (HN8.out _ HI0.out).mono ?_
  rintro e w1 ⟨rfl, hi1, hg1⟩
  have HC1 := Lib.hid (HC0.out.keptR hg1 (fun e => by have := Option.some.inj e; omega))
  have HG1 := Lib.hid (HG0.out.trans hg1)
  have HA1 := Lib.hid (alloc1B w1 (.cells #[.int .u64 (T : Int), .slice none 0 0] 38))
  have hlb : w.heap.size < w1.heap.size := HC1.out.lt
  have HI1 := Lib.hid ((rdr_ref b S).on hi1 HA1.out)
  clear hi1 hg1
  go_wp2_with fail
  refine (HN1.out _ HI1.out).mono ?_
  rintro e w3 ⟨rfl, hi3, hg3⟩
  have HC3 := Lib.hid ((HC1.out.on HA1.out).keptR hg3 (fun e => by have := Option.some.inj e; omega))
  have HP3 := Lib.hid ((BoxC.new (w := w) (W := w1) (Nat.le_of_lt hlb) #[.int .u64 (T : Int), .slice none 0 0] 38).keptR hg3 (fun e => by have := Option.some.inj e; omega))
  have HG3 := Lib.hid ((HG1.out.trans (Rw.gb HA1.out (some b))).trans hg3)
  have HI3 := Lib.hid hi3
  clear hi3 hg3 HC0 HG0 HC1 HG1 HI0 HI1 HA1
  generalize w1.heap.size = p at *
  have e0 := HP3.out.cs 0 _ rfl
  have el := HP3.out.lt
  clear HN8 HN1
  have hKS : lOk s0 := HKS
  by_cases h32 : 16 < n
  · by_cases hT1 : n = T
    · have hs0 : s0 = lFail (lRaw (lRaw s 8) 1) 6 := by rw [HSS.out]; unfold Rs.mid; rw [if_pos h32]
      have dT : ((n : Int) != (T : Int)) = false := by rw [bne_eq_false_iff_eq]; omega
      have dL : decide (16 < (n : Int)) = true := decide_eq_true (by omega)
      clear hT1 h32
      go_wp2_with fail
      refine (HF6.out _ HI3.out).mono ?_
      rintro e w5 ⟨rfl, hi5, hg5x⟩
      rw [← hs0] at hi5
      have hc5 := HC3.out.keptR hg5x (fun e => by have := Option.some.inj e; omega)
      have hp5 := HP3.out.keptR hg5x (fun e => by have := Option.some.inj e; omega)
      have hg5 := HG3.out.trans hg5x
      clear e0 el
      have e0 := hp5.cs 0 _ rfl
      have el := hp5.lt
      clear hs0 hg5x HSS HC3 HP3 HG3 HI3 HF6 HF7 HF67
      go_wp2_with fail
      clear e0 el
      have HI5 := Lib.hid (show RfIn w w5 b w.heap.size p (RefL b S) T (Rs.rds 0 s0).2 (.slice none 0 0) (.slice none 0 0) [] w5 from ⟨hi5, hc5, hp5, World.ownsRow_nil _ _ _ _, (fun q hq => by simp at hq), hg5, ⟨hbw, hc5.lt, hp5.lt, by omega, hg5.size, Nat.le_refl _⟩⟩)
      clear hi5 hc5 hp5 hg5
      go_loopg [5] n (fun g i wr => RrSt w w5 b w.heap.size p T n S s0 g i wr)
      case atStart => exact ⟨0, _, [], by omega, rfl, rfl, HI5.out⟩
      case round =>
        obtain ⟨k, v, l, hk, rfl, hlx, hI⟩ := hrel
        have HK := Lib.hid hk
        have HI := Lib.hid hI
        have hlen : l.length = k := by rw [← List.length_map (f := Mp.x), hlx]; exact Rs.rds_len k s0
        obtain ⟨Av, cv, rfl, -, -⟩ := Rw.own_cells hI.own
        rw [hlen] at HI
        have f0 := HI.out.rp.cs 0 _ rfl
        have f1 := HI.out.rp.cs 1 _ rfl
        have ff : ∀ j, wr.frozen? ⟨p, j, none⟩ = false := HI.out.rp.s
        have fl := HI.out.rp.lt
        have e0 := HI.out.rc.cs 0 _ rfl
        have e1 := HI.out.rc.cs 1 _ rfl
        have ef : ∀ j, wr.frozen? ⟨w.heap.size, j, none⟩ = false := HI.out.rc.s
        have el := HI.out.rc.lt
        have hcd := HI.out.ri.code
        have HLX := Lib.hid hlx
        have HKL := Lib.hid hlen
        have HOW := Lib.hid HI.out.own
        rw [hlen] at HOW
        obtain ⟨l1, l2, l3, l4, l5, l6⟩ := HI.out.lt
        have HSTOP := Lib.hid (fun he m => Rs.rds_stop hKS (k := k) he m)
        have HSN := Lib.hid (Rs.rds_snoc k s0)
        have HCO := Lib.hid (Rs.rds_code k hKS)
        have hki := Rs.lOk_rds k hKS
        clear hk hI hlx hlen
        by_cases he : (Rs.rds k s0).2.2 = 0
        · have d0 : ((Rs.rds k s0).2.2 == 0) = true := by rw [he]; rfl
          have d1 : ((Rs.rds k s0).2.2 != 0) = false := by rw [he]; rfl
          have HCE := Lib.hid (HCO.out he)
          by_cases hlt : k < n
          · clear HSTOP he d1 HCO HCE
            generalize Rs.rds k s0 = R0 at *
            obtain ⟨r0, s2⟩ := R0
            simp only at HSN HI HLX hki hcd d0
            have HRD := Lib.hid (fun W h => r13Read_any b S s2 W hki hS h)
            unfold MaRdPost at HRD
            obtain ⟨y, hy⟩ : ∃ y, (Ml.rd s2).1 = y := ⟨_, rfl⟩
            obtain ⟨s3, hs3⟩ : ∃ s3, (Ml.rd s2).2 = s3 := ⟨_, rfl⟩
            rw [hy, hs3] at HRD HSN
            simp only [maV] at HRD
            clear hy hs3 hki
            have hk8 : k ≤ 300 := by omega
            go_wp2_with fail
            go_region_law (first
              | (refine step_append_lies _ (by rfl) _ _ _ (by rfl) w5.heap.size 25 iM _ 7 96 Tryz.underlying33 hiM hzM0 hzM1 hzM2 rfl (by omega) (.slice Av k cv) k (mcs l) (by rfl) HO6.out ⟨w6.heap.size, 0, none⟩ 1 1 (mcs [(⟨y, Ay, cy⟩ : Mp)]) (by rfl) (by rfl) HNW.out (mcs_one _) (by omega) (by unfold maxLen; omega) (by omega) HS6.out w6.heap.size.succ (by simp) ?_; intro gg cap w7 hown hgrow hat hlt7; rw [← mcs_app] at hown; have hm7 := HM6.out.append (rdr_ref b S) (q0 := ⟨y, Ay, cy⟩) HQ0.out hgrow (by rw [List.length_append, HKL.out]; exact hown) (by simpa using hat); have HX := Lib.hid (hm7.store (rdr_ref b S)); have f1 := hm7.rp.cs 1 _ rfl; have ff : ∀ j, w7.frozen? ⟨p, j, none⟩ = false := hm7.rp.s; have fl := hm7.rp.lt; clear hown hgrow hat hlt7 hm7)
              | (go_simp; go_at_call 23; refine (HRD.out _ ((rdr_ref b S).on HI.out.ri ((Below.refl _ _).drew))).mono ?_; rintro e w6 ⟨Ay, cy, rfl, hlc, hpr, hi6, hg6, hna⟩; have hm6 := (HI.out.on (rdr_ref b S) ((Below.refl _ _).drew)).step hi6 hg6; have f1 := hm6.rp.cs 1 _ rfl; have fl := hm6.rp.lt; have HM6 := Lib.hid (hm6.on (rdr_ref b S) (alloc1B w6 (.cells #[.int .u64 (y.id : Int), .string (ofL y.shop), .string (ofL y.key), .slice Ay y.head.length cy, .string (ofL y.body), .int .u64 (y.due : Int), .int .u8 (y.hops : Int)] 25))); have HO6 := Lib.hid HM6.out.own; rw [HKL.out] at HO6; have HS6 := Lib.hid HM6.out.lt.2.2.2.2.2; have HNW := Lib.hid (show ∀ jj u, (mcs [(⟨y, Ay, cy⟩ : Mp)])[jj]? = some u → (w6.alloc (.cells #[.int .u64 (y.id : Int), .string (ofL y.shop), .string (ofL y.key), .slice Ay y.head.length cy, .string (ofL y.body), .int .u64 (y.due : Int), .int .u8 (y.hops : Int)] 25)).cell? ((⟨w6.heap.size, 0, none⟩ : Addr).add jj) = some u from fun jj u hu => by rw [mcs_one1] at hu; rw [rws_add, Nat.zero_add]; exact (World.cell?_alloc_new w6 #[.int .u64 (y.id : Int), .string (ofL y.shop), .string (ofL y.key), .slice Ay y.head.length cy, .string (ofL y.body), .int .u64 (y.due : Int), .int .u8 (y.hops : Int)] 25 jj).trans (by simpa [mpL, maL] using hu)); have HQ0 := Lib.hid (show Prs (w6.alloc (.cells #[.int .u64 (y.id : Int), .string (ofL y.shop), .string (ofL y.key), .slice Ay y.head.length cy, .string (ofL y.body), .int .u64 (y.due : Int), .int .u8 (y.hops : Int)] 25)) Ay y.head ∧ y.head.length ≤ cy ∧ (y.head ≠ [] → ∀ a, Ay = some a → w5.heap.size ≤ a.block ∧ (Value.slice Av k cv).ownBlock ≠ some a.block) from ⟨hpr.on (alloc1B _ _), hlc, fun _ a ha => ⟨Nat.le_trans HI.out.lt.2.2.2.2.2 (hna a ha), fun e => by have h1 := (HOW.out.lt _ e).2; have h2 : wr.heap.size ≤ a.block := hna a ha; omega⟩⟩); clear hi6 hg6 hm6 hlc hpr hna))
            all_goals (
              go_wp2_with fail
              go_roundg (gk - 1)
              case rel => exact ⟨k + 1, _, l ++ [⟨y, Ay, cy⟩], by have := HK.out; omega, by go_num, by rw [HSN.out, List.map_append, HLX.out]; rfl, by rw [HSN.out]; exact HX.out⟩
              case measure => have := HK.out; omega)
          · have hkn : k = n := by have := HK.out; omega
            rw [← hkn] at HAA HEE
            clear hkn
            rw [if_neg (by simp [he])] at HAA
            clear HSTOP he HSN HCO hki
            generalize Rs.rds k s0 = R0 at *
            obtain ⟨r0, s2⟩ := R0
            simp only at HI HLX HAA HEE HCE hcd d1
            go_wp2_with fail
            have hd := HI.out.rc.fill [.int .u64 (T : Int), .slice Av k cv] rfl
            simp only [putAll] at hd
            have g0 := hd.cs 0 _ rfl
            have g1 := hd.cs 1 _ rfl
            refine bodyPost_ret (v := .agg #[.int .u64 (T : Int), .slice Av k cv]) (by simp [results, Tryz.results8, go_sem, g0, g1]) rfl (HPOST.out _ _ ?_)
            obtain ⟨A9, c9, e9, hc9, hn9, hr9, hb9⟩ := Rws.of_own HOW.out
            obtain ⟨rfl, -, rfl⟩ := Value.slice.inj e9
            rw [HAA.out, HEE.out]
            have hg2 : wr.grownBy ((wr.setCell ⟨w.heap.size, 0, none⟩ (.int .u64 (T : Int))).setCell ⟨w.heap.size, 1, none⟩ (.slice Av k cv)) (some w.heap.size) := only_setCell (p := ⟨w.heap.size, 1, none⟩) (only_setCell (p := ⟨w.heap.size, 0, none⟩) (World.grownBy.refl wr _) rfl _) rfl _
            refine ⟨Av, cv, l, by rw [HKL.out], HLX.out, by rw [HKL.out]; exact hc9, hn9, ⟨hr9.keptR hg2 (fun a ha e => by have := (hb9 a ha).1; have := Option.some.inj e; omega), fun q hq => ?_⟩, fun a ha => by have := (hb9 a ha).1; omega, fun q hq hh a ha => Nat.le_trans l5 ((HI.out.hd q hq).2.2 hh a ha).1, (rdr_ref b S).put ((rdr_ref b S).put HI.out.ri (by omega) 0 _) (by omega) 1 _, grown_far (grown_far HI.out.G (Nat.le_refl _) 0 _) (Nat.le_refl _) 1 _⟩
            have hqx : q.x ∈ r0 := by rw [← HLX.out]; exact List.mem_map.2 ⟨q, hq, rfl⟩
            have hcq := HCE.out q.x hqx
            have hpq : Prs ((wr.setCell ⟨w.heap.size, 0, none⟩ (.int .u64 (T : Int))).setCell ⟨w.heap.size, 1, none⟩ (.slice Av k cv)) q.A q.x.head := by
              by_cases e : q.x.head = []
              · rw [e]; exact Prs.nil _ _
              · exact (HI.out.hd q hq).1.grown hg2 (fun a ha e2 => by have := ((HI.out.hd q hq).2.2 e a ha).1; have := Option.some.inj e2; omega)
            exact maOk_code hcq (HI.out.hd q hq).2.1 hpq
        · have d0 : ((Rs.rds k s0).2.2 == 0) = false := by rw [beq_eq_false_iff_ne]; exact he
          have d1 : ((Rs.rds k s0).2.2 != 0) = true := by rw [bne_iff_ne]; exact he
          have hst := HSTOP.out he (n - k)
          rw [show k + (n - k) = n by have := HK.out; omega] at hst
          rw [hst] at HAA HEE
          rw [if_pos he] at HAA
          clear HSTOP he HSN hst HCO hki
          generalize Rs.rds k s0 = R0 at *
          obtain ⟨r0, s2⟩ := R0
          simp only at HI HLX HAA HEE hcd d0 d1
          by_cases hlt : k < n
          · go_wp2_with fail
            have hd := HI.out.rc.fill [.int .u64 0, .slice none 0 0] rfl
            simp only [putAll] at hd
            have g0 := hd.cs 0 _ rfl
            have g1 := hd.cs 1 _ rfl
            refine bodyPost_ret (v := .agg #[.int .u64 0, .slice none 0 0]) (by simp [results, Tryz.results8, go_sem, g0, g1]) rfl (HPOST.out _ _ ?_)
            rw [HAA.out, HEE.out]
            exact ⟨none, 0, [], rfl, rfl, Nat.le_refl _, fun _ => rfl, Mas.nil _ _, (fun a ha => by cases ha), (fun q hq => by simp at hq), (rdr_ref b S).put ((rdr_ref b S).put HI.out.ri (by omega) 0 _) (by omega) 1 _, grown_far (grown_far HI.out.G (Nat.le_refl _) 0 _) (Nat.le_refl _) 1 _⟩
          · go_wp2_with fail
            have hd := HI.out.rc.fill [.int .u64 0, .slice none 0 0] rfl
            simp only [putAll] at hd
            have g0 := hd.cs 0 _ rfl
            have g1 := hd.cs 1 _ rfl
            refine bodyPost_ret (v := .agg #[.int .u64 0, .slice none 0 0]) (by simp [results, Tryz.results8, go_sem, g0, g1]) rfl (HPOST.out _ _ ?_)
            rw [HAA.out, HEE.out]
            exact ⟨none, 0, [], rfl, rfl, Nat.le_refl _, fun _ => rfl, Mas.nil _ _, (fun a ha => by cases ha), (fun q hq => by simp at hq), (rdr_ref b S).put ((rdr_ref b S).put HI.out.ri (by omega) 0 _) (by omega) 1 _, grown_far (grown_far HI.out.G (Nat.le_refl _) 0 _) (Nat.le_refl _) 1 _⟩
    · have hs0 : s0 = lFail (lRaw (lRaw s 8) 1) 6 := by rw [HSS.out]; unfold Rs.mid; rw [if_pos h32]
      have dT : ((n : Int) != (T : Int)) = true := by rw [bne_iff_ne]; omega
      have dN : ((n : Int) == 16) = false := by rw [beq_eq_false_iff_ne]; omega
      have dL : decide (16 < (n : Int)) = true := decide_eq_true (by omega)
      clear hT1 h32
      go_wp2_with fail
      refine (HF6.out _ HI3.out).mono ?_
      rintro e w4 ⟨rfl, hi4, hg4x⟩
      have hc4 := HC3.out.keptR hg4x (fun e => by have := Option.some.inj e; omega)
      have hp4 := HP3.out.keptR hg4x (fun e => by have := Option.some.inj e; omega)
      have hg4 := HG3.out.trans hg4x
      clear e0 el
      have e0 := hp4.cs 0 _ rfl
      have el := hp4.lt
      go_wp2_with fail
      refine (HF67.out _ hi4).mono ?_
      rintro e w5 ⟨rfl, hi5, hg5x⟩
      rw [← hs0] at hi5
      have hc5 := hc4.keptR hg5x (fun e => by have := Option.some.inj e; omega)
      have hp5 := hp4.keptR hg5x (fun e => by have := Option.some.inj e; omega)
      have hg5 := hg4.trans hg5x
      clear hs0 hg5x e0 el hi4 hg4x hc4 hp4 hg4 HSS HC3 HP3 HG3 HI3 HF6 HF7 HF67
      go_wp2_with fail
      have HI5 := Lib.hid (show RfIn w w5 b w.heap.size p (RefL b S) T (Rs.rds 0 s0).2 (.slice none 0 0) (.slice none 0 0) [] w5 from ⟨hi5, hc5, hp5, World.ownsRow_nil _ _ _ _, (fun q hq => by simp at hq), hg5, ⟨hbw, hc5.lt, hp5.lt, by omega, hg5.size, Nat.le_refl _⟩⟩)
      clear hi5 hc5 hp5 hg5
      go_loopg [5] n (fun g i wr => RrSt w w5 b w.heap.size p T n S s0 g i wr)
      case atStart => exact ⟨0, _, [], by omega, rfl, rfl, HI5.out⟩
      case round =>
        obtain ⟨k, v, l, hk, rfl, hlx, hI⟩ := hrel
        have HK := Lib.hid hk
        have HI := Lib.hid hI
        have hlen : l.length = k := by rw [← List.length_map (f := Mp.x), hlx]; exact Rs.rds_len k s0
        obtain ⟨Av, cv, rfl, -, -⟩ := Rw.own_cells hI.own
        rw [hlen] at HI
        have f0 := HI.out.rp.cs 0 _ rfl
        have f1 := HI.out.rp.cs 1 _ rfl
        have ff : ∀ j, wr.frozen? ⟨p, j, none⟩ = false := HI.out.rp.s
        have fl := HI.out.rp.lt
        have e0 := HI.out.rc.cs 0 _ rfl
        have e1 := HI.out.rc.cs 1 _ rfl
        have ef : ∀ j, wr.frozen? ⟨w.heap.size, j, none⟩ = false := HI.out.rc.s
        have el := HI.out.rc.lt
        have hcd := HI.out.ri.code
        have HLX := Lib.hid hlx
        have HKL := Lib.hid hlen
        have HOW := Lib.hid HI.out.own
        rw [hlen] at HOW
        obtain ⟨l1, l2, l3, l4, l5, l6⟩ := HI.out.lt
        have HSTOP := Lib.hid (fun he m => Rs.rds_stop hKS (k := k) he m)
        have HSN := Lib.hid (Rs.rds_snoc k s0)
        have HCO := Lib.hid (Rs.rds_code k hKS)
        have hki := Rs.lOk_rds k hKS
        clear hk hI hlx hlen
        by_cases he : (Rs.rds k s0).2.2 = 0
        · have d0 : ((Rs.rds k s0).2.2 == 0) = true := by rw [he]; rfl
          have d1 : ((Rs.rds k s0).2.2 != 0) = false := by rw [he]; rfl
          have HCE := Lib.hid (HCO.out he)
          by_cases hlt : k < n
          · clear HSTOP he d1 HCO HCE
            generalize Rs.rds k s0 = R0 at *
            obtain ⟨r0, s2⟩ := R0
            simp only at HSN HI HLX hki hcd d0
            have HRD := Lib.hid (fun W h => r13Read_any b S s2 W hki hS h)
            unfold MaRdPost at HRD
            obtain ⟨y, hy⟩ : ∃ y, (Ml.rd s2).1 = y := ⟨_, rfl⟩
            obtain ⟨s3, hs3⟩ : ∃ s3, (Ml.rd s2).2 = s3 := ⟨_, rfl⟩
            rw [hy, hs3] at HRD HSN
            simp only [maV] at HRD
            clear hy hs3 hki
            have hk8 : k ≤ 300 := by omega
            go_wp2_with fail
            go_region_law (first
              | (refine step_append_lies _ (by rfl) _ _ _ (by rfl) w5.heap.size 25 iM _ 7 96 Tryz.underlying33 hiM hzM0 hzM1 hzM2 rfl (by omega) (.slice Av k cv) k (mcs l) (by rfl) HO6.out ⟨w6.heap.size, 0, none⟩ 1 1 (mcs [(⟨y, Ay, cy⟩ : Mp)]) (by rfl) (by rfl) HNW.out (mcs_one _) (by omega) (by unfold maxLen; omega) (by omega) HS6.out w6.heap.size.succ (by simp) ?_; intro gg cap w7 hown hgrow hat hlt7; rw [← mcs_app] at hown; have hm7 := HM6.out.append (rdr_ref b S) (q0 := ⟨y, Ay, cy⟩) HQ0.out hgrow (by rw [List.length_append, HKL.out]; exact hown) (by simpa using hat); have HX := Lib.hid (hm7.store (rdr_ref b S)); have f1 := hm7.rp.cs 1 _ rfl; have ff : ∀ j, w7.frozen? ⟨p, j, none⟩ = false := hm7.rp.s; have fl := hm7.rp.lt; clear hown hgrow hat hlt7 hm7)
              | (go_simp; go_at_call 23; refine (HRD.out _ ((rdr_ref b S).on HI.out.ri ((Below.refl _ _).drew))).mono ?_; rintro e w6 ⟨Ay, cy, rfl, hlc, hpr, hi6, hg6, hna⟩; have hm6 := (HI.out.on (rdr_ref b S) ((Below.refl _ _).drew)).step hi6 hg6; have f1 := hm6.rp.cs 1 _ rfl; have fl := hm6.rp.lt; have HM6 := Lib.hid (hm6.on (rdr_ref b S) (alloc1B w6 (.cells #[.int .u64 (y.id : Int), .string (ofL y.shop), .string (ofL y.key), .slice Ay y.head.length cy, .string (ofL y.body), .int .u64 (y.due : Int), .int .u8 (y.hops : Int)] 25))); have HO6 := Lib.hid HM6.out.own; rw [HKL.out] at HO6; have HS6 := Lib.hid HM6.out.lt.2.2.2.2.2; have HNW := Lib.hid (show ∀ jj u, (mcs [(⟨y, Ay, cy⟩ : Mp)])[jj]? = some u → (w6.alloc (.cells #[.int .u64 (y.id : Int), .string (ofL y.shop), .string (ofL y.key), .slice Ay y.head.length cy, .string (ofL y.body), .int .u64 (y.due : Int), .int .u8 (y.hops : Int)] 25)).cell? ((⟨w6.heap.size, 0, none⟩ : Addr).add jj) = some u from fun jj u hu => by rw [mcs_one1] at hu; rw [rws_add, Nat.zero_add]; exact (World.cell?_alloc_new w6 #[.int .u64 (y.id : Int), .string (ofL y.shop), .string (ofL y.key), .slice Ay y.head.length cy, .string (ofL y.body), .int .u64 (y.due : Int), .int .u8 (y.hops : Int)] 25 jj).trans (by simpa [mpL, maL] using hu)); have HQ0 := Lib.hid (show Prs (w6.alloc (.cells #[.int .u64 (y.id : Int), .string (ofL y.shop), .string (ofL y.key), .slice Ay y.head.length cy, .string (ofL y.body), .int .u64 (y.due : Int), .int .u8 (y.hops : Int)] 25)) Ay y.head ∧ y.head.length ≤ cy ∧ (y.head ≠ [] → ∀ a, Ay = some a → w5.heap.size ≤ a.block ∧ (Value.slice Av k cv).ownBlock ≠ some a.block) from ⟨hpr.on (alloc1B _ _), hlc, fun _ a ha => ⟨Nat.le_trans HI.out.lt.2.2.2.2.2 (hna a ha), fun e => by have h1 := (HOW.out.lt _ e).2; have h2 : wr.heap.size ≤ a.block := hna a ha; omega⟩⟩); clear hi6 hg6 hm6 hlc hpr hna))
            all_goals (
              go_wp2_with fail
              go_roundg (gk - 1)
              case rel => exact ⟨k + 1, _, l ++ [⟨y, Ay, cy⟩], by have := HK.out; omega, by go_num, by rw [HSN.out, List.map_append, HLX.out]; rfl, by rw [HSN.out]; exact HX.out⟩
              case measure => have := HK.out; omega)
          · have hkn : k = n := by have := HK.out; omega
            rw [← hkn] at HAA HEE
            clear hkn
            rw [if_neg (by simp [he])] at HAA
            clear HSTOP he HSN HCO hki
            generalize Rs.rds k s0 = R0 at *
            obtain ⟨r0, s2⟩ := R0
            simp only at HI HLX HAA HEE HCE hcd d1
            go_wp2_with fail
            have hd := HI.out.rc.fill [.int .u64 (T : Int), .slice Av k cv] rfl
            simp only [putAll] at hd
            have g0 := hd.cs 0 _ rfl
            have g1 := hd.cs 1 _ rfl
            refine bodyPost_ret (v := .agg #[.int .u64 (T : Int), .slice Av k cv]) (by simp [results, Tryz.results8, go_sem, g0, g1]) rfl (HPOST.out _ _ ?_)
            obtain ⟨A9, c9, e9, hc9, hn9, hr9, hb9⟩ := Rws.of_own HOW.out
            obtain ⟨rfl, -, rfl⟩ := Value.slice.inj e9
            rw [HAA.out, HEE.out]
            have hg2 : wr.grownBy ((wr.setCell ⟨w.heap.size, 0, none⟩ (.int .u64 (T : Int))).setCell ⟨w.heap.size, 1, none⟩ (.slice Av k cv)) (some w.heap.size) := only_setCell (p := ⟨w.heap.size, 1, none⟩) (only_setCell (p := ⟨w.heap.size, 0, none⟩) (World.grownBy.refl wr _) rfl _) rfl _
            refine ⟨Av, cv, l, by rw [HKL.out], HLX.out, by rw [HKL.out]; exact hc9, hn9, ⟨hr9.keptR hg2 (fun a ha e => by have := (hb9 a ha).1; have := Option.some.inj e; omega), fun q hq => ?_⟩, fun a ha => by have := (hb9 a ha).1; omega, fun q hq hh a ha => Nat.le_trans l5 ((HI.out.hd q hq).2.2 hh a ha).1, (rdr_ref b S).put ((rdr_ref b S).put HI.out.ri (by omega) 0 _) (by omega) 1 _, grown_far (grown_far HI.out.G (Nat.le_refl _) 0 _) (Nat.le_refl _) 1 _⟩
            have hqx : q.x ∈ r0 := by rw [← HLX.out]; exact List.mem_map.2 ⟨q, hq, rfl⟩
            have hcq := HCE.out q.x hqx
            have hpq : Prs ((wr.setCell ⟨w.heap.size, 0, none⟩ (.int .u64 (T : Int))).setCell ⟨w.heap.size, 1, none⟩ (.slice Av k cv)) q.A q.x.head := by
              by_cases e : q.x.head = []
              · rw [e]; exact Prs.nil _ _
              · exact (HI.out.hd q hq).1.grown hg2 (fun a ha e2 => by have := ((HI.out.hd q hq).2.2 e a ha).1; have := Option.some.inj e2; omega)
            exact maOk_code hcq (HI.out.hd q hq).2.1 hpq
        · have d0 : ((Rs.rds k s0).2.2 == 0) = false := by rw [beq_eq_false_iff_ne]; exact he
          have d1 : ((Rs.rds k s0).2.2 != 0) = true := by rw [bne_iff_ne]; exact he
          have hst := HSTOP.out he (n - k)
          rw [show k + (n - k) = n by have := HK.out; omega] at hst
          rw [hst] at HAA HEE
          rw [if_pos he] at HAA
          clear HSTOP he HSN hst HCO hki
          generalize Rs.rds k s0 = R0 at *
          obtain ⟨r0, s2⟩ := R0
          simp only at HI HLX HAA HEE hcd d0 d1
          by_cases hlt : k < n
          · go_wp2_with fail
            have hd := HI.out.rc.fill [.int .u64 0, .slice none 0 0] rfl
            simp only [putAll] at hd
            have g0 := hd.cs 0 _ rfl
            have g1 := hd.cs 1 _ rfl
            refine bodyPost_ret (v := .agg #[.int .u64 0, .slice none 0 0]) (by simp [results, Tryz.results8, go_sem, g0, g1]) rfl (HPOST.out _ _ ?_)
            rw [HAA.out, HEE.out]
            exact ⟨none, 0, [], rfl, rfl, Nat.le_refl _, fun _ => rfl, Mas.nil _ _, (fun a ha => by cases ha), (fun q hq => by simp at hq), (rdr_ref b S).put ((rdr_ref b S).put HI.out.ri (by omega) 0 _) (by omega) 1 _, grown_far (grown_far HI.out.G (Nat.le_refl _) 0 _) (Nat.le_refl _) 1 _⟩
          · go_wp2_with fail
            have hd := HI.out.rc.fill [.int .u64 0, .slice none 0 0] rfl
            simp only [putAll] at hd
            have g0 := hd.cs 0 _ rfl
            have g1 := hd.cs 1 _ rfl
            refine bodyPost_ret (v := .agg #[.int .u64 0, .slice none 0 0]) (by simp [results, Tryz.results8, go_sem, g0, g1]) rfl (HPOST.out _ _ ?_)
            rw [HAA.out, HEE.out]
            exact ⟨none, 0, [], rfl, rfl, Nat.le_refl _, fun _ => rfl, Mas.nil _ _, (fun a ha => by cases ha), (fun q hq => by simp at hq), (rdr_ref b S).put ((rdr_ref b S).put HI.out.ri (by omega) 0 _) (by omega) 1 _, grown_far (grown_far HI.out.G (Nat.le_refl _) 0 _) (Nat.le_refl _) 1 _⟩
  · by_cases hT1 : n = T
    · have hs0 : s0 = lRaw (lRaw s 8) 1 := by rw [HSS.out]; unfold Rs.mid; rw [if_neg (by omega), if_neg (by omega)]
      have dT : ((n : Int) != (T : Int)) = false := by rw [bne_eq_false_iff_eq]; omega
      have dL : decide (16 < (n : Int)) = false := decide_eq_false (by omega)
      clear hT1 h32
      have hi5 := HI3.out
      rw [← hs0] at hi5
      have hc5 := HC3.out
      have hp5 := HP3.out
      have hg5 := HG3.out
      clear hs0 HSS HC3 HP3 HG3 HI3 HF6 HF7 HF67
      go_wp2_with fail
      clear e0 el
      generalize w3 = w5 at *
      have HI5 := Lib.hid (show RfIn w w5 b w.heap.size p (RefL b S) T (Rs.rds 0 s0).2 (.slice none 0 0) (.slice none 0 0) [] w5 from ⟨hi5, hc5, hp5, World.ownsRow_nil _ _ _ _, (fun q hq => by simp at hq), hg5, ⟨hbw, hc5.lt, hp5.lt, by omega, hg5.size, Nat.le_refl _⟩⟩)
      clear hi5 hc5 hp5 hg5
      go_loopg [5] n (fun g i wr => RrSt w w5 b w.heap.size p T n S s0 g i wr)
      case atStart => exact ⟨0, _, [], by omega, rfl, rfl, HI5.out⟩
      case round =>
        obtain ⟨k, v, l, hk, rfl, hlx, hI⟩ := hrel
        have HK := Lib.hid hk
        have HI := Lib.hid hI
        have hlen : l.length = k := by rw [← List.length_map (f := Mp.x), hlx]; exact Rs.rds_len k s0
        obtain ⟨Av, cv, rfl, -, -⟩ := Rw.own_cells hI.own
        rw [hlen] at HI
        have f0 := HI.out.rp.cs 0 _ rfl
        have f1 := HI.out.rp.cs 1 _ rfl
        have ff : ∀ j, wr.frozen? ⟨p, j, none⟩ = false := HI.out.rp.s
        have fl := HI.out.rp.lt
        have e0 := HI.out.rc.cs 0 _ rfl
        have e1 := HI.out.rc.cs 1 _ rfl
        have ef : ∀ j, wr.frozen? ⟨w.heap.size, j, none⟩ = false := HI.out.rc.s
        have el := HI.out.rc.lt
        have hcd := HI.out.ri.code
        have HLX := Lib.hid hlx
        have HKL := Lib.hid hlen
        have HOW := Lib.hid HI.out.own
        rw [hlen] at HOW
        obtain ⟨l1, l2, l3, l4, l5, l6⟩ := HI.out.lt
        have HSTOP := Lib.hid (fun he m => Rs.rds_stop hKS (k := k) he m)
        have HSN := Lib.hid (Rs.rds_snoc k s0)
        have HCO := Lib.hid (Rs.rds_code k hKS)
        have hki := Rs.lOk_rds k hKS
        clear hk hI hlx hlen
        by_cases he : (Rs.rds k s0).2.2 = 0
        · have d0 : ((Rs.rds k s0).2.2 == 0) = true := by rw [he]; rfl
          have d1 : ((Rs.rds k s0).2.2 != 0) = false := by rw [he]; rfl
          have HCE := Lib.hid (HCO.out he)
          by_cases hlt : k < n
          · clear HSTOP he d1 HCO HCE
            generalize Rs.rds k s0 = R0 at *
            obtain ⟨r0, s2⟩ := R0
            simp only at HSN HI HLX hki hcd d0
            have HRD := Lib.hid (fun W h => r13Read_any b S s2 W hki hS h)
            unfold MaRdPost at HRD
            obtain ⟨y, hy⟩ : ∃ y, (Ml.rd s2).1 = y := ⟨_, rfl⟩
            obtain ⟨s3, hs3⟩ : ∃ s3, (Ml.rd s2).2 = s3 := ⟨_, rfl⟩
            rw [hy, hs3] at HRD HSN
            simp only [maV] at HRD
            clear hy hs3 hki
            have hk8 : k ≤ 300 := by omega
            go_wp2_with fail
            go_region_law (first
              | (refine step_append_lies _ (by rfl) _ _ _ (by rfl) w5.heap.size 25 iM _ 7 96 Tryz.underlying33 hiM hzM0 hzM1 hzM2 rfl (by omega) (.slice Av k cv) k (mcs l) (by rfl) HO6.out ⟨w6.heap.size, 0, none⟩ 1 1 (mcs [(⟨y, Ay, cy⟩ : Mp)]) (by rfl) (by rfl) HNW.out (mcs_one _) (by omega) (by unfold maxLen; omega) (by omega) HS6.out w6.heap.size.succ (by simp) ?_; intro gg cap w7 hown hgrow hat hlt7; rw [← mcs_app] at hown; have hm7 := HM6.out.append (rdr_ref b S) (q0 := ⟨y, Ay, cy⟩) HQ0.out hgrow (by rw [List.length_append, HKL.out]; exact hown) (by simpa using hat); have HX := Lib.hid (hm7.store (rdr_ref b S)); have f1 := hm7.rp.cs 1 _ rfl; have ff : ∀ j, w7.frozen? ⟨p, j, none⟩ = false := hm7.rp.s; have fl := hm7.rp.lt; clear hown hgrow hat hlt7 hm7)
              | (go_simp; go_at_call 23; refine (HRD.out _ ((rdr_ref b S).on HI.out.ri ((Below.refl _ _).drew))).mono ?_; rintro e w6 ⟨Ay, cy, rfl, hlc, hpr, hi6, hg6, hna⟩; have hm6 := (HI.out.on (rdr_ref b S) ((Below.refl _ _).drew)).step hi6 hg6; have f1 := hm6.rp.cs 1 _ rfl; have fl := hm6.rp.lt; have HM6 := Lib.hid (hm6.on (rdr_ref b S) (alloc1B w6 (.cells #[.int .u64 (y.id : Int), .string (ofL y.shop), .string (ofL y.key), .slice Ay y.head.length cy, .string (ofL y.body), .int .u64 (y.due : Int), .int .u8 (y.hops : Int)] 25))); have HO6 := Lib.hid HM6.out.own; rw [HKL.out] at HO6; have HS6 := Lib.hid HM6.out.lt.2.2.2.2.2; have HNW := Lib.hid (show ∀ jj u, (mcs [(⟨y, Ay, cy⟩ : Mp)])[jj]? = some u → (w6.alloc (.cells #[.int .u64 (y.id : Int), .string (ofL y.shop), .string (ofL y.key), .slice Ay y.head.length cy, .string (ofL y.body), .int .u64 (y.due : Int), .int .u8 (y.hops : Int)] 25)).cell? ((⟨w6.heap.size, 0, none⟩ : Addr).add jj) = some u from fun jj u hu => by rw [mcs_one1] at hu; rw [rws_add, Nat.zero_add]; exact (World.cell?_alloc_new w6 #[.int .u64 (y.id : Int), .string (ofL y.shop), .string (ofL y.key), .slice Ay y.head.length cy, .string (ofL y.body), .int .u64 (y.due : Int), .int .u8 (y.hops : Int)] 25 jj).trans (by simpa [mpL, maL] using hu)); have HQ0 := Lib.hid (show Prs (w6.alloc (.cells #[.int .u64 (y.id : Int), .string (ofL y.shop), .string (ofL y.key), .slice Ay y.head.length cy, .string (ofL y.body), .int .u64 (y.due : Int), .int .u8 (y.hops : Int)] 25)) Ay y.head ∧ y.head.length ≤ cy ∧ (y.head ≠ [] → ∀ a, Ay = some a → w5.heap.size ≤ a.block ∧ (Value.slice Av k cv).ownBlock ≠ some a.block) from ⟨hpr.on (alloc1B _ _), hlc, fun _ a ha => ⟨Nat.le_trans HI.out.lt.2.2.2.2.2 (hna a ha), fun e => by have h1 := (HOW.out.lt _ e).2; have h2 : wr.heap.size ≤ a.block := hna a ha; omega⟩⟩); clear hi6 hg6 hm6 hlc hpr hna))
            all_goals (
              go_wp2_with fail
              go_roundg (gk - 1)
              case rel => exact ⟨k + 1, _, l ++ [⟨y, Ay, cy⟩], by have := HK.out; omega, by go_num, by rw [HSN.out, List.map_append, HLX.out]; rfl, by rw [HSN.out]; exact HX.out⟩
              case measure => have := HK.out; omega)
          · have hkn : k = n := by have := HK.out; omega
            rw [← hkn] at HAA HEE
            clear hkn
            rw [if_neg (by simp [he])] at HAA
            clear HSTOP he HSN HCO hki
            generalize Rs.rds k s0 = R0 at *
            obtain ⟨r0, s2⟩ := R0
            simp only at HI HLX HAA HEE HCE hcd d1
            go_wp2_with fail
            have hd := HI.out.rc.fill [.int .u64 (T : Int), .slice Av k cv] rfl
            simp only [putAll] at hd
            have g0 := hd.cs 0 _ rfl
            have g1 := hd.cs 1 _ rfl
            refine bodyPost_ret (v := .agg #[.int .u64 (T : Int), .slice Av k cv]) (by simp [results, Tryz.results8, go_sem, g0, g1]) rfl (HPOST.out _ _ ?_)
            obtain ⟨A9, c9, e9, hc9, hn9, hr9, hb9⟩ := Rws.of_own HOW.out
            obtain ⟨rfl, -, rfl⟩ := Value.slice.inj e9
            rw [HAA.out, HEE.out]
            have hg2 : wr.grownBy ((wr.setCell ⟨w.heap.size, 0, none⟩ (.int .u64 (T : Int))).setCell ⟨w.heap.size, 1, none⟩ (.slice Av k cv)) (some w.heap.size) := only_setCell (p := ⟨w.heap.size, 1, none⟩) (only_setCell (p := ⟨w.heap.size, 0, none⟩) (World.grownBy.refl wr _) rfl _) rfl _
            refine ⟨Av, cv, l, by rw [HKL.out], HLX.out, by rw [HKL.out]; exact hc9, hn9, ⟨hr9.keptR hg2 (fun a ha e => by have := (hb9 a ha).1; have := Option.some.inj e; omega), fun q hq => ?_⟩, fun a ha => by have := (hb9 a ha).1; omega, fun q hq hh a ha => Nat.le_trans l5 ((HI.out.hd q hq).2.2 hh a ha).1, (rdr_ref b S).put ((rdr_ref b S).put HI.out.ri (by omega) 0 _) (by omega) 1 _, grown_far (grown_far HI.out.G (Nat.le_refl _) 0 _) (Nat.le_refl _) 1 _⟩
            have hqx : q.x ∈ r0 := by rw [← HLX.out]; exact List.mem_map.2 ⟨q, hq, rfl⟩
            have hcq := HCE.out q.x hqx
            have hpq : Prs ((wr.setCell ⟨w.heap.size, 0, none⟩ (.int .u64 (T : Int))).setCell ⟨w.heap.size, 1, none⟩ (.slice Av k cv)) q.A q.x.head := by
              by_cases e : q.x.head = []
              · rw [e]; exact Prs.nil _ _
              · exact (HI.out.hd q hq).1.grown hg2 (fun a ha e2 => by have := ((HI.out.hd q hq).2.2 e a ha).1; have := Option.some.inj e2; omega)
            exact maOk_code hcq (HI.out.hd q hq).2.1 hpq
        · have d0 : ((Rs.rds k s0).2.2 == 0) = false := by rw [beq_eq_false_iff_ne]; exact he
          have d1 : ((Rs.rds k s0).2.2 != 0) = true := by rw [bne_iff_ne]; exact he
          have hst := HSTOP.out he (n - k)
          rw [show k + (n - k) = n by have := HK.out; omega] at hst
          rw [hst] at HAA HEE
          rw [if_pos he] at HAA
          clear HSTOP he HSN hst HCO hki
          generalize Rs.rds k s0 = R0 at *
          obtain ⟨r0, s2⟩ := R0
          simp only at HI HLX HAA HEE hcd d0 d1
          by_cases hlt : k < n
          · go_wp2_with fail
            have hd := HI.out.rc.fill [.int .u64 0, .slice none 0 0] rfl
            simp only [putAll] at hd
            have g0 := hd.cs 0 _ rfl
            have g1 := hd.cs 1 _ rfl
            refine bodyPost_ret (v := .agg #[.int .u64 0, .slice none 0 0]) (by simp [results, Tryz.results8, go_sem, g0, g1]) rfl (HPOST.out _ _ ?_)
            rw [HAA.out, HEE.out]
            exact ⟨none, 0, [], rfl, rfl, Nat.le_refl _, fun _ => rfl, Mas.nil _ _, (fun a ha => by cases ha), (fun q hq => by simp at hq), (rdr_ref b S).put ((rdr_ref b S).put HI.out.ri (by omega) 0 _) (by omega) 1 _, grown_far (grown_far HI.out.G (Nat.le_refl _) 0 _) (Nat.le_refl _) 1 _⟩
          · go_wp2_with fail
            have hd := HI.out.rc.fill [.int .u64 0, .slice none 0 0] rfl
            simp only [putAll] at hd
            have g0 := hd.cs 0 _ rfl
            have g1 := hd.cs 1 _ rfl
            refine bodyPost_ret (v := .agg #[.int .u64 0, .slice none 0 0]) (by simp [results, Tryz.results8, go_sem, g0, g1]) rfl (HPOST.out _ _ ?_)
            rw [HAA.out, HEE.out]
            exact ⟨none, 0, [], rfl, rfl, Nat.le_refl _, fun _ => rfl, Mas.nil _ _, (fun a ha => by cases ha), (fun q hq => by simp at hq), (rdr_ref b S).put ((rdr_ref b S).put HI.out.ri (by omega) 0 _) (by omega) 1 _, grown_far (grown_far HI.out.G (Nat.le_refl _) 0 _) (Nat.le_refl _) 1 _⟩
    · by_cases hn : n = 16
      · by_cases hg : 16 < T
        · have hs0 : s0 = lRaw (lRaw s 8) 1 := by rw [HSS.out]; unfold Rs.mid; rw [if_neg (by omega), if_neg (by omega)]
          have dT : ((n : Int) != (T : Int)) = true := by rw [bne_iff_ne]; omega
          have dN : ((n : Int) == 16) = true := by rw [beq_iff_eq]; omega
          have dG : decide (16 < (T : Int)) = true := decide_eq_true (by omega)
          have dL : decide (16 < (n : Int)) = false := decide_eq_false (by omega)
          clear hT1 h32 hn hg
          have hi5 := HI3.out
          rw [← hs0] at hi5
          have hc5 := HC3.out
          have hp5 := HP3.out
          have hg5 := HG3.out
          clear hs0 HSS HC3 HP3 HG3 HI3 HF6 HF7 HF67
          go_wp2_with fail
          clear e0 el
          generalize w3 = w5 at *
          have HI5 := Lib.hid (show RfIn w w5 b w.heap.size p (RefL b S) T (Rs.rds 0 s0).2 (.slice none 0 0) (.slice none 0 0) [] w5 from ⟨hi5, hc5, hp5, World.ownsRow_nil _ _ _ _, (fun q hq => by simp at hq), hg5, ⟨hbw, hc5.lt, hp5.lt, by omega, hg5.size, Nat.le_refl _⟩⟩)
          clear hi5 hc5 hp5 hg5
          go_loopg [5] n (fun g i wr => RrSt w w5 b w.heap.size p T n S s0 g i wr)
          case atStart => exact ⟨0, _, [], by omega, rfl, rfl, HI5.out⟩
          case round =>
            obtain ⟨k, v, l, hk, rfl, hlx, hI⟩ := hrel
            have HK := Lib.hid hk
            have HI := Lib.hid hI
            have hlen : l.length = k := by rw [← List.length_map (f := Mp.x), hlx]; exact Rs.rds_len k s0
            obtain ⟨Av, cv, rfl, -, -⟩ := Rw.own_cells hI.own
            rw [hlen] at HI
            have f0 := HI.out.rp.cs 0 _ rfl
            have f1 := HI.out.rp.cs 1 _ rfl
            have ff : ∀ j, wr.frozen? ⟨p, j, none⟩ = false := HI.out.rp.s
            have fl := HI.out.rp.lt
            have e0 := HI.out.rc.cs 0 _ rfl
            have e1 := HI.out.rc.cs 1 _ rfl
            have ef : ∀ j, wr.frozen? ⟨w.heap.size, j, none⟩ = false := HI.out.rc.s
            have el := HI.out.rc.lt
            have hcd := HI.out.ri.code
            have HLX := Lib.hid hlx
            have HKL := Lib.hid hlen
            have HOW := Lib.hid HI.out.own
            rw [hlen] at HOW
            obtain ⟨l1, l2, l3, l4, l5, l6⟩ := HI.out.lt
            have HSTOP := Lib.hid (fun he m => Rs.rds_stop hKS (k := k) he m)
            have HSN := Lib.hid (Rs.rds_snoc k s0)
            have HCO := Lib.hid (Rs.rds_code k hKS)
            have hki := Rs.lOk_rds k hKS
            clear hk hI hlx hlen
            by_cases he : (Rs.rds k s0).2.2 = 0
            · have d0 : ((Rs.rds k s0).2.2 == 0) = true := by rw [he]; rfl
              have d1 : ((Rs.rds k s0).2.2 != 0) = false := by rw [he]; rfl
              have HCE := Lib.hid (HCO.out he)
              by_cases hlt : k < n
              · clear HSTOP he d1 HCO HCE
                generalize Rs.rds k s0 = R0 at *
                obtain ⟨r0, s2⟩ := R0
                simp only at HSN HI HLX hki hcd d0
                have HRD := Lib.hid (fun W h => r13Read_any b S s2 W hki hS h)
                unfold MaRdPost at HRD
                obtain ⟨y, hy⟩ : ∃ y, (Ml.rd s2).1 = y := ⟨_, rfl⟩
                obtain ⟨s3, hs3⟩ : ∃ s3, (Ml.rd s2).2 = s3 := ⟨_, rfl⟩
                rw [hy, hs3] at HRD HSN
                simp only [maV] at HRD
                clear hy hs3 hki
                have hk8 : k ≤ 300 := by omega
                go_wp2_with fail
                go_region_law (first
                  | (refine step_append_lies _ (by rfl) _ _ _ (by rfl) w5.heap.size 25 iM _ 7 96 Tryz.underlying33 hiM hzM0 hzM1 hzM2 rfl (by omega) (.slice Av k cv) k (mcs l) (by rfl) HO6.out ⟨w6.heap.size, 0, none⟩ 1 1 (mcs [(⟨y, Ay, cy⟩ : Mp)]) (by rfl) (by rfl) HNW.out (mcs_one _) (by omega) (by unfold maxLen; omega) (by omega) HS6.out w6.heap.size.succ (by simp) ?_; intro gg cap w7 hown hgrow hat hlt7; rw [← mcs_app] at hown; have hm7 := HM6.out.append (rdr_ref b S) (q0 := ⟨y, Ay, cy⟩) HQ0.out hgrow (by rw [List.length_append, HKL.out]; exact hown) (by simpa using hat); have HX := Lib.hid (hm7.store (rdr_ref b S)); have f1 := hm7.rp.cs 1 _ rfl; have ff : ∀ j, w7.frozen? ⟨p, j, none⟩ = false := hm7.rp.s; have fl := hm7.rp.lt; clear hown hgrow hat hlt7 hm7)
                  | (go_simp; go_at_call 23; refine (HRD.out _ ((rdr_ref b S).on HI.out.ri ((Below.refl _ _).drew))).mono ?_; rintro e w6 ⟨Ay, cy, rfl, hlc, hpr, hi6, hg6, hna⟩; have hm6 := (HI.out.on (rdr_ref b S) ((Below.refl _ _).drew)).step hi6 hg6; have f1 := hm6.rp.cs 1 _ rfl; have fl := hm6.rp.lt; have HM6 := Lib.hid (hm6.on (rdr_ref b S) (alloc1B w6 (.cells #[.int .u64 (y.id : Int), .string (ofL y.shop), .string (ofL y.key), .slice Ay y.head.length cy, .string (ofL y.body), .int .u64 (y.due : Int), .int .u8 (y.hops : Int)] 25))); have HO6 := Lib.hid HM6.out.own; rw [HKL.out] at HO6; have HS6 := Lib.hid HM6.out.lt.2.2.2.2.2; have HNW := Lib.hid (show ∀ jj u, (mcs [(⟨y, Ay, cy⟩ : Mp)])[jj]? = some u → (w6.alloc (.cells #[.int .u64 (y.id : Int), .string (ofL y.shop), .string (ofL y.key), .slice Ay y.head.length cy, .string (ofL y.body), .int .u64 (y.due : Int), .int .u8 (y.hops : Int)] 25)).cell? ((⟨w6.heap.size, 0, none⟩ : Addr).add jj) = some u from fun jj u hu => by rw [mcs_one1] at hu; rw [rws_add, Nat.zero_add]; exact (World.cell?_alloc_new w6 #[.int .u64 (y.id : Int), .string (ofL y.shop), .string (ofL y.key), .slice Ay y.head.length cy, .string (ofL y.body), .int .u64 (y.due : Int), .int .u8 (y.hops : Int)] 25 jj).trans (by simpa [mpL, maL] using hu)); have HQ0 := Lib.hid (show Prs (w6.alloc (.cells #[.int .u64 (y.id : Int), .string (ofL y.shop), .string (ofL y.key), .slice Ay y.head.length cy, .string (ofL y.body), .int .u64 (y.due : Int), .int .u8 (y.hops : Int)] 25)) Ay y.head ∧ y.head.length ≤ cy ∧ (y.head ≠ [] → ∀ a, Ay = some a → w5.heap.size ≤ a.block ∧ (Value.slice Av k cv).ownBlock ≠ some a.block) from ⟨hpr.on (alloc1B _ _), hlc, fun _ a ha => ⟨Nat.le_trans HI.out.lt.2.2.2.2.2 (hna a ha), fun e => by have h1 := (HOW.out.lt _ e).2; have h2 : wr.heap.size ≤ a.block := hna a ha; omega⟩⟩); clear hi6 hg6 hm6 hlc hpr hna))
                all_goals (
                  go_wp2_with fail
                  go_roundg (gk - 1)
                  case rel => exact ⟨k + 1, _, l ++ [⟨y, Ay, cy⟩], by have := HK.out; omega, by go_num, by rw [HSN.out, List.map_append, HLX.out]; rfl, by rw [HSN.out]; exact HX.out⟩
                  case measure => have := HK.out; omega)
              · have hkn : k = n := by have := HK.out; omega
                rw [← hkn] at HAA HEE
                clear hkn
                rw [if_neg (by simp [he])] at HAA
                clear HSTOP he HSN HCO hki
                generalize Rs.rds k s0 = R0 at *
                obtain ⟨r0, s2⟩ := R0
                simp only at HI HLX HAA HEE HCE hcd d1
                go_wp2_with fail
                have hd := HI.out.rc.fill [.int .u64 (T : Int), .slice Av k cv] rfl
                simp only [putAll] at hd
                have g0 := hd.cs 0 _ rfl
                have g1 := hd.cs 1 _ rfl
                refine bodyPost_ret (v := .agg #[.int .u64 (T : Int), .slice Av k cv]) (by simp [results, Tryz.results8, go_sem, g0, g1]) rfl (HPOST.out _ _ ?_)
                obtain ⟨A9, c9, e9, hc9, hn9, hr9, hb9⟩ := Rws.of_own HOW.out
                obtain ⟨rfl, -, rfl⟩ := Value.slice.inj e9
                rw [HAA.out, HEE.out]
                have hg2 : wr.grownBy ((wr.setCell ⟨w.heap.size, 0, none⟩ (.int .u64 (T : Int))).setCell ⟨w.heap.size, 1, none⟩ (.slice Av k cv)) (some w.heap.size) := only_setCell (p := ⟨w.heap.size, 1, none⟩) (only_setCell (p := ⟨w.heap.size, 0, none⟩) (World.grownBy.refl wr _) rfl _) rfl _
                refine ⟨Av, cv, l, by rw [HKL.out], HLX.out, by rw [HKL.out]; exact hc9, hn9, ⟨hr9.keptR hg2 (fun a ha e => by have := (hb9 a ha).1; have := Option.some.inj e; omega), fun q hq => ?_⟩, fun a ha => by have := (hb9 a ha).1; omega, fun q hq hh a ha => Nat.le_trans l5 ((HI.out.hd q hq).2.2 hh a ha).1, (rdr_ref b S).put ((rdr_ref b S).put HI.out.ri (by omega) 0 _) (by omega) 1 _, grown_far (grown_far HI.out.G (Nat.le_refl _) 0 _) (Nat.le_refl _) 1 _⟩
                have hqx : q.x ∈ r0 := by rw [← HLX.out]; exact List.mem_map.2 ⟨q, hq, rfl⟩
                have hcq := HCE.out q.x hqx
                have hpq : Prs ((wr.setCell ⟨w.heap.size, 0, none⟩ (.int .u64 (T : Int))).setCell ⟨w.heap.size, 1, none⟩ (.slice Av k cv)) q.A q.x.head := by
                  by_cases e : q.x.head = []
                  · rw [e]; exact Prs.nil _ _
                  · exact (HI.out.hd q hq).1.grown hg2 (fun a ha e2 => by have := ((HI.out.hd q hq).2.2 e a ha).1; have := Option.some.inj e2; omega)
                exact maOk_code hcq (HI.out.hd q hq).2.1 hpq
            · have d0 : ((Rs.rds k s0).2.2 == 0) = false := by rw [beq_eq_false_iff_ne]; exact he
              have d1 : ((Rs.rds k s0).2.2 != 0) = true := by rw [bne_iff_ne]; exact he
              have hst := HSTOP.out he (n - k)
              rw [show k + (n - k) = n by have := HK.out; omega] at hst
              rw [hst] at HAA HEE
              rw [if_pos he] at HAA
              clear HSTOP he HSN hst HCO hki
              generalize Rs.rds k s0 = R0 at *
              obtain ⟨r0, s2⟩ := R0
              simp only at HI HLX HAA HEE hcd d0 d1
              by_cases hlt : k < n
              · go_wp2_with fail
                have hd := HI.out.rc.fill [.int .u64 0, .slice none 0 0] rfl
                simp only [putAll] at hd
                have g0 := hd.cs 0 _ rfl
                have g1 := hd.cs 1 _ rfl
                refine bodyPost_ret (v := .agg #[.int .u64 0, .slice none 0 0]) (by simp [results, Tryz.results8, go_sem, g0, g1]) rfl (HPOST.out _ _ ?_)
                rw [HAA.out, HEE.out]
                exact ⟨none, 0, [], rfl, rfl, Nat.le_refl _, fun _ => rfl, Mas.nil _ _, (fun a ha => by cases ha), (fun q hq => by simp at hq), (rdr_ref b S).put ((rdr_ref b S).put HI.out.ri (by omega) 0 _) (by omega) 1 _, grown_far (grown_far HI.out.G (Nat.le_refl _) 0 _) (Nat.le_refl _) 1 _⟩
              · go_wp2_with fail
                have hd := HI.out.rc.fill [.int .u64 0, .slice none 0 0] rfl
                simp only [putAll] at hd
                have g0 := hd.cs 0 _ rfl
                have g1 := hd.cs 1 _ rfl
                refine bodyPost_ret (v := .agg #[.int .u64 0, .slice none 0 0]) (by simp [results, Tryz.results8, go_sem, g0, g1]) rfl (HPOST.out _ _ ?_)
                rw [HAA.out, HEE.out]
                exact ⟨none, 0, [], rfl, rfl, Nat.le_refl _, fun _ => rfl, Mas.nil _ _, (fun a ha => by cases ha), (fun q hq => by simp at hq), (rdr_ref b S).put ((rdr_ref b S).put HI.out.ri (by omega) 0 _) (by omega) 1 _, grown_far (grown_far HI.out.G (Nat.le_refl _) 0 _) (Nat.le_refl _) 1 _⟩
        · have hs0 : s0 = lFail (lRaw (lRaw s 8) 1) 7 := by rw [HSS.out]; unfold Rs.mid; rw [if_neg (by omega), if_pos (by omega)]
          have dT : ((n : Int) != (T : Int)) = true := by rw [bne_iff_ne]; omega
          have dN : ((n : Int) == 16) = true := by rw [beq_iff_eq]; omega
          have dG : decide (16 < (T : Int)) = false := decide_eq_false (by omega)
          have dL : decide (16 < (n : Int)) = false := decide_eq_false (by omega)
          clear hT1 h32 hn hg
          go_wp2_with fail
          refine (HF7.out _ HI3.out).mono ?_
          rintro e w5 ⟨rfl, hi5, hg5x⟩
          rw [← hs0] at hi5
          have hc5 := HC3.out.keptR hg5x (fun e => by have := Option.some.inj e; omega)
          have hp5 := HP3.out.keptR hg5x (fun e => by have := Option.some.inj e; omega)
          have hg5 := HG3.out.trans hg5x
          clear e0 el
          have e0 := hp5.cs 0 _ rfl
          have el := hp5.lt
          clear hs0 hg5x HSS HC3 HP3 HG3 HI3 HF6 HF7 HF67
          go_wp2_with fail
          clear e0 el
          have HI5 := Lib.hid (show RfIn w w5 b w.heap.size p (RefL b S) T (Rs.rds 0 s0).2 (.slice none 0 0) (.slice none 0 0) [] w5 from ⟨hi5, hc5, hp5, World.ownsRow_nil _ _ _ _, (fun q hq => by simp at hq), hg5, ⟨hbw, hc5.lt, hp5.lt, by omega, hg5.size, Nat.le_refl _⟩⟩)
          clear hi5 hc5 hp5 hg5
          go_loopg [5] n (fun g i wr => RrSt w w5 b w.heap.size p T n S s0 g i wr)
          case atStart => exact ⟨0, _, [], by omega, rfl, rfl, HI5.out⟩
          case round =>
            obtain ⟨k, v, l, hk, rfl, hlx, hI⟩ := hrel
            have HK := Lib.hid hk
            have HI := Lib.hid hI
            have hlen : l.length = k := by rw [← List.length_map (f := Mp.x), hlx]; exact Rs.rds_len k s0
            obtain ⟨Av, cv, rfl, -, -⟩ := Rw.own_cells hI.own
            rw [hlen] at HI
            have f0 := HI.out.rp.cs 0 _ rfl
            have f1 := HI.out.rp.cs 1 _ rfl
            have ff : ∀ j, wr.frozen? ⟨p, j, none⟩ = false := HI.out.rp.s
            have fl := HI.out.rp.lt
            have e0 := HI.out.rc.cs 0 _ rfl
            have e1 := HI.out.rc.cs 1 _ rfl
            have ef : ∀ j, wr.frozen? ⟨w.heap.size, j, none⟩ = false := HI.out.rc.s
            have el := HI.out.rc.lt
            have hcd := HI.out.ri.code
            have HLX := Lib.hid hlx
            have HKL := Lib.hid hlen
            have HOW := Lib.hid HI.out.own
            rw [hlen] at HOW
            obtain ⟨l1, l2, l3, l4, l5, l6⟩ := HI.out.lt
            have HSTOP := Lib.hid (fun he m => Rs.rds_stop hKS (k := k) he m)
            have HSN := Lib.hid (Rs.rds_snoc k s0)
            have HCO := Lib.hid (Rs.rds_code k hKS)
            have hki := Rs.lOk_rds k hKS
            clear hk hI hlx hlen
            by_cases he : (Rs.rds k s0).2.2 = 0
            · have d0 : ((Rs.rds k s0).2.2 == 0) = true := by rw [he]; rfl
              have d1 : ((Rs.rds k s0).2.2 != 0) = false := by rw [he]; rfl
              have HCE := Lib.hid (HCO.out he)
              by_cases hlt : k < n
              · clear HSTOP he d1 HCO HCE
                generalize Rs.rds k s0 = R0 at *
                obtain ⟨r0, s2⟩ := R0
                simp only at HSN HI HLX hki hcd d0
                have HRD := Lib.hid (fun W h => r13Read_any b S s2 W hki hS h)
                unfold MaRdPost at HRD
                obtain ⟨y, hy⟩ : ∃ y, (Ml.rd s2).1 = y := ⟨_, rfl⟩
                obtain ⟨s3, hs3⟩ : ∃ s3, (Ml.rd s2).2 = s3 := ⟨_, rfl⟩
                rw [hy, hs3] at HRD HSN
                simp only [maV] at HRD
                clear hy hs3 hki
                have hk8 : k ≤ 300 := by omega
                go_wp2_with fail
                go_region_law (first
                  | (refine step_append_lies _ (by rfl) _ _ _ (by rfl) w5.heap.size 25 iM _ 7 96 Tryz.underlying33 hiM hzM0 hzM1 hzM2 rfl (by omega) (.slice Av k cv) k (mcs l) (by rfl) HO6.out ⟨w6.heap.size, 0, none⟩ 1 1 (mcs [(⟨y, Ay, cy⟩ : Mp)]) (by rfl) (by rfl) HNW.out (mcs_one _) (by omega) (by unfold maxLen; omega) (by omega) HS6.out w6.heap.size.succ (by simp) ?_; intro gg cap w7 hown hgrow hat hlt7; rw [← mcs_app] at hown; have hm7 := HM6.out.append (rdr_ref b S) (q0 := ⟨y, Ay, cy⟩) HQ0.out hgrow (by rw [List.length_append, HKL.out]; exact hown) (by simpa using hat); have HX := Lib.hid (hm7.store (rdr_ref b S)); have f1 := hm7.rp.cs 1 _ rfl; have ff : ∀ j, w7.frozen? ⟨p, j, none⟩ = false := hm7.rp.s; have fl := hm7.rp.lt; clear hown hgrow hat hlt7 hm7)
                  | (go_simp; go_at_call 23; refine (HRD.out _ ((rdr_ref b S).on HI.out.ri ((Below.refl _ _).drew))).mono ?_; rintro e w6 ⟨Ay, cy, rfl, hlc, hpr, hi6, hg6, hna⟩; have hm6 := (HI.out.on (rdr_ref b S) ((Below.refl _ _).drew)).step hi6 hg6; have f1 := hm6.rp.cs 1 _ rfl; have fl := hm6.rp.lt; have HM6 := Lib.hid (hm6.on (rdr_ref b S) (alloc1B w6 (.cells #[.int .u64 (y.id : Int), .string (ofL y.shop), .string (ofL y.key), .slice Ay y.head.length cy, .string (ofL y.body), .int .u64 (y.due : Int), .int .u8 (y.hops : Int)] 25))); have HO6 := Lib.hid HM6.out.own; rw [HKL.out] at HO6; have HS6 := Lib.hid HM6.out.lt.2.2.2.2.2; have HNW := Lib.hid (show ∀ jj u, (mcs [(⟨y, Ay, cy⟩ : Mp)])[jj]? = some u → (w6.alloc (.cells #[.int .u64 (y.id : Int), .string (ofL y.shop), .string (ofL y.key), .slice Ay y.head.length cy, .string (ofL y.body), .int .u64 (y.due : Int), .int .u8 (y.hops : Int)] 25)).cell? ((⟨w6.heap.size, 0, none⟩ : Addr).add jj) = some u from fun jj u hu => by rw [mcs_one1] at hu; rw [rws_add, Nat.zero_add]; exact (World.cell?_alloc_new w6 #[.int .u64 (y.id : Int), .string (ofL y.shop), .string (ofL y.key), .slice Ay y.head.length cy, .string (ofL y.body), .int .u64 (y.due : Int), .int .u8 (y.hops : Int)] 25 jj).trans (by simpa [mpL, maL] using hu)); have HQ0 := Lib.hid (show Prs (w6.alloc (.cells #[.int .u64 (y.id : Int), .string (ofL y.shop), .string (ofL y.key), .slice Ay y.head.length cy, .string (ofL y.body), .int .u64 (y.due : Int), .int .u8 (y.hops : Int)] 25)) Ay y.head ∧ y.head.length ≤ cy ∧ (y.head ≠ [] → ∀ a, Ay = some a → w5.heap.size ≤ a.block ∧ (Value.slice Av k cv).ownBlock ≠ some a.block) from ⟨hpr.on (alloc1B _ _), hlc, fun _ a ha => ⟨Nat.le_trans HI.out.lt.2.2.2.2.2 (hna a ha), fun e => by have h1 := (HOW.out.lt _ e).2; have h2 : wr.heap.size ≤ a.block := hna a ha; omega⟩⟩); clear hi6 hg6 hm6 hlc hpr hna))
                all_goals (
                  go_wp2_with fail
                  go_roundg (gk - 1)
                  case rel => exact ⟨k + 1, _, l ++ [⟨y, Ay, cy⟩], by have := HK.out; omega, by go_num, by rw [HSN.out, List.map_append, HLX.out]; rfl, by rw [HSN.out]; exact HX.out⟩
                  case measure => have := HK.out; omega)
              · have hkn : k = n := by have := HK.out; omega
                rw [← hkn] at HAA HEE
                clear hkn
                rw [if_neg (by simp [he])] at HAA
                clear HSTOP he HSN HCO hki
                generalize Rs.rds k s0 = R0 at *
                obtain ⟨r0, s2⟩ := R0
                simp only at HI HLX HAA HEE HCE hcd d1
                go_wp2_with fail
                have hd := HI.out.rc.fill [.int .u64 (T : Int), .slice Av k cv] rfl
                simp only [putAll] at hd
                have g0 := hd.cs 0 _ rfl
                have g1 := hd.cs 1 _ rfl
                refine bodyPost_ret (v := .agg #[.int .u64 (T : Int), .slice Av k cv]) (by simp [results, Tryz.results8, go_sem, g0, g1]) rfl (HPOST.out _ _ ?_)
                obtain ⟨A9, c9, e9, hc9, hn9, hr9, hb9⟩ := Rws.of_own HOW.out
                obtain ⟨rfl, -, rfl⟩ := Value.slice.inj e9
                rw [HAA.out, HEE.out]
                have hg2 : wr.grownBy ((wr.setCell ⟨w.heap.size, 0, none⟩ (.int .u64 (T : Int))).setCell ⟨w.heap.size, 1, none⟩ (.slice Av k cv)) (some w.heap.size) := only_setCell (p := ⟨w.heap.size, 1, none⟩) (only_setCell (p := ⟨w.heap.size, 0, none⟩) (World.grownBy.refl wr _) rfl _) rfl _
                refine ⟨Av, cv, l, by rw [HKL.out], HLX.out, by rw [HKL.out]; exact hc9, hn9, ⟨hr9.keptR hg2 (fun a ha e => by have := (hb9 a ha).1; have := Option.some.inj e; omega), fun q hq => ?_⟩, fun a ha => by have := (hb9 a ha).1; omega, fun q hq hh a ha => Nat.le_trans l5 ((HI.out.hd q hq).2.2 hh a ha).1, (rdr_ref b S).put ((rdr_ref b S).put HI.out.ri (by omega) 0 _) (by omega) 1 _, grown_far (grown_far HI.out.G (Nat.le_refl _) 0 _) (Nat.le_refl _) 1 _⟩
                have hqx : q.x ∈ r0 := by rw [← HLX.out]; exact List.mem_map.2 ⟨q, hq, rfl⟩
                have hcq := HCE.out q.x hqx
                have hpq : Prs ((wr.setCell ⟨w.heap.size, 0, none⟩ (.int .u64 (T : Int))).setCell ⟨w.heap.size, 1, none⟩ (.slice Av k cv)) q.A q.x.head := by
                  by_cases e : q.x.head = []
                  · rw [e]; exact Prs.nil _ _
                  · exact (HI.out.hd q hq).1.grown hg2 (fun a ha e2 => by have := ((HI.out.hd q hq).2.2 e a ha).1; have := Option.some.inj e2; omega)
                exact maOk_code hcq (HI.out.hd q hq).2.1 hpq
            · have d0 : ((Rs.rds k s0).2.2 == 0) = false := by rw [beq_eq_false_iff_ne]; exact he
              have d1 : ((Rs.rds k s0).2.2 != 0) = true := by rw [bne_iff_ne]; exact he
              have hst := HSTOP.out he (n - k)
              rw [show k + (n - k) = n by have := HK.out; omega] at hst
              rw [hst] at HAA HEE
              rw [if_pos he] at HAA
              clear HSTOP he HSN hst HCO hki
              generalize Rs.rds k s0 = R0 at *
              obtain ⟨r0, s2⟩ := R0
              simp only at HI HLX HAA HEE hcd d0 d1
              by_cases hlt : k < n
              · go_wp2_with fail
                have hd := HI.out.rc.fill [.int .u64 0, .slice none 0 0] rfl
                simp only [putAll] at hd
                have g0 := hd.cs 0 _ rfl
                have g1 := hd.cs 1 _ rfl
                refine bodyPost_ret (v := .agg #[.int .u64 0, .slice none 0 0]) (by simp [results, Tryz.results8, go_sem, g0, g1]) rfl (HPOST.out _ _ ?_)
                rw [HAA.out, HEE.out]
                exact ⟨none, 0, [], rfl, rfl, Nat.le_refl _, fun _ => rfl, Mas.nil _ _, (fun a ha => by cases ha), (fun q hq => by simp at hq), (rdr_ref b S).put ((rdr_ref b S).put HI.out.ri (by omega) 0 _) (by omega) 1 _, grown_far (grown_far HI.out.G (Nat.le_refl _) 0 _) (Nat.le_refl _) 1 _⟩
              · go_wp2_with fail
                have hd := HI.out.rc.fill [.int .u64 0, .slice none 0 0] rfl
                simp only [putAll] at hd
                have g0 := hd.cs 0 _ rfl
                have g1 := hd.cs 1 _ rfl
                refine bodyPost_ret (v := .agg #[.int .u64 0, .slice none 0 0]) (by simp [results, Tryz.results8, go_sem, g0, g1]) rfl (HPOST.out _ _ ?_)
                rw [HAA.out, HEE.out]
                exact ⟨none, 0, [], rfl, rfl, Nat.le_refl _, fun _ => rfl, Mas.nil _ _, (fun a ha => by cases ha), (fun q hq => by simp at hq), (rdr_ref b S).put ((rdr_ref b S).put HI.out.ri (by omega) 0 _) (by omega) 1 _, grown_far (grown_far HI.out.G (Nat.le_refl _) 0 _) (Nat.le_refl _) 1 _⟩
      · have hs0 : s0 = lFail (lRaw (lRaw s 8) 1) 7 := by rw [HSS.out]; unfold Rs.mid; rw [if_neg (by omega), if_pos (by omega)]
        have dT : ((n : Int) != (T : Int)) = true := by rw [bne_iff_ne]; omega
        have dN : ((n : Int) == 16) = false := by rw [beq_eq_false_iff_ne]; omega
        have dL : decide (16 < (n : Int)) = false := decide_eq_false (by omega)
        clear hT1 h32 hn
        go_wp2_with fail
        refine (HF7.out _ HI3.out).mono ?_
        rintro e w5 ⟨rfl, hi5, hg5x⟩
        rw [← hs0] at hi5
        have hc5 := HC3.out.keptR hg5x (fun e => by have := Option.some.inj e; omega)
        have hp5 := HP3.out.keptR hg5x (fun e => by have := Option.some.inj e; omega)
        have hg5 := HG3.out.trans hg5x
        clear e0 el
        have e0 := hp5.cs 0 _ rfl
        have el := hp5.lt
        clear hs0 hg5x HSS HC3 HP3 HG3 HI3 HF6 HF7 HF67
        go_wp2_with fail
        clear e0 el
        have HI5 := Lib.hid (show RfIn w w5 b w.heap.size p (RefL b S) T (Rs.rds 0 s0).2 (.slice none 0 0) (.slice none 0 0) [] w5 from ⟨hi5, hc5, hp5, World.ownsRow_nil _ _ _ _, (fun q hq => by simp at hq), hg5, ⟨hbw, hc5.lt, hp5.lt, by omega, hg5.size, Nat.le_refl _⟩⟩)
        clear hi5 hc5 hp5 hg5
        go_loopg [5] n (fun g i wr => RrSt w w5 b w.heap.size p T n S s0 g i wr)
        case atStart => exact ⟨0, _, [], by omega, rfl, rfl, HI5.out⟩
        case round =>
          obtain ⟨k, v, l, hk, rfl, hlx, hI⟩ := hrel
          have HK := Lib.hid hk
          have HI := Lib.hid hI
          have hlen : l.length = k := by rw [← List.length_map (f := Mp.x), hlx]; exact Rs.rds_len k s0
          obtain ⟨Av, cv, rfl, -, -⟩ := Rw.own_cells hI.own
          rw [hlen] at HI
          have f0 := HI.out.rp.cs 0 _ rfl
          have f1 := HI.out.rp.cs 1 _ rfl
          have ff : ∀ j, wr.frozen? ⟨p, j, none⟩ = false := HI.out.rp.s
          have fl := HI.out.rp.lt
          have e0 := HI.out.rc.cs 0 _ rfl
          have e1 := HI.out.rc.cs 1 _ rfl
          have ef : ∀ j, wr.frozen? ⟨w.heap.size, j, none⟩ = false := HI.out.rc.s
          have el := HI.out.rc.lt
          have hcd := HI.out.ri.code
          have HLX := Lib.hid hlx
          have HKL := Lib.hid hlen
          have HOW := Lib.hid HI.out.own
          rw [hlen] at HOW
          obtain ⟨l1, l2, l3, l4, l5, l6⟩ := HI.out.lt
          have HSTOP := Lib.hid (fun he m => Rs.rds_stop hKS (k := k) he m)
          have HSN := Lib.hid (Rs.rds_snoc k s0)
          have HCO := Lib.hid (Rs.rds_code k hKS)
          have hki := Rs.lOk_rds k hKS
          clear hk hI hlx hlen
          by_cases he : (Rs.rds k s0).2.2 = 0
          · have d0 : ((Rs.rds k s0).2.2 == 0) = true := by rw [he]; rfl
            have d1 : ((Rs.rds k s0).2.2 != 0) = false := by rw [he]; rfl
            have HCE := Lib.hid (HCO.out he)
            by_cases hlt : k < n
            · clear HSTOP he d1 HCO HCE
              generalize Rs.rds k s0 = R0 at *
              obtain ⟨r0, s2⟩ := R0
              simp only at HSN HI HLX hki hcd d0
              have HRD := Lib.hid (fun W h => r13Read_any b S s2 W hki hS h)
              unfold MaRdPost at HRD
              obtain ⟨y, hy⟩ : ∃ y, (Ml.rd s2).1 = y := ⟨_, rfl⟩
              obtain ⟨s3, hs3⟩ : ∃ s3, (Ml.rd s2).2 = s3 := ⟨_, rfl⟩
              rw [hy, hs3] at HRD HSN
              simp only [maV] at HRD
              clear hy hs3 hki
              have hk8 : k ≤ 300 := by omega
              go_wp2_with fail
              go_region_law (first
                | (refine step_append_lies _ (by rfl) _ _ _ (by rfl) w5.heap.size 25 iM _ 7 96 Tryz.underlying33 hiM hzM0 hzM1 hzM2 rfl (by omega) (.slice Av k cv) k (mcs l) (by rfl) HO6.out ⟨w6.heap.size, 0, none⟩ 1 1 (mcs [(⟨y, Ay, cy⟩ : Mp)]) (by rfl) (by rfl) HNW.out (mcs_one _) (by omega) (by unfold maxLen; omega) (by omega) HS6.out w6.heap.size.succ (by simp) ?_; intro gg cap w7 hown hgrow hat hlt7; rw [← mcs_app] at hown; have hm7 := HM6.out.append (rdr_ref b S) (q0 := ⟨y, Ay, cy⟩) HQ0.out hgrow (by rw [List.length_append, HKL.out]; exact hown) (by simpa using hat); have HX := Lib.hid (hm7.store (rdr_ref b S)); have f1 := hm7.rp.cs 1 _ rfl; have ff : ∀ j, w7.frozen? ⟨p, j, none⟩ = false := hm7.rp.s; have fl := hm7.rp.lt; clear hown hgrow hat hlt7 hm7)
                | (go_simp; go_at_call 23; refine (HRD.out _ ((rdr_ref b S).on HI.out.ri ((Below.refl _ _).drew))).mono ?_; rintro e w6 ⟨Ay, cy, rfl, hlc, hpr, hi6, hg6, hna⟩; have hm6 := (HI.out.on (rdr_ref b S) ((Below.refl _ _).drew)).step hi6 hg6; have f1 := hm6.rp.cs 1 _ rfl; have fl := hm6.rp.lt; have HM6 := Lib.hid (hm6.on (rdr_ref b S) (alloc1B w6 (.cells #[.int .u64 (y.id : Int), .string (ofL y.shop), .string (ofL y.key), .slice Ay y.head.length cy, .string (ofL y.body), .int .u64 (y.due : Int), .int .u8 (y.hops : Int)] 25))); have HO6 := Lib.hid HM6.out.own; rw [HKL.out] at HO6; have HS6 := Lib.hid HM6.out.lt.2.2.2.2.2; have HNW := Lib.hid (show ∀ jj u, (mcs [(⟨y, Ay, cy⟩ : Mp)])[jj]? = some u → (w6.alloc (.cells #[.int .u64 (y.id : Int), .string (ofL y.shop), .string (ofL y.key), .slice Ay y.head.length cy, .string (ofL y.body), .int .u64 (y.due : Int), .int .u8 (y.hops : Int)] 25)).cell? ((⟨w6.heap.size, 0, none⟩ : Addr).add jj) = some u from fun jj u hu => by rw [mcs_one1] at hu; rw [rws_add, Nat.zero_add]; exact (World.cell?_alloc_new w6 #[.int .u64 (y.id : Int), .string (ofL y.shop), .string (ofL y.key), .slice Ay y.head.length cy, .string (ofL y.body), .int .u64 (y.due : Int), .int .u8 (y.hops : Int)] 25 jj).trans (by simpa [mpL, maL] using hu)); have HQ0 := Lib.hid (show Prs (w6.alloc (.cells #[.int .u64 (y.id : Int), .string (ofL y.shop), .string (ofL y.key), .slice Ay y.head.length cy, .string (ofL y.body), .int .u64 (y.due : Int), .int .u8 (y.hops : Int)] 25)) Ay y.head ∧ y.head.length ≤ cy ∧ (y.head ≠ [] → ∀ a, Ay = some a → w5.heap.size ≤ a.block ∧ (Value.slice Av k cv).ownBlock ≠ some a.block) from ⟨hpr.on (alloc1B _ _), hlc, fun _ a ha => ⟨Nat.le_trans HI.out.lt.2.2.2.2.2 (hna a ha), fun e => by have h1 := (HOW.out.lt _ e).2; have h2 : wr.heap.size ≤ a.block := hna a ha; omega⟩⟩); clear hi6 hg6 hm6 hlc hpr hna))
              all_goals (
                go_wp2_with fail
                go_roundg (gk - 1)
                case rel => exact ⟨k + 1, _, l ++ [⟨y, Ay, cy⟩], by have := HK.out; omega, by go_num, by rw [HSN.out, List.map_append, HLX.out]; rfl, by rw [HSN.out]; exact HX.out⟩
                case measure => have := HK.out; omega)
            · have hkn : k = n := by have := HK.out; omega
              rw [← hkn] at HAA HEE
              clear hkn
              rw [if_neg (by simp [he])] at HAA
              clear HSTOP he HSN HCO hki
              generalize Rs.rds k s0 = R0 at *
              obtain ⟨r0, s2⟩ := R0
              simp only at HI HLX HAA HEE HCE hcd d1
              go_wp2_with fail
              have hd := HI.out.rc.fill [.int .u64 (T : Int), .slice Av k cv] rfl
              simp only [putAll] at hd
              have g0 := hd.cs 0 _ rfl
              have g1 := hd.cs 1 _ rfl
              refine bodyPost_ret (v := .agg #[.int .u64 (T : Int), .slice Av k cv]) (by simp [results, Tryz.results8, go_sem, g0, g1]) rfl (HPOST.out _ _ ?_)
              obtain ⟨A9, c9, e9, hc9, hn9, hr9, hb9⟩ := Rws.of_own HOW.out
              obtain ⟨rfl, -, rfl⟩ := Value.slice.inj e9
              rw [HAA.out, HEE.out]
              have hg2 : wr.grownBy ((wr.setCell ⟨w.heap.size, 0, none⟩ (.int .u64 (T : Int))).setCell ⟨w.heap.size, 1, none⟩ (.slice Av k cv)) (some w.heap.size) := only_setCell (p := ⟨w.heap.size, 1, none⟩) (only_setCell (p := ⟨w.heap.size, 0, none⟩) (World.grownBy.refl wr _) rfl _) rfl _
              refine ⟨Av, cv, l, by rw [HKL.out], HLX.out, by rw [HKL.out]; exact hc9, hn9, ⟨hr9.keptR hg2 (fun a ha e => by have := (hb9 a ha).1; have := Option.some.inj e; omega), fun q hq => ?_⟩, fun a ha => by have := (hb9 a ha).1; omega, fun q hq hh a ha => Nat.le_trans l5 ((HI.out.hd q hq).2.2 hh a ha).1, (rdr_ref b S).put ((rdr_ref b S).put HI.out.ri (by omega) 0 _) (by omega) 1 _, grown_far (grown_far HI.out.G (Nat.le_refl _) 0 _) (Nat.le_refl _) 1 _⟩
              have hqx : q.x ∈ r0 := by rw [← HLX.out]; exact List.mem_map.2 ⟨q, hq, rfl⟩
              have hcq := HCE.out q.x hqx
              have hpq : Prs ((wr.setCell ⟨w.heap.size, 0, none⟩ (.int .u64 (T : Int))).setCell ⟨w.heap.size, 1, none⟩ (.slice Av k cv)) q.A q.x.head := by
                by_cases e : q.x.head = []
                · rw [e]; exact Prs.nil _ _
                · exact (HI.out.hd q hq).1.grown hg2 (fun a ha e2 => by have := ((HI.out.hd q hq).2.2 e a ha).1; have := Option.some.inj e2; omega)
              exact maOk_code hcq (HI.out.hd q hq).2.1 hpq
          · have d0 : ((Rs.rds k s0).2.2 == 0) = false := by rw [beq_eq_false_iff_ne]; exact he
            have d1 : ((Rs.rds k s0).2.2 != 0) = true := by rw [bne_iff_ne]; exact he
            have hst := HSTOP.out he (n - k)
            rw [show k + (n - k) = n by have := HK.out; omega] at hst
            rw [hst] at HAA HEE
            rw [if_pos he] at HAA
            clear HSTOP he HSN hst HCO hki
            generalize Rs.rds k s0 = R0 at *
            obtain ⟨r0, s2⟩ := R0
            simp only at HI HLX HAA HEE hcd d0 d1
            by_cases hlt : k < n
            · go_wp2_with fail
              have hd := HI.out.rc.fill [.int .u64 0, .slice none 0 0] rfl
              simp only [putAll] at hd
              have g0 := hd.cs 0 _ rfl
              have g1 := hd.cs 1 _ rfl
              refine bodyPost_ret (v := .agg #[.int .u64 0, .slice none 0 0]) (by simp [results, Tryz.results8, go_sem, g0, g1]) rfl (HPOST.out _ _ ?_)
              rw [HAA.out, HEE.out]
              exact ⟨none, 0, [], rfl, rfl, Nat.le_refl _, fun _ => rfl, Mas.nil _ _, (fun a ha => by cases ha), (fun q hq => by simp at hq), (rdr_ref b S).put ((rdr_ref b S).put HI.out.ri (by omega) 0 _) (by omega) 1 _, grown_far (grown_far HI.out.G (Nat.le_refl _) 0 _) (Nat.le_refl _) 1 _⟩
            · go_wp2_with fail
              have hd := HI.out.rc.fill [.int .u64 0, .slice none 0 0] rfl
              simp only [putAll] at hd
              have g0 := hd.cs 0 _ rfl
              have g1 := hd.cs 1 _ rfl
              refine bodyPost_ret (v := .agg #[.int .u64 0, .slice none 0 0]) (by simp [results, Tryz.results8, go_sem, g0, g1]) rfl (HPOST.out _ _ ?_)
              rw [HAA.out, HEE.out]
              exact ⟨none, 0, [], rfl, rfl, Nat.le_refl _, fun _ => rfl, Mas.nil _ _, (fun a ha => by cases ha), (fun q hq => by simp at hq), (rdr_ref b S).put ((rdr_ref b S).put HI.out.ri (by omega) 0 _) (by omega) 1 _, grown_far (grown_far HI.out.G (Nat.le_refl _) 0 _) (Nat.le_refl _) 1 _⟩
end Go.Proofs.YtjkaljokkpabfaaGreatDoor
end
