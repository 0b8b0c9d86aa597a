/-
  NOTES READ: the document's, walked.
-/
import Derived.Test.YtabnkbdbbneihaaNtM
namespace Go.Proofs.Ytabnkbdbbneihaa
open Go.ChangeShapes Go.WideShapes Go.ChangeAt Go.RowKit

namespace Nt
theorem rds_stop {s : LSt} (h : lOk s) {k : Nat} (he : (rds k s).2.2 ≠ 0) : ∀ m, (rds (k + m) s).2 = (rds k s).2
  | 0 => rfl
  | m + 1 => by
    have e := rds_stop h he m
    rw [← Nat.add_assoc, rds_snoc, e]
    exact rd1_err (lOk_rds k h) he
end Nt
theorem lFail_twice (s : LSt) : lFail (lFail s 6) 7 = lFail s 6 := by
  unfold lFail
  by_cases h : s.2 = 0
  · simp [h]
  · simp [h]
def RrSt (w w2 : World) (b c p T n : Nat) (S : ByteArray) (s0 : LSt) (g : Nat) (i : Value) (wr : World) : Prop := ∃ (k : Nat) (v : Value), k + g = n ∧ i = .int .i64 (k : Int) ∧ RnIn w w2 b c p (RefL b S) T (Nt.rds k s0).2 38 v v (Nt.rds k s0).1 wr
set_option maxRecDepth 100000 in
set_option maxHeartbeats 16000000 in
theorem r19Read_any (b : Nat) (S : ByteArray) (s : LSt) (w : World) (h : RefL b S s w) (hS : S.size ≤ 1000000) (hok : lOk s) : Calls Try.prog 21 #[.pointer (some ⟨b, 0, none⟩)] w (ReadPost (RefL b S) b s w) := by
  have HKS := Nt.lOk_readS hok
  have HN8 := Lib.hid (show ∀ W, RefL b S s W → Calls Try.prog 38 #[.pointer (some ⟨b, 0, none⟩), .int .i64 8] W (RPostL b S W (.int .u64 ((Nt.readT s : Nat) : Int)) (lRaw s 8)) from fun W h => rinum_l b S s 8 8 W (by omega) rfl h hS)
  have HN1 := Lib.hid (show ∀ W, RefL b S (lRaw s 8) W → Calls Try.prog 38 #[.pointer (some ⟨b, 0, none⟩), .int .i64 1] W (RPostL b S W (.int .u64 ((Nt.readN s : Nat) : Int)) (lRaw (lRaw s 8) 1)) from fun W h => rinum_l b S (lRaw s 8) 1 1 W (by omega) rfl h hS)
  have HF6 := Lib.hid (fun W h => rifail_l b S (lRaw (lRaw s 8) 1) 6 W h)
  have HF7 := Lib.hid (fun W h => rifail_l b S (lRaw (lRaw s 8) 1) 7 W h)
  have HF67 := Lib.hid (fun W h => rifail_l b S (lFail (lRaw (lRaw s 8) 1) 6) 7 W h)
  rw [lFail_twice] at HF67
  have HI0 := Lib.hid ((rdr_ref b S).on h (alloc1B w (.cells #[.int .u64 0, .slice none 0 0] 30)))
  have hbw : b < w.heap.size := (rdr_ref b S).lt h
  have hT := Nt.readT_lt s
  have hN := Nt.readN_lt s
  have HSS := Lib.hid (show Nt.readS s = Nt.mid (Nt.readT s) (Nt.readN s) (lRaw (lRaw s 8) 1) from rfl)
  have HPOST := Lib.hid (fun (e : Ending) (W : World) (h : ∃ A c, e = .returned (.agg #[.int .u64 ((Nt.readA s).1 : Int), .slice A (Nt.readA s).2.length c]) ∧ (Nt.readA s).2.length ≤ c ∧ (A = none → c = 0) ∧ Nts W A (Nt.readA s).2 ∧ (∀ a, A = some a → w.heap.size ≤ a.block) ∧ RefL b S (Nt.readE s) W ∧ w.grownBy W (some b)) => show ReadPost (RefL b S) b s w e W from h)
  have HAA := Lib.hid (show Nt.readA s = if (Nt.rds (Nt.readN s) (Nt.readS s)).2.2 ≠ 0 then (0, []) else (Nt.readT s, (Nt.rds (Nt.readN s) (Nt.readS s)).1) from rfl)
  have HEE := Lib.hid (show Nt.readE s = (Nt.rds (Nt.readN s) (Nt.readS s)).2 from rfl)
  obtain ⟨iN, hiN, hzN0, hzN1, hzN2⟩ := info_parts infoRNt
  have HC0 := Lib.hid (Du2.new w (.int .u64 0) (.slice none 0 0) 30)
  have HG0 := Lib.hid (Rw.gb (alloc1B w (.cells #[.int .u64 0, .slice none 0 0] 30)) (some b))
  clear h
  generalize ReadPost (RefL b S) b s w = POST at *
  generalize Nt.readA s = RA at *
  generalize Nt.readE s = RE at *
  generalize Nt.readS s = s0 at *
  generalize Nt.readT s = T at *
  generalize Nt.readN s = n at *
  go_enter Try.func21, Try.ntmps21
  go_wp2_with fail
  refine (HN8.out _ HI0.out).mono ?_
  rintro e w1 ⟨rfl, hi1, hg1⟩
  have HC1 := Lib.hid (HC0.out.keep hg1 (fun e => by have := Option.some.inj e; omega))
  have HG1 := Lib.hid (HG0.out.trans hg1)
  have HA1 := Lib.hid (alloc1B w1 (.cells #[.int .u64 (T : Int), .slice none 0 0] 30))
  have hlb : w.heap.size < w1.heap.size := HC1.out.lt
  have HI1 := Lib.hid ((rdr_ref b S).on hi1 HA1.out)
  clear hi1 hg1
  go_wp2_with fail
  refine (HN1.out _ HI1.out).mono ?_
  rintro e w3 ⟨rfl, hi3, hg3⟩
  have HC3 := Lib.hid ((HC1.out.on HA1.out).keep hg3 (fun e => by have := Option.some.inj e; omega))
  have HP3 := Lib.hid ((Du2.new w1 (.int .u64 (T : Int)) (.slice none 0 0) 30).keep hg3 (fun e => by have := Option.some.inj e; omega))
  have HG3 := Lib.hid ((HG1.out.trans (Rw.gb HA1.out (some b))).trans hg3)
  have HI3 := Lib.hid hi3
  clear hi3 hg3 HC0 HG0 HC1 HG1 HI0 HI1 HA1
  generalize w1.heap.size = p at *
  have e0 := HP3.out.c0
  have el := HP3.out.lt
  clear HN8 HN1
  have hKS : lOk s0 := HKS
  by_cases h32 : 32 < n
  · by_cases hT1 : n = T
    · have hs0 : s0 = lFail (lRaw (lRaw s 8) 1) 6 := by rw [HSS.out]; unfold Nt.mid; rw [if_pos h32]
      have dT : ((n : Int) != (T : Int)) = false := by rw [bne_eq_false_iff_eq]; omega
      have dL : decide (32 < (n : Int)) = true := decide_eq_true (by omega)
      clear hT1 h32
      go_wp2_with fail
      refine (HF6.out _ HI3.out).mono ?_
      rintro e w5 ⟨rfl, hi5, hg5x⟩
      rw [← hs0] at hi5
      have hc5 := HC3.out.keep hg5x (fun e => by have := Option.some.inj e; omega)
      have hp5 := HP3.out.keep hg5x (fun e => by have := Option.some.inj e; omega)
      have hg5 := HG3.out.trans hg5x
      clear e0 el
      have e0 := hp5.c0
      have el := hp5.lt
      clear hs0 hg5x HSS HC3 HP3 HG3 HI3 HF6 HF7 HF67
      go_wp2_with fail
      clear e0 el
      have HI5 := Lib.hid (show RnIn w w5 b w.heap.size p (RefL b S) T (Nt.rds 0 s0).2 38 (.slice none 0 0) (.slice none 0 0) (Nt.rds 0 s0).1 w5 from ⟨hi5, hc5, hp5, World.ownsRow_nil _ _ _ _, hg5, ⟨hbw, Nat.le_refl _, hc5.lt, by omega, hp5.lt, by omega, hg5.size, Nat.le_refl _⟩⟩)
      clear hi5 hc5 hp5 hg5
      go_loopg [5] n (fun g i wr => RrSt w w5 b w.heap.size p T n S s0 g i wr)
      case atStart => exact ⟨0, _, by omega, rfl, HI5.out⟩
      case round =>
        obtain ⟨k, v, hk, rfl, hI⟩ := hrel
        have HK := Lib.hid hk
        have HI := Lib.hid hI
        have hlen := Nt.rds_len k s0
        obtain ⟨Av, cv, rfl, -, -⟩ := Rw.own_cells hI.own
        have f0 := hI.rp.c0
        have f1 := hI.rp.c1
        have ff0 := hI.rp.fz 0
        have ff1 := hI.rp.fz 1
        have fl := hI.rp.lt
        have e0 := hI.rc.c0
        have e1 := hI.rc.c1
        have ef0 := hI.rc.fz 0
        have ef1 := hI.rc.fz 1
        have el := hI.rc.lt
        have hcd := hI.ri.code
        rw [hlen] at f1
        have HOW := Lib.hid hI.own
        rw [hlen] at HOW
        obtain ⟨l1, l2, l3, l4, l5, l6, l7, l8⟩ := hI.lt
        have HSTOP := Lib.hid (fun he m => Nt.rds_stop hKS (k := k) he m)
        have HSN := Lib.hid (Nt.rds_snoc k s0)
        have HKL := Lib.hid hlen
        clear hk hI
        by_cases he : (Nt.rds k s0).2.2 = 0
        · have d0 : ((Nt.rds k s0).2.2 == 0) = true := by rw [he]; rfl
          have d1 : ((Nt.rds k s0).2.2 != 0) = false := by rw [he]; rfl
          by_cases hlt : k < n
          · clear HSTOP he hlen d1
            rw [HKL.out] at HI
            generalize Nt.rds k s0 = R0 at *
            obtain ⟨r0, s2⟩ := R0
            simp only at HSN HI HKL HOW hcd d0
            have HT8 := Lib.hid (fun W h => rinum_l b S s2 8 8 W (by omega) rfl h hS)
            have HT1 := Lib.hid (fun W h => rinum_l b S (lRaw s2 8) 1 1 W (by omega) rfl h hS)
            have HTX := Lib.hid (fun W h => ritext_l b S (lRaw (lRaw s2 8) 1) 64 W h hS)
            have hw8 := u8n (lRaw s2 8).1
            have HRD := Lib.hid (show Nt.rd1 s2 = (⟨Oct.val (lOut s2.1 8), Oct.val (lOut (lRaw s2 8).1 1), lTextOut (lRaw (lRaw s2 8) 1) 64⟩, lText (lRaw (lRaw s2 8) 1) 64) from rfl)
            generalize Oct.val (lOut s2.1 8) = tk at *
            generalize Oct.val (lOut (lRaw s2 8).1 1) = kd at *
            generalize lTextOut (lRaw (lRaw s2 8) 1) 64 = tx at *
            rw [HRD.out] at HSN
            have hk8 : k ≤ 300 := by omega
            go_wp2_with fail
            refine (HT8.out _ HI.out.ri).mono ?_
            rintro e w6 ⟨rfl, hi6, hg6⟩
            have HI6 := Lib.hid (HI.out.step hi6 hg6)
            clear hi6 hg6 f0 f1 ff0 ff1 fl hcd e0 e1 ef0 ef1 el
            go_wp2_with fail
            refine (HT1.out _ HI6.out.ri).mono ?_
            rintro e w7 ⟨rfl, hi7, hg7⟩
            have HI7 := Lib.hid (HI6.out.step hi7 hg7)
            have f1 := HI7.out.rp.c1
            have fl := HI7.out.rp.lt
            clear hi7 hg7
            go_wp2_with fail
            go_region_law (first
              | (refine step_append_lies _ (by rfl) _ _ _ (by rfl) w5.heap.size 38 iN _ 3 32 Try.underlying28 hiN hzN0 hzN1 hzN2 rfl (by omega) (.slice Av k cv) k (ncs r0) (by rfl) HO8.out ⟨w8.heap.size, 0, none⟩ 1 1 (ncs [⟨tk, kd, tx⟩]) (by rfl) (by rfl) (news1 w8 ⟨tk, kd, tx⟩ 38) (ncs_one _) (by omega) (by unfold maxLen; omega) (by omega) HS8.out w8.heap.size.succ (by simp) ?_; intro gg cap w9 hown hgrow hat hlt9; rw [← ncs_app] at hown; have hm9 := HM8.out.append (rdr_ref b S) (l' := r0 ++ [⟨tk, kd, tx⟩]) hgrow (by rw [List.length_append, HKL.out]; exact hown); have HX := Lib.hid (hm9.store (rdr_ref b S)); have f1 := hm9.rp.c1; have ff1 := hm9.rp.fz 1; have fl := hm9.rp.lt; clear hown hgrow hat hlt9 hm9)
              | (go_simp; go_at_call 40; refine (HTX.out _ ((rdr_ref b S).on HI7.out.ri ((Below.refl _ _).drew))).mono ?_; rintro e w8 ⟨rfl, hi8, hg8⟩; have hm8 := (HI7.out.on (rdr_ref b S) ((Below.refl _ _).drew)).step hi8 hg8; have f1 := hm8.rp.c1; have fl := hm8.rp.lt; have HM8 := Lib.hid (hm8.on (rdr_ref b S) (alloc1B w8 (.cells #[.int .u64 (tk : Int), .int .u8 (kd : Int), .string (ofL tx)] 38))); have HO8 := Lib.hid HM8.out.own; rw [HKL.out] at HO8; have HS8 := Lib.hid HM8.out.lt.2.2.2.2.2.2.2; clear hi8 hg8 hm8))
            all_goals (
              go_wp2_with fail
              go_roundg (gk - 1)
              case rel => exact ⟨k + 1, _, by have := HK.out; omega, by go_num, by rw [HSN.out]; exact HX.out⟩
              case measure => have := HK.out; omega)
          · have hkn : k = n := by have := HK.out; omega
            have HKN := Lib.hid hkn
            rw [← hkn] at HAA HEE
            clear hkn
            rw [if_neg (by simp [he])] at HAA
            clear HSTOP he hlen HSN
            rw [HKL.out] at HI
            generalize Nt.rds k s0 = R0 at *
            obtain ⟨r0, s2⟩ := R0
            simp only at HI HKL HOW HAA HEE hcd d1
            go_wp2_with fail
            have hd := HI.out.rc.set (.int .u64 (T : Int)) (.slice Av k cv)
            have g0 := hd.c0
            have g1 := hd.c1
            refine bodyPost_ret (v := .agg #[.int .u64 (T : Int), .slice Av k cv]) (by simp [results, Try.results21, go_sem, g0, g1]) rfl (HPOST.out _ _ ?_)
            obtain ⟨A9, c9, e9, hc9, hn9, hr9, hb9⟩ := Rws.of_own HOW.out
            obtain ⟨rfl, -, rfl⟩ := Value.slice.inj e9
            rw [HAA.out, HEE.out]
            refine ⟨Av, cv, by rw [HKL.out], by rw [HKL.out]; exact hc9, hn9, Rws.put2 hr9 (fun a ha => by have := (hb9 a ha).1; omega) _ _, fun a ha => by have := (hb9 a ha).1; omega, (rdr_ref b S).put ((rdr_ref b S).put HI.out.ri (by omega) 0 _) (by omega) 1 _, grown_far (grown_far HI.out.G l2 0 _) l2 1 _⟩
        · have d0 : ((Nt.rds k s0).2.2 == 0) = false := by rw [beq_eq_false_iff_ne]; exact he
          have d1 : ((Nt.rds k s0).2.2 != 0) = true := by rw [bne_iff_ne]; exact he
          have hst := HSTOP.out he (n - k)
          rw [show k + (n - k) = n by have := HK.out; omega] at hst
          rw [hst] at HAA HEE
          rw [if_pos he] at HAA
          clear HSTOP he hlen HSN hst
          rw [HKL.out] at HI
          generalize Nt.rds k s0 = R0 at *
          obtain ⟨r0, s2⟩ := R0
          simp only at HI HKL HOW HAA HEE hcd d0 d1
          by_cases hlt : k < n
          · go_wp2_with fail
            have hd := HI.out.rc.set (.int .u64 0) (.slice none 0 0)
            have g0 := hd.c0
            have g1 := hd.c1
            refine bodyPost_ret (v := .agg #[.int .u64 0, .slice none 0 0]) (by simp [results, Try.results21, go_sem, g0, g1]) rfl (HPOST.out _ _ ?_)
            rw [HAA.out, HEE.out]
            exact ⟨none, 0, rfl, Nat.le_refl _, fun _ => rfl, Nts.nil _ _, (fun a ha => by cases ha), (rdr_ref b S).put ((rdr_ref b S).put HI.out.ri (by omega) 0 _) (by omega) 1 _, grown_far (grown_far HI.out.G l2 0 _) l2 1 _⟩
          · go_wp2_with fail
            have hd := HI.out.rc.set (.int .u64 0) (.slice none 0 0)
            have g0 := hd.c0
            have g1 := hd.c1
            refine bodyPost_ret (v := .agg #[.int .u64 0, .slice none 0 0]) (by simp [results, Try.results21, go_sem, g0, g1]) rfl (HPOST.out _ _ ?_)
            rw [HAA.out, HEE.out]
            exact ⟨none, 0, rfl, Nat.le_refl _, fun _ => rfl, Nts.nil _ _, (fun a ha => by cases ha), (rdr_ref b S).put ((rdr_ref b S).put HI.out.ri (by omega) 0 _) (by omega) 1 _, grown_far (grown_far HI.out.G l2 0 _) l2 1 _⟩
    · have hs0 : s0 = lFail (lRaw (lRaw s 8) 1) 6 := by rw [HSS.out]; unfold Nt.mid; rw [if_pos h32]
      have dT : ((n : Int) != (T : Int)) = true := by rw [bne_iff_ne]; omega
      have dN : ((n : Int) == 32) = false := by rw [beq_eq_false_iff_ne]; omega
      have dL : decide (32 < (n : Int)) = true := decide_eq_true (by omega)
      clear hT1 h32
      go_wp2_with fail
      refine (HF6.out _ HI3.out).mono ?_
      rintro e w4 ⟨rfl, hi4, hg4x⟩
      have hc4 := HC3.out.keep hg4x (fun e => by have := Option.some.inj e; omega)
      have hp4 := HP3.out.keep hg4x (fun e => by have := Option.some.inj e; omega)
      have hg4 := HG3.out.trans hg4x
      clear e0 el
      have e0 := hp4.c0
      have el := hp4.lt
      go_wp2_with fail
      refine (HF67.out _ hi4).mono ?_
      rintro e w5 ⟨rfl, hi5, hg5x⟩
      rw [← hs0] at hi5
      have hc5 := hc4.keep hg5x (fun e => by have := Option.some.inj e; omega)
      have hp5 := hp4.keep hg5x (fun e => by have := Option.some.inj e; omega)
      have hg5 := hg4.trans hg5x
      clear hs0 hg5x e0 el hi4 hg4x hc4 hp4 hg4 HSS HC3 HP3 HG3 HI3 HF6 HF7 HF67
      go_wp2_with fail
      have HI5 := Lib.hid (show RnIn w w5 b w.heap.size p (RefL b S) T (Nt.rds 0 s0).2 38 (.slice none 0 0) (.slice none 0 0) (Nt.rds 0 s0).1 w5 from ⟨hi5, hc5, hp5, World.ownsRow_nil _ _ _ _, hg5, ⟨hbw, Nat.le_refl _, hc5.lt, by omega, hp5.lt, by omega, hg5.size, Nat.le_refl _⟩⟩)
      clear hi5 hc5 hp5 hg5
      go_loopg [5] n (fun g i wr => RrSt w w5 b w.heap.size p T n S s0 g i wr)
      case atStart => exact ⟨0, _, by omega, rfl, HI5.out⟩
      case round =>
        obtain ⟨k, v, hk, rfl, hI⟩ := hrel
        have HK := Lib.hid hk
        have HI := Lib.hid hI
        have hlen := Nt.rds_len k s0
        obtain ⟨Av, cv, rfl, -, -⟩ := Rw.own_cells hI.own
        have f0 := hI.rp.c0
        have f1 := hI.rp.c1
        have ff0 := hI.rp.fz 0
        have ff1 := hI.rp.fz 1
        have fl := hI.rp.lt
        have e0 := hI.rc.c0
        have e1 := hI.rc.c1
        have ef0 := hI.rc.fz 0
        have ef1 := hI.rc.fz 1
        have el := hI.rc.lt
        have hcd := hI.ri.code
        rw [hlen] at f1
        have HOW := Lib.hid hI.own
        rw [hlen] at HOW
        obtain ⟨l1, l2, l3, l4, l5, l6, l7, l8⟩ := hI.lt
        have HSTOP := Lib.hid (fun he m => Nt.rds_stop hKS (k := k) he m)
        have HSN := Lib.hid (Nt.rds_snoc k s0)
        have HKL := Lib.hid hlen
        clear hk hI
        by_cases he : (Nt.rds k s0).2.2 = 0
        · have d0 : ((Nt.rds k s0).2.2 == 0) = true := by rw [he]; rfl
          have d1 : ((Nt.rds k s0).2.2 != 0) = false := by rw [he]; rfl
          by_cases hlt : k < n
          · clear HSTOP he hlen d1
            rw [HKL.out] at HI
            generalize Nt.rds k s0 = R0 at *
            obtain ⟨r0, s2⟩ := R0
            simp only at HSN HI HKL HOW hcd d0
            have HT8 := Lib.hid (fun W h => rinum_l b S s2 8 8 W (by omega) rfl h hS)
            have HT1 := Lib.hid (fun W h => rinum_l b S (lRaw s2 8) 1 1 W (by omega) rfl h hS)
            have HTX := Lib.hid (fun W h => ritext_l b S (lRaw (lRaw s2 8) 1) 64 W h hS)
            have hw8 := u8n (lRaw s2 8).1
            have HRD := Lib.hid (show Nt.rd1 s2 = (⟨Oct.val (lOut s2.1 8), Oct.val (lOut (lRaw s2 8).1 1), lTextOut (lRaw (lRaw s2 8) 1) 64⟩, lText (lRaw (lRaw s2 8) 1) 64) from rfl)
            generalize Oct.val (lOut s2.1 8) = tk at *
            generalize Oct.val (lOut (lRaw s2 8).1 1) = kd at *
            generalize lTextOut (lRaw (lRaw s2 8) 1) 64 = tx at *
            rw [HRD.out] at HSN
            have hk8 : k ≤ 300 := by omega
            go_wp2_with fail
            refine (HT8.out _ HI.out.ri).mono ?_
            rintro e w6 ⟨rfl, hi6, hg6⟩
            have HI6 := Lib.hid (HI.out.step hi6 hg6)
            clear hi6 hg6 f0 f1 ff0 ff1 fl hcd e0 e1 ef0 ef1 el
            go_wp2_with fail
            refine (HT1.out _ HI6.out.ri).mono ?_
            rintro e w7 ⟨rfl, hi7, hg7⟩
            have HI7 := Lib.hid (HI6.out.step hi7 hg7)
            have f1 := HI7.out.rp.c1
            have fl := HI7.out.rp.lt
            clear hi7 hg7
            go_wp2_with fail
            go_region_law (first
              | (refine step_append_lies _ (by rfl) _ _ _ (by rfl) w5.heap.size 38 iN _ 3 32 Try.underlying28 hiN hzN0 hzN1 hzN2 rfl (by omega) (.slice Av k cv) k (ncs r0) (by rfl) HO8.out ⟨w8.heap.size, 0, none⟩ 1 1 (ncs [⟨tk, kd, tx⟩]) (by rfl) (by rfl) (news1 w8 ⟨tk, kd, tx⟩ 38) (ncs_one _) (by omega) (by unfold maxLen; omega) (by omega) HS8.out w8.heap.size.succ (by simp) ?_; intro gg cap w9 hown hgrow hat hlt9; rw [← ncs_app] at hown; have hm9 := HM8.out.append (rdr_ref b S) (l' := r0 ++ [⟨tk, kd, tx⟩]) hgrow (by rw [List.length_append, HKL.out]; exact hown); have HX := Lib.hid (hm9.store (rdr_ref b S)); have f1 := hm9.rp.c1; have ff1 := hm9.rp.fz 1; have fl := hm9.rp.lt; clear hown hgrow hat hlt9 hm9)
              | (go_simp; go_at_call 40; refine (HTX.out _ ((rdr_ref b S).on HI7.out.ri ((Below.refl _ _).drew))).mono ?_; rintro e w8 ⟨rfl, hi8, hg8⟩; have hm8 := (HI7.out.on (rdr_ref b S) ((Below.refl _ _).drew)).step hi8 hg8; have f1 := hm8.rp.c1; have fl := hm8.rp.lt; have HM8 := Lib.hid (hm8.on (rdr_ref b S) (alloc1B w8 (.cells #[.int .u64 (tk : Int), .int .u8 (kd : Int), .string (ofL tx)] 38))); have HO8 := Lib.hid HM8.out.own; rw [HKL.out] at HO8; have HS8 := Lib.hid HM8.out.lt.2.2.2.2.2.2.2; clear hi8 hg8 hm8))
            all_goals (
              go_wp2_with fail
              go_roundg (gk - 1)
              case rel => exact ⟨k + 1, _, by have := HK.out; omega, by go_num, by rw [HSN.out]; exact HX.out⟩
              case measure => have := HK.out; omega)
          · have hkn : k = n := by have := HK.out; omega
            have HKN := Lib.hid hkn
            rw [← hkn] at HAA HEE
            clear hkn
            rw [if_neg (by simp [he])] at HAA
            clear HSTOP he hlen HSN
            rw [HKL.out] at HI
            generalize Nt.rds k s0 = R0 at *
            obtain ⟨r0, s2⟩ := R0
            simp only at HI HKL HOW HAA HEE hcd d1
            go_wp2_with fail
            have hd := HI.out.rc.set (.int .u64 (T : Int)) (.slice Av k cv)
            have g0 := hd.c0
            have g1 := hd.c1
            refine bodyPost_ret (v := .agg #[.int .u64 (T : Int), .slice Av k cv]) (by simp [results, Try.results21, go_sem, g0, g1]) rfl (HPOST.out _ _ ?_)
            obtain ⟨A9, c9, e9, hc9, hn9, hr9, hb9⟩ := Rws.of_own HOW.out
            obtain ⟨rfl, -, rfl⟩ := Value.slice.inj e9
            rw [HAA.out, HEE.out]
            refine ⟨Av, cv, by rw [HKL.out], by rw [HKL.out]; exact hc9, hn9, Rws.put2 hr9 (fun a ha => by have := (hb9 a ha).1; omega) _ _, fun a ha => by have := (hb9 a ha).1; omega, (rdr_ref b S).put ((rdr_ref b S).put HI.out.ri (by omega) 0 _) (by omega) 1 _, grown_far (grown_far HI.out.G l2 0 _) l2 1 _⟩
        · have d0 : ((Nt.rds k s0).2.2 == 0) = false := by rw [beq_eq_false_iff_ne]; exact he
          have d1 : ((Nt.rds k s0).2.2 != 0) = true := by rw [bne_iff_ne]; exact he
          have hst := HSTOP.out he (n - k)
          rw [show k + (n - k) = n by have := HK.out; omega] at hst
          rw [hst] at HAA HEE
          rw [if_pos he] at HAA
          clear HSTOP he hlen HSN hst
          rw [HKL.out] at HI
          generalize Nt.rds k s0 = R0 at *
          obtain ⟨r0, s2⟩ := R0
          simp only at HI HKL HOW HAA HEE hcd d0 d1
          by_cases hlt : k < n
          · go_wp2_with fail
            have hd := HI.out.rc.set (.int .u64 0) (.slice none 0 0)
            have g0 := hd.c0
            have g1 := hd.c1
            refine bodyPost_ret (v := .agg #[.int .u64 0, .slice none 0 0]) (by simp [results, Try.results21, go_sem, g0, g1]) rfl (HPOST.out _ _ ?_)
            rw [HAA.out, HEE.out]
            exact ⟨none, 0, rfl, Nat.le_refl _, fun _ => rfl, Nts.nil _ _, (fun a ha => by cases ha), (rdr_ref b S).put ((rdr_ref b S).put HI.out.ri (by omega) 0 _) (by omega) 1 _, grown_far (grown_far HI.out.G l2 0 _) l2 1 _⟩
          · go_wp2_with fail
            have hd := HI.out.rc.set (.int .u64 0) (.slice none 0 0)
            have g0 := hd.c0
            have g1 := hd.c1
            refine bodyPost_ret (v := .agg #[.int .u64 0, .slice none 0 0]) (by simp [results, Try.results21, go_sem, g0, g1]) rfl (HPOST.out _ _ ?_)
            rw [HAA.out, HEE.out]
            exact ⟨none, 0, rfl, Nat.le_refl _, fun _ => rfl, Nts.nil _ _, (fun a ha => by cases ha), (rdr_ref b S).put ((rdr_ref b S).put HI.out.ri (by omega) 0 _) (by omega) 1 _, grown_far (grown_far HI.out.G l2 0 _) l2 1 _⟩
  · by_cases hT1 : n = T
    · have hs0 : s0 = lRaw (lRaw s 8) 1 := by rw [HSS.out]; unfold Nt.mid; rw [if_neg (by omega), if_neg (by omega)]
      have dT : ((n : Int) != (T : Int)) = false := by rw [bne_eq_false_iff_eq]; omega
      have dL : decide (32 < (n : Int)) = false := decide_eq_false (by omega)
      clear hT1 h32
      have hi5 := HI3.out
      rw [← hs0] at hi5
      have hc5 := HC3.out
      have hp5 := HP3.out
      have hg5 := HG3.out
      clear hs0 HSS HC3 HP3 HG3 HI3 HF6 HF7 HF67
      go_wp2_with fail
      clear e0 el
      generalize w3 = w5 at *
      have HI5 := Lib.hid (show RnIn w w5 b w.heap.size p (RefL b S) T (Nt.rds 0 s0).2 38 (.slice none 0 0) (.slice none 0 0) (Nt.rds 0 s0).1 w5 from ⟨hi5, hc5, hp5, World.ownsRow_nil _ _ _ _, hg5, ⟨hbw, Nat.le_refl _, hc5.lt, by omega, hp5.lt, by omega, hg5.size, Nat.le_refl _⟩⟩)
      clear hi5 hc5 hp5 hg5
      go_loopg [5] n (fun g i wr => RrSt w w5 b w.heap.size p T n S s0 g i wr)
      case atStart => exact ⟨0, _, by omega, rfl, HI5.out⟩
      case round =>
        obtain ⟨k, v, hk, rfl, hI⟩ := hrel
        have HK := Lib.hid hk
        have HI := Lib.hid hI
        have hlen := Nt.rds_len k s0
        obtain ⟨Av, cv, rfl, -, -⟩ := Rw.own_cells hI.own
        have f0 := hI.rp.c0
        have f1 := hI.rp.c1
        have ff0 := hI.rp.fz 0
        have ff1 := hI.rp.fz 1
        have fl := hI.rp.lt
        have e0 := hI.rc.c0
        have e1 := hI.rc.c1
        have ef0 := hI.rc.fz 0
        have ef1 := hI.rc.fz 1
        have el := hI.rc.lt
        have hcd := hI.ri.code
        rw [hlen] at f1
        have HOW := Lib.hid hI.own
        rw [hlen] at HOW
        obtain ⟨l1, l2, l3, l4, l5, l6, l7, l8⟩ := hI.lt
        have HSTOP := Lib.hid (fun he m => Nt.rds_stop hKS (k := k) he m)
        have HSN := Lib.hid (Nt.rds_snoc k s0)
        have HKL := Lib.hid hlen
        clear hk hI
        by_cases he : (Nt.rds k s0).2.2 = 0
        · have d0 : ((Nt.rds k s0).2.2 == 0) = true := by rw [he]; rfl
          have d1 : ((Nt.rds k s0).2.2 != 0) = false := by rw [he]; rfl
          by_cases hlt : k < n
          · clear HSTOP he hlen d1
            rw [HKL.out] at HI
            generalize Nt.rds k s0 = R0 at *
            obtain ⟨r0, s2⟩ := R0
            simp only at HSN HI HKL HOW hcd d0
            have HT8 := Lib.hid (fun W h => rinum_l b S s2 8 8 W (by omega) rfl h hS)
            have HT1 := Lib.hid (fun W h => rinum_l b S (lRaw s2 8) 1 1 W (by omega) rfl h hS)
            have HTX := Lib.hid (fun W h => ritext_l b S (lRaw (lRaw s2 8) 1) 64 W h hS)
            have hw8 := u8n (lRaw s2 8).1
            have HRD := Lib.hid (show Nt.rd1 s2 = (⟨Oct.val (lOut s2.1 8), Oct.val (lOut (lRaw s2 8).1 1), lTextOut (lRaw (lRaw s2 8) 1) 64⟩, lText (lRaw (lRaw s2 8) 1) 64) from rfl)
            generalize Oct.val (lOut s2.1 8) = tk at *
            generalize Oct.val (lOut (lRaw s2 8).1 1) = kd at *
            generalize lTextOut (lRaw (lRaw s2 8) 1) 64 = tx at *
            rw [HRD.out] at HSN
            have hk8 : k ≤ 300 := by omega
            go_wp2_with fail
            refine (HT8.out _ HI.out.ri).mono ?_
            rintro e w6 ⟨rfl, hi6, hg6⟩
            have HI6 := Lib.hid (HI.out.step hi6 hg6)
            clear hi6 hg6 f0 f1 ff0 ff1 fl hcd e0 e1 ef0 ef1 el
            go_wp2_with fail
            refine (HT1.out _ HI6.out.ri).mono ?_
            rintro e w7 ⟨rfl, hi7, hg7⟩
            have HI7 := Lib.hid (HI6.out.step hi7 hg7)
            have f1 := HI7.out.rp.c1
            have fl := HI7.out.rp.lt
            clear hi7 hg7
            go_wp2_with fail
            go_region_law (first
              | (refine step_append_lies _ (by rfl) _ _ _ (by rfl) w5.heap.size 38 iN _ 3 32 Try.underlying28 hiN hzN0 hzN1 hzN2 rfl (by omega) (.slice Av k cv) k (ncs r0) (by rfl) HO8.out ⟨w8.heap.size, 0, none⟩ 1 1 (ncs [⟨tk, kd, tx⟩]) (by rfl) (by rfl) (news1 w8 ⟨tk, kd, tx⟩ 38) (ncs_one _) (by omega) (by unfold maxLen; omega) (by omega) HS8.out w8.heap.size.succ (by simp) ?_; intro gg cap w9 hown hgrow hat hlt9; rw [← ncs_app] at hown; have hm9 := HM8.out.append (rdr_ref b S) (l' := r0 ++ [⟨tk, kd, tx⟩]) hgrow (by rw [List.length_append, HKL.out]; exact hown); have HX := Lib.hid (hm9.store (rdr_ref b S)); have f1 := hm9.rp.c1; have ff1 := hm9.rp.fz 1; have fl := hm9.rp.lt; clear hown hgrow hat hlt9 hm9)
              | (go_simp; go_at_call 40; refine (HTX.out _ ((rdr_ref b S).on HI7.out.ri ((Below.refl _ _).drew))).mono ?_; rintro e w8 ⟨rfl, hi8, hg8⟩; have hm8 := (HI7.out.on (rdr_ref b S) ((Below.refl _ _).drew)).step hi8 hg8; have f1 := hm8.rp.c1; have fl := hm8.rp.lt; have HM8 := Lib.hid (hm8.on (rdr_ref b S) (alloc1B w8 (.cells #[.int .u64 (tk : Int), .int .u8 (kd : Int), .string (ofL tx)] 38))); have HO8 := Lib.hid HM8.out.own; rw [HKL.out] at HO8; have HS8 := Lib.hid HM8.out.lt.2.2.2.2.2.2.2; clear hi8 hg8 hm8))
            all_goals (
              go_wp2_with fail
              go_roundg (gk - 1)
              case rel => exact ⟨k + 1, _, by have := HK.out; omega, by go_num, by rw [HSN.out]; exact HX.out⟩
              case measure => have := HK.out; omega)
          · have hkn : k = n := by have := HK.out; omega
            have HKN := Lib.hid hkn
            rw [← hkn] at HAA HEE
            clear hkn
            rw [if_neg (by simp [he])] at HAA
            clear HSTOP he hlen HSN
            rw [HKL.out] at HI
            generalize Nt.rds k s0 = R0 at *
            obtain ⟨r0, s2⟩ := R0
            simp only at HI HKL HOW HAA HEE hcd d1
            go_wp2_with fail
            have hd := HI.out.rc.set (.int .u64 (T : Int)) (.slice Av k cv)
            have g0 := hd.c0
            have g1 := hd.c1
            refine bodyPost_ret (v := .agg #[.int .u64 (T : Int), .slice Av k cv]) (by simp [results, Try.results21, go_sem, g0, g1]) rfl (HPOST.out _ _ ?_)
            obtain ⟨A9, c9, e9, hc9, hn9, hr9, hb9⟩ := Rws.of_own HOW.out
            obtain ⟨rfl, -, rfl⟩ := Value.slice.inj e9
            rw [HAA.out, HEE.out]
            refine ⟨Av, cv, by rw [HKL.out], by rw [HKL.out]; exact hc9, hn9, Rws.put2 hr9 (fun a ha => by have := (hb9 a ha).1; omega) _ _, fun a ha => by have := (hb9 a ha).1; omega, (rdr_ref b S).put ((rdr_ref b S).put HI.out.ri (by omega) 0 _) (by omega) 1 _, grown_far (grown_far HI.out.G l2 0 _) l2 1 _⟩
        · have d0 : ((Nt.rds k s0).2.2 == 0) = false := by rw [beq_eq_false_iff_ne]; exact he
          have d1 : ((Nt.rds k s0).2.2 != 0) = true := by rw [bne_iff_ne]; exact he
          have hst := HSTOP.out he (n - k)
          rw [show k + (n - k) = n by have := HK.out; omega] at hst
          rw [hst] at HAA HEE
          rw [if_pos he] at HAA
          clear HSTOP he hlen HSN hst
          rw [HKL.out] at HI
          generalize Nt.rds k s0 = R0 at *
          obtain ⟨r0, s2⟩ := R0
          simp only at HI HKL HOW HAA HEE hcd d0 d1
          by_cases hlt : k < n
          · go_wp2_with fail
            have hd := HI.out.rc.set (.int .u64 0) (.slice none 0 0)
            have g0 := hd.c0
            have g1 := hd.c1
            refine bodyPost_ret (v := .agg #[.int .u64 0, .slice none 0 0]) (by simp [results, Try.results21, go_sem, g0, g1]) rfl (HPOST.out _ _ ?_)
            rw [HAA.out, HEE.out]
            exact ⟨none, 0, rfl, Nat.le_refl _, fun _ => rfl, Nts.nil _ _, (fun a ha => by cases ha), (rdr_ref b S).put ((rdr_ref b S).put HI.out.ri (by omega) 0 _) (by omega) 1 _, grown_far (grown_far HI.out.G l2 0 _) l2 1 _⟩
          · go_wp2_with fail
            have hd := HI.out.rc.set (.int .u64 0) (.slice none 0 0)
            have g0 := hd.c0
            have g1 := hd.c1
            refine bodyPost_ret (v := .agg #[.int .u64 0, .slice none 0 0]) (by simp [results, Try.results21, go_sem, g0, g1]) rfl (HPOST.out _ _ ?_)
            rw [HAA.out, HEE.out]
            exact ⟨none, 0, rfl, Nat.le_refl _, fun _ => rfl, Nts.nil _ _, (fun a ha => by cases ha), (rdr_ref b S).put ((rdr_ref b S).put HI.out.ri (by omega) 0 _) (by omega) 1 _, grown_far (grown_far HI.out.G l2 0 _) l2 1 _⟩
    · by_cases hn : n = 32
      · by_cases hg : 32 < T
        · have hs0 : s0 = lRaw (lRaw s 8) 1 := by rw [HSS.out]; unfold Nt.mid; rw [if_neg (by omega), if_neg (by omega)]
          have dT : ((n : Int) != (T : Int)) = true := by rw [bne_iff_ne]; omega
          have dN : ((n : Int) == 32) = true := by rw [beq_iff_eq]; omega
          have dG : decide (32 < (T : Int)) = true := decide_eq_true (by omega)
          have dL : decide (32 < (n : Int)) = false := decide_eq_false (by omega)
          clear hT1 h32 hn hg
          have hi5 := HI3.out
          rw [← hs0] at hi5
          have hc5 := HC3.out
          have hp5 := HP3.out
          have hg5 := HG3.out
          clear hs0 HSS HC3 HP3 HG3 HI3 HF6 HF7 HF67
          go_wp2_with fail
          clear e0 el
          generalize w3 = w5 at *
          have HI5 := Lib.hid (show RnIn w w5 b w.heap.size p (RefL b S) T (Nt.rds 0 s0).2 38 (.slice none 0 0) (.slice none 0 0) (Nt.rds 0 s0).1 w5 from ⟨hi5, hc5, hp5, World.ownsRow_nil _ _ _ _, hg5, ⟨hbw, Nat.le_refl _, hc5.lt, by omega, hp5.lt, by omega, hg5.size, Nat.le_refl _⟩⟩)
          clear hi5 hc5 hp5 hg5
          go_loopg [5] n (fun g i wr => RrSt w w5 b w.heap.size p T n S s0 g i wr)
          case atStart => exact ⟨0, _, by omega, rfl, HI5.out⟩
          case round =>
            obtain ⟨k, v, hk, rfl, hI⟩ := hrel
            have HK := Lib.hid hk
            have HI := Lib.hid hI
            have hlen := Nt.rds_len k s0
            obtain ⟨Av, cv, rfl, -, -⟩ := Rw.own_cells hI.own
            have f0 := hI.rp.c0
            have f1 := hI.rp.c1
            have ff0 := hI.rp.fz 0
            have ff1 := hI.rp.fz 1
            have fl := hI.rp.lt
            have e0 := hI.rc.c0
            have e1 := hI.rc.c1
            have ef0 := hI.rc.fz 0
            have ef1 := hI.rc.fz 1
            have el := hI.rc.lt
            have hcd := hI.ri.code
            rw [hlen] at f1
            have HOW := Lib.hid hI.own
            rw [hlen] at HOW
            obtain ⟨l1, l2, l3, l4, l5, l6, l7, l8⟩ := hI.lt
            have HSTOP := Lib.hid (fun he m => Nt.rds_stop hKS (k := k) he m)
            have HSN := Lib.hid (Nt.rds_snoc k s0)
            have HKL := Lib.hid hlen
            clear hk hI
            by_cases he : (Nt.rds k s0).2.2 = 0
            · have d0 : ((Nt.rds k s0).2.2 == 0) = true := by rw [he]; rfl
              have d1 : ((Nt.rds k s0).2.2 != 0) = false := by rw [he]; rfl
              by_cases hlt : k < n
              · clear HSTOP he hlen d1
                rw [HKL.out] at HI
                generalize Nt.rds k s0 = R0 at *
                obtain ⟨r0, s2⟩ := R0
                simp only at HSN HI HKL HOW hcd d0
                have HT8 := Lib.hid (fun W h => rinum_l b S s2 8 8 W (by omega) rfl h hS)
                have HT1 := Lib.hid (fun W h => rinum_l b S (lRaw s2 8) 1 1 W (by omega) rfl h hS)
                have HTX := Lib.hid (fun W h => ritext_l b S (lRaw (lRaw s2 8) 1) 64 W h hS)
                have hw8 := u8n (lRaw s2 8).1
                have HRD := Lib.hid (show Nt.rd1 s2 = (⟨Oct.val (lOut s2.1 8), Oct.val (lOut (lRaw s2 8).1 1), lTextOut (lRaw (lRaw s2 8) 1) 64⟩, lText (lRaw (lRaw s2 8) 1) 64) from rfl)
                generalize Oct.val (lOut s2.1 8) = tk at *
                generalize Oct.val (lOut (lRaw s2 8).1 1) = kd at *
                generalize lTextOut (lRaw (lRaw s2 8) 1) 64 = tx at *
                rw [HRD.out] at HSN
                have hk8 : k ≤ 300 := by omega
                go_wp2_with fail
                refine (HT8.out _ HI.out.ri).mono ?_
                rintro e w6 ⟨rfl, hi6, hg6⟩
                have HI6 := Lib.hid (HI.out.step hi6 hg6)
                clear hi6 hg6 f0 f1 ff0 ff1 fl hcd e0 e1 ef0 ef1 el
                go_wp2_with fail
                refine (HT1.out _ HI6.out.ri).mono ?_
                rintro e w7 ⟨rfl, hi7, hg7⟩
                have HI7 := Lib.hid (HI6.out.step hi7 hg7)
                have f1 := HI7.out.rp.c1
                have fl := HI7.out.rp.lt
                clear hi7 hg7
                go_wp2_with fail
                go_region_law (first
                  | (refine step_append_lies _ (by rfl) _ _ _ (by rfl) w5.heap.size 38 iN _ 3 32 Try.underlying28 hiN hzN0 hzN1 hzN2 rfl (by omega) (.slice Av k cv) k (ncs r0) (by rfl) HO8.out ⟨w8.heap.size, 0, none⟩ 1 1 (ncs [⟨tk, kd, tx⟩]) (by rfl) (by rfl) (news1 w8 ⟨tk, kd, tx⟩ 38) (ncs_one _) (by omega) (by unfold maxLen; omega) (by omega) HS8.out w8.heap.size.succ (by simp) ?_; intro gg cap w9 hown hgrow hat hlt9; rw [← ncs_app] at hown; have hm9 := HM8.out.append (rdr_ref b S) (l' := r0 ++ [⟨tk, kd, tx⟩]) hgrow (by rw [List.length_append, HKL.out]; exact hown); have HX := Lib.hid (hm9.store (rdr_ref b S)); have f1 := hm9.rp.c1; have ff1 := hm9.rp.fz 1; have fl := hm9.rp.lt; clear hown hgrow hat hlt9 hm9)
                  | (go_simp; go_at_call 40; refine (HTX.out _ ((rdr_ref b S).on HI7.out.ri ((Below.refl _ _).drew))).mono ?_; rintro e w8 ⟨rfl, hi8, hg8⟩; have hm8 := (HI7.out.on (rdr_ref b S) ((Below.refl _ _).drew)).step hi8 hg8; have f1 := hm8.rp.c1; have fl := hm8.rp.lt; have HM8 := Lib.hid (hm8.on (rdr_ref b S) (alloc1B w8 (.cells #[.int .u64 (tk : Int), .int .u8 (kd : Int), .string (ofL tx)] 38))); have HO8 := Lib.hid HM8.out.own; rw [HKL.out] at HO8; have HS8 := Lib.hid HM8.out.lt.2.2.2.2.2.2.2; clear hi8 hg8 hm8))
                all_goals (
                  go_wp2_with fail
                  go_roundg (gk - 1)
                  case rel => exact ⟨k + 1, _, by have := HK.out; omega, by go_num, by rw [HSN.out]; exact HX.out⟩
                  case measure => have := HK.out; omega)
              · have hkn : k = n := by have := HK.out; omega
                have HKN := Lib.hid hkn
                rw [← hkn] at HAA HEE
                clear hkn
                rw [if_neg (by simp [he])] at HAA
                clear HSTOP he hlen HSN
                rw [HKL.out] at HI
                generalize Nt.rds k s0 = R0 at *
                obtain ⟨r0, s2⟩ := R0
                simp only at HI HKL HOW HAA HEE hcd d1
                go_wp2_with fail
                have hd := HI.out.rc.set (.int .u64 (T : Int)) (.slice Av k cv)
                have g0 := hd.c0
                have g1 := hd.c1
                refine bodyPost_ret (v := .agg #[.int .u64 (T : Int), .slice Av k cv]) (by simp [results, Try.results21, go_sem, g0, g1]) rfl (HPOST.out _ _ ?_)
                obtain ⟨A9, c9, e9, hc9, hn9, hr9, hb9⟩ := Rws.of_own HOW.out
                obtain ⟨rfl, -, rfl⟩ := Value.slice.inj e9
                rw [HAA.out, HEE.out]
                refine ⟨Av, cv, by rw [HKL.out], by rw [HKL.out]; exact hc9, hn9, Rws.put2 hr9 (fun a ha => by have := (hb9 a ha).1; omega) _ _, fun a ha => by have := (hb9 a ha).1; omega, (rdr_ref b S).put ((rdr_ref b S).put HI.out.ri (by omega) 0 _) (by omega) 1 _, grown_far (grown_far HI.out.G l2 0 _) l2 1 _⟩
            · have d0 : ((Nt.rds k s0).2.2 == 0) = false := by rw [beq_eq_false_iff_ne]; exact he
              have d1 : ((Nt.rds k s0).2.2 != 0) = true := by rw [bne_iff_ne]; exact he
              have hst := HSTOP.out he (n - k)
              rw [show k + (n - k) = n by have := HK.out; omega] at hst
              rw [hst] at HAA HEE
              rw [if_pos he] at HAA
              clear HSTOP he hlen HSN hst
              rw [HKL.out] at HI
              generalize Nt.rds k s0 = R0 at *
              obtain ⟨r0, s2⟩ := R0
              simp only at HI HKL HOW HAA HEE hcd d0 d1
              by_cases hlt : k < n
              · go_wp2_with fail
                have hd := HI.out.rc.set (.int .u64 0) (.slice none 0 0)
                have g0 := hd.c0
                have g1 := hd.c1
                refine bodyPost_ret (v := .agg #[.int .u64 0, .slice none 0 0]) (by simp [results, Try.results21, go_sem, g0, g1]) rfl (HPOST.out _ _ ?_)
                rw [HAA.out, HEE.out]
                exact ⟨none, 0, rfl, Nat.le_refl _, fun _ => rfl, Nts.nil _ _, (fun a ha => by cases ha), (rdr_ref b S).put ((rdr_ref b S).put HI.out.ri (by omega) 0 _) (by omega) 1 _, grown_far (grown_far HI.out.G l2 0 _) l2 1 _⟩
              · go_wp2_with fail
                have hd := HI.out.rc.set (.int .u64 0) (.slice none 0 0)
                have g0 := hd.c0
                have g1 := hd.c1
                refine bodyPost_ret (v := .agg #[.int .u64 0, .slice none 0 0]) (by simp [results, Try.results21, go_sem, g0, g1]) rfl (HPOST.out _ _ ?_)
                rw [HAA.out, HEE.out]
                exact ⟨none, 0, rfl, Nat.le_refl _, fun _ => rfl, Nts.nil _ _, (fun a ha => by cases ha), (rdr_ref b S).put ((rdr_ref b S).put HI.out.ri (by omega) 0 _) (by omega) 1 _, grown_far (grown_far HI.out.G l2 0 _) l2 1 _⟩
        · have hs0 : s0 = lFail (lRaw (lRaw s 8) 1) 7 := by rw [HSS.out]; unfold Nt.mid; rw [if_neg (by omega), if_pos (by omega)]
          have dT : ((n : Int) != (T : Int)) = true := by rw [bne_iff_ne]; omega
          have dN : ((n : Int) == 32) = true := by rw [beq_iff_eq]; omega
          have dG : decide (32 < (T : Int)) = false := decide_eq_false (by omega)
          have dL : decide (32 < (n : Int)) = false := decide_eq_false (by omega)
          clear hT1 h32 hn hg
          go_wp2_with fail
          refine (HF7.out _ HI3.out).mono ?_
          rintro e w5 ⟨rfl, hi5, hg5x⟩
          rw [← hs0] at hi5
          have hc5 := HC3.out.keep hg5x (fun e => by have := Option.some.inj e; omega)
          have hp5 := HP3.out.keep hg5x (fun e => by have := Option.some.inj e; omega)
          have hg5 := HG3.out.trans hg5x
          clear e0 el
          have e0 := hp5.c0
          have el := hp5.lt
          clear hs0 hg5x HSS HC3 HP3 HG3 HI3 HF6 HF7 HF67
          go_wp2_with fail
          clear e0 el
          have HI5 := Lib.hid (show RnIn w w5 b w.heap.size p (RefL b S) T (Nt.rds 0 s0).2 38 (.slice none 0 0) (.slice none 0 0) (Nt.rds 0 s0).1 w5 from ⟨hi5, hc5, hp5, World.ownsRow_nil _ _ _ _, hg5, ⟨hbw, Nat.le_refl _, hc5.lt, by omega, hp5.lt, by omega, hg5.size, Nat.le_refl _⟩⟩)
          clear hi5 hc5 hp5 hg5
          go_loopg [5] n (fun g i wr => RrSt w w5 b w.heap.size p T n S s0 g i wr)
          case atStart => exact ⟨0, _, by omega, rfl, HI5.out⟩
          case round =>
            obtain ⟨k, v, hk, rfl, hI⟩ := hrel
            have HK := Lib.hid hk
            have HI := Lib.hid hI
            have hlen := Nt.rds_len k s0
            obtain ⟨Av, cv, rfl, -, -⟩ := Rw.own_cells hI.own
            have f0 := hI.rp.c0
            have f1 := hI.rp.c1
            have ff0 := hI.rp.fz 0
            have ff1 := hI.rp.fz 1
            have fl := hI.rp.lt
            have e0 := hI.rc.c0
            have e1 := hI.rc.c1
            have ef0 := hI.rc.fz 0
            have ef1 := hI.rc.fz 1
            have el := hI.rc.lt
            have hcd := hI.ri.code
            rw [hlen] at f1
            have HOW := Lib.hid hI.own
            rw [hlen] at HOW
            obtain ⟨l1, l2, l3, l4, l5, l6, l7, l8⟩ := hI.lt
            have HSTOP := Lib.hid (fun he m => Nt.rds_stop hKS (k := k) he m)
            have HSN := Lib.hid (Nt.rds_snoc k s0)
            have HKL := Lib.hid hlen
            clear hk hI
            by_cases he : (Nt.rds k s0).2.2 = 0
            · have d0 : ((Nt.rds k s0).2.2 == 0) = true := by rw [he]; rfl
              have d1 : ((Nt.rds k s0).2.2 != 0) = false := by rw [he]; rfl
              by_cases hlt : k < n
              · clear HSTOP he hlen d1
                rw [HKL.out] at HI
                generalize Nt.rds k s0 = R0 at *
                obtain ⟨r0, s2⟩ := R0
                simp only at HSN HI HKL HOW hcd d0
                have HT8 := Lib.hid (fun W h => rinum_l b S s2 8 8 W (by omega) rfl h hS)
                have HT1 := Lib.hid (fun W h => rinum_l b S (lRaw s2 8) 1 1 W (by omega) rfl h hS)
                have HTX := Lib.hid (fun W h => ritext_l b S (lRaw (lRaw s2 8) 1) 64 W h hS)
                have hw8 := u8n (lRaw s2 8).1
                have HRD := Lib.hid (show Nt.rd1 s2 = (⟨Oct.val (lOut s2.1 8), Oct.val (lOut (lRaw s2 8).1 1), lTextOut (lRaw (lRaw s2 8) 1) 64⟩, lText (lRaw (lRaw s2 8) 1) 64) from rfl)
                generalize Oct.val (lOut s2.1 8) = tk at *
                generalize Oct.val (lOut (lRaw s2 8).1 1) = kd at *
                generalize lTextOut (lRaw (lRaw s2 8) 1) 64 = tx at *
                rw [HRD.out] at HSN
                have hk8 : k ≤ 300 := by omega
                go_wp2_with fail
                refine (HT8.out _ HI.out.ri).mono ?_
                rintro e w6 ⟨rfl, hi6, hg6⟩
                have HI6 := Lib.hid (HI.out.step hi6 hg6)
                clear hi6 hg6 f0 f1 ff0 ff1 fl hcd e0 e1 ef0 ef1 el
                go_wp2_with fail
                refine (HT1.out _ HI6.out.ri).mono ?_
                rintro e w7 ⟨rfl, hi7, hg7⟩
                have HI7 := Lib.hid (HI6.out.step hi7 hg7)
                have f1 := HI7.out.rp.c1
                have fl := HI7.out.rp.lt
                clear hi7 hg7
                go_wp2_with fail
                go_region_law (first
                  | (refine step_append_lies _ (by rfl) _ _ _ (by rfl) w5.heap.size 38 iN _ 3 32 Try.underlying28 hiN hzN0 hzN1 hzN2 rfl (by omega) (.slice Av k cv) k (ncs r0) (by rfl) HO8.out ⟨w8.heap.size, 0, none⟩ 1 1 (ncs [⟨tk, kd, tx⟩]) (by rfl) (by rfl) (news1 w8 ⟨tk, kd, tx⟩ 38) (ncs_one _) (by omega) (by unfold maxLen; omega) (by omega) HS8.out w8.heap.size.succ (by simp) ?_; intro gg cap w9 hown hgrow hat hlt9; rw [← ncs_app] at hown; have hm9 := HM8.out.append (rdr_ref b S) (l' := r0 ++ [⟨tk, kd, tx⟩]) hgrow (by rw [List.length_append, HKL.out]; exact hown); have HX := Lib.hid (hm9.store (rdr_ref b S)); have f1 := hm9.rp.c1; have ff1 := hm9.rp.fz 1; have fl := hm9.rp.lt; clear hown hgrow hat hlt9 hm9)
                  | (go_simp; go_at_call 40; refine (HTX.out _ ((rdr_ref b S).on HI7.out.ri ((Below.refl _ _).drew))).mono ?_; rintro e w8 ⟨rfl, hi8, hg8⟩; have hm8 := (HI7.out.on (rdr_ref b S) ((Below.refl _ _).drew)).step hi8 hg8; have f1 := hm8.rp.c1; have fl := hm8.rp.lt; have HM8 := Lib.hid (hm8.on (rdr_ref b S) (alloc1B w8 (.cells #[.int .u64 (tk : Int), .int .u8 (kd : Int), .string (ofL tx)] 38))); have HO8 := Lib.hid HM8.out.own; rw [HKL.out] at HO8; have HS8 := Lib.hid HM8.out.lt.2.2.2.2.2.2.2; clear hi8 hg8 hm8))
                all_goals (
                  go_wp2_with fail
                  go_roundg (gk - 1)
                  case rel => exact ⟨k + 1, _, by have := HK.out; omega, by go_num, by rw [HSN.out]; exact HX.out⟩
                  case measure => have := HK.out; omega)
              · have hkn : k = n := by have := HK.out; omega
                have HKN := Lib.hid hkn
                rw [← hkn] at HAA HEE
                clear hkn
                rw [if_neg (by simp [he])] at HAA
                clear HSTOP he hlen HSN
                rw [HKL.out] at HI
                generalize Nt.rds k s0 = R0 at *
                obtain ⟨r0, s2⟩ := R0
                simp only at HI HKL HOW HAA HEE hcd d1
                go_wp2_with fail
                have hd := HI.out.rc.set (.int .u64 (T : Int)) (.slice Av k cv)
                have g0 := hd.c0
                have g1 := hd.c1
                refine bodyPost_ret (v := .agg #[.int .u64 (T : Int), .slice Av k cv]) (by simp [results, Try.results21, go_sem, g0, g1]) rfl (HPOST.out _ _ ?_)
                obtain ⟨A9, c9, e9, hc9, hn9, hr9, hb9⟩ := Rws.of_own HOW.out
                obtain ⟨rfl, -, rfl⟩ := Value.slice.inj e9
                rw [HAA.out, HEE.out]
                refine ⟨Av, cv, by rw [HKL.out], by rw [HKL.out]; exact hc9, hn9, Rws.put2 hr9 (fun a ha => by have := (hb9 a ha).1; omega) _ _, fun a ha => by have := (hb9 a ha).1; omega, (rdr_ref b S).put ((rdr_ref b S).put HI.out.ri (by omega) 0 _) (by omega) 1 _, grown_far (grown_far HI.out.G l2 0 _) l2 1 _⟩
            · have d0 : ((Nt.rds k s0).2.2 == 0) = false := by rw [beq_eq_false_iff_ne]; exact he
              have d1 : ((Nt.rds k s0).2.2 != 0) = true := by rw [bne_iff_ne]; exact he
              have hst := HSTOP.out he (n - k)
              rw [show k + (n - k) = n by have := HK.out; omega] at hst
              rw [hst] at HAA HEE
              rw [if_pos he] at HAA
              clear HSTOP he hlen HSN hst
              rw [HKL.out] at HI
              generalize Nt.rds k s0 = R0 at *
              obtain ⟨r0, s2⟩ := R0
              simp only at HI HKL HOW HAA HEE hcd d0 d1
              by_cases hlt : k < n
              · go_wp2_with fail
                have hd := HI.out.rc.set (.int .u64 0) (.slice none 0 0)
                have g0 := hd.c0
                have g1 := hd.c1
                refine bodyPost_ret (v := .agg #[.int .u64 0, .slice none 0 0]) (by simp [results, Try.results21, go_sem, g0, g1]) rfl (HPOST.out _ _ ?_)
                rw [HAA.out, HEE.out]
                exact ⟨none, 0, rfl, Nat.le_refl _, fun _ => rfl, Nts.nil _ _, (fun a ha => by cases ha), (rdr_ref b S).put ((rdr_ref b S).put HI.out.ri (by omega) 0 _) (by omega) 1 _, grown_far (grown_far HI.out.G l2 0 _) l2 1 _⟩
              · go_wp2_with fail
                have hd := HI.out.rc.set (.int .u64 0) (.slice none 0 0)
                have g0 := hd.c0
                have g1 := hd.c1
                refine bodyPost_ret (v := .agg #[.int .u64 0, .slice none 0 0]) (by simp [results, Try.results21, go_sem, g0, g1]) rfl (HPOST.out _ _ ?_)
                rw [HAA.out, HEE.out]
                exact ⟨none, 0, rfl, Nat.le_refl _, fun _ => rfl, Nts.nil _ _, (fun a ha => by cases ha), (rdr_ref b S).put ((rdr_ref b S).put HI.out.ri (by omega) 0 _) (by omega) 1 _, grown_far (grown_far HI.out.G l2 0 _) l2 1 _⟩
      · have hs0 : s0 = lFail (lRaw (lRaw s 8) 1) 7 := by rw [HSS.out]; unfold Nt.mid; rw [if_neg (by omega), if_pos (by omega)]
        have dT : ((n : Int) != (T : Int)) = true := by rw [bne_iff_ne]; omega
        have dN : ((n : Int) == 32) = false := by rw [beq_eq_false_iff_ne]; omega
        have dL : decide (32 < (n : Int)) = false := decide_eq_false (by omega)
        clear hT1 h32 hn
        go_wp2_with fail
        refine (HF7.out _ HI3.out).mono ?_
        rintro e w5 ⟨rfl, hi5, hg5x⟩
        rw [← hs0] at hi5
        have hc5 := HC3.out.keep hg5x (fun e => by have := Option.some.inj e; omega)
        have hp5 := HP3.out.keep hg5x (fun e => by have := Option.some.inj e; omega)
        have hg5 := HG3.out.trans hg5x
        clear e0 el
        have e0 := hp5.c0
        have el := hp5.lt
        clear hs0 hg5x HSS HC3 HP3 HG3 HI3 HF6 HF7 HF67
        go_wp2_with fail
        clear e0 el
        have HI5 := Lib.hid (show RnIn w w5 b w.heap.size p (RefL b S) T (Nt.rds 0 s0).2 38 (.slice none 0 0) (.slice none 0 0) (Nt.rds 0 s0).1 w5 from ⟨hi5, hc5, hp5, World.ownsRow_nil _ _ _ _, hg5, ⟨hbw, Nat.le_refl _, hc5.lt, by omega, hp5.lt, by omega, hg5.size, Nat.le_refl _⟩⟩)
        clear hi5 hc5 hp5 hg5
        go_loopg [5] n (fun g i wr => RrSt w w5 b w.heap.size p T n S s0 g i wr)
        case atStart => exact ⟨0, _, by omega, rfl, HI5.out⟩
        case round =>
          obtain ⟨k, v, hk, rfl, hI⟩ := hrel
          have HK := Lib.hid hk
          have HI := Lib.hid hI
          have hlen := Nt.rds_len k s0
          obtain ⟨Av, cv, rfl, -, -⟩ := Rw.own_cells hI.own
          have f0 := hI.rp.c0
          have f1 := hI.rp.c1
          have ff0 := hI.rp.fz 0
          have ff1 := hI.rp.fz 1
          have fl := hI.rp.lt
          have e0 := hI.rc.c0
          have e1 := hI.rc.c1
          have ef0 := hI.rc.fz 0
          have ef1 := hI.rc.fz 1
          have el := hI.rc.lt
          have hcd := hI.ri.code
          rw [hlen] at f1
          have HOW := Lib.hid hI.own
          rw [hlen] at HOW
          obtain ⟨l1, l2, l3, l4, l5, l6, l7, l8⟩ := hI.lt
          have HSTOP := Lib.hid (fun he m => Nt.rds_stop hKS (k := k) he m)
          have HSN := Lib.hid (Nt.rds_snoc k s0)
          have HKL := Lib.hid hlen
          clear hk hI
          by_cases he : (Nt.rds k s0).2.2 = 0
          · have d0 : ((Nt.rds k s0).2.2 == 0) = true := by rw [he]; rfl
            have d1 : ((Nt.rds k s0).2.2 != 0) = false := by rw [he]; rfl
            by_cases hlt : k < n
            · clear HSTOP he hlen d1
              rw [HKL.out] at HI
              generalize Nt.rds k s0 = R0 at *
              obtain ⟨r0, s2⟩ := R0
              simp only at HSN HI HKL HOW hcd d0
              have HT8 := Lib.hid (fun W h => rinum_l b S s2 8 8 W (by omega) rfl h hS)
              have HT1 := Lib.hid (fun W h => rinum_l b S (lRaw s2 8) 1 1 W (by omega) rfl h hS)
              have HTX := Lib.hid (fun W h => ritext_l b S (lRaw (lRaw s2 8) 1) 64 W h hS)
              have hw8 := u8n (lRaw s2 8).1
              have HRD := Lib.hid (show Nt.rd1 s2 = (⟨Oct.val (lOut s2.1 8), Oct.val (lOut (lRaw s2 8).1 1), lTextOut (lRaw (lRaw s2 8) 1) 64⟩, lText (lRaw (lRaw s2 8) 1) 64) from rfl)
              generalize Oct.val (lOut s2.1 8) = tk at *
              generalize Oct.val (lOut (lRaw s2 8).1 1) = kd at *
              generalize lTextOut (lRaw (lRaw s2 8) 1) 64 = tx at *
              rw [HRD.out] at HSN
              have hk8 : k ≤ 300 := by omega
              go_wp2_with fail
              refine (HT8.out _ HI.out.ri).mono ?_
              rintro e w6 ⟨rfl, hi6, hg6⟩
              have HI6 := Lib.hid (HI.out.step hi6 hg6)
              clear hi6 hg6 f0 f1 ff0 ff1 fl hcd e0 e1 ef0 ef1 el
              go_wp2_with fail
              refine (HT1.out _ HI6.out.ri).mono ?_
              rintro e w7 ⟨rfl, hi7, hg7⟩
              have HI7 := Lib.hid (HI6.out.step hi7 hg7)
              have f1 := HI7.out.rp.c1
              have fl := HI7.out.rp.lt
              clear hi7 hg7
              go_wp2_with fail
              go_region_law (first
                | (refine step_append_lies _ (by rfl) _ _ _ (by rfl) w5.heap.size 38 iN _ 3 32 Try.underlying28 hiN hzN0 hzN1 hzN2 rfl (by omega) (.slice Av k cv) k (ncs r0) (by rfl) HO8.out ⟨w8.heap.size, 0, none⟩ 1 1 (ncs [⟨tk, kd, tx⟩]) (by rfl) (by rfl) (news1 w8 ⟨tk, kd, tx⟩ 38) (ncs_one _) (by omega) (by unfold maxLen; omega) (by omega) HS8.out w8.heap.size.succ (by simp) ?_; intro gg cap w9 hown hgrow hat hlt9; rw [← ncs_app] at hown; have hm9 := HM8.out.append (rdr_ref b S) (l' := r0 ++ [⟨tk, kd, tx⟩]) hgrow (by rw [List.length_append, HKL.out]; exact hown); have HX := Lib.hid (hm9.store (rdr_ref b S)); have f1 := hm9.rp.c1; have ff1 := hm9.rp.fz 1; have fl := hm9.rp.lt; clear hown hgrow hat hlt9 hm9)
                | (go_simp; go_at_call 40; refine (HTX.out _ ((rdr_ref b S).on HI7.out.ri ((Below.refl _ _).drew))).mono ?_; rintro e w8 ⟨rfl, hi8, hg8⟩; have hm8 := (HI7.out.on (rdr_ref b S) ((Below.refl _ _).drew)).step hi8 hg8; have f1 := hm8.rp.c1; have fl := hm8.rp.lt; have HM8 := Lib.hid (hm8.on (rdr_ref b S) (alloc1B w8 (.cells #[.int .u64 (tk : Int), .int .u8 (kd : Int), .string (ofL tx)] 38))); have HO8 := Lib.hid HM8.out.own; rw [HKL.out] at HO8; have HS8 := Lib.hid HM8.out.lt.2.2.2.2.2.2.2; clear hi8 hg8 hm8))
              all_goals (
                go_wp2_with fail
                go_roundg (gk - 1)
                case rel => exact ⟨k + 1, _, by have := HK.out; omega, by go_num, by rw [HSN.out]; exact HX.out⟩
                case measure => have := HK.out; omega)
            · have hkn : k = n := by have := HK.out; omega
              have HKN := Lib.hid hkn
              rw [← hkn] at HAA HEE
              clear hkn
              rw [if_neg (by simp [he])] at HAA
              clear HSTOP he hlen HSN
              rw [HKL.out] at HI
              generalize Nt.rds k s0 = R0 at *
              obtain ⟨r0, s2⟩ := R0
              simp only at HI HKL HOW HAA HEE hcd d1
              go_wp2_with fail
              have hd := HI.out.rc.set (.int .u64 (T : Int)) (.slice Av k cv)
              have g0 := hd.c0
              have g1 := hd.c1
              refine bodyPost_ret (v := .agg #[.int .u64 (T : Int), .slice Av k cv]) (by simp [results, Try.results21, go_sem, g0, g1]) rfl (HPOST.out _ _ ?_)
              obtain ⟨A9, c9, e9, hc9, hn9, hr9, hb9⟩ := Rws.of_own HOW.out
              obtain ⟨rfl, -, rfl⟩ := Value.slice.inj e9
              rw [HAA.out, HEE.out]
              refine ⟨Av, cv, by rw [HKL.out], by rw [HKL.out]; exact hc9, hn9, Rws.put2 hr9 (fun a ha => by have := (hb9 a ha).1; omega) _ _, fun a ha => by have := (hb9 a ha).1; omega, (rdr_ref b S).put ((rdr_ref b S).put HI.out.ri (by omega) 0 _) (by omega) 1 _, grown_far (grown_far HI.out.G l2 0 _) l2 1 _⟩
          · have d0 : ((Nt.rds k s0).2.2 == 0) = false := by rw [beq_eq_false_iff_ne]; exact he
            have d1 : ((Nt.rds k s0).2.2 != 0) = true := by rw [bne_iff_ne]; exact he
            have hst := HSTOP.out he (n - k)
            rw [show k + (n - k) = n by have := HK.out; omega] at hst
            rw [hst] at HAA HEE
            rw [if_pos he] at HAA
            clear HSTOP he hlen HSN hst
            rw [HKL.out] at HI
            generalize Nt.rds k s0 = R0 at *
            obtain ⟨r0, s2⟩ := R0
            simp only at HI HKL HOW HAA HEE hcd d0 d1
            by_cases hlt : k < n
            · go_wp2_with fail
              have hd := HI.out.rc.set (.int .u64 0) (.slice none 0 0)
              have g0 := hd.c0
              have g1 := hd.c1
              refine bodyPost_ret (v := .agg #[.int .u64 0, .slice none 0 0]) (by simp [results, Try.results21, go_sem, g0, g1]) rfl (HPOST.out _ _ ?_)
              rw [HAA.out, HEE.out]
              exact ⟨none, 0, rfl, Nat.le_refl _, fun _ => rfl, Nts.nil _ _, (fun a ha => by cases ha), (rdr_ref b S).put ((rdr_ref b S).put HI.out.ri (by omega) 0 _) (by omega) 1 _, grown_far (grown_far HI.out.G l2 0 _) l2 1 _⟩
            · go_wp2_with fail
              have hd := HI.out.rc.set (.int .u64 0) (.slice none 0 0)
              have g0 := hd.c0
              have g1 := hd.c1
              refine bodyPost_ret (v := .agg #[.int .u64 0, .slice none 0 0]) (by simp [results, Try.results21, go_sem, g0, g1]) rfl (HPOST.out _ _ ?_)
              rw [HAA.out, HEE.out]
              exact ⟨none, 0, rfl, Nat.le_refl _, fun _ => rfl, Nts.nil _ _, (fun a ha => by cases ha), (rdr_ref b S).put ((rdr_ref b S).put HI.out.ri (by omega) 0 _) (by omega) 1 _, grown_far (grown_far HI.out.G l2 0 _) l2 1 _⟩
end Go.Proofs.Ytabnkbdbbneihaa
