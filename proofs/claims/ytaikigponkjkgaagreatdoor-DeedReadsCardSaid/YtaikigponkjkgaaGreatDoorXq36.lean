/-
 A part of the proof.
-/
import Derived.Test.YtaikigponkjkgaaGreatDoorXq16
import Derived.Deep.CutRange
section
namespace Go.Proofs.YtaikigponkjkgaaGreatDoor
open Go.ChangeShapes Go.WideShapes Go.ChangeAt Go.RowKit
open Go.Lib (hid)
structure RdM (w : World) (b : Nat) (R : LSt → World → Prop) (s : LSt) (v : Value) (h : List Hd.Pr) (p : Nat) (ys : List Value) (W : World) : Prop where
 L : RdL w b R s v h W
 rp : BoxC w p ys W
 pb : p ≠ b
 hv : ∀ k, v.ownBlock = some k → k ≠ p
theorem RdM.step {w : World} {b : Nat} {R : LSt → World → Prop} {s s' : LSt} {v : Value} {h : List Hd.Pr} {p : Nat} {ys : List Value} {W W' : World} (H : RdM w b R s v h p ys W) (hi : R s' W') (hg : W.grownBy W' (some b)) : RdM w b R s' v h p ys W' :=
 ⟨H.L.step hi hg, H.rp.grown hg H.pb, H.pb, H.hv⟩
theorem RdM.on {w : World} {b : Nat} {R : LSt → World → Prop} (hR : Rder b R) {s : LSt} {v : Value} {h : List Hd.Pr} {p : Nat} {ys : List Value} {W W' : World} (H : RdM w b R s v h p ys W) (hb : Below W.heap.size W W') : RdM w b R s v h p ys W' :=
 ⟨H.L.on hR hb, H.rp.on hb, H.pb, H.hv⟩
theorem RdM.put {w : World} {b : Nat} {R : LSt → World → Prop} (hR : Rder b R) {s : LSt} {v : Value} {h : List Hd.Pr} {p : Nat} {ys : List Value} {W : World} (H : RdM w b R s v h p ys W) (j : Nat) (u : Value) (hj : j < ys.length) : RdM w b R s v h p (ys.set j u) (W.setCell ⟨p, j, none⟩ u) :=
 ⟨⟨hR.put H.L.ri H.pb j u, H.L.own.kept (only_setCell (p := ⟨p, j, none⟩) (World.grownBy.refl W (some p)) rfl u) (by
   cases hk : v.ownBlock with
   | none => exact Or.inl rfl
   | some k => exact Or.inr fun e => H.hv k hk (Option.some.inj e)), grown_far H.L.G H.rp.ge j u, H.L.bw⟩, H.rp.put j u hj, H.pb, H.hv⟩
theorem RdM.start {w : World} {b : Nat} {R : LSt → World → Prop} (hR : Rder b R) {s : LSt} {v : Value} {h : List Hd.Pr} {W : World} (H : RdL w b R s v h W) (c : Array Value) (t : TypeId) : RdM w b R s v h W.heap.size c.toList (W.alloc (.cells c t)) :=
 ⟨H.on hR ((Below.refl W.heap.size W).alloc (Nat.le_refl _) _), BoxC.new H.G.size _ _, by have := hR.lt H.ri; omega, fun k hk => by have := (H.own.lt k hk).2; omega⟩
theorem stop_zero {s : LSt} (hok : lOk s) (h : (lRaw s 1).2 ≠ 0) : Oct.val (lOut s.1 1) = 0 := by
 unfold lRaw at h
 split at h
 ·rename_i h1
  unfold lOut
  rw [if_pos h1]; rfl
 ·rw [hok h, lOut_nil]; rfl
def KLoop (w : World) (b : Nat) (R : LSt → World → Prop) (n : Nat) (T : List Hd.Pr × LSt) (g : Nat) (v i : Value) (wr : World) : Prop :=
 ∃ (k : Nat) (h : List Hd.Pr) (s : LSt), k + g = n ∧ i = .int .i64 (k : Int) ∧ RdL w b R s v h wr ∧ lOk s ∧ h.length = k ∧ (s.2 = 0 ∧ Hd.rds g h s = T ∨ s.2 ≠ 0 ∧ T = ([], s))
def KMid (w : World) (b : Nat) (R : LSt → World → Prop) (s : LSt) (v : Value) (h : List Hd.Pr) (p : Nat) (W : World) : Prop := RdM w b R (Hd.rd1 s).2 v h p (prL (Hd.rd1 s).1) W
set_option maxRecDepth 100000 in
set_option maxHeartbeats 16000000 in
theorem rread9_any (b : Nat) (S : ByteArray) (s : LSt) (w : World) (h : RefL b S s w) (hok : lOk s) (hS : S.size ≤ 1000000) : Calls Tryz.prog 98 #[.pointer (some ⟨b, 0, none⟩)] w (HReadPost b (RefL b S) w s) := by
 have HK0 := lOk_raw hok 1
 have HN := hid (fun W h => rinum_l b S s 1 1 W (by omega) rfl h hS)
 have HF6 := hid (fun W h => rifail_l b S (lRaw s 1) 6 W h)
 have HSTOP := hid (fun h => stop_zero hok h)
 obtain ⟨n, hn⟩ : ∃ n, Oct.val (lOut s.1 1) = n := ⟨_, rfl⟩
 have hn1 := val_out_lt s.1 1
 rw [show (256 : Nat) ^ 1 = 256 from rfl, hn] at hn1
 have hw : IntKind.i64.wrap (n : Int) = (n : Int) := by rw [IntKind.wrap_i64]; omega
 have HR : Hid (Hd.hread s = if 8 < n then ([], lFail (lRaw s 1) 6) else Hd.rds n [] (lRaw s 1)) := by rw [← hn]; rfl
 rw [hn] at HN HSTOP
 have HI := hid h
 have HBW := hid ((rdr_ref b S).lt h)
 have HOK := hid HK0
 clear h hn HK0
 generalize lRaw s 1 = s1 at *
 generalize hT : Hd.hread s = T at *
 have HT := hid hT
 clear hT
 by_cases h8 : 8 < n
 ·have HRR := hid (show T = ([], lFail s1 6) by rw [HR.out, if_pos h8])
  have hbad := Hd.lFail_bad (s := s1) (c := 6) (by decide)
  have HOKF := hid (lOk_fail HOK.out 6)
  go_enter Tryz.func98, Tryz.ntmps98
  go_wp2_with fail
  refine (HN.out _ HI.out).mono ?_
  rintro e w1 ⟨rfl, hi1, hg1⟩
  have HI1 := hid hi1
  have HG1 := hid hg1
  clear hi1 hg1
  go_wp2_with fail
  refine (HF6.out _ HI1.out).mono ?_
  rintro e w2 ⟨rfl, hi2, hg2⟩
  have HI2 := hid hi2
  have HG2 := hid (HG1.out.trans hg2)
  have k2 := hi2.code
  have kl := (rdr_ref b S).lt hi2
  clear hi2 hg2
  generalize lFail s1 6 = F at *
  have hne : (F.2 == 0) = false := beq_eq_false_iff_ne.2 hbad
  have hne2 : (F.2 != 0) = true := bne_iff_ne.2 hbad
  go_wp2_with fail
  go_loopg [4, 5] n (fun g v i wr => v = .slice none 0 0 ∧ i = .int .i64 0 ∧ wr = w2)
  case atStart => exact ⟨rfl, rfl, rfl⟩
  case round =>
   obtain ⟨rfl, rfl, rfl⟩ := hrel
   go_wp2_with fail
   go_ret
   have hE : Hd.hread s = ([], F) := by rw [HT.out, HRR.out]
   exact ⟨none, 0, by rw [hE]; rfl, by rw [hE]; exact Nat.le_refl _, by rw [hE]; exact Prs.nil _ _, by rw [hE]; exact HI2.out, HG2.out, fun a h => by cases h⟩
 ·have HRR := hid (show T = Hd.rds n [] s1 by rw [HR.out, if_neg h8])
  obtain ⟨i1, hi1, hz0, hz1, hz2⟩ := info_parts infoPr
  go_enter Tryz.func98, Tryz.ntmps98
  go_wp2_with fail
  refine (HN.out _ HI.out).mono ?_
  rintro e w1 ⟨rfl, hI1, hg1⟩
  have HI1 := hid hI1
  have HG1 := hid hg1
  clear hI1 hg1
  go_wp2_with fail
  go_loopg [4, 5] n (fun g v i wr => KLoop w b (RefL b S) n T g v i wr)
  case atStart =>
   refine ⟨0, [], s1, by omega, rfl, RdL.start HI1.out HG1.out HBW.out, HOK.out, rfl, ?_⟩
   by_cases h0 : s1.2 = 0
   ·exact Or.inl ⟨h0, HRR.out.symm⟩
   ·refine Or.inr ⟨h0, ?_⟩
    have hz := HSTOP.out h0
    rw [HRR.out, hz]; rfl
  case round =>
   obtain ⟨k, h, s2, hk, rfl, hL, hok2, hlen, hcase⟩ := hrel
   obtain ⟨A, cp, rfl, hcp, hP, -⟩ := hL.row
   have HL := hid hL
   have HOK2 := hid hok2
   have HCASE := hid hcase
   have k2 := hL.ri.code
   have kl := (rdr_ref b S).lt hL.ri
   clear hL hok2 hcase hP
   by_cases h0 : s2.2 = 0
   ·have HRD := hid (show Hd.rds gk h s2 = T from by
     rcases HCASE.out with h | h
     ·exact h.2
     ·exact absurd h0 h.1)
    by_cases hlt : k < n
    ·obtain ⟨g', rfl⟩ : ∃ g', gk = g' + 1 := ⟨gk - 1, by omega⟩
     have HK1 := lOk_text HOK2.out 16
     have HK2 := lOk_raw HK1 1
     have HTX := hid (fun W h => ritext_l b S s2 16 W h hS)
     have HNM := hid (fun W h => rinum_l b S (lText s2 16) 1 1 W (by omega) rfl h hS)
     have HN8 := hid (fun W h => rinum_l b S (lRaw (lText s2 16) 1) 8 8 W (by omega) rfl h hS)
     have HT64 := hid (fun W h => ritext_l b S (lRaw (lText s2 16) 1) 64 W h hS)
     have HN1 := hid (fun W h => rinum_l b S (lRaw (lText s2 16) 1) 1 1 W (by omega) rfl h hS)
     have HFL8 := hid (fun W h => rifail_l b S (lRaw (lText s2 16) 1) 8 W h)
     have hw8 := w8 (lText s2 16).1
     have hz : (s2.2 == 0) = true := by rw [h0]; rfl
     rw [h0] at k2
     clear HK1 HK2 hz
     rw [hlen]
     go_wp2_with fail
     refine (HTX.out _ HL.out.ri).mono ?_
     rintro e w2 ⟨rfl, hi2, hg2⟩
     have HL2 := hid (HL.out.step hi2 hg2)
     have HM2 := hid (RdM.start (rdr_ref b S) HL2.out #[.string (ofL (lTextOut s2 16)), .int .u8 0, .int .i64 0, .string ⟨#[]⟩] 142)
     clear hi2 hg2
     go_wp2_with fail
     generalize w2.alloc (.cells #[.string (ofL (lTextOut s2 16)), .int .u8 0, .int .i64 0, .string ⟨#[]⟩] 142) = w3 at *
     generalize w2.heap.size = p at *
     refine (HNM.out _ HM2.out.L.ri).mono ?_
     rintro e w4 ⟨rfl, hi4, hg4⟩
     have hM4 := HM2.out.step hi4 hg4
     obtain ⟨kd, hkd⟩ : ∃ kd, Oct.val (lOut (lText s2 16).1 1) = kd := ⟨_, rfl⟩
     have HKD := hid hkd
     rw [hkd] at hw8 ⊢
     have HM4 := hid (hM4.put (rdr_ref b S) 1 (.int .u8 (kd : Int)) (by simp))
     have c0 := hM4.rp.cs 0 _ rfl
     have c1 := hM4.rp.cs 1 _ rfl
     have c2 := hM4.rp.cs 2 _ rfl
     have c3 := hM4.rp.cs 3 _ rfl
     have cf : ∀ j, w4.frozen? ⟨p, j, none⟩ = false := hM4.rp.s
     have cl := hM4.rp.lt
     clear HM2 hi4 hg4 hM4 hkd HNM HTX k2 kl
     go_upto_if 35 with fail
     go_cut [] from 14 to 68 (fun wx => KMid w b (RefL b S) s2 (.slice A h.length cp) h p wx)
     case first =>
      by_cases h3 : 2 < kd
      ·have HRR1 := hid (rd1_3 (s := s2) (by rw [HKD.out]; exact h3))
       have n0 : ((kd : Int) == 0) = false := beq_eq_false_iff_ne.2 (by omega)
       have n1 : ((kd : Int) == 1) = false := beq_eq_false_iff_ne.2 (by omega)
       have n2 : ((kd : Int) == 2) = false := beq_eq_false_iff_ne.2 (by omega)
       clear h3
       go_wp2_with fail
       refine (HFL8.out _ HM4.out.L.ri).mono ?_
       rintro e w5 ⟨rfl, hi5, hg5⟩
       have hM5 := HM4.out.step hi5 hg5
       have HM6 := hid hM5
       clear hi5 hg5 hM5 c0 c1 c2 c3 cf cl
       go_wp2_with fail
       go_meet
       case rel =>
        show KMid w b (RefL b S) s2 _ h p _
        unfold KMid
        rw [HRR1.out, HKD.out]
        exact HM6.out
      ·obtain rfl | rfl | rfl : kd = 0 ∨ kd = 1 ∨ kd = 2 := by omega
       ·have HRR1 := hid (rd1_0 HKD.out)
        go_wp2_with fail
        refine (HN8.out _ HM4.out.L.ri).mono ?_
        rintro e w5 ⟨rfl, hi5, hg5⟩
        have hM5 := HM4.out.step hi5 hg5
        have HM5 := hid hM5
        have HM6 := hid (hM5.put (rdr_ref b S) 2 (.int .i64 (Hd.i64 (Oct.val (lOut (lRaw (lText s2 16) 1).1 8)))) (by simp))
        have c0 := hM5.rp.cs 0 _ rfl
        have c1 : _ = some (Value.int .u8 0) := hM5.rp.cs 1 _ rfl
        have c2 := hM5.rp.cs 2 _ rfl
        have c3 := hM5.rp.cs 3 _ rfl
        have cf : ∀ j, w5.frozen? ⟨p, j, none⟩ = false := hM5.rp.s
        have cl := hM5.rp.lt
        have hwi := wi64 (Oct.val (lOut (lRaw (lText s2 16) 1).1 8)) (val_out_lt _ 8)
        clear hi5 hg5 hM5
        go_wp2_with fail
        go_meet
        case rel =>
         show KMid w b (RefL b S) s2 _ h p _
         unfold KMid
         rw [HRR1.out]
         exact HM6.out
       ·have HRR1 := hid (rd1_1 HKD.out)
        go_wp2_with fail
        refine (HT64.out _ HM4.out.L.ri).mono ?_
        rintro e w5 ⟨rfl, hi5, hg5⟩
        have hM5 := HM4.out.step hi5 hg5
        have HM5 := hid hM5
        have HM6 := hid (hM5.put (rdr_ref b S) 3 (.string (ofL (lTextOut (lRaw (lText s2 16) 1) 64))) (by simp))
        have c0 := hM5.rp.cs 0 _ rfl
        have c1 : _ = some (Value.int .u8 1) := hM5.rp.cs 1 _ rfl
        have c2 := hM5.rp.cs 2 _ rfl
        have c3 := hM5.rp.cs 3 _ rfl
        have cf : ∀ j, w5.frozen? ⟨p, j, none⟩ = false := hM5.rp.s
        have cl := hM5.rp.lt
        clear hi5 hg5 hM5
        go_wp2_with fail
        go_meet
        case rel =>
         show KMid w b (RefL b S) s2 _ h p _
         unfold KMid
         rw [HRR1.out]
         exact HM6.out
       ·have HRR1 := hid (rd1_2 HKD.out)
        go_wp2_with fail
        refine (HN1.out _ HM4.out.L.ri).mono ?_
        rintro e w5 ⟨rfl, hi5, hg5⟩
        have hM5 := HM4.out.step hi5 hg5
        have HM5 := hid hM5
        have HM6 := hid (hM5.put (rdr_ref b S) 2 (.int .i64 (Hd.i64 (Oct.val (lOut (lRaw (lText s2 16) 1).1 1)))) (by simp))
        have c0 := hM5.rp.cs 0 _ rfl
        have c1 : _ = some (Value.int .u8 2) := hM5.rp.cs 1 _ rfl
        have c2 := hM5.rp.cs 2 _ rfl
        have c3 := hM5.rp.cs 3 _ rfl
        have cf : ∀ j, w5.frozen? ⟨p, j, none⟩ = false := hM5.rp.s
        have cl := hM5.rp.lt
        have hwi := wi64 (Oct.val (lOut (lRaw (lText s2 16) 1).1 1)) (Nat.lt_trans (val_out_lt _ 1) (by decide))
        clear hi5 hg5 hM5
        go_wp2_with fail
        go_meet
        case rel =>
         show KMid w b (RefL b S) s2 _ h p _
         unfold KMid
         rw [HRR1.out]
         exact HM6.out
     case rest =>
      have HMC := hid (show RdM w b (RefL b S) (Hd.rd1 s2).2 (.slice A h.length cp) h p (prL (Hd.rd1 s2).1) wc from hcut)
      obtain ⟨hx1, hx2⟩ := rd1_len s2
      have hokr := Hd.lOk_rd1 HOK2.out
      obtain ⟨x, hx⟩ : ∃ x, (Hd.rd1 s2).1 = x := ⟨_, rfl⟩
      obtain ⟨F0, hF0⟩ : ∃ F0, (Hd.rd1 s2).2 = F0 := ⟨_, rfl⟩
      have HX := hid hx
      have HF0 := hid hF0
      rw [hx] at hx1 hx2
      rw [hF0] at hokr
      have HMC := hid (show RdM w b (RefL b S) F0 (.slice A h.length cp) h p (prL x) wc by rw [← hx, ← hF0]; exact HMC.out)
      have k2 := HMC.out.L.ri.code
      have kl := (rdr_ref b S).lt HMC.out.L.ri
      obtain ⟨F, hF⟩ : ∃ F, lFail F0 (Hd.pcode x h) = F := ⟨_, rfl⟩
      have HF := hid hF
      have hok5 : lOk F := by rw [← hF]; exact lOk_fail hokr _
      have HOK5 := hid hok5
      have HNEXT := hid (show (F.2 = 0 ∧ Hd.rds g' (h ++ [x]) F = T) ∨ (F.2 ≠ 0 ∧ T = ([], F)) from by
       by_cases hz : F.2 = 0
       ·refine Or.inl ⟨hz, ?_⟩
        have e := rds_go (n := g') (h := h) (s := s2) (by rw [HX.out, HF0.out, HF.out]; exact hz)
        rw [HX.out, HF0.out, HF.out] at e
        rw [← e]
        exact HRD.out
       ·refine Or.inr ⟨hz, ?_⟩
        have e := rds_bad (n := g') (h := h) (s := s2) (by rw [HX.out, HF0.out, HF.out]; exact hz)
        rw [HX.out, HF0.out, HF.out] at e
        rw [← e]
        exact HRD.out.symm)
      clear hcut hx hF0 hF hok5 hokr
      by_cases hf0 : F0.2 = 0
      ·have HCK := hid (fun W h' => rpair_any x.key x.kind x.num x.txt h A cp W (by omega) (by omega) (by omega) h')
       have HFL := hid (fun c W h => rifail_l b S F0 c W h)
       obtain ⟨A3, c3, e3, -, hP3, -⟩ := HMC.out.L.row
       obtain ⟨rfl, -, rfl⟩ := Value.slice.inj e3
       have HP3 := hid hP3
       have hp5 := prOf (x := x) HMC.out.rp.cs
       obtain ⟨c0, c1, c2, c3⟩ := hp5
       simp only [Nat.zero_add] at c0 c1 c2 c3
       have cl := HMC.out.rp.lt
       rw [hf0] at k2
       rw [hlen] at HCK
       clear e3 hP3
       go_wp2_with fail
       refine (HCK.out _ HP3.out).mono ?_
       rintro e w5 ⟨rfl, b5⟩
       have HM5 := hid (HMC.out.on (rdr_ref b S) b5)
       clear b5 c0 c1 c2 c3 cl k2 kl
       go_wp2_with fail
       refine (HFL.out _ _ HM5.out.L.ri).mono ?_
       rintro e w6 ⟨rfl, hi6, hg6⟩
       have hM6 := HM5.out.step hi6 hg6
       have HL5 := hid (show RdL w b (RefL b S) F (.slice A h.length cp) h w6 by rw [← HF.out]; exact hM6.L)
       have HPX := hid (prOf (x := x) hM6.rp.cs)
       have HPL := hid hM6.rp.lt
       clear hi6 hg6 hM6
       have hown5 := HL5.out.own
       rw [hlen] at hown5
       have HOW := hid hown5
       have hws : w.heap.size ≤ w6.heap.size := HL5.out.G.size
       have hp5 := HPX.out
       obtain ⟨c0, c1, c2, c3⟩ := hp5
       simp only [Nat.zero_add] at c0 c1 c2 c3
       have cl := HPL.out
       clear hown5
       go_wp2_with (first
        | (at_builtin; refine wpList_append_lies _ rfl _ _ 46 rfl w.heap.size 142 i1 _ 4 48 Tryz.underlying46 hi1 hz0 hz1 hz2 rfl (by omega) (.slice A k cp) k (prs h) (by rfl) (HOW.out.alloc _) ⟨w6.heap.size, 0, none⟩ 1 1 (prL x) (by rfl) (by rfl) (cell_pr_one w6 _ _ _ _ _) (by simp [Value.oneCell', prL]) (by omega) (by unfold maxLen; omega) (by omega) (by simp; omega) _ rfl ?_; intro gg cap w7 hown1 hgrow hat hlt'; have HW := hid hown1; have HG := hid hgrow; clear hown1 hgrow hat hlt'))
       have hLN := (HL5.out.on (rdr_ref b S) ((Below.refl w6.heap.size w6).alloc (Nat.le_refl _) (.cells #[.string (ofL x.key), .int .u8 (x.kind : Int), .int .i64 x.num, .string (ofL x.txt)] 142))).push (rdr_ref b S) (x := x) (by rw [hlen]; exact HG.out) (by rw [List.length_append, hlen, prs_snoc]; exact HW.out)
       go_roundg g'
       case rel => exact ⟨k + 1, h ++ [x], F, by omega, by go_num, hLN, HOK5.out, by rw [List.length_append, hlen]; rfl, HNEXT.out⟩
       case measure => omega
      ·have HL5 := hid (show RdL w b (RefL b S) F (.slice A h.length cp) h wc by
        have : F = F0 := by rw [← HF.out]; unfold lFail; rw [if_pos (Or.inr hf0)]
        rw [this]; exact HMC.out.L)
       have HPX := hid (prOf (x := x) HMC.out.rp.cs)
       have HPL := hid HMC.out.rp.lt
       have hne : (F0.2 == 0) = false := beq_eq_false_iff_ne.2 hf0
       clear hf0
       have hown5 := HL5.out.own
       rw [hlen] at hown5
       have HOW := hid hown5
       have hws : w.heap.size ≤ wc.heap.size := HL5.out.G.size
       have hp5 := HPX.out
       obtain ⟨c0, c1, c2, c3⟩ := hp5
       simp only [Nat.zero_add] at c0 c1 c2 c3
       have cl := HPL.out
       clear hown5
       go_wp2_with (first
        | (at_builtin; refine wpList_append_lies _ rfl _ _ 46 rfl w.heap.size 142 i1 _ 4 48 Tryz.underlying46 hi1 hz0 hz1 hz2 rfl (by omega) (.slice A k cp) k (prs h) (by rfl) (HOW.out.alloc _) ⟨wc.heap.size, 0, none⟩ 1 1 (prL x) (by rfl) (by rfl) (cell_pr_one wc _ _ _ _ _) (by simp [Value.oneCell', prL]) (by omega) (by unfold maxLen; omega) (by omega) (by simp; omega) _ rfl ?_; intro gg cap w7 hown1 hgrow hat hlt'; have HW := hid hown1; have HG := hid hgrow; clear hown1 hgrow hat hlt'))
       have hLN := (HL5.out.on (rdr_ref b S) ((Below.refl wc.heap.size wc).alloc (Nat.le_refl _) (.cells #[.string (ofL x.key), .int .u8 (x.kind : Int), .int .i64 x.num, .string (ofL x.txt)] 142))).push (rdr_ref b S) (x := x) (by rw [hlen]; exact HG.out) (by rw [List.length_append, hlen, prs_snoc]; exact HW.out)
       go_roundg g'
       case rel => exact ⟨k + 1, h ++ [x], F, by omega, by go_num, hLN, HOK5.out, by rw [List.length_append, hlen]; rfl, HNEXT.out⟩
       case measure => omega
    ·have hkn : gk = 0 := by omega
     subst hkn
     have hE := HRD.out
     rw [Hd.rds] at hE
     have HE := hid hE
     rw [h0] at k2
     clear hE
     go_wp2_with fail
     go_ret
     obtain ⟨A', c', e', hc', hP', hA'⟩ := HL.out.row
     obtain ⟨rfl, -, rfl⟩ := Value.slice.inj e'
     have hE2 : Hd.hread s = (h, s2) := by rw [HT.out, ← HE.out]
     exact ⟨A, cp, by rw [hE2]; rfl, by rw [hE2]; exact hc', by rw [hE2]; exact hP', by rw [hE2]; exact HL.out.ri, HL.out.G, hA'⟩
   ·have HE := hid (show T = ([], s2) from by
     rcases HCASE.out with h | h
     ·exact absurd h.1 h0
     ·exact h.2)
    have hne : (s2.2 == 0) = false := beq_eq_false_iff_ne.2 h0
    have hne2 : (s2.2 != 0) = true := bne_iff_ne.2 h0
    by_cases hlt : k < n
    ·clear h0
     go_wp2_with fail
     go_ret
     have hE2 : Hd.hread s = ([], s2) := by rw [HT.out, HE.out]
     exact ⟨none, 0, by rw [hE2]; rfl, by rw [hE2]; exact Nat.le_refl _, by rw [hE2]; exact Prs.nil _ _, by rw [hE2]; exact HL.out.ri, HL.out.G, fun a h => by cases h⟩
    ·clear h0
     go_wp2_with fail
     go_ret
     have hE2 : Hd.hread s = ([], s2) := by rw [HT.out, HE.out]
     exact ⟨none, 0, by rw [hE2]; rfl, by rw [hE2]; exact Nat.le_refl _, by rw [hE2]; exact Prs.nil _ _, by rw [hE2]; exact HL.out.ri, HL.out.G, fun a h => by cases h⟩
end Go.Proofs.YtaikigponkjkgaaGreatDoor
end
