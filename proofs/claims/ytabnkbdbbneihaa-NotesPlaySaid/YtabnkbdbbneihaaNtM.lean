/-
  NOTES READ: the program's, walked.
-/
import Derived.Test.YtabnkbdbbneihaaNtL
import Derived.Deep.AppendLies
import Derived.Deep.RegionLaw
namespace Go.Proofs.Ytabnkbdbbneihaa
open Go.ChangeShapes Go.WideShapes Go.ChangeAt Go.RowKit

theorem Du2.aside {b g : Nat} {x y : Value} {w : World} (h : Du2 b x y w) (hg : b ≠ g) (j : Nat) (v : Value) : Du2 b x y (w.setCell ⟨g, j, none⟩ v) :=
  ⟨(World.cell?_setCell_other _ _ _ _ (by intro e; simp only [Addr.mk.injEq] at e; omega)).trans h.c0, (World.cell?_setCell_other _ _ _ _ (by intro e; simp only [Addr.mk.injEq] at e; omega)).trans h.c1, fun j => by rw [World.frozen?_setCell]; exact h.fz j⟩
/-- while notes are read: the reader, the answer's box, its own box (that holds u), its own row v -/
structure RnIn (w w2 : World) (b c p : Nat) (R : LSt → World → Prop) (T : Nat) (s : LSt) (E : Nat) (u v : Value) (l : List Nt) (wr : World) : Prop where
  ri : R s wr
  rc : Du2 c (.int .u64 0) (.slice none 0 0) wr
  rp : Du2 p (.int .u64 (T : Int)) u wr
  own : wr.ownsRow w2.heap.size E 3 v l.length (ncs l)
  G : w.grownBy wr (some b)
  lt : b < w.heap.size ∧ w.heap.size ≤ c ∧ c < w2.heap.size ∧ w.heap.size ≤ p ∧ p < w2.heap.size ∧ c ≠ p ∧ w.heap.size ≤ w2.heap.size ∧ w2.heap.size ≤ wr.heap.size
section
variable {w w2 W W' : World} {b c p T E : Nat} {R : LSt → World → Prop} {s s' : LSt} {u v : Value} {l : List Nt}
theorem RnIn.on (hR : Rder b R) (h : RnIn w w2 b c p R T s E u v l W) (hb : Below W.heap.size W W') : RnIn w w2 b c p R T s E u v l W' := by
  obtain ⟨l1, l2, l3, l4, l5, l6, l7, l8⟩ := h.lt
  exact ⟨hR.on h.ri hb, h.rc.on hb, h.rp.on hb, Rw.own_on h.own hb, grown_below h.G hb, ⟨l1, l2, l3, l4, l5, l6, l7, Nat.le_trans l8 hb.size⟩⟩
theorem RnIn.step (h : RnIn w w2 b c p R T s E u v l W) (hi : R s' W') (hg : W.grownBy W' (some b)) : RnIn w w2 b c p R T s' E u v l W' := by
  obtain ⟨l1, l2, l3, l4, l5, l6, l7, l8⟩ := h.lt
  exact ⟨hi, h.rc.keep hg (fun e => by have := Option.some.inj e; omega), h.rp.keep hg (fun e => by have := Option.some.inj e; omega), h.own.kept hg (.inr (Rw.own_row h.own (by omega))), h.G.trans hg, ⟨l1, l2, l3, l4, l5, l6, l7, Nat.le_trans l8 hg.size⟩⟩
theorem RnIn.append {v' : Value} {l' : List Nt} (hR : Rder b R) (h : RnIn w w2 b c p R T s E u v l W) (hg : W.grownBy W' v.ownBlock) (ho : W'.ownsRow w2.heap.size E 3 v' l'.length (ncs l')) : RnIn w w2 b c p R T s E u v' l' W' := by
  obtain ⟨l1, l2, l3, l4, l5, l6, l7, l8⟩ := h.lt
  exact ⟨hR.gr h.ri hg (fun e => by have := (h.own.lt _ e.symm).1; omega), h.rc.keep hg (fun e => by have := (h.own.lt _ e.symm).1; omega), h.rp.keep hg (fun e => by have := (h.own.lt _ e.symm).1; omega), ho, grown_new h.G hg (fun k hk => by have := (h.own.lt _ hk).1; omega), ⟨l1, l2, l3, l4, l5, l6, l7, Nat.le_trans l8 hg.size⟩⟩
theorem RnIn.store (hR : Rder b R) (h : RnIn w w2 b c p R T s E u v l W) : RnIn w w2 b c p R T s E v v l (W.setCell ⟨p, 1, none⟩ v) := by
  obtain ⟨l1, l2, l3, l4, l5, l6, l7, l8⟩ := h.lt
  have hg := only_setCell (p := ⟨p, 1, none⟩) (World.grownBy.refl W (some p)) rfl v
  exact ⟨hR.put h.ri (by omega) 1 v, h.rc.aside l6 1 v, h.rp.set1 v, h.own.kept hg (.inr (Rw.own_row h.own l5)), grown_far h.G l4 1 v, ⟨l1, l2, l3, l4, l5, l6, l7, by simpa using l8⟩⟩
end
def RnSt (w w2 : World) (b c p T n : Nat) (s0 : LSt) (g : Nat) (i : Value) (wr : World) : Prop := ∃ (k : Nat) (v : Value), k + g = n ∧ i = .int .u64 (k : Int) ∧ RnIn w w2 b c p (InL b) T (Nt.rds k s0).2 32 v v (Nt.rds k s0).1 wr
def ReadPost (R : LSt → World → Prop) (b : Nat) (s : LSt) (w : World) (e : Ending) (w' : World) : Prop := ∃ A c, e = .returned (.agg #[.int .u64 ((Nt.readA s).1 : Int), .slice A (Nt.readA s).2.length c]) ∧ (Nt.readA s).2.length ≤ c ∧ (A = none → c = 0) ∧ Nts w' A (Nt.readA s).2 ∧ (∀ a, A = some a → w.heap.size ≤ a.block) ∧ R (Nt.readE s) w' ∧ w.grownBy w' (some b)
set_option maxRecDepth 100000 in
set_option maxHeartbeats 8000000 in
theorem ntRead_any (b : Nat) (s : LSt) (w : World) (h : InL b s w) (hok : lOk s) : Calls Try.prog 19 #[.pointer (some ⟨b, 0, none⟩)] w (ReadPost (InL b) b s w) := by
  have HK1 := lOk_raw hok 8
  have HK2 := lOk_raw HK1 1
  have HKS := Nt.lOk_readS hok
  have HN8 := Lib.hid (show ∀ W, InL b s W → Calls Try.prog 35 #[.pointer (some ⟨b, 0, none⟩), .int .i64 8] W (PostL b W (.int .u64 ((Nt.readT s : Nat) : Int)) (lRaw s 8)) from fun W h => inum_l b s 8 8 W (by omega) rfl h hok)
  have HN1 := Lib.hid (show ∀ W, InL b (lRaw s 8) W → Calls Try.prog 35 #[.pointer (some ⟨b, 0, none⟩), .int .i64 1] W (PostL b W (.int .u64 ((Nt.readN s : Nat) : Int)) (lRaw (lRaw s 8) 1)) from fun W h => inum_l b (lRaw s 8) 1 1 W (by omega) rfl h HK1)
  have HF6 := Lib.hid (fun W h => ifail_l b (lRaw (lRaw s 8) 1) 6 W h)
  have HF7 := Lib.hid (fun W h => ifail_l b (lRaw (lRaw s 8) 1) 7 W h)
  have HI0 := Lib.hid ((rdr_in b).on h (alloc1B w (.cells #[.int .u64 0, .slice none 0 0] 27)))
  have hbw : b < w.heap.size := h.lt
  have hT := Nt.readT_lt s
  have hN := Nt.readN_lt s
  have HSS := Lib.hid (show Nt.readS s = Nt.mid (Nt.readT s) (Nt.readN s) (lRaw (lRaw s 8) 1) from rfl)
  have HPOST := Lib.hid (fun (e : Ending) (W : World) (h : ∃ A c, e = .returned (.agg #[.int .u64 ((Nt.readA s).1 : Int), .slice A (Nt.readA s).2.length c]) ∧ (Nt.readA s).2.length ≤ c ∧ (A = none → c = 0) ∧ Nts W A (Nt.readA s).2 ∧ (∀ a, A = some a → w.heap.size ≤ a.block) ∧ InL b (Nt.readE s) W ∧ w.grownBy W (some b)) => show ReadPost (InL b) b s w e W from h)
  have HAA := Lib.hid (show Nt.readA s = if (Nt.rds (Nt.readN s) (Nt.readS s)).2.2 ≠ 0 then (0, []) else (Nt.readT s, (Nt.rds (Nt.readN s) (Nt.readS s)).1) from rfl)
  have HEE := Lib.hid (show Nt.readE s = (Nt.rds (Nt.readN s) (Nt.readS s)).2 from rfl)
  obtain ⟨iN, hiN, hzN0, hzN1, hzN2⟩ := info_parts infoNt
  have HC0 := Lib.hid (Du2.new w (.int .u64 0) (.slice none 0 0) 27)
  have HG0 := Lib.hid (Rw.gb (alloc1B w (.cells #[.int .u64 0, .slice none 0 0] 27)) (some b))
  clear h HK1 HK2
  generalize ReadPost (InL b) b s w = POST at *
  generalize Nt.readA s = RA at *
  generalize Nt.readE s = RE at *
  generalize Nt.readS s = s0 at *
  generalize Nt.readT s = T at *
  generalize Nt.readN s = n at *
  go_enter Try.func19, Try.ntmps19
  go_wp2_with fail
  refine (HN8.out _ HI0.out).mono ?_
  rintro e w1 ⟨rfl, hi1, hg1⟩
  have HC1 := Lib.hid (HC0.out.keep hg1 (fun e => by have := Option.some.inj e; omega))
  have HG1 := Lib.hid (HG0.out.trans hg1)
  have HA1 := Lib.hid (alloc1B w1 (.cells #[.int .u64 (T : Int), .slice none 0 0] 27))
  have hlb : w.heap.size < w1.heap.size := HC1.out.lt
  have HI1 := Lib.hid ((rdr_in b).on hi1 HA1.out)
  clear hi1 hg1
  go_wp2_with fail
  refine (HN1.out _ HI1.out).mono ?_
  rintro e w3 ⟨rfl, hi3, hg3⟩
  have HC3 := Lib.hid ((HC1.out.on HA1.out).keep hg3 (fun e => by have := Option.some.inj e; omega))
  have HP3 := Lib.hid ((Du2.new w1 (.int .u64 (T : Int)) (.slice none 0 0) 27).keep hg3 (fun e => by have := Option.some.inj e; omega))
  have HG3 := Lib.hid ((HG1.out.trans (Rw.gb HA1.out (some b))).trans hg3)
  have HI3 := Lib.hid hi3
  clear hi3 hg3 HC0 HG0 HC1 HG1 HI0 HI1 HA1
  generalize w1.heap.size = p at *
  have e0 := HP3.out.c0
  have el := HP3.out.lt
  clear HN8 HN1
  by_cases h32 : 32 < n
  · have hs0 : s0 = lFail (lRaw (lRaw s 8) 1) 6 := by rw [HSS.out]; unfold Nt.mid; rw [if_pos h32]
    have hKS : lOk s0 := HKS
    go_wp2_with fail
    refine (HF6.out _ HI3.out).mono ?_
    rintro e w5 ⟨rfl, hi5, hg5x⟩
    rw [← hs0] at hi5
    have hc5 := HC3.out.keep hg5x (fun e => by have := Option.some.inj e; omega)
    have hp5 := HP3.out.keep hg5x (fun e => by have := Option.some.inj e; omega)
    have hg5 := HG3.out.trans hg5x
    clear hs0 hg5x HSS HC3 HP3 HG3 HI3 HF6 HF7 e0 el
    have HI5 := Lib.hid (show RnIn w w5 b w.heap.size p (InL b) T (Nt.rds 0 s0).2 32 (.slice none 0 0) (.slice none 0 0) (Nt.rds 0 s0).1 w5 from ⟨hi5, hc5, hp5, World.ownsRow_nil _ _ _ _, hg5, ⟨hbw, Nat.le_refl _, hc5.lt, by omega, hp5.lt, by omega, hg5.size, Nat.le_refl _⟩⟩)
    clear hi5 hc5 hp5 hg5
    go_wp2_with fail
    go_loopg [24] n (fun g i wr => RnSt w w5 b w.heap.size p T n s0 g i wr)
    case atStart => exact ⟨0, _, by omega, rfl, HI5.out⟩
    case round =>
      obtain ⟨k, v, hk, rfl, hI⟩ := hrel
      have HK := Lib.hid hk
      have HI := Lib.hid hI
      have hlen := Nt.rds_len k s0
      obtain ⟨Av, cv, rfl, -, -⟩ := Rw.own_cells hI.own
      have hno : ∀ q, (Value.slice Av (Nt.rds k s0).1.length cv).ownBlock = some q → w5.heap.size ≤ q := fun q hq => (hI.own.lt q hq).1
      rw [hlen] at hno
      have f0 := hI.rp.c0
      have f1 := hI.rp.c1
      have ff0 := hI.rp.fz 0
      have ff1 := hI.rp.fz 1
      have fl := hI.rp.lt
      rw [hlen] at f1
      have HRD := Lib.hid (fun W h => ntread_any b (Nt.rds k s0).2 W h (Nt.lOk_rds k hKS))
      have HOW := Lib.hid hI.own
      have HNO := Lib.hid hno
      rw [hlen] at HOW
      obtain ⟨l1, l2, l3, l4, l5, l6, l7, l8⟩ := hI.lt
      clear hk hI hno
      by_cases hlt : k < n
      · have HSN := Lib.hid (Nt.rds_snoc k s0)
        have HKL := Lib.hid hlen
        unfold Rd1N at HRD
        clear hlen
        rw [HKL.out] at HI
        generalize Nt.rds k s0 = R0 at *
        obtain ⟨r0, s2⟩ := R0
        simp only at HRD HSN HI HKL HOW
        obtain ⟨x, hx⟩ : ∃ x, (Nt.rd1 s2).1 = x := ⟨_, rfl⟩
        obtain ⟨s3, hs3⟩ : ∃ s3, (Nt.rd1 s2).2 = s3 := ⟨_, rfl⟩
        rw [hx, hs3] at HRD HSN
        simp only [ntV] at HRD
        clear hx hs3
        have hk8 : k ≤ 300 := by omega
        go_wp2_with fail
        go_region_law (first
          | (refine step_append_lies _ (by rfl) _ _ _ (by rfl) w5.heap.size 32 iN _ 3 32 Try.underlying22 hiN hzN0 hzN1 hzN2 rfl (by omega) (.slice Av k cv) k (ncs r0) (by rfl) HO6.out ⟨w6.heap.size, 0, none⟩ 1 1 (ncs [x]) (by rfl) (by rfl) (news1 w6 x 32) (ncs_one _) (by omega) (by unfold maxLen; omega) (by omega) HS6.out w6.heap.size.succ (by simp) ?_; intro gg cap w7 hown hgrow hat hlt7; rw [← ncs_app] at hown; have hm7 := HM6.out.append (rdr_in b) (l' := r0 ++ [x]) hgrow (by rw [List.length_append, HKL.out]; exact hown); have HX := Lib.hid (hm7.store (rdr_in b)); have f1 := hm7.rp.c1; have ff1 := hm7.rp.fz 1; have fl := hm7.rp.lt; clear hown hgrow hat hlt7 hm7)
          | (go_simp; go_at_call 37; refine (HRD.out _ ((rdr_in b).on HI.out.ri ((Below.refl _ _).drew))).mono ?_; rintro e w6 ⟨rfl, hi6, hg6⟩; have hm6 := (HI.out.on (rdr_in b) ((Below.refl _ _).drew)).step hi6 hg6; have f1 := hm6.rp.c1; have fl := hm6.rp.lt; have HM6 := Lib.hid (hm6.on (rdr_in b) (alloc1B w6 (.cells #[.int .u64 (x.t : Int), .int .u8 (x.k : Int), .string (ofL x.b)] 32))); have HO6 := Lib.hid HM6.out.own; rw [HKL.out] at HO6; have HS6 := Lib.hid HM6.out.lt.2.2.2.2.2.2.2; clear hi6 hg6 hm6))
        all_goals (
          go_wp2_with fail
          go_roundg (gk - 1)
          case rel => exact ⟨k + 1, _, by have := HK.out; omega, by go_num, by rw [HSN.out]; exact HX.out⟩
          case measure => have := HK.out; omega)
      · have hkn : k = n := by have := HK.out; omega
        rw [hkn] at HI HOW f1 hlen
        have HER := Lib.hid (ierr_l b _ _ HI.out.ri)
        have HKL := Lib.hid hlen
        rw [hkn]
        clear hkn hlen
        generalize Nt.rds n s0 = R at *
        obtain ⟨r0, s2⟩ := R
        simp only at HI HER HOW HKL HAA HEE
        have e0 := HI.out.rc.c0
        have e1 := HI.out.rc.c1
        have ef0 := HI.out.rc.fz 0
        have ef1 := HI.out.rc.fz 1
        have el := HI.out.rc.lt
        rw [HKL.out] at HI
        by_cases he : s2.2 = 0
        · have d0 : (s2.2 != 0) = false := by rw [he]; rfl
          rw [if_neg (by simp [he])] at HAA
          clear he
          go_wp2_with fail
          refine HER.out.mono ?_
          rintro e w6 ⟨rfl, rfl⟩
          go_wp2_with fail
          have hd := HI.out.rc.set (.int .u64 (T : Int)) (.slice Av n cv)
          have g0 := hd.c0
          have g1 := hd.c1
          refine bodyPost_ret (v := .agg #[.int .u64 (T : Int), .slice Av n cv]) (by simp [results, Try.results19, go_sem, g0, g1]) rfl (HPOST.out _ _ ?_)
          obtain ⟨A9, c9, e9, hc9, hn9, hr9, hb9⟩ := Rws.of_own HOW.out
          obtain ⟨rfl, -, rfl⟩ := Value.slice.inj e9
          rw [HAA.out, HEE.out]
          refine ⟨Av, cv, by rw [HKL.out], by rw [HKL.out]; exact hc9, hn9, Rws.put2 hr9 (fun a ha => by have := (hb9 a ha).1; omega) _ _, fun a ha => by have := (hb9 a ha).1; omega, (rdr_in b).put ((rdr_in b).put HI.out.ri (by omega) 0 _) (by omega) 1 _, grown_far (grown_far HI.out.G l2 0 _) l2 1 _⟩
        · have d0 : (s2.2 != 0) = true := by rw [bne_iff_ne]; exact he
          rw [if_pos he] at HAA
          clear he
          go_wp2_with fail
          refine HER.out.mono ?_
          rintro e w6 ⟨rfl, rfl⟩
          go_wp2_with fail
          have hd := HI.out.rc.set (.int .u64 0) (.slice none 0 0)
          have g0 := hd.c0
          have g1 := hd.c1
          refine bodyPost_ret (v := .agg #[.int .u64 0, .slice none 0 0]) (by simp [results, Try.results19, go_sem, g0, g1]) rfl (HPOST.out _ _ ?_)
          rw [HAA.out, HEE.out]
          exact ⟨none, 0, rfl, Nat.le_refl _, fun _ => rfl, Nts.nil _ _, (fun a ha => by cases ha), (rdr_in b).put ((rdr_in b).put HI.out.ri (by omega) 0 _) (by omega) 1 _, grown_far (grown_far HI.out.G l2 0 _) l2 1 _⟩
  · by_cases h7 : n = min T 32
    · have hs0 : s0 = lRaw (lRaw s 8) 1 := by rw [HSS.out]; unfold Nt.mid; rw [if_neg h32, if_neg (by omega)]
      have hKS : lOk s0 := HKS
      have d7 : ((n : Int) != min (T : Int) 32) = false := by rw [bne_eq_false_iff_eq]; omega
      have hi5 := HI3.out
      rw [← hs0] at hi5
      have hc5 := HC3.out
      have hp5 := HP3.out
      have hg5 := HG3.out
      clear hs0 HSS HC3 HP3 HG3 HI3 HF6 HF7 h7
      go_wp2_with fail
      clear e0 el
      generalize w3 = w5 at *
      have HI5 := Lib.hid (show RnIn w w5 b w.heap.size p (InL b) T (Nt.rds 0 s0).2 32 (.slice none 0 0) (.slice none 0 0) (Nt.rds 0 s0).1 w5 from ⟨hi5, hc5, hp5, World.ownsRow_nil _ _ _ _, hg5, ⟨hbw, Nat.le_refl _, hc5.lt, by omega, hp5.lt, by omega, hg5.size, Nat.le_refl _⟩⟩)
      clear hi5 hc5 hp5 hg5
      go_loopg [24] n (fun g i wr => RnSt w w5 b w.heap.size p T n s0 g i wr)
      case atStart => exact ⟨0, _, by omega, rfl, HI5.out⟩
      case round =>
        obtain ⟨k, v, hk, rfl, hI⟩ := hrel
        have HK := Lib.hid hk
        have HI := Lib.hid hI
        have hlen := Nt.rds_len k s0
        obtain ⟨Av, cv, rfl, -, -⟩ := Rw.own_cells hI.own
        have hno : ∀ q, (Value.slice Av (Nt.rds k s0).1.length cv).ownBlock = some q → w5.heap.size ≤ q := fun q hq => (hI.own.lt q hq).1
        rw [hlen] at hno
        have f0 := hI.rp.c0
        have f1 := hI.rp.c1
        have ff0 := hI.rp.fz 0
        have ff1 := hI.rp.fz 1
        have fl := hI.rp.lt
        rw [hlen] at f1
        have HRD := Lib.hid (fun W h => ntread_any b (Nt.rds k s0).2 W h (Nt.lOk_rds k hKS))
        have HOW := Lib.hid hI.own
        have HNO := Lib.hid hno
        rw [hlen] at HOW
        obtain ⟨l1, l2, l3, l4, l5, l6, l7, l8⟩ := hI.lt
        clear hk hI hno
        by_cases hlt : k < n
        · have HSN := Lib.hid (Nt.rds_snoc k s0)
          have HKL := Lib.hid hlen
          unfold Rd1N at HRD
          clear hlen
          rw [HKL.out] at HI
          generalize Nt.rds k s0 = R0 at *
          obtain ⟨r0, s2⟩ := R0
          simp only at HRD HSN HI HKL HOW
          obtain ⟨x, hx⟩ : ∃ x, (Nt.rd1 s2).1 = x := ⟨_, rfl⟩
          obtain ⟨s3, hs3⟩ : ∃ s3, (Nt.rd1 s2).2 = s3 := ⟨_, rfl⟩
          rw [hx, hs3] at HRD HSN
          simp only [ntV] at HRD
          clear hx hs3
          have hk8 : k ≤ 300 := by omega
          go_wp2_with fail
          go_region_law (first
            | (refine step_append_lies _ (by rfl) _ _ _ (by rfl) w5.heap.size 32 iN _ 3 32 Try.underlying22 hiN hzN0 hzN1 hzN2 rfl (by omega) (.slice Av k cv) k (ncs r0) (by rfl) HO6.out ⟨w6.heap.size, 0, none⟩ 1 1 (ncs [x]) (by rfl) (by rfl) (news1 w6 x 32) (ncs_one _) (by omega) (by unfold maxLen; omega) (by omega) HS6.out w6.heap.size.succ (by simp) ?_; intro gg cap w7 hown hgrow hat hlt7; rw [← ncs_app] at hown; have hm7 := HM6.out.append (rdr_in b) (l' := r0 ++ [x]) hgrow (by rw [List.length_append, HKL.out]; exact hown); have HX := Lib.hid (hm7.store (rdr_in b)); have f1 := hm7.rp.c1; have ff1 := hm7.rp.fz 1; have fl := hm7.rp.lt; clear hown hgrow hat hlt7 hm7)
            | (go_simp; go_at_call 37; refine (HRD.out _ ((rdr_in b).on HI.out.ri ((Below.refl _ _).drew))).mono ?_; rintro e w6 ⟨rfl, hi6, hg6⟩; have hm6 := (HI.out.on (rdr_in b) ((Below.refl _ _).drew)).step hi6 hg6; have f1 := hm6.rp.c1; have fl := hm6.rp.lt; have HM6 := Lib.hid (hm6.on (rdr_in b) (alloc1B w6 (.cells #[.int .u64 (x.t : Int), .int .u8 (x.k : Int), .string (ofL x.b)] 32))); have HO6 := Lib.hid HM6.out.own; rw [HKL.out] at HO6; have HS6 := Lib.hid HM6.out.lt.2.2.2.2.2.2.2; clear hi6 hg6 hm6))
          all_goals (
            go_wp2_with fail
            go_roundg (gk - 1)
            case rel => exact ⟨k + 1, _, by have := HK.out; omega, by go_num, by rw [HSN.out]; exact HX.out⟩
            case measure => have := HK.out; omega)
        · have hkn : k = n := by have := HK.out; omega
          rw [hkn] at HI HOW f1 hlen
          have HER := Lib.hid (ierr_l b _ _ HI.out.ri)
          have HKL := Lib.hid hlen
          rw [hkn]
          clear hkn hlen
          generalize Nt.rds n s0 = R at *
          obtain ⟨r0, s2⟩ := R
          simp only at HI HER HOW HKL HAA HEE
          have e0 := HI.out.rc.c0
          have e1 := HI.out.rc.c1
          have ef0 := HI.out.rc.fz 0
          have ef1 := HI.out.rc.fz 1
          have el := HI.out.rc.lt
          rw [HKL.out] at HI
          by_cases he : s2.2 = 0
          · have d0 : (s2.2 != 0) = false := by rw [he]; rfl
            rw [if_neg (by simp [he])] at HAA
            clear he
            go_wp2_with fail
            refine HER.out.mono ?_
            rintro e w6 ⟨rfl, rfl⟩
            go_wp2_with fail
            have hd := HI.out.rc.set (.int .u64 (T : Int)) (.slice Av n cv)
            have g0 := hd.c0
            have g1 := hd.c1
            refine bodyPost_ret (v := .agg #[.int .u64 (T : Int), .slice Av n cv]) (by simp [results, Try.results19, go_sem, g0, g1]) rfl (HPOST.out _ _ ?_)
            obtain ⟨A9, c9, e9, hc9, hn9, hr9, hb9⟩ := Rws.of_own HOW.out
            obtain ⟨rfl, -, rfl⟩ := Value.slice.inj e9
            rw [HAA.out, HEE.out]
            refine ⟨Av, cv, by rw [HKL.out], by rw [HKL.out]; exact hc9, hn9, Rws.put2 hr9 (fun a ha => by have := (hb9 a ha).1; omega) _ _, fun a ha => by have := (hb9 a ha).1; omega, (rdr_in b).put ((rdr_in b).put HI.out.ri (by omega) 0 _) (by omega) 1 _, grown_far (grown_far HI.out.G l2 0 _) l2 1 _⟩
          · have d0 : (s2.2 != 0) = true := by rw [bne_iff_ne]; exact he
            rw [if_pos he] at HAA
            clear he
            go_wp2_with fail
            refine HER.out.mono ?_
            rintro e w6 ⟨rfl, rfl⟩
            go_wp2_with fail
            have hd := HI.out.rc.set (.int .u64 0) (.slice none 0 0)
            have g0 := hd.c0
            have g1 := hd.c1
            refine bodyPost_ret (v := .agg #[.int .u64 0, .slice none 0 0]) (by simp [results, Try.results19, go_sem, g0, g1]) rfl (HPOST.out _ _ ?_)
            rw [HAA.out, HEE.out]
            exact ⟨none, 0, rfl, Nat.le_refl _, fun _ => rfl, Nts.nil _ _, (fun a ha => by cases ha), (rdr_in b).put ((rdr_in b).put HI.out.ri (by omega) 0 _) (by omega) 1 _, grown_far (grown_far HI.out.G l2 0 _) l2 1 _⟩
    · have hs0 : s0 = lFail (lRaw (lRaw s 8) 1) 7 := by rw [HSS.out]; unfold Nt.mid; rw [if_neg h32, if_pos h7]
      have hKS : lOk s0 := HKS
      have d7 : ((n : Int) != min (T : Int) 32) = true := by rw [bne_iff_ne]; omega
      go_wp2_with fail
      refine (HF7.out _ HI3.out).mono ?_
      rintro e w5 ⟨rfl, hi5, hg5x⟩
      rw [← hs0] at hi5
      have hc5 := HC3.out.keep hg5x (fun e => by have := Option.some.inj e; omega)
      have hp5 := HP3.out.keep hg5x (fun e => by have := Option.some.inj e; omega)
      have hg5 := HG3.out.trans hg5x
      clear hs0 hg5x HSS HC3 HP3 HG3 HI3 HF6 HF7 e0 el d7 h7
      have HI5 := Lib.hid (show RnIn w w5 b w.heap.size p (InL b) T (Nt.rds 0 s0).2 32 (.slice none 0 0) (.slice none 0 0) (Nt.rds 0 s0).1 w5 from ⟨hi5, hc5, hp5, World.ownsRow_nil _ _ _ _, hg5, ⟨hbw, Nat.le_refl _, hc5.lt, by omega, hp5.lt, by omega, hg5.size, Nat.le_refl _⟩⟩)
      clear hi5 hc5 hp5 hg5
      go_wp2_with fail
      go_loopg [24] n (fun g i wr => RnSt w w5 b w.heap.size p T n s0 g i wr)
      case atStart => exact ⟨0, _, by omega, rfl, HI5.out⟩
      case round =>
        obtain ⟨k, v, hk, rfl, hI⟩ := hrel
        have HK := Lib.hid hk
        have HI := Lib.hid hI
        have hlen := Nt.rds_len k s0
        obtain ⟨Av, cv, rfl, -, -⟩ := Rw.own_cells hI.own
        have hno : ∀ q, (Value.slice Av (Nt.rds k s0).1.length cv).ownBlock = some q → w5.heap.size ≤ q := fun q hq => (hI.own.lt q hq).1
        rw [hlen] at hno
        have f0 := hI.rp.c0
        have f1 := hI.rp.c1
        have ff0 := hI.rp.fz 0
        have ff1 := hI.rp.fz 1
        have fl := hI.rp.lt
        rw [hlen] at f1
        have HRD := Lib.hid (fun W h => ntread_any b (Nt.rds k s0).2 W h (Nt.lOk_rds k hKS))
        have HOW := Lib.hid hI.own
        have HNO := Lib.hid hno
        rw [hlen] at HOW
        obtain ⟨l1, l2, l3, l4, l5, l6, l7, l8⟩ := hI.lt
        clear hk hI hno
        by_cases hlt : k < n
        · have HSN := Lib.hid (Nt.rds_snoc k s0)
          have HKL := Lib.hid hlen
          unfold Rd1N at HRD
          clear hlen
          rw [HKL.out] at HI
          generalize Nt.rds k s0 = R0 at *
          obtain ⟨r0, s2⟩ := R0
          simp only at HRD HSN HI HKL HOW
          obtain ⟨x, hx⟩ : ∃ x, (Nt.rd1 s2).1 = x := ⟨_, rfl⟩
          obtain ⟨s3, hs3⟩ : ∃ s3, (Nt.rd1 s2).2 = s3 := ⟨_, rfl⟩
          rw [hx, hs3] at HRD HSN
          simp only [ntV] at HRD
          clear hx hs3
          have hk8 : k ≤ 300 := by omega
          go_wp2_with fail
          go_region_law (first
            | (refine step_append_lies _ (by rfl) _ _ _ (by rfl) w5.heap.size 32 iN _ 3 32 Try.underlying22 hiN hzN0 hzN1 hzN2 rfl (by omega) (.slice Av k cv) k (ncs r0) (by rfl) HO6.out ⟨w6.heap.size, 0, none⟩ 1 1 (ncs [x]) (by rfl) (by rfl) (news1 w6 x 32) (ncs_one _) (by omega) (by unfold maxLen; omega) (by omega) HS6.out w6.heap.size.succ (by simp) ?_; intro gg cap w7 hown hgrow hat hlt7; rw [← ncs_app] at hown; have hm7 := HM6.out.append (rdr_in b) (l' := r0 ++ [x]) hgrow (by rw [List.length_append, HKL.out]; exact hown); have HX := Lib.hid (hm7.store (rdr_in b)); have f1 := hm7.rp.c1; have ff1 := hm7.rp.fz 1; have fl := hm7.rp.lt; clear hown hgrow hat hlt7 hm7)
            | (go_simp; go_at_call 37; refine (HRD.out _ ((rdr_in b).on HI.out.ri ((Below.refl _ _).drew))).mono ?_; rintro e w6 ⟨rfl, hi6, hg6⟩; have hm6 := (HI.out.on (rdr_in b) ((Below.refl _ _).drew)).step hi6 hg6; have f1 := hm6.rp.c1; have fl := hm6.rp.lt; have HM6 := Lib.hid (hm6.on (rdr_in b) (alloc1B w6 (.cells #[.int .u64 (x.t : Int), .int .u8 (x.k : Int), .string (ofL x.b)] 32))); have HO6 := Lib.hid HM6.out.own; rw [HKL.out] at HO6; have HS6 := Lib.hid HM6.out.lt.2.2.2.2.2.2.2; clear hi6 hg6 hm6))
          all_goals (
            go_wp2_with fail
            go_roundg (gk - 1)
            case rel => exact ⟨k + 1, _, by have := HK.out; omega, by go_num, by rw [HSN.out]; exact HX.out⟩
            case measure => have := HK.out; omega)
        · have hkn : k = n := by have := HK.out; omega
          rw [hkn] at HI HOW f1 hlen
          have HER := Lib.hid (ierr_l b _ _ HI.out.ri)
          have HKL := Lib.hid hlen
          rw [hkn]
          clear hkn hlen
          generalize Nt.rds n s0 = R at *
          obtain ⟨r0, s2⟩ := R
          simp only at HI HER HOW HKL HAA HEE
          have e0 := HI.out.rc.c0
          have e1 := HI.out.rc.c1
          have ef0 := HI.out.rc.fz 0
          have ef1 := HI.out.rc.fz 1
          have el := HI.out.rc.lt
          rw [HKL.out] at HI
          by_cases he : s2.2 = 0
          · have d0 : (s2.2 != 0) = false := by rw [he]; rfl
            rw [if_neg (by simp [he])] at HAA
            clear he
            go_wp2_with fail
            refine HER.out.mono ?_
            rintro e w6 ⟨rfl, rfl⟩
            go_wp2_with fail
            have hd := HI.out.rc.set (.int .u64 (T : Int)) (.slice Av n cv)
            have g0 := hd.c0
            have g1 := hd.c1
            refine bodyPost_ret (v := .agg #[.int .u64 (T : Int), .slice Av n cv]) (by simp [results, Try.results19, go_sem, g0, g1]) rfl (HPOST.out _ _ ?_)
            obtain ⟨A9, c9, e9, hc9, hn9, hr9, hb9⟩ := Rws.of_own HOW.out
            obtain ⟨rfl, -, rfl⟩ := Value.slice.inj e9
            rw [HAA.out, HEE.out]
            refine ⟨Av, cv, by rw [HKL.out], by rw [HKL.out]; exact hc9, hn9, Rws.put2 hr9 (fun a ha => by have := (hb9 a ha).1; omega) _ _, fun a ha => by have := (hb9 a ha).1; omega, (rdr_in b).put ((rdr_in b).put HI.out.ri (by omega) 0 _) (by omega) 1 _, grown_far (grown_far HI.out.G l2 0 _) l2 1 _⟩
          · have d0 : (s2.2 != 0) = true := by rw [bne_iff_ne]; exact he
            rw [if_pos he] at HAA
            clear he
            go_wp2_with fail
            refine HER.out.mono ?_
            rintro e w6 ⟨rfl, rfl⟩
            go_wp2_with fail
            have hd := HI.out.rc.set (.int .u64 0) (.slice none 0 0)
            have g0 := hd.c0
            have g1 := hd.c1
            refine bodyPost_ret (v := .agg #[.int .u64 0, .slice none 0 0]) (by simp [results, Try.results19, go_sem, g0, g1]) rfl (HPOST.out _ _ ?_)
            rw [HAA.out, HEE.out]
            exact ⟨none, 0, rfl, Nat.le_refl _, fun _ => rfl, Nts.nil _ _, (fun a ha => by cases ha), (rdr_in b).put ((rdr_in b).put HI.out.ri (by omega) 0 _) (by omega) 1 _, grown_far (grown_far HI.out.G l2 0 _) l2 1 _⟩
end Go.Proofs.Ytabnkbdbbneihaa
