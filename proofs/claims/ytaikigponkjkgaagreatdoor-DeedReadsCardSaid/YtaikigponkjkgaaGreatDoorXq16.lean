/-
 A part of the proof.
-/
import Derived.Test.YtaikigponkjkgaaGreatDoorXq11
import Derived.Test.YtaikigponkjkgaaGreatDoorXq15
import Derived.Deep.AppendLies
import Derived.Deep.RegionHeld3
import Derived.Deep.DeepCutAuto
section
namespace Go.Proofs.YtaikigponkjkgaaGreatDoor
open Go.ChangeShapes Go.WideShapes Go.ChangeAt Go.RowKit
open Go.Lib (hid)
set_option maxRecDepth 100000
structure RdL (w : World) (b : Nat) (R : LSt → World → Prop) (s : LSt) (v : Value) (h : List Hd.Pr) (W : World) : Prop where
 ri : R s W
 own : W.ownsRow w.heap.size 142 4 v h.length (prs h)
 G : w.grownBy W (some b)
 bw : b < w.heap.size
theorem RdL.step {w : World} {b : Nat} {R : LSt → World → Prop} {s s' : LSt} {v : Value} {h : List Hd.Pr} {W W' : World} (H : RdL w b R s v h W) (hi : R s' W') (hg : W.grownBy W' (some b)) : RdL w b R s' v h W' :=
 ⟨hi, H.own.kept hg (Rw.own_ne H.own H.bw), H.G.trans hg, H.bw⟩
theorem RdL.on {w : World} {b : Nat} {R : LSt → World → Prop} (hR : Rder b R) {s : LSt} {v : Value} {h : List Hd.Pr} {W W' : World} (H : RdL w b R s v h W) (hb : Below W.heap.size W W') : RdL w b R s v h W' :=
 ⟨hR.on H.ri hb, Rw.own_on H.own hb, grown_below H.G hb, H.bw⟩
theorem RdL.start {w : World} {b : Nat} {R : LSt → World → Prop} {s : LSt} {W : World} (hi : R s W) (hg : w.grownBy W (some b)) (hb : b < w.heap.size) : RdL w b R s (.slice none 0 0) [] W :=
 ⟨hi, World.ownsRow_nil _ _ _ _, hg, hb⟩
theorem RdL.push {w : World} {b : Nat} {R : LSt → World → Prop} (hR : Rder b R) {s : LSt} {v v' : Value} {h : List Hd.Pr} {x : Hd.Pr} {W W' : World} (H : RdL w b R s v h W) (hg : W.grownBy W' v.ownBlock) (ho : W'.ownsRow w.heap.size 142 4 v' (h ++ [x]).length (prs (h ++ [x]))) : RdL w b R s v' (h ++ [x]) W' :=
 ⟨hR.gr H.ri hg (fun e => by have := (H.own.lt b e.symm).1; have := H.bw; omega), ho, grown_new H.G hg (fun k hk => (H.own.lt k hk).1), H.bw⟩
theorem RdL.row {w : World} {b : Nat} {R : LSt → World → Prop} {s : LSt} {v : Value} {h : List Hd.Pr} {W : World} (H : RdL w b R s v h W) : ∃ A c, v = .slice A h.length c ∧ h.length ≤ c ∧ Prs W A h ∧ ∀ a, A = some a → w.heap.size ≤ a.block := by
 obtain ⟨A, c, e, hc, -, hP⟩ := rown_prs H.own
 refine ⟨A, c, e, hc, hP, fun a ha => (H.own.lt a.block ?_).1⟩
 rw [e, ha]; rfl
theorem Prs.grown {w w' : World} {A : Option Addr} {l : List Hd.Pr} {row : Option Nat} (h : Prs w A l) (hg : w.grownBy w' row) (hne : ∀ a, A = some a → some a.block ≠ row) : Prs w' A l := ⟨fun i hi => by
 obtain ⟨b, off, hA, hlt, hat⟩ := h.at_ i hi
 have hb := hne _ hA
 exact ⟨b, off, hA, Nat.lt_of_lt_of_le hlt hg.size, hg.cell hat.c0 hb, hg.cell hat.c1 hb, hg.cell hat.c2 hb, hg.cell hat.c3 hb⟩⟩
theorem cell_pr_one (w : World) (x0 x1 x2 x3 : Value) (t : TypeId) : ∀ j u, [x0, x1, x2, x3][j]? = some u → (w.alloc (.cells #[x0, x1, x2, x3] t)).cell? ((⟨w.heap.size, 0, none⟩ : Addr).add j) = some u :=
 World.news_of_block (w := w.alloc (.cells #[x0, x1, x2, x3] t)) (B := w.heap.size) (cs := #[x0, x1, x2, x3]) (t := t) (fr := (0, 0)) (heap_alloc_new _ _)
theorem rds_bad {n : Nat} {h : List Hd.Pr} {s : LSt} (hb : (lFail (Hd.rd1 s).2 (Hd.pcode (Hd.rd1 s).1 h)).2 ≠ 0) : Hd.rds (n + 1) h s = ([], lFail (Hd.rd1 s).2 (Hd.pcode (Hd.rd1 s).1 h)) := by rw [Hd.rds, if_pos hb]
theorem rds_go {n : Nat} {h : List Hd.Pr} {s : LSt} (hb : (lFail (Hd.rd1 s).2 (Hd.pcode (Hd.rd1 s).1 h)).2 = 0) : Hd.rds (n + 1) h s = Hd.rds n (h ++ [(Hd.rd1 s).1]) (lFail (Hd.rd1 s).2 (Hd.pcode (Hd.rd1 s).1 h)) := by rw [Hd.rds, if_neg (by omega)]
theorem lText_len (s : LSt) (m : Int) : (lTextOut s m).length ≤ 65536 := by
 unfold lTextOut
 have h1 := lOut_le (lMid s m).1 (lLen s)
 have h2 : lLen s < 256 ^ 2 := val_out_lt s.1 2
 rw [show (256 : Nat) ^ 2 = 65536 from rfl] at h2
 omega
theorem rd1_len (s : LSt) : (Hd.rd1 s).1.key.length ≤ 65536 ∧ (Hd.rd1 s).1.txt.length ≤ 65536 := by
 have h1 := lText_len s 16
 have h2 := lText_len (lRaw (lText s 16) 1) 64
 unfold Hd.rd1
 simp only
 split
 ·exact ⟨h1, by simp⟩
 ·split
  ·exact ⟨h1, h2⟩
  ·split
   ·exact ⟨h1, by simp⟩
   ·exact ⟨h1, by simp⟩
def HReadPost (b : Nat) (R : LSt → World → Prop) (w : World) (s : LSt) (e : Ending) (w' : World) : Prop :=
 ∃ A c, e = .returned (.slice A (Hd.hread s).1.length c) ∧ (Hd.hread s).1.length ≤ c ∧ Prs w' A (Hd.hread s).1 ∧ R (Hd.hread s).2 w' ∧ w.grownBy w' (some b) ∧ ∀ a, A = some a → w.heap.size ≤ a.block
def RLoop (w : World) (b : Nat) (R : LSt → World → Prop) (n : Nat) (s1 : LSt) (g : Nat) (v i : Value) (wr : World) : Prop :=
 ∃ (k : Nat) (h : List Hd.Pr) (s : LSt), k + g = n ∧ i = .int .i64 (k : Int) ∧ RdL w b R s v h wr ∧ lOk s ∧ Hd.rds g h s = Hd.rds n [] s1 ∧ h.length = k
set_option maxHeartbeats 8000000 in
theorem hread_any (b : Nat) (s : LSt) (w : World) (h : InL b s w) (hok : lOk s) : Calls Tryz.prog 95 #[.pointer (some ⟨b, 0, none⟩)] w (HReadPost b (InL b) w s) := by
 have HK0 := lOk_raw hok 1
 have HN := hid (fun W h => inum_l b s 1 1 W (by omega) rfl h hok)
 have HF6 := hid (fun W h => ifail_l b (lRaw s 1) 6 W h)
 obtain ⟨n, hn⟩ : ∃ n, Oct.val (lOut s.1 1) = n := ⟨_, rfl⟩
 have hn1 := val_out_lt s.1 1
 rw [show (256 : Nat) ^ 1 = 256 from rfl, hn] at hn1
 have hw : IntKind.i64.wrap (n : Int) = (n : Int) := by rw [IntKind.wrap_i64]; omega
 have HR : Hid (Hd.hread s = if 8 < n then ([], lFail (lRaw s 1) 6) else Hd.rds n [] (lRaw s 1)) := by rw [← hn]; rfl
 rw [hn] at HN
 have HI := hid h
 have HBW := hid h.lt
 have HOK := hid HK0
 clear h hn HK0
 generalize lRaw s 1 = s1 at *
 by_cases h8 : 8 < n
 ·have HRR := hid (show Hd.hread s = ([], lFail s1 6) by rw [HR.out, if_pos h8])
  go_enter Tryz.func95, Tryz.ntmps95
  go_wp2_with fail
  refine (HN.out _ HI.out).mono ?_
  rintro e w1 ⟨rfl, hi1, hg1⟩
  have HI1 := hid hi1
  have HG1 := hid hg1
  clear hi1 hg1
  go_wp2_with fail
  refine (HF6.out _ HI1.out).mono ?_
  rintro e w2 ⟨rfl, hi2, hg2⟩
  have HI2 := hid hi2
  have HG2 := hid (HG1.out.trans hg2)
  clear hi2 hg2
  go_wp2_with fail
  go_ret
  exact ⟨none, 0, by rw [HRR.out]; rfl, by rw [HRR.out]; exact Nat.le_refl _, by rw [HRR.out]; exact Prs.nil _ _, by rw [HRR.out]; exact HI2.out, HG2.out, fun a h => by cases h⟩
 ·have HRR := hid (show Hd.hread s = Hd.rds n [] s1 by rw [HR.out, if_neg h8])
  obtain ⟨i1, hi1, hz0, hz1, hz2⟩ := info_parts infoPr
  go_enter Tryz.func95, Tryz.ntmps95
  go_wp2_with fail
  refine (HN.out _ HI.out).mono ?_
  rintro e w1 ⟨rfl, hI1, hg1⟩
  have HI1 := hid hI1
  have HG1 := hid hg1
  clear hI1 hg1
  go_wp2_with fail
  go_loopg [4, 14] n (fun g v i wr => RLoop w b (InL b) n s1 g v i wr)
  case atStart => exact ⟨0, [], s1, by omega, rfl, RdL.start HI1.out HG1.out HBW.out, HOK.out, rfl, rfl⟩
  case round =>
   obtain ⟨k, h, s2, hk, rfl, hL, hok2, hrd, hlen⟩ := hrel
   obtain ⟨A, cp, rfl, hcp, hP, -⟩ := hL.row
   have HL := hid hL
   have HOK2 := hid hok2
   have HRD := hid hrd
   clear hL hok2 hrd hP
   by_cases hlt : k < n
   ·obtain ⟨g', rfl⟩ : ∃ g', gk = g' + 1 := ⟨gk - 1, by omega⟩
    have HR1 := hid (fun W h => hread1_any b s2 W h HOK2.out)
    obtain ⟨hx1, hx2⟩ := rd1_len s2
    obtain ⟨x, hx⟩ : ∃ x, (Hd.rd1 s2).1 = x := ⟨_, rfl⟩
    have HX := hid hx
    rw [hx] at hx1 hx2
    clear hx
    have HCK := hid (fun W h' => hcheck_any x.key x.kind x.num x.txt h A cp W (by omega) (by omega) (by omega) h')
    have HFL := hid (fun c W h => ifail_l b (Hd.rd1 s2).2 c W h)
    rw [hlen] at HCK ⊢
    go_wp2_with fail
    refine (HR1.out _ HL.out.ri).mono ?_
    rintro e w2 ⟨rfl, hi2, hg2⟩
    rw [HX.out]
    have hL2 := HL.out.step hi2 hg2
    have HL3 := hid (hL2.on (rdr_in b) ((Below.refl w2.heap.size w2).alloc (Nat.le_refl _) (.cells #[.string (ofL x.key), .int .u8 (x.kind : Int), .int .i64 x.num, .string (ofL x.txt)] 142)))
    have HBX := hid (PrAt.new x w2)
    have HSZ := hid hL2.G.size
    clear hi2 hg2 hL2
    simp only [prV]
    obtain ⟨A3, c3, e3, -, hP3, -⟩ := HL3.out.row
    obtain ⟨rfl, -, rfl⟩ := Value.slice.inj e3
    have HP3 := hid hP3
    clear e3 hP3
    go_wp2_with fail
    refine (HCK.out _ HP3.out).mono ?_
    rintro e w4 ⟨rfl, b4⟩
    have HL4 := hid (HL3.out.on (rdr_in b) b4)
    have HB4 := hid ((PrAt.below HBX.out b4 (by simp)))
    have hbl4 : w2.heap.size < w4.heap.size := by have := b4.size; simp at this; omega
    clear b4
    go_wp2_with fail
    refine (HFL.out _ _ HL4.out.ri).mono ?_
    rintro e w5 ⟨rfl, hi5, hg5⟩
    have hL5 := HL4.out.step hi5 hg5
    have HL5 := hid hL5
    have hne : w2.heap.size ≠ b := by have := HSZ.out; have := HBW.out; omega
    have hp5 := (prCels HB4.out).grown hg5 (fun e => hne (Option.some.inj e))
    have hb5 := prOf (x := x) hp5
    have HB5 := hid hb5
    have hbl5 : w2.heap.size < w5.heap.size := Nat.lt_of_lt_of_le hbl4 hg5.size
    clear hi5 hg5 hL5 hp5 hb5 hne hbl4
    obtain ⟨F, hF⟩ : ∃ F, lFail (Hd.rd1 s2).2 (Hd.pcode x h) = F := ⟨_, rfl⟩
    have HF := hid hF
    have HL5 := hid (show RdL w b (InL b) F (Value.slice A h.length cp) h w5 by rw [← hF]; exact HL5.out)
    have hok5 : lOk F := by rw [← hF]; exact lOk_fail (Hd.lOk_rd1 HOK2.out) _
    have HOK5 := hid hok5
    have HER := hid (ierr_l b F w5 HL5.out.ri)
    clear hF hok5
    obtain ⟨c0, c1, c2, c3⟩ := HB5.out
    simp only [Nat.zero_add] at c0 c1 c2 c3
    by_cases h0 : F.2 = 0
    ·have HGO := hid (show Hd.rds (g' + 1) h s2 = Hd.rds g' (h ++ [x]) F by rw [rds_go (by rw [HX.out, HF.out]; exact h0), HX.out, HF.out])
     have hne0 : (F.2 != 0) = false := by rw [h0]; rfl
     rw [h0] at HER
     have hown5 := HL5.out.own
     rw [hlen] at hown5
     have HOW := hid hown5
     have hal := (Below.refl w5.heap.size w5).alloc (Nat.le_refl _) (.cells #[.string (ofL x.key), .int .u8 (x.kind : Int), .int .i64 x.num, .string (ofL x.txt)] 142)
     have hws : w.heap.size ≤ w5.heap.size := HL5.out.G.size
     clear h0 hown5 hal
     go_wp2_with fail
     refine HER.out.mono ?_
     rintro e w6 ⟨rfl, rfl⟩
     go_wp2_with (first
      | (at_builtin; refine wpList_append_lies _ rfl _ _ 46 rfl w.heap.size 142 i1 _ 4 48 Tryz.underlying46 hi1 hz0 hz1 hz2 rfl (by omega) (.slice A k cp) k (prs h) (by rfl) (HOW.out.alloc _) ⟨w5.heap.size, 0, none⟩ 1 1 (prL x) (by rfl) (by rfl) (cell_pr_one w5 _ _ _ _ _) (by simp [Value.oneCell', prL]) (by omega) (by unfold maxLen; omega) (by omega) (by simp; omega) _ rfl ?_; intro gg cap w7 hown1 hgrow hat hlt'; have HW := hid hown1; have HG := hid hgrow; clear hown1 hgrow hat hlt'))
     have hLN := (HL5.out.on (rdr_in b) ((Below.refl w5.heap.size w5).alloc (Nat.le_refl _) (.cells #[.string (ofL x.key), .int .u8 (x.kind : Int), .int .i64 x.num, .string (ofL x.txt)] 142))).push (rdr_in b) (x := x) (by rw [hlen]; exact HG.out) (by rw [List.length_append, hlen, prs_snoc]; exact HW.out)
     go_roundg g'
     case rel => exact ⟨k + 1, h ++ [x], F, by omega, by go_num, hLN, HOK5.out, by rw [← HGO.out]; exact HRD.out, by rw [List.length_append, hlen]; rfl⟩
     case measure => omega
    ·have HBAD := hid (show Hd.rds (g' + 1) h s2 = ([], F) by rw [rds_bad (by rw [HX.out, HF.out]; exact h0), HX.out, HF.out])
     have hne0 : (F.2 != 0) = true := bne_iff_ne.2 h0
     clear h0
     go_wp2_with fail
     refine HER.out.mono ?_
     rintro e w6 ⟨rfl, rfl⟩
     go_wp2_with fail
     go_ret
     have hE : Hd.hread s = ([], F) := by rw [HRR.out, ← HRD.out, HBAD.out]
     exact ⟨none, 0, by rw [hE]; rfl, by rw [hE]; exact Nat.le_refl _, by rw [hE]; exact Prs.nil _ _, by rw [hE]; exact HL5.out.ri, HL5.out.G, fun a h => by cases h⟩
   ·have hkn : gk = 0 := by omega
    subst hkn
    have hE := HRD.out
    rw [Hd.rds] at hE
    have HE := hid hE
    clear hE
    go_wp2_with fail
    go_ret
    obtain ⟨A', c', e', hc', hP', hA'⟩ := HL.out.row
    obtain ⟨rfl, -, rfl⟩ := Value.slice.inj e'
    exact ⟨A, cp, by rw [HRR.out, ← HE.out]; rfl, by rw [HRR.out, ← HE.out]; exact hc', by rw [HRR.out, ← HE.out]; exact hP', by rw [HRR.out, ← HE.out]; exact HL.out.ri, HL.out.G, hA'⟩
theorem OutB.zero {w W : World} (h : Below w.heap.size w W) (n : Nat) (hn : n = W.heap.size) (t : TypeId) : OutB w n [] (W.alloc (.cells #[.string ⟨#[]⟩, .int .i64 0] t)) := by
 subst hn
 exact OutB.new h [] t
theorem PrAt.aside {W : World} {b o : Nat} {x : Hd.Pr} (h : PrAt W b o x) {g : Nat} (hg : g ≠ b) (j : Nat) (v : Value) : PrAt (W.setCell ⟨g, j, none⟩ v) b o x :=
 ⟨(aside_cell hg _ _ _).trans h.c0, (aside_cell hg _ _ _).trans h.c1, (aside_cell hg _ _ _).trans h.c2, (aside_cell hg _ _ _).trans h.c3⟩
theorem Prs.aside {W : World} {A : Option Addr} {l : List Hd.Pr} (h : Prs W A l) {g : Nat} (hg : ∀ a, A = some a → g ≠ a.block) (j : Nat) (v : Value) : Prs (W.setCell ⟨g, j, none⟩ v) A l := ⟨fun i hi => by
 obtain ⟨b, off, rfl, hb, hat⟩ := h.at_ i hi
 exact ⟨b, off, rfl, by simpa [World.setCell] using hb, hat.aside (hg _ rfl) j v⟩⟩
def putAll (q : Nat) : Nat → List Value → World → World
 | _, [], W => W
 | j, v :: vs, W => putAll q (j + 1) vs (W.setCell ⟨q, j, none⟩ v)
theorem Prs.putAll {A : Option Addr} {l : List Hd.Pr} {g : Nat} (hg : ∀ a, A = some a → g ≠ a.block) : ∀ (vs : List Value) (j : Nat) {W : World}, Prs W A l → Prs (putAll g j vs W) A l
 | [], _, _, h => h
 | v :: vs, j, _, h => Prs.putAll hg vs (j + 1) (h.aside hg j v)
theorem rdr_putAll {b g : Nat} {R : LSt → World → Prop} (hR : Rder b R) {s : LSt} (hg : g ≠ b) : ∀ (vs : List Value) (j : Nat) {W : World}, R s W → R s (putAll g j vs W)
 | [], _, _, h => h
 | v :: vs, j, _, h => rdr_putAll hR hg vs (j + 1) (hR.put h hg j v)
theorem grown_putAll {a : World} {row : Option Nat} {g : Nat} (hg : a.heap.size ≤ g) : ∀ (vs : List Value) (j : Nat) {W : World}, a.grownBy W row → a.grownBy (putAll g j vs W) row
 | [], _, _, h => h
 | v :: vs, j, _, h => grown_putAll hg vs (j + 1) (grown_far h hg j v)
theorem below_putAll {w : World} {g : Nat} (hg : w.heap.size ≤ g) : ∀ (vs : List Value) (j : Nat) {W : World}, Below w.heap.size w W → Below w.heap.size w (putAll g j vs W)
 | [], _, _, h => h
 | v :: vs, j, _, h => below_putAll hg vs (j + 1) (h.setCell hg v)
theorem Parts.putAll {T : Option Addr} {l : List Nat} {g : Nat} (hg : ∀ a, T = some a → g ≠ a.block) : ∀ (vs : List Value) (j : Nat) {W : World}, Parts W T l → Parts (putAll g j vs W) T l
 | [], _, _, h => h
 | v :: vs, j, _, h => Parts.putAll hg vs (j + 1) (h.aside hg j v)
theorem BoxC.fill {w W : World} {c : Nat} {xs : List Value} (h : BoxC w c xs W) : ∀ (vs : List Value), vs.length = xs.length → BoxC w c vs (Go.Proofs.YtaikigponkjkgaaGreatDoor.putAll c 0 vs W) := by
 have gen : ∀ (vs us : List Value) (j : Nat) (W : World) (ts : List Value), ts.length = j → us.length = vs.length → BoxC w c (ts ++ us) W → BoxC w c (ts ++ vs) (Go.Proofs.YtaikigponkjkgaaGreatDoor.putAll c j vs W) := by
  intro vs
  induction vs with
  | nil =>
   intro us j W ts _ hu hb
   rw [List.length_eq_zero_iff.1 hu] at hb
   exact hb
  | cons v vs ih =>
   intro us j W ts ht hu hb
   match us, hu with
   | u :: us, hu =>
    have h1 := hb.put j v (by rw [List.length_append, ht]; simp)
    have e : (ts ++ u :: us).set j v = (ts ++ [v]) ++ us := by
     rw [List.set_append_right _ _ (by omega), ht, Nat.sub_self]
     simp
    rw [e] at h1
    have := ih us (j + 1) (W.setCell ⟨c, j, none⟩ v) (ts ++ [v]) (by simp [ht]) (by simpa using hu) h1
    rw [List.append_assoc] at this
    exact this
 intro vs hv
 exact gen vs xs 0 W [] rfl hv.symm h
theorem rds_low : ∀ (n : Nat) (h : List Hd.Pr) (s : LSt), (∀ p ∈ h, p.key.length ≤ 65536 ∧ p.txt.length ≤ 65536) → ∀ p ∈ (Hd.rds n h s).1, p.key.length ≤ 65536 ∧ p.txt.length ≤ 65536
 | 0, _, _, hf => hf
 | n + 1, h, s, hf => by
  unfold Hd.rds
  split
  ·intro p hp; simp at hp
  ·refine rds_low n _ _ fun p hp => ?_
   rcases List.mem_append.1 hp with hp | hp
   ·exact hf p hp
   ·rw [List.mem_singleton] at hp; subst hp; exact rd1_len s
theorem hread_low (s : LSt) : ∀ p ∈ (Hd.hread s).1, p.key.length ≤ 65536 ∧ p.txt.length ≤ 65536 := by
 unfold Hd.hread
 split
 ·intro p hp; simp at hp
 ·exact rds_low _ _ _ fun p hp => by simp at hp
theorem lite_of {l : List Hd.Pr} (h : ∀ p ∈ l, p.key.length ≤ 65536 ∧ p.txt.length ≤ 65536) : Lite l := fun i hi => by
 have := h (Hd.pr l i) (by rw [Hd.pr_at hi]; exact List.getElem_mem hi)
 omega
theorem wpList_append_run {P : Program} {ops : Array Oper} {rest : List Oper} {o : Oper} {a : Act} {w : World} {Q : Exit → Act → World → Prop} (hgd : o.guard = none) (s x : Operand) (t : TypeId)
  (ho : o.op = .call { callee := .builtin .append, args := #[s, x], argTypes := #[t, t] }) (v xv : Value) (hs : a.eval s = v) (hx : a.eval x = xv) {v' : Value} {w' : World}
  (hr : (Builtin.append_ #[t, t] o.type #[v, xv]).run P w = .ok v' w') (h : wpList P ops Q rest (a.put o.dst v') w') : wpList P ops Q (o :: rest) a w := by
 have hw : Region.wanted o (yielded ops a.tmps) = true := by simp [Region.wanted, hgd]
 unfold wpList
 rw [if_pos hw]
 refine Or.inl ?_
 have := step_append_run (ops := ops) (K := wpList P ops Q rest) (Q := Q) (E := True) hgd s x t ho v xv hs hx hr h
 rw [if_pos hw] at this
 exact this
def OwnPrs (B : Nat) (w : World) (A : Option Addr) (c : Nat) (l : List Hd.Pr) : Prop := w.ownsRow B 142 4 (.slice A l.length c) l.length (prs l)
theorem OwnPrs.row {B : Nat} {w : World} {A : Option Addr} {c : Nat} {l : List Hd.Pr} (h : OwnPrs B w A c l) : Prs w A l ∧ l.length ≤ c ∧ ∀ a, A = some a → B ≤ a.block ∧ a.block < w.heap.size := by
 obtain ⟨A2, c2, e2, hc, -, hP⟩ := rown_prs h
 obtain ⟨rfl, -, rfl⟩ := Value.slice.inj e2
 refine ⟨hP, hc, fun a ha => ?_⟩
 subst ha
 exact World.ownsRow.lt h a.block rfl
theorem OwnPrs.on {B : Nat} {w w' : World} {A : Option Addr} {c : Nat} {l : List Hd.Pr} (h : OwnPrs B w A c l) (hb : Below w.heap.size w w') : OwnPrs B w' A c l :=
 World.ownsRow.kept (row := none) h ⟨hb.os, hb.tape, hb.output, hb.size, fun k hk _ => hb.block k hk⟩ (by
  cases A with
  | none => exact Or.inl rfl
  | some a => exact Or.inr (by simp [Value.ownBlock]))
theorem OwnPrs.aside {B : Nat} {w : World} {A : Option Addr} {c : Nat} {l : List Hd.Pr} (h : OwnPrs B w A c l) {g : Nat} (hg : ∀ a, A = some a → g ≠ a.block) (j : Nat) (v : Value) : OwnPrs B (w.setCell ⟨g, j, none⟩ v) A c l :=
 World.ownsRow.kept (row := some g) h ⟨rfl, rfl, rfl, by simp [World.setCell], fun k _ hk => heap_setCell_other w ⟨g, j, none⟩ k v (fun e => hk (by simp [e]))⟩ (by
  cases A with
  | none => exact Or.inl rfl
  | some a => exact Or.inr (by simp only [Value.ownBlock, ne_eq, Option.some.injEq]; exact fun e => hg a rfl e.symm))
def ClOwn (l : List Hd.Pr) (w : World) (e : Ending) (w' : World) : Prop := ∃ A' c', e = .returned (.slice A' l.length c') ∧ OwnPrs w.heap.size w' A' c' l ∧ Below w.heap.size w w'
set_option maxHeartbeats 2000000 in
theorem cloneOwn_any (l : List Hd.Pr) (A : Option Addr) (c : Nat) (w : World) (hl : l.length ≤ 100000) (hc : l.length ≤ c) (hp : Prs w A l) : Calls Tryz.prog 133 #[.slice A l.length c] w (ClOwn l w) := by
 have qT : ∀ (w : World) (a : Option Addr) (n c n' c' : Nat), (binOp .eql 46 (.slice a n c) (.slice none n' c')).run Tryz.prog w = .ok (.bool a.isNone) w := fun w a n c n' c' => Lib.run_eql_slice_nil w _ _ a n c n' c' Tryz.underlying46
 cases A with
 | none =>
  have h0 : l = [] := by
   cases l with
   | nil => rfl
   | cons x t => obtain ⟨b, off, e, _⟩ := hp.at_ 0 (by simp); cases e
  subst h0
  go_enter Tryz.func133, Tryz.ntmps133
  go_wp2_with fail
  go_ret
  exact ⟨none, 0, rfl, World.ownsRow_nil _ _ _ _, Below.refl _ _⟩
 | some ad =>
  have hB4 : Below w.heap.size w (w.alloc (.cells #[] 142)) := (Below.refl _ _).alloc (Nat.le_refl _) _
  have hown4 : (w.alloc (.cells #[] 142)).ownsRow w.heap.size 142 4 (.slice (some ⟨w.heap.size, 0, none⟩) 0 0) 0 [] := World.ownsRow_made (e := 142) (size := 4) w #[] 0 (Nat.le_refl _) (by unfold maxLen; omega) rfl
  obtain ⟨A', c', w5, hrun, hown5, hgr5, hc5, hA5⟩ := copy_run (W := w.alloc (.cells #[] 142)) (l := l) (A := some ad) (c := c) hl hc (hp.on hB4) hown4 (by simp)
  have hs4 : (w.alloc (.cells #[] 142)).heap.size = w.heap.size + 1 := by simp
  have hB5 : Below w.heap.size w w5 := hB4.grown hgr5 (by rw [hs4]; omega) (fun k hk => by cases hk; omega)
  have HRUN := hid hrun
  have HE := hid (show ClOwn l w (.returned (.slice A' l.length c')) w5 from ⟨A', c', rfl, hown5, hB5⟩)
  clear hB4 hown4 hs4 hrun hown5 hgr5 hc5 hA5 hB5 hp
  go_enter Tryz.func133, Tryz.ntmps133
  go_wp2_with (first
   | (at_builtin; (refine wpList_append_run (by rfl) _ _ 46 (by rfl) _ _ (by rfl) (by rfl) HRUN.out ?_)))
  go_ret
  exact HE.out
theorem Rws.elt {α : Type} (f : α → List Value) (k : Nat) (hf : ∀ x, (f x).length = k) (hk : 0 < k) {w : World} {A : Option Addr} {l : List α} (h : Rws w A (l.flatMap f)) {i : Nat} (hi : i < l.length) :
  ∃ b off, A = some ⟨b, off, none⟩ ∧ b < w.heap.size ∧ ∀ j v, (f l[i])[j]? = some v → w.cell? ⟨b, off + i * k + j, none⟩ = some v := by
 obtain ⟨b, off, e, hlt, hc⟩ := Rws.lies h (by rw [Rw.flat_len f k hf]; exact Nat.mul_pos (by omega) hk)
 refine ⟨b, off, e, hlt, fun j v hv => ?_⟩
 have hj : j < k := by have := (List.getElem?_eq_some_iff.1 hv).1; rwa [hf] at this
 have := hc (i * k + j) v ((Rw.flat_get f k hf hk l i j hi hj).trans hv)
 rwa [← Nat.add_assoc] at this

def shL (x : Sh) : List Value := [.string (ofL x.name), .int .u8 (x.sort : Int), .string (ofL x.to)]
def shV (x : Sh) : Value := .agg #[.string (ofL x.name), .int .u8 (x.sort : Int), .string (ofL x.to)]
def shs (l : List Sh) : List Value := l.flatMap shL
theorem shs_len (l : List Sh) : (shs l).length = l.length * 3 := Rw.flat_len shL 3 (fun _ => rfl) l
theorem shs_app (l m : List Sh) : shs (l ++ m) = shs l ++ shs m := by simp [shs]
theorem shs_one1 (x : Sh) : shs [x] = shL x := by simp [shs]
theorem shs_get {w : World} {A : Option Addr} {l : List Sh} (h : Rws w A (shs l)) {i : Nat} (hi : i < l.length) :
  ∃ b off, A = some ⟨b, off, none⟩ ∧ b < w.heap.size ∧ ∀ j v, (shL l[i])[j]? = some v → w.cell? ⟨b, off + i * 3 + j, none⟩ = some v := Rws.elt shL 3 (fun _ => rfl) (by decide) h hi
structure Bp where
 x : Bd
 A : Option Addr
 c : Nat
def bdL (x : Bd) (A : Option Addr) (c : Nat) : List Value := [.string (ofL x.shop), .string (ofL x.to), .bool x.up, .string (ofL x.key), .slice A x.want.length c, .bool x.all]
def bdV (x : Bd) (A : Option Addr) (c : Nat) : Value := .agg #[.string (ofL x.shop), .string (ofL x.to), .bool x.up, .string (ofL x.key), .slice A x.want.length c, .bool x.all]
def bpL (p : Bp) : List Value := bdL p.x p.A p.c
def bps (l : List Bp) : List Value := l.flatMap bpL
theorem bps_len (l : List Bp) : (bps l).length = l.length * 6 := Rw.flat_len bpL 6 (fun _ => rfl) l
theorem bps_app (l m : List Bp) : bps (l ++ m) = bps l ++ bps m := by simp [bps]
theorem bps_one1 (p : Bp) : bps [p] = bpL p := by simp [bps]
theorem bps_get {w : World} {A : Option Addr} {l : List Bp} (h : Rws w A (bps l)) {i : Nat} (hi : i < l.length) :
  ∃ b off, A = some ⟨b, off, none⟩ ∧ b < w.heap.size ∧ ∀ j v, (bpL l[i])[j]? = some v → w.cell? ⟨b, off + i * 6 + j, none⟩ = some v := Rws.elt bpL 6 (fun _ => rfl) (by decide) h hi
structure BdOk (w : World) (x : Bd) (A : Option Addr) (c : Nat) : Prop where
 shop : x.shop.length ≤ 90000
 tol : x.to.length ≤ 90000
 key : x.key.length ≤ 90000
 len : x.want.length ≤ 100000
 cap : x.want.length ≤ c
 lite : Lite x.want
 row : Prs w A x.want
theorem BdOk.on {w w' : World} {x : Bd} {A : Option Addr} {c : Nat} (h : BdOk w x A c) (hb : Below w.heap.size w w') : BdOk w' x A c := ⟨h.shop, h.tol, h.key, h.len, h.cap, h.lite, h.row.on hb⟩
def bdRu (sort : Nat) (x : Bd) : Ru := ⟨sort, x.key, x.want, x.all⟩
theorem BdOk.ru {w : World} {x : Bd} {A : Option Addr} {c : Nat} (h : BdOk w x A c) (sort : Nat) : RuOk w (bdRu sort x) A c := ⟨h.key, h.len, h.cap, h.lite, h.row⟩
structure Shs (w : World) (A : Option Addr) (l : List Sh) : Prop where
 row : Rws w A (shs l)
theorem Shs.on {w w' : World} {A : Option Addr} {l : List Sh} (h : Shs w A l) (hb : Below w.heap.size w w') : Shs w' A l := ⟨Rws.on h.row hb⟩
theorem Shs.nil (w : World) (A : Option Addr) : Shs w A [] := ⟨Rws.nil w A⟩
structure Bds (w : World) (A : Option Addr) (l : List Bp) : Prop where
 row : Rws w A (bps l)
 ok : ∀ p ∈ l, BdOk w p.x p.A p.c
theorem Bds.on {w w' : World} {A : Option Addr} {l : List Bp} (h : Bds w A l) (hb : Below w.heap.size w w') : Bds w' A l := ⟨Rws.on h.row hb, fun p hp => (h.ok p hp).on hb⟩
theorem Bds.nil (w : World) (A : Option Addr) : Bds w A [] := ⟨Rws.nil w A, fun _ h => by simp at h⟩
theorem bx_len {m : List Bp} {l : List Bd} (h : m.map Bp.x = l) : m.length = l.length := by rw [← h]; simp
structure BkAt (w : World) (A : Option Addr) (c : Nat) (B : Option Addr) (d : Nat) (b : Bk) (ps : List Bp) : Prop where
 xs : ps.map Bp.x = b.binds
 capA : b.shops.length ≤ c
 nilA : A = none → c = 0
 capB : ps.length ≤ d
 nilB : B = none → d = 0
 shs : Shs w A b.shops
 bds : Bds w B ps
theorem BkAt.on {w w' : World} {A : Option Addr} {c : Nat} {B : Option Addr} {d : Nat} {b : Bk} {ps : List Bp} (h : BkAt w A c B d b ps) (hb : Below w.heap.size w w') : BkAt w' A c B d b ps := ⟨h.xs, h.capA, h.nilA, h.capB, h.nilB, h.shs.on hb, h.bds.on hb⟩
def bkV (A : Option Addr) (c : Nat) (B : Option Addr) (d : Nat) (b : Bk) : Value := .agg #[.slice A b.shops.length c, .slice B b.binds.length d]
theorem BkAt.nil (w : World) : BkAt w none 0 none 0 Bk.empty [] := ⟨rfl, Nat.le_refl _, fun _ => rfl, Nat.le_refl _, fun _ => rfl, Shs.nil _ _, Bds.nil _ _⟩
theorem BkAt.len {w : World} {A : Option Addr} {c : Nat} {B : Option Addr} {d : Nat} {b : Bk} {ps : List Bp} (h : BkAt w A c B d b ps) : ps.length = b.binds.length := bx_len h.xs
structure BkU (U : Nat → Prop) (w : World) (A B : Option Addr) (ps : List Bp) : Prop where
 a : ∀ x, A = some x → U x.block ∧ x.block < w.heap.size
 b : ∀ x, B = some x → U x.block ∧ x.block < w.heap.size
 p : ∀ q ∈ ps, q.x.want ≠ [] → ∀ x, q.A = some x → U x.block ∧ x.block < w.heap.size
theorem BkU.on {U : Nat → Prop} {w w' : World} {A B : Option Addr} {ps : List Bp} (h : BkU U w A B ps) (hb : w.heap.size ≤ w'.heap.size) : BkU U w' A B ps :=
 ⟨fun x hx => ⟨(h.a x hx).1, Nat.lt_of_lt_of_le (h.a x hx).2 hb⟩, fun x hx => ⟨(h.b x hx).1, Nat.lt_of_lt_of_le (h.b x hx).2 hb⟩, fun q hq hw x hx => ⟨(h.p q hq hw x hx).1, Nat.lt_of_lt_of_le (h.p q hq hw x hx).2 hb⟩⟩
theorem BkU.mono {U V : Nat → Prop} {w : World} {A B : Option Addr} {ps : List Bp} (h : BkU U w A B ps) (hv : ∀ g, U g → V g) : BkU V w A B ps :=
 ⟨fun x hx => ⟨hv _ (h.a x hx).1, (h.a x hx).2⟩, fun x hx => ⟨hv _ (h.b x hx).1, (h.b x hx).2⟩, fun q hq hw x hx => ⟨hv _ (h.p q hq hw x hx).1, (h.p q hq hw x hx).2⟩⟩
theorem BkU.self {U : Nat → Prop} {w : World} {A B : Option Addr} {ps : List Bp} (h : BkU U w A B ps) : BkU (fun g => U g ∧ g < w.heap.size) w A B ps :=
 ⟨fun x hx => ⟨h.a x hx, (h.a x hx).2⟩, fun x hx => ⟨h.b x hx, (h.b x hx).2⟩, fun q hq hw x hx => ⟨h.p q hq hw x hx, (h.p q hq hw x hx).2⟩⟩
theorem BkU.nil (U : Nat → Prop) (w : World) : BkU U w none none [] := ⟨(fun x h => by cases h), (fun x h => by cases h), (fun q h => by simp at h)⟩
theorem rwsPut {w : World} {A : Option Addr} {cs : List Value} {b : Nat} (h : Rws w A cs) (hne : ∀ a, A = some a → a.block ≠ b) (j : Nat) (v : Value) : Rws (w.setCell ⟨b, j, none⟩ v) A cs := ⟨fun i u hu => by
 obtain ⟨g, off, rfl, hlt, hc⟩ := h.at_ i u hu
 have hg : g ≠ b := hne _ rfl
 exact ⟨g, off, rfl, by simpa using hlt, (World.cell?_setCell_other _ _ _ _ (by intro e; simp only [Addr.mk.injEq] at e; omega)).trans hc⟩⟩
theorem BdOk.put {w : World} {x : Bd} {A : Option Addr} {c g : Nat} (h : BdOk w x A c) (hg : x.want ≠ [] → ∀ a, A = some a → a.block ≠ g) (j : Nat) (v : Value) : BdOk (w.setCell ⟨g, j, none⟩ v) x A c := by
 refine ⟨h.shop, h.tol, h.key, h.len, h.cap, h.lite, ?_⟩
 by_cases e : x.want = []
 ·rw [e]; exact Prs.nil _ _
 ·exact h.row.aside (fun a ha => Ne.symm (hg e a ha)) j v
theorem BkAt.put {U : Nat → Prop} {w : World} {A : Option Addr} {c : Nat} {B : Option Addr} {d : Nat} {b : Bk} {ps : List Bp} (h : BkAt w A c B d b ps) (hu : BkU U w A B ps) {g : Nat} (hg : ¬ U g) (j : Nat) (v : Value) : BkAt (w.setCell ⟨g, j, none⟩ v) A c B d b ps :=
 ⟨h.xs, h.capA, h.nilA, h.capB, h.nilB, ⟨rwsPut h.shs.row (fun a ha e => by have h9 := (hu.a a ha).1; rw [e] at h9; exact hg h9) j v⟩, ⟨rwsPut h.bds.row (fun a ha e => by have h9 := (hu.b a ha).1; rw [e] at h9; exact hg h9) j v, fun p hp => (h.bds.ok p hp).put (fun hw a ha e => by have h9 := (hu.p p hp hw a ha).1; rw [e] at h9; exact hg h9) j v⟩⟩
theorem BkU.put {U : Nat → Prop} {w : World} {A B : Option Addr} {ps : List Bp} (h : BkU U w A B ps) (g j : Nat) (v : Value) : BkU U (w.setCell ⟨g, j, none⟩ v) A B ps := h.on (by simp)
def BkPost (U : Nat → Prop) (b : Bk) (code : Nat) (w : World) (e : Ending) (w' : World) : Prop := ∃ A c B d ps, e = .returned (.tuple #[bkV A c B d b, .int .i64 (code : Int)]) ∧ BkAt w' A c B d b ps ∧ BkU (fun g => U g ∨ w.heap.size ≤ g) w' A B ps ∧ Below w.heap.size w w'
theorem rtOne (w : World) (o : Obj) : Below w.heap.size w (w.alloc o) := (Below.refl _ _).alloc (Nat.le_refl _) _
theorem rtTwo (w : World) (o o' : Obj) : Below w.heap.size w ((w.alloc o).alloc o') := ((Below.refl _ _).alloc (Nat.le_refl _) _).alloc (by simp) _
theorem rtThree (w : World) (o o' o'' : Obj) : Below w.heap.size w (((w.alloc o).alloc o').alloc o'') := (((Below.refl _ _).alloc (Nat.le_refl _) _).alloc (by simp) _).alloc (by simp; omega) _
theorem rtAt0 (w : World) (c : Array Value) (t : TypeId) : BoxC w w.heap.size c.toList (w.alloc (.cells c t)) := BoxC.new (Nat.le_refl _) c t
theorem rtNext {w W : World} {c : Nat} {xs : List Value} (h : BoxC w c xs W) (o : Obj) : BoxC w c xs (W.alloc o) := h.on (rtOne W o)
theorem rtAt1 (w : World) (o : Obj) (c : Array Value) (t : TypeId) : BoxC w (w.heap.size + 1) c.toList ((w.alloc o).alloc (.cells c t)) := by
 have := BoxC.new (w := w) (W := w.alloc o) (by simp) c t
 rwa [show (w.alloc o).heap.size = w.heap.size + 1 by simp] at this
theorem rtAt2 (w : World) (o o' : Obj) (c : Array Value) (t : TypeId) : BoxC w (w.heap.size + 2) c.toList (((w.alloc o).alloc o').alloc (.cells c t)) := by
 have := BoxC.new (w := w) (W := (w.alloc o).alloc o') (by simp; omega) c t
 rwa [show ((w.alloc o).alloc o').heap.size = w.heap.size + 2 by simp] at this
theorem rtKept {w W W' : World} {c : Nat} {xs : List Value} {row : Option Nat} (h : BoxC w c xs W) (hg : W.grownBy W' row) (hne : some c ≠ row) : BoxC w c xs W' :=
 ⟨h.cs.grown hg hne, h.s.grown hg h.lt hne, Nat.lt_of_lt_of_le h.lt hg.size, h.ge⟩
theorem rtDrew {w W : World} {c : Nat} {xs : List Value} (h : BoxC w c xs W) : BoxC w c xs W.drew := h.on (Below.refl _ _).drew
theorem rtCell {b off : Nat} {w W : World} {v : Value} (hb : Below w.heap.size w W) (h : w.cell? ⟨b, off, none⟩ = some v) : W.cell? ⟨b, off, none⟩ = some v := (hb.cell (p := ⟨b, off, none⟩) (World.block_lt_of_cell? w _ h)).trans h
end Go.Proofs.YtaikigponkjkgaaGreatDoor
end
