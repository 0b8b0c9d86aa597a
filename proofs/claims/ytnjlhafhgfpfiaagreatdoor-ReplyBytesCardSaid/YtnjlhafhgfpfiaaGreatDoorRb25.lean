/-
  A HEAD READ: the program's, walked. WHAT THE WALKS OF METHODS AND REPLIES SHARE: an Out's box, rows beside written boxes, heads that were read.
-/
import Derived.Test.YtnjlhafhgfpfiaaGreatDoorRb15
import Derived.Test.YtnjlhafhgfpfiaaGreatDoorRb20
import Derived.Test.YtnjlhafhgfpfiaaGreatDoorRb22
import Derived.Test.YtnjlhafhgfpfiaaGreatDoorRb24
import Derived.Deep.AppendLies
section
namespace Go.Proofs.YtnjlhafhgfpfiaaGreatDoor
open Go.ChangeShapes Go.WideShapes Go.ChangeAt Go.RowKit
/-- while a head is read: the reader, the pairs so far in a row of one's own -/
structure RdL (w : World) (b : Nat) (R : LSt → World → Prop) (s : LSt) (v : Value) (h : List Hd.Pr) (W : World) : Prop where
  ri : R s W
  own : W.ownsRow w.heap.size 86 4 v h.length (prs h)
  G : w.grownBy W (some b)
  bw : b < w.heap.size
theorem RdL.step {w : World} {b : Nat} {R : LSt → World → Prop} {s s' : LSt} {v : Value} {h : List Hd.Pr} {W W' : World} (H : RdL w b R s v h W) (hi : R s' W') (hg : W.grownBy W' (some b)) : RdL w b R s' v h W' :=
  ⟨hi, H.own.kept hg (Rw.own_ne H.own H.bw), H.G.trans hg, H.bw⟩
theorem RdL.on {w : World} {b : Nat} {R : LSt → World → Prop} (hR : Rder b R) {s : LSt} {v : Value} {h : List Hd.Pr} {W W' : World} (H : RdL w b R s v h W) (hb : Below W.heap.size W W') : RdL w b R s v h W' :=
  ⟨hR.on H.ri hb, Rw.own_on H.own hb, grown_below H.G hb, H.bw⟩
theorem RdL.start {w : World} {b : Nat} {R : LSt → World → Prop} {s : LSt} {W : World} (hi : R s W) (hg : w.grownBy W (some b)) (hb : b < w.heap.size) : RdL w b R s (.slice none 0 0) [] W :=
  ⟨hi, World.ownsRow_nil _ _ _ _, hg, hb⟩
theorem RdL.push {w : World} {b : Nat} {R : LSt → World → Prop} (hR : Rder b R) {s : LSt} {v v' : Value} {h : List Hd.Pr} {x : Hd.Pr} {W W' : World} (H : RdL w b R s v h W) (hg : W.grownBy W' v.ownBlock) (ho : W'.ownsRow w.heap.size 86 4 v' (h ++ [x]).length (prs (h ++ [x]))) : RdL w b R s v' (h ++ [x]) W' :=
  ⟨hR.gr H.ri hg (fun e => by have := (H.own.lt b e.symm).1; have := H.bw; omega), ho, grown_new H.G hg (fun k hk => (H.own.lt k hk).1), H.bw⟩
theorem RdL.row {w : World} {b : Nat} {R : LSt → World → Prop} {s : LSt} {v : Value} {h : List Hd.Pr} {W : World} (H : RdL w b R s v h W) : ∃ A c, v = .slice A h.length c ∧ h.length ≤ c ∧ Prs W A h ∧ ∀ a, A = some a → w.heap.size ≤ a.block := by
  obtain ⟨A, c, e, hc, -, hP⟩ := rown_prs H.own
  refine ⟨A, c, e, hc, hP, fun a ha => (H.own.lt a.block ?_).1⟩
  rw [e, ha]; rfl
theorem Prs.grown {w w' : World} {A : Option Addr} {l : List Hd.Pr} {row : Option Nat} (h : Prs w A l) (hg : w.grownBy w' row) (hne : ∀ a, A = some a → some a.block ≠ row) : Prs w' A l := ⟨fun i hi => by
  obtain ⟨b, off, hA, hlt, hat⟩ := h.at_ i hi
  have hb := hne _ hA
  exact ⟨b, off, hA, Nat.lt_of_lt_of_le hlt hg.size, hg.cell hat.c0 hb, hg.cell hat.c1 hb, hg.cell hat.c2 hb, hg.cell hat.c3 hb⟩⟩
theorem cell_pr_one (w : World) (x0 x1 x2 x3 : Value) (t : TypeId) : ∀ j u, [x0, x1, x2, x3][j]? = some u → (w.alloc (.cells #[x0, x1, x2, x3] t)).cell? ((⟨w.heap.size, 0, none⟩ : Addr).add j) = some u :=
  World.news_of_block (w := w.alloc (.cells #[x0, x1, x2, x3] t)) (B := w.heap.size) (cs := #[x0, x1, x2, x3]) (t := t) (fr := (0, 0)) (heap_alloc_new _ _)
theorem rds_bad {n : Nat} {h : List Hd.Pr} {s : LSt} (hb : (lFail (Hd.rd1 s).2 (Hd.pcode (Hd.rd1 s).1 h)).2 ≠ 0) : Hd.rds (n + 1) h s = ([], lFail (Hd.rd1 s).2 (Hd.pcode (Hd.rd1 s).1 h)) := by rw [Hd.rds, if_pos hb]
theorem rds_go {n : Nat} {h : List Hd.Pr} {s : LSt} (hb : (lFail (Hd.rd1 s).2 (Hd.pcode (Hd.rd1 s).1 h)).2 = 0) : Hd.rds (n + 1) h s = Hd.rds n (h ++ [(Hd.rd1 s).1]) (lFail (Hd.rd1 s).2 (Hd.pcode (Hd.rd1 s).1 h)) := by rw [Hd.rds, if_neg (by omega)]
theorem lText_len (s : LSt) (m : Int) : (lTextOut s m).length ≤ 65536 := by
  unfold lTextOut
  have h1 := lOut_le (lMid s m).1 (lLen s)
  have h2 : lLen s < 256 ^ 2 := val_out_lt s.1 2
  rw [show (256 : Nat) ^ 2 = 65536 from rfl] at h2
  omega
theorem rd1_len (s : LSt) : (Hd.rd1 s).1.key.length ≤ 65536 ∧ (Hd.rd1 s).1.txt.length ≤ 65536 := by
  have h1 := lText_len s 16
  have h2 := lText_len (lRaw (lText s 16) 1) 64
  unfold Hd.rd1
  simp only
  split
  · exact ⟨h1, by simp⟩
  · split
    · exact ⟨h1, h2⟩
    · split
      · exact ⟨h1, by simp⟩
      · exact ⟨h1, by simp⟩
/-- what head.Read leaves -/
def HReadPost (b : Nat) (R : LSt → World → Prop) (w : World) (s : LSt) (e : Ending) (w' : World) : Prop :=
  ∃ A c, e = .returned (.slice A (Hd.hread s).1.length c) ∧ (Hd.hread s).1.length ≤ c ∧ Prs w' A (Hd.hread s).1 ∧ R (Hd.hread s).2 w' ∧ w.grownBy w' (some b) ∧ ∀ a, A = some a → w.heap.size ≤ a.block
def RLoop (w : World) (b : Nat) (R : LSt → World → Prop) (n : Nat) (s1 : LSt) (g : Nat) (v i : Value) (wr : World) : Prop :=
  ∃ (k : Nat) (h : List Hd.Pr) (s : LSt), k + g = n ∧ i = .int .i64 (k : Int) ∧ RdL w b R s v h wr ∧ lOk s ∧ Hd.rds g h s = Hd.rds n [] s1 ∧ h.length = k
set_option maxRecDepth 100000 in
set_option maxHeartbeats 8000000 in
theorem hread_any (b : Nat) (s : LSt) (w : World) (h : InL b s w) (hok : lOk s) : Calls Tryz.prog 57 #[.pointer (some ⟨b, 0, none⟩)] w (HReadPost b (InL b) w s) := by
  have HK0 := lOk_raw hok 1
  have HN := Lib.hid (fun W h => inum_l b s 1 1 W (by omega) rfl h hok)
  have HF6 := Lib.hid (fun W h => ifail_l b (lRaw s 1) 6 W h)
  obtain ⟨n, hn⟩ : ∃ n, Oct.val (lOut s.1 1) = n := ⟨_, rfl⟩
  have hn1 := val_out_lt s.1 1
  rw [show (256 : Nat) ^ 1 = 256 from rfl, hn] at hn1
  have hw : IntKind.i64.wrap (n : Int) = (n : Int) := by rw [IntKind.wrap_i64]; omega
  have HR : Hid (Hd.hread s = if 8 < n then ([], lFail (lRaw s 1) 6) else Hd.rds n [] (lRaw s 1)) := by rw [← hn]; rfl
  rw [hn] at HN
  have HI := Lib.hid h
  have HBW := Lib.hid h.lt
  have HOK := Lib.hid HK0
  clear h hn HK0
  generalize lRaw s 1 = s1 at *
  by_cases h8 : 8 < n
  · have HRR := Lib.hid (show Hd.hread s = ([], lFail s1 6) by rw [HR.out, if_pos h8])
    go_enter Tryz.func57, Tryz.ntmps57
    go_wp2_with fail
    refine (HN.out _ HI.out).mono ?_
    rintro e w1 ⟨rfl, hi1, hg1⟩
    have HI1 := Lib.hid hi1
    have HG1 := Lib.hid hg1
    clear hi1 hg1
    go_wp2_with fail
    refine (HF6.out _ HI1.out).mono ?_
    rintro e w2 ⟨rfl, hi2, hg2⟩
    have HI2 := Lib.hid hi2
    have HG2 := Lib.hid (HG1.out.trans hg2)
    clear hi2 hg2
    go_wp2_with fail
    go_ret
    exact ⟨none, 0, by rw [HRR.out]; rfl, by rw [HRR.out]; exact Nat.le_refl _, by rw [HRR.out]; exact Prs.nil _ _, by rw [HRR.out]; exact HI2.out, HG2.out, fun a h => by cases h⟩
  · have HRR := Lib.hid (show Hd.hread s = Hd.rds n [] s1 by rw [HR.out, if_neg h8])
    obtain ⟨i1, hi1, hz0, hz1, hz2⟩ := info_parts infoPr
    go_enter Tryz.func57, Tryz.ntmps57
    go_wp2_with fail
    refine (HN.out _ HI.out).mono ?_
    rintro e w1 ⟨rfl, hI1, hg1⟩
    have HI1 := Lib.hid hI1
    have HG1 := Lib.hid hg1
    clear hI1 hg1
    go_wp2_with fail
    go_loopg [4, 14] n (fun g v i wr => RLoop w b (InL b) n s1 g v i wr)
    case atStart => exact ⟨0, [], s1, by omega, rfl, RdL.start HI1.out HG1.out HBW.out, HOK.out, rfl, rfl⟩
    case round =>
      obtain ⟨k, h, s2, hk, rfl, hL, hok2, hrd, hlen⟩ := hrel
      obtain ⟨A, cp, rfl, hcp, hP, -⟩ := hL.row
      have HL := Lib.hid hL
      have HOK2 := Lib.hid hok2
      have HRD := Lib.hid hrd
      clear hL hok2 hrd hP
      by_cases hlt : k < n
      · obtain ⟨g', rfl⟩ : ∃ g', gk = g' + 1 := ⟨gk - 1, by omega⟩
        have HR1 := Lib.hid (fun W h => hread1_any b s2 W h HOK2.out)
        obtain ⟨hx1, hx2⟩ := rd1_len s2
        obtain ⟨x, hx⟩ : ∃ x, (Hd.rd1 s2).1 = x := ⟨_, rfl⟩
        have HX := Lib.hid hx
        rw [hx] at hx1 hx2
        clear hx
        have HCK := Lib.hid (fun W h' => hcheck_any x.key x.kind x.num x.txt h A cp W (by omega) (by omega) (by omega) h')
        have HFL := Lib.hid (fun c W h => ifail_l b (Hd.rd1 s2).2 c W h)
        rw [hlen] at HCK ⊢
        go_wp2_with fail
        refine (HR1.out _ HL.out.ri).mono ?_
        rintro e w2 ⟨rfl, hi2, hg2⟩
        rw [HX.out]
        have hL2 := HL.out.step hi2 hg2
        have HL3 := Lib.hid (hL2.on (rdr_in b) ((Below.refl w2.heap.size w2).alloc (Nat.le_refl _) (.cells #[.string (ofL x.key), .int .u8 (x.kind : Int), .int .i64 x.num, .string (ofL x.txt)] 86)))
        have HBX := Lib.hid (PrAt.new x w2)
        have HSZ := Lib.hid hL2.G.size
        clear hi2 hg2 hL2
        simp only [prV]
        obtain ⟨A3, c3, e3, -, hP3, -⟩ := HL3.out.row
        obtain ⟨rfl, -, rfl⟩ := Value.slice.inj e3
        have HP3 := Lib.hid hP3
        clear e3 hP3
        go_wp2_with fail
        refine (HCK.out _ HP3.out).mono ?_
        rintro e w4 ⟨rfl, b4⟩
        have HL4 := Lib.hid (HL3.out.on (rdr_in b) b4)
        have HB4 := Lib.hid ((PrAt.below HBX.out b4 (by simp)))
        have hbl4 : w2.heap.size < w4.heap.size := by have := b4.size; simp at this; omega
        clear b4
        go_wp2_with fail
        refine (HFL.out _ _ HL4.out.ri).mono ?_
        rintro e w5 ⟨rfl, hi5, hg5⟩
        have hL5 := HL4.out.step hi5 hg5
        have HL5 := Lib.hid hL5
        have hne : w2.heap.size ≠ b := by have := HSZ.out; have := HBW.out; omega
        have hp5 := (prCels HB4.out).grown hg5 (fun e => hne (Option.some.inj e))
        have hb5 := prOf (x := x) hp5
        have HB5 := Lib.hid hb5
        have hbl5 : w2.heap.size < w5.heap.size := Nat.lt_of_lt_of_le hbl4 hg5.size
        clear hi5 hg5 hL5 hp5 hb5 hne hbl4
        obtain ⟨F, hF⟩ : ∃ F, lFail (Hd.rd1 s2).2 (Hd.pcode x h) = F := ⟨_, rfl⟩
        have HF := Lib.hid hF
        have HL5 := Lib.hid (show RdL w b (InL b) F (Value.slice A h.length cp) h w5 by rw [← hF]; exact HL5.out)
        have hok5 : lOk F := by rw [← hF]; exact lOk_fail (Hd.lOk_rd1 HOK2.out) _
        have HOK5 := Lib.hid hok5
        have HER := Lib.hid (ierr_l b F w5 HL5.out.ri)
        clear hF hok5
        obtain ⟨c0, c1, c2, c3⟩ := HB5.out
        simp only [Nat.zero_add] at c0 c1 c2 c3
        by_cases h0 : F.2 = 0
        · have HGO := Lib.hid (show Hd.rds (g' + 1) h s2 = Hd.rds g' (h ++ [x]) F by rw [rds_go (by rw [HX.out, HF.out]; exact h0), HX.out, HF.out])
          have hne0 : (F.2 != 0) = false := by rw [h0]; rfl
          rw [h0] at HER
          have hown5 := HL5.out.own
          rw [hlen] at hown5
          have HOW := Lib.hid hown5
          have hal := (Below.refl w5.heap.size w5).alloc (Nat.le_refl _) (.cells #[.string (ofL x.key), .int .u8 (x.kind : Int), .int .i64 x.num, .string (ofL x.txt)] 86)
          have hws : w.heap.size ≤ w5.heap.size := HL5.out.G.size
          clear h0 hown5 hal
          go_wp2_with fail
          refine HER.out.mono ?_
          rintro e w6 ⟨rfl, rfl⟩
          go_wp2_with (first
            | (at_builtin; refine wpList_append_lies _ rfl _ _ 26 rfl w.heap.size 86 i1 _ 4 48 Tryz.underlying26 hi1 hz0 hz1 hz2 rfl (by omega) (.slice A k cp) k (prs h) (by rfl) (HOW.out.alloc _) ⟨w5.heap.size, 0, none⟩ 1 1 (prL x) (by rfl) (by rfl) (cell_pr_one w5 _ _ _ _ _) (by simp [Value.oneCell', prL]) (by omega) (by unfold maxLen; omega) (by omega) (by simp; omega) _ rfl ?_; intro gg cap w7 hown1 hgrow hat hlt'; have HW := Lib.hid hown1; have HG := Lib.hid hgrow; clear hown1 hgrow hat hlt'))
          have hLN := (HL5.out.on (rdr_in b) ((Below.refl w5.heap.size w5).alloc (Nat.le_refl _) (.cells #[.string (ofL x.key), .int .u8 (x.kind : Int), .int .i64 x.num, .string (ofL x.txt)] 86))).push (rdr_in b) (x := x) (by rw [hlen]; exact HG.out) (by rw [List.length_append, hlen, prs_snoc]; exact HW.out)
          go_roundg g'
          case rel => exact ⟨k + 1, h ++ [x], F, by omega, by go_num, hLN, HOK5.out, by rw [← HGO.out]; exact HRD.out, by rw [List.length_append, hlen]; rfl⟩
          case measure => omega
        · have HBAD := Lib.hid (show Hd.rds (g' + 1) h s2 = ([], F) by rw [rds_bad (by rw [HX.out, HF.out]; exact h0), HX.out, HF.out])
          have hne0 : (F.2 != 0) = true := bne_iff_ne.2 h0
          clear h0
          go_wp2_with fail
          refine HER.out.mono ?_
          rintro e w6 ⟨rfl, rfl⟩
          go_wp2_with fail
          go_ret
          have hE : Hd.hread s = ([], F) := by rw [HRR.out, ← HRD.out, HBAD.out]
          exact ⟨none, 0, by rw [hE]; rfl, by rw [hE]; exact Nat.le_refl _, by rw [hE]; exact Prs.nil _ _, by rw [hE]; exact HL5.out.ri, HL5.out.G, fun a h => by cases h⟩
      · have hkn : gk = 0 := by omega
        subst hkn
        have hE := HRD.out
        rw [Hd.rds] at hE
        have HE := Lib.hid hE
        clear hE
        go_wp2_with fail
        go_ret
        obtain ⟨A', c', e', hc', hP', hA'⟩ := HL.out.row
        obtain ⟨rfl, -, rfl⟩ := Value.slice.inj e'
        exact ⟨A, cp, by rw [HRR.out, ← HE.out]; rfl, by rw [HRR.out, ← HE.out]; exact hc', by rw [HRR.out, ← HE.out]; exact hP', by rw [HRR.out, ← HE.out]; exact HL.out.ri, HL.out.G, hA'⟩
end Go.Proofs.YtnjlhafhgfpfiaaGreatDoor
end
section
namespace Go.Proofs.YtnjlhafhgfpfiaaGreatDoor
open Go.ChangeShapes Go.WideShapes Go.ChangeAt Go.RowKit
theorem OutB.zero {w W : World} (h : Below w.heap.size w W) (n : Nat) (hn : n = W.heap.size) (t : TypeId) : OutB w n [] (W.alloc (.cells #[.string ⟨#[]⟩, .int .i64 0] t)) := by
  subst hn
  exact OutB.new h [] t
theorem PrAt.aside {W : World} {b o : Nat} {x : Hd.Pr} (h : PrAt W b o x) {g : Nat} (hg : g ≠ b) (j : Nat) (v : Value) : PrAt (W.setCell ⟨g, j, none⟩ v) b o x :=
  ⟨(aside_cell hg _ _ _).trans h.c0, (aside_cell hg _ _ _).trans h.c1, (aside_cell hg _ _ _).trans h.c2, (aside_cell hg _ _ _).trans h.c3⟩
theorem Prs.aside {W : World} {A : Option Addr} {l : List Hd.Pr} (h : Prs W A l) {g : Nat} (hg : ∀ a, A = some a → g ≠ a.block) (j : Nat) (v : Value) : Prs (W.setCell ⟨g, j, none⟩ v) A l := ⟨fun i hi => by
  obtain ⟨b, off, rfl, hb, hat⟩ := h.at_ i hi
  exact ⟨b, off, rfl, by simpa [World.setCell] using hb, hat.aside (hg _ rfl) j v⟩⟩
/-- a number of cells of a block written, one behind the other -/
def putAll (q : Nat) : Nat → List Value → World → World
  | _, [], W => W
  | j, v :: vs, W => putAll q (j + 1) vs (W.setCell ⟨q, j, none⟩ v)
theorem Prs.putAll {A : Option Addr} {l : List Hd.Pr} {g : Nat} (hg : ∀ a, A = some a → g ≠ a.block) : ∀ (vs : List Value) (j : Nat) {W : World}, Prs W A l → Prs (putAll g j vs W) A l
  | [], _, _, h => h
  | v :: vs, j, _, h => Prs.putAll hg vs (j + 1) (h.aside hg j v)
theorem BoxC.putAll_aside {w : World} {c g : Nat} {xs : List Value} (hg : g ≠ c) : ∀ (vs : List Value) (j : Nat) {W : World}, BoxC w c xs W → BoxC w c xs (putAll g j vs W)
  | [], _, _, h => h
  | v :: vs, j, _, h => BoxC.putAll_aside hg vs (j + 1) (h.aside hg j v)
theorem rdr_putAll {b g : Nat} {R : LSt → World → Prop} (hR : Rder b R) {s : LSt} (hg : g ≠ b) : ∀ (vs : List Value) (j : Nat) {W : World}, R s W → R s (putAll g j vs W)
  | [], _, _, h => h
  | v :: vs, j, _, h => rdr_putAll hR hg vs (j + 1) (hR.put h hg j v)
theorem grown_putAll {a : World} {row : Option Nat} {g : Nat} (hg : a.heap.size ≤ g) : ∀ (vs : List Value) (j : Nat) {W : World}, a.grownBy W row → a.grownBy (putAll g j vs W) row
  | [], _, _, h => h
  | v :: vs, j, _, h => grown_putAll hg vs (j + 1) (grown_far h hg j v)
theorem below_putAll {w : World} {g : Nat} (hg : w.heap.size ≤ g) : ∀ (vs : List Value) (j : Nat) {W : World}, Below w.heap.size w W → Below w.heap.size w (putAll g j vs W)
  | [], _, _, h => h
  | v :: vs, j, _, h => below_putAll hg vs (j + 1) (h.setCell hg v)
theorem Parts.putAll {T : Option Addr} {l : List Nat} {g : Nat} (hg : ∀ a, T = some a → g ≠ a.block) : ∀ (vs : List Value) (j : Nat) {W : World}, Parts W T l → Parts (putAll g j vs W) T l
  | [], _, _, h => h
  | v :: vs, j, _, h => Parts.putAll hg vs (j + 1) (h.aside hg j v)
/-- all cells of a box written -/
theorem BoxC.fill {w W : World} {c : Nat} {xs : List Value} (h : BoxC w c xs W) : ∀ (vs : List Value), vs.length = xs.length → BoxC w c vs (Go.Proofs.YtnjlhafhgfpfiaaGreatDoor.putAll c 0 vs W) := by
  have gen : ∀ (vs us : List Value) (j : Nat) (W : World) (ts : List Value), ts.length = j → us.length = vs.length → BoxC w c (ts ++ us) W → BoxC w c (ts ++ vs) (Go.Proofs.YtnjlhafhgfpfiaaGreatDoor.putAll c j vs W) := by
    intro vs
    induction vs with
    | nil =>
      intro us j W ts _ hu hb
      rw [List.length_eq_zero_iff.1 hu] at hb
      exact hb
    | cons v vs ih =>
      intro us j W ts ht hu hb
      match us, hu with
      | u :: us, hu =>
        have h1 := hb.put j v (by rw [List.length_append, ht]; simp)
        have e : (ts ++ u :: us).set j v = (ts ++ [v]) ++ us := by
          rw [List.set_append_right _ _ (by omega), ht, Nat.sub_self]
          simp
        rw [e] at h1
        have := ih us (j + 1) (W.setCell ⟨c, j, none⟩ v) (ts ++ [v]) (by simp [ht]) (by simpa using hu) h1
        rw [List.append_assoc] at this
        exact this
  intro vs hv
  exact gen vs xs 0 W [] rfl hv.symm h
/-- what was read of a head is of a length that can be walked -/
theorem rds_low : ∀ (n : Nat) (h : List Hd.Pr) (s : LSt), (∀ p ∈ h, p.key.length ≤ 65536 ∧ p.txt.length ≤ 65536) → ∀ p ∈ (Hd.rds n h s).1, p.key.length ≤ 65536 ∧ p.txt.length ≤ 65536
  | 0, _, _, hf => hf
  | n + 1, h, s, hf => by
    unfold Hd.rds
    split
    · intro p hp; simp at hp
    · refine rds_low n _ _ fun p hp => ?_
      rcases List.mem_append.1 hp with hp | hp
      · exact hf p hp
      · rw [List.mem_singleton] at hp; subst hp; exact rd1_len s
theorem hread_low (s : LSt) : ∀ p ∈ (Hd.hread s).1, p.key.length ≤ 65536 ∧ p.txt.length ≤ 65536 := by
  unfold Hd.hread
  split
  · intro p hp; simp at hp
  · exact rds_low _ _ _ fun p hp => by simp at hp
theorem lite_of {l : List Hd.Pr} (h : ∀ p ∈ l, p.key.length ≤ 65536 ∧ p.txt.length ≤ 65536) : Lite l := fun i hi => by
  have := h (Hd.pr l i) (by rw [Hd.pr_at hi]; exact List.getElem_mem hi)
  omega
end Go.Proofs.YtnjlhafhgfpfiaaGreatDoor
end
