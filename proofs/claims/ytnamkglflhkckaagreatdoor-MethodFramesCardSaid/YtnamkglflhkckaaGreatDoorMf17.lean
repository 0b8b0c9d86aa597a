/-
  A HEAD READ: the program's, walked. WHAT THE WALKS OF METHODS AND REPLIES SHARE: an Out's box, rows beside written boxes, heads that were read. WHETHER A METHOD MAY BE, as the document has it: walked, class by class of its kinds. WHETHER A METHOD MAY BE, as the document has it: walked, class by class of its kinds.
-/
import Derived.Test.YtnamkglflhkckaaGreatDoorMf11
import Derived.Test.YtnamkglflhkckaaGreatDoorMf13
import Derived.Test.YtnamkglflhkckaaGreatDoorMf15
import Derived.Test.YtnamkglflhkckaaGreatDoorMf16
import Derived.Deep.AppendLies
import Derived.Deep.DeepCutAuto
section
namespace Go.Proofs.YtnamkglflhkckaaGreatDoor
open Go.ChangeShapes Go.WideShapes Go.ChangeAt Go.RowKit
/-- while a head is read: the reader, the pairs so far in a row of one's own -/
structure RdL (w : World) (b : Nat) (R : LSt → World → Prop) (s : LSt) (v : Value) (h : List Hd.Pr) (W : World) : Prop where
  ri : R s W
  own : W.ownsRow w.heap.size 176 4 v h.length (prs h)
  G : w.grownBy W (some b)
  bw : b < w.heap.size
theorem RdL.step {w : World} {b : Nat} {R : LSt → World → Prop} {s s' : LSt} {v : Value} {h : List Hd.Pr} {W W' : World} (H : RdL w b R s v h W) (hi : R s' W') (hg : W.grownBy W' (some b)) : RdL w b R s' v h W' :=
  ⟨hi, H.own.kept hg (Rw.own_ne H.own H.bw), H.G.trans hg, H.bw⟩
theorem RdL.on {w : World} {b : Nat} {R : LSt → World → Prop} (hR : Rder b R) {s : LSt} {v : Value} {h : List Hd.Pr} {W W' : World} (H : RdL w b R s v h W) (hb : Below W.heap.size W W') : RdL w b R s v h W' :=
  ⟨hR.on H.ri hb, Rw.own_on H.own hb, grown_below H.G hb, H.bw⟩
theorem RdL.start {w : World} {b : Nat} {R : LSt → World → Prop} {s : LSt} {W : World} (hi : R s W) (hg : w.grownBy W (some b)) (hb : b < w.heap.size) : RdL w b R s (.slice none 0 0) [] W :=
  ⟨hi, World.ownsRow_nil _ _ _ _, hg, hb⟩
theorem RdL.push {w : World} {b : Nat} {R : LSt → World → Prop} (hR : Rder b R) {s : LSt} {v v' : Value} {h : List Hd.Pr} {x : Hd.Pr} {W W' : World} (H : RdL w b R s v h W) (hg : W.grownBy W' v.ownBlock) (ho : W'.ownsRow w.heap.size 176 4 v' (h ++ [x]).length (prs (h ++ [x]))) : RdL w b R s v' (h ++ [x]) W' :=
  ⟨hR.gr H.ri hg (fun e => by have := (H.own.lt b e.symm).1; have := H.bw; omega), ho, grown_new H.G hg (fun k hk => (H.own.lt k hk).1), H.bw⟩
theorem RdL.row {w : World} {b : Nat} {R : LSt → World → Prop} {s : LSt} {v : Value} {h : List Hd.Pr} {W : World} (H : RdL w b R s v h W) : ∃ A c, v = .slice A h.length c ∧ h.length ≤ c ∧ Prs W A h ∧ ∀ a, A = some a → w.heap.size ≤ a.block := by
  obtain ⟨A, c, e, hc, -, hP⟩ := rown_prs H.own
  refine ⟨A, c, e, hc, hP, fun a ha => (H.own.lt a.block ?_).1⟩
  rw [e, ha]; rfl
theorem Prs.grown {w w' : World} {A : Option Addr} {l : List Hd.Pr} {row : Option Nat} (h : Prs w A l) (hg : w.grownBy w' row) (hne : ∀ a, A = some a → some a.block ≠ row) : Prs w' A l := ⟨fun i hi => by
  obtain ⟨b, off, hA, hlt, hat⟩ := h.at_ i hi
  have hb := hne _ hA
  exact ⟨b, off, hA, Nat.lt_of_lt_of_le hlt hg.size, hg.cell hat.c0 hb, hg.cell hat.c1 hb, hg.cell hat.c2 hb, hg.cell hat.c3 hb⟩⟩
theorem cell_pr_one (w : World) (x0 x1 x2 x3 : Value) (t : TypeId) : ∀ j u, [x0, x1, x2, x3][j]? = some u → (w.alloc (.cells #[x0, x1, x2, x3] t)).cell? ((⟨w.heap.size, 0, none⟩ : Addr).add j) = some u :=
  World.news_of_block (w := w.alloc (.cells #[x0, x1, x2, x3] t)) (B := w.heap.size) (cs := #[x0, x1, x2, x3]) (t := t) (fr := (0, 0)) (heap_alloc_new _ _)
theorem rds_bad {n : Nat} {h : List Hd.Pr} {s : LSt} (hb : (lFail (Hd.rd1 s).2 (Hd.pcode (Hd.rd1 s).1 h)).2 ≠ 0) : Hd.rds (n + 1) h s = ([], lFail (Hd.rd1 s).2 (Hd.pcode (Hd.rd1 s).1 h)) := by rw [Hd.rds, if_pos hb]
theorem rds_go {n : Nat} {h : List Hd.Pr} {s : LSt} (hb : (lFail (Hd.rd1 s).2 (Hd.pcode (Hd.rd1 s).1 h)).2 = 0) : Hd.rds (n + 1) h s = Hd.rds n (h ++ [(Hd.rd1 s).1]) (lFail (Hd.rd1 s).2 (Hd.pcode (Hd.rd1 s).1 h)) := by rw [Hd.rds, if_neg (by omega)]
theorem lText_len (s : LSt) (m : Int) : (lTextOut s m).length ≤ 65536 := by
  unfold lTextOut
  have h1 := lOut_le (lMid s m).1 (lLen s)
  have h2 : lLen s < 256 ^ 2 := val_out_lt s.1 2
  rw [show (256 : Nat) ^ 2 = 65536 from rfl] at h2
  omega
theorem rd1_len (s : LSt) : (Hd.rd1 s).1.key.length ≤ 65536 ∧ (Hd.rd1 s).1.txt.length ≤ 65536 := by
  have h1 := lText_len s 16
  have h2 := lText_len (lRaw (lText s 16) 1) 64
  unfold Hd.rd1
  simp only
  split
  · exact ⟨h1, by simp⟩
  · split
    · exact ⟨h1, h2⟩
    · split
      · exact ⟨h1, by simp⟩
      · exact ⟨h1, by simp⟩
/-- what head.Read leaves -/
def HReadPost (b : Nat) (R : LSt → World → Prop) (w : World) (s : LSt) (e : Ending) (w' : World) : Prop :=
  ∃ A c, e = .returned (.slice A (Hd.hread s).1.length c) ∧ (Hd.hread s).1.length ≤ c ∧ Prs w' A (Hd.hread s).1 ∧ R (Hd.hread s).2 w' ∧ w.grownBy w' (some b) ∧ ∀ a, A = some a → w.heap.size ≤ a.block
def RLoop (w : World) (b : Nat) (R : LSt → World → Prop) (n : Nat) (s1 : LSt) (g : Nat) (v i : Value) (wr : World) : Prop :=
  ∃ (k : Nat) (h : List Hd.Pr) (s : LSt), k + g = n ∧ i = .int .i64 (k : Int) ∧ RdL w b R s v h wr ∧ lOk s ∧ Hd.rds g h s = Hd.rds n [] s1 ∧ h.length = k
set_option maxRecDepth 100000 in
set_option maxHeartbeats 8000000 in
theorem hread_any (b : Nat) (s : LSt) (w : World) (h : InL b s w) (hok : lOk s) : Calls Tryz.prog 126 #[.pointer (some ⟨b, 0, none⟩)] w (HReadPost b (InL b) w s) := by
  have HK0 := lOk_raw hok 1
  have HN := Lib.hid (fun W h => inum_l b s 1 1 W (by omega) rfl h hok)
  have HF6 := Lib.hid (fun W h => ifail_l b (lRaw s 1) 6 W h)
  obtain ⟨n, hn⟩ : ∃ n, Oct.val (lOut s.1 1) = n := ⟨_, rfl⟩
  have hn1 := val_out_lt s.1 1
  rw [show (256 : Nat) ^ 1 = 256 from rfl, hn] at hn1
  have hw : IntKind.i64.wrap (n : Int) = (n : Int) := by rw [IntKind.wrap_i64]; omega
  have HR : Hid (Hd.hread s = if 8 < n then ([], lFail (lRaw s 1) 6) else Hd.rds n [] (lRaw s 1)) := by rw [← hn]; rfl
  rw [hn] at HN
  have HI := Lib.hid h
  have HBW := Lib.hid h.lt
  have HOK := Lib.hid HK0
  clear h hn HK0
  generalize lRaw s 1 = s1 at *
  by_cases h8 : 8 < n
  · have HRR := Lib.hid (show Hd.hread s = ([], lFail s1 6) by rw [HR.out, if_pos h8])
    go_enter Tryz.func126, Tryz.ntmps126
    go_wp2_with fail
    refine (HN.out _ HI.out).mono ?_
    rintro e w1 ⟨rfl, hi1, hg1⟩
    have HI1 := Lib.hid hi1
    have HG1 := Lib.hid hg1
    clear hi1 hg1
    go_wp2_with fail
    refine (HF6.out _ HI1.out).mono ?_
    rintro e w2 ⟨rfl, hi2, hg2⟩
    have HI2 := Lib.hid hi2
    have HG2 := Lib.hid (HG1.out.trans hg2)
    clear hi2 hg2
    go_wp2_with fail
    go_ret
    exact ⟨none, 0, by rw [HRR.out]; rfl, by rw [HRR.out]; exact Nat.le_refl _, by rw [HRR.out]; exact Prs.nil _ _, by rw [HRR.out]; exact HI2.out, HG2.out, fun a h => by cases h⟩
  · have HRR := Lib.hid (show Hd.hread s = Hd.rds n [] s1 by rw [HR.out, if_neg h8])
    obtain ⟨i1, hi1, hz0, hz1, hz2⟩ := info_parts infoPr
    go_enter Tryz.func126, Tryz.ntmps126
    go_wp2_with fail
    refine (HN.out _ HI.out).mono ?_
    rintro e w1 ⟨rfl, hI1, hg1⟩
    have HI1 := Lib.hid hI1
    have HG1 := Lib.hid hg1
    clear hI1 hg1
    go_wp2_with fail
    go_loopg [4, 14] n (fun g v i wr => RLoop w b (InL b) n s1 g v i wr)
    case atStart => exact ⟨0, [], s1, by omega, rfl, RdL.start HI1.out HG1.out HBW.out, HOK.out, rfl, rfl⟩
    case round =>
      obtain ⟨k, h, s2, hk, rfl, hL, hok2, hrd, hlen⟩ := hrel
      obtain ⟨A, cp, rfl, hcp, hP, -⟩ := hL.row
      have HL := Lib.hid hL
      have HOK2 := Lib.hid hok2
      have HRD := Lib.hid hrd
      clear hL hok2 hrd hP
      by_cases hlt : k < n
      · obtain ⟨g', rfl⟩ : ∃ g', gk = g' + 1 := ⟨gk - 1, by omega⟩
        have HR1 := Lib.hid (fun W h => hread1_any b s2 W h HOK2.out)
        obtain ⟨hx1, hx2⟩ := rd1_len s2
        obtain ⟨x, hx⟩ : ∃ x, (Hd.rd1 s2).1 = x := ⟨_, rfl⟩
        have HX := Lib.hid hx
        rw [hx] at hx1 hx2
        clear hx
        have HCK := Lib.hid (fun W h' => hcheck_any x.key x.kind x.num x.txt h A cp W (by omega) (by omega) (by omega) h')
        have HFL := Lib.hid (fun c W h => ifail_l b (Hd.rd1 s2).2 c W h)
        rw [hlen] at HCK ⊢
        go_wp2_with fail
        refine (HR1.out _ HL.out.ri).mono ?_
        rintro e w2 ⟨rfl, hi2, hg2⟩
        rw [HX.out]
        have hL2 := HL.out.step hi2 hg2
        have HL3 := Lib.hid (hL2.on (rdr_in b) ((Below.refl w2.heap.size w2).alloc (Nat.le_refl _) (.cells #[.string (ofL x.key), .int .u8 (x.kind : Int), .int .i64 x.num, .string (ofL x.txt)] 176)))
        have HBX := Lib.hid (PrAt.new x w2)
        have HSZ := Lib.hid hL2.G.size
        clear hi2 hg2 hL2
        simp only [prV]
        obtain ⟨A3, c3, e3, -, hP3, -⟩ := HL3.out.row
        obtain ⟨rfl, -, rfl⟩ := Value.slice.inj e3
        have HP3 := Lib.hid hP3
        clear e3 hP3
        go_wp2_with fail
        refine (HCK.out _ HP3.out).mono ?_
        rintro e w4 ⟨rfl, b4⟩
        have HL4 := Lib.hid (HL3.out.on (rdr_in b) b4)
        have HB4 := Lib.hid ((PrAt.below HBX.out b4 (by simp)))
        have hbl4 : w2.heap.size < w4.heap.size := by have := b4.size; simp at this; omega
        clear b4
        go_wp2_with fail
        refine (HFL.out _ _ HL4.out.ri).mono ?_
        rintro e w5 ⟨rfl, hi5, hg5⟩
        have hL5 := HL4.out.step hi5 hg5
        have HL5 := Lib.hid hL5
        have hne : w2.heap.size ≠ b := by have := HSZ.out; have := HBW.out; omega
        have hp5 := (prCels HB4.out).grown hg5 (fun e => hne (Option.some.inj e))
        have hb5 := prOf (x := x) hp5
        have HB5 := Lib.hid hb5
        have hbl5 : w2.heap.size < w5.heap.size := Nat.lt_of_lt_of_le hbl4 hg5.size
        clear hi5 hg5 hL5 hp5 hb5 hne hbl4
        obtain ⟨F, hF⟩ : ∃ F, lFail (Hd.rd1 s2).2 (Hd.pcode x h) = F := ⟨_, rfl⟩
        have HF := Lib.hid hF
        have HL5 := Lib.hid (show RdL w b (InL b) F (Value.slice A h.length cp) h w5 by rw [← hF]; exact HL5.out)
        have hok5 : lOk F := by rw [← hF]; exact lOk_fail (Hd.lOk_rd1 HOK2.out) _
        have HOK5 := Lib.hid hok5
        have HER := Lib.hid (ierr_l b F w5 HL5.out.ri)
        clear hF hok5
        obtain ⟨c0, c1, c2, c3⟩ := HB5.out
        simp only [Nat.zero_add] at c0 c1 c2 c3
        by_cases h0 : F.2 = 0
        · have HGO := Lib.hid (show Hd.rds (g' + 1) h s2 = Hd.rds g' (h ++ [x]) F by rw [rds_go (by rw [HX.out, HF.out]; exact h0), HX.out, HF.out])
          have hne0 : (F.2 != 0) = false := by rw [h0]; rfl
          rw [h0] at HER
          have hown5 := HL5.out.own
          rw [hlen] at hown5
          have HOW := Lib.hid hown5
          have hal := (Below.refl w5.heap.size w5).alloc (Nat.le_refl _) (.cells #[.string (ofL x.key), .int .u8 (x.kind : Int), .int .i64 x.num, .string (ofL x.txt)] 176)
          have hws : w.heap.size ≤ w5.heap.size := HL5.out.G.size
          clear h0 hown5 hal
          go_wp2_with fail
          refine HER.out.mono ?_
          rintro e w6 ⟨rfl, rfl⟩
          go_wp2_with (first
            | (at_builtin; refine wpList_append_lies _ rfl _ _ 22 rfl w.heap.size 176 i1 _ 4 48 Tryz.underlying22 hi1 hz0 hz1 hz2 rfl (by omega) (.slice A k cp) k (prs h) (by rfl) (HOW.out.alloc _) ⟨w5.heap.size, 0, none⟩ 1 1 (prL x) (by rfl) (by rfl) (cell_pr_one w5 _ _ _ _ _) (by simp [Value.oneCell', prL]) (by omega) (by unfold maxLen; omega) (by omega) (by simp; omega) _ rfl ?_; intro gg cap w7 hown1 hgrow hat hlt'; have HW := Lib.hid hown1; have HG := Lib.hid hgrow; clear hown1 hgrow hat hlt'))
          have hLN := (HL5.out.on (rdr_in b) ((Below.refl w5.heap.size w5).alloc (Nat.le_refl _) (.cells #[.string (ofL x.key), .int .u8 (x.kind : Int), .int .i64 x.num, .string (ofL x.txt)] 176))).push (rdr_in b) (x := x) (by rw [hlen]; exact HG.out) (by rw [List.length_append, hlen, prs_snoc]; exact HW.out)
          go_roundg g'
          case rel => exact ⟨k + 1, h ++ [x], F, by omega, by go_num, hLN, HOK5.out, by rw [← HGO.out]; exact HRD.out, by rw [List.length_append, hlen]; rfl⟩
          case measure => omega
        · have HBAD := Lib.hid (show Hd.rds (g' + 1) h s2 = ([], F) by rw [rds_bad (by rw [HX.out, HF.out]; exact h0), HX.out, HF.out])
          have hne0 : (F.2 != 0) = true := bne_iff_ne.2 h0
          clear h0
          go_wp2_with fail
          refine HER.out.mono ?_
          rintro e w6 ⟨rfl, rfl⟩
          go_wp2_with fail
          go_ret
          have hE : Hd.hread s = ([], F) := by rw [HRR.out, ← HRD.out, HBAD.out]
          exact ⟨none, 0, by rw [hE]; rfl, by rw [hE]; exact Nat.le_refl _, by rw [hE]; exact Prs.nil _ _, by rw [hE]; exact HL5.out.ri, HL5.out.G, fun a h => by cases h⟩
      · have hkn : gk = 0 := by omega
        subst hkn
        have hE := HRD.out
        rw [Hd.rds] at hE
        have HE := Lib.hid hE
        clear hE
        go_wp2_with fail
        go_ret
        obtain ⟨A', c', e', hc', hP', hA'⟩ := HL.out.row
        obtain ⟨rfl, -, rfl⟩ := Value.slice.inj e'
        exact ⟨A, cp, by rw [HRR.out, ← HE.out]; rfl, by rw [HRR.out, ← HE.out]; exact hc', by rw [HRR.out, ← HE.out]; exact hP', by rw [HRR.out, ← HE.out]; exact HL.out.ri, HL.out.G, hA'⟩
end Go.Proofs.YtnamkglflhkckaaGreatDoor
end
section
namespace Go.Proofs.YtnamkglflhkckaaGreatDoor
open Go.ChangeShapes Go.WideShapes Go.ChangeAt Go.RowKit
theorem OutB.zero {w W : World} (h : Below w.heap.size w W) (n : Nat) (hn : n = W.heap.size) (t : TypeId) : OutB w n [] (W.alloc (.cells #[.string ⟨#[]⟩, .int .i64 0] t)) := by
  subst hn
  exact OutB.new h [] t
theorem PrAt.aside {W : World} {b o : Nat} {x : Hd.Pr} (h : PrAt W b o x) {g : Nat} (hg : g ≠ b) (j : Nat) (v : Value) : PrAt (W.setCell ⟨g, j, none⟩ v) b o x :=
  ⟨(aside_cell hg _ _ _).trans h.c0, (aside_cell hg _ _ _).trans h.c1, (aside_cell hg _ _ _).trans h.c2, (aside_cell hg _ _ _).trans h.c3⟩
theorem Prs.aside {W : World} {A : Option Addr} {l : List Hd.Pr} (h : Prs W A l) {g : Nat} (hg : ∀ a, A = some a → g ≠ a.block) (j : Nat) (v : Value) : Prs (W.setCell ⟨g, j, none⟩ v) A l := ⟨fun i hi => by
  obtain ⟨b, off, rfl, hb, hat⟩ := h.at_ i hi
  exact ⟨b, off, rfl, by simpa [World.setCell] using hb, hat.aside (hg _ rfl) j v⟩⟩
/-- a number of cells of a block written, one behind the other -/
def putAll (q : Nat) : Nat → List Value → World → World
  | _, [], W => W
  | j, v :: vs, W => putAll q (j + 1) vs (W.setCell ⟨q, j, none⟩ v)
theorem Prs.putAll {A : Option Addr} {l : List Hd.Pr} {g : Nat} (hg : ∀ a, A = some a → g ≠ a.block) : ∀ (vs : List Value) (j : Nat) {W : World}, Prs W A l → Prs (putAll g j vs W) A l
  | [], _, _, h => h
  | v :: vs, j, _, h => Prs.putAll hg vs (j + 1) (h.aside hg j v)
theorem BoxC.putAll_aside {w : World} {c g : Nat} {xs : List Value} (hg : g ≠ c) : ∀ (vs : List Value) (j : Nat) {W : World}, BoxC w c xs W → BoxC w c xs (putAll g j vs W)
  | [], _, _, h => h
  | v :: vs, j, _, h => BoxC.putAll_aside hg vs (j + 1) (h.aside hg j v)
theorem rdr_putAll {b g : Nat} {R : LSt → World → Prop} (hR : Rder b R) {s : LSt} (hg : g ≠ b) : ∀ (vs : List Value) (j : Nat) {W : World}, R s W → R s (putAll g j vs W)
  | [], _, _, h => h
  | v :: vs, j, _, h => rdr_putAll hR hg vs (j + 1) (hR.put h hg j v)
theorem grown_putAll {a : World} {row : Option Nat} {g : Nat} (hg : a.heap.size ≤ g) : ∀ (vs : List Value) (j : Nat) {W : World}, a.grownBy W row → a.grownBy (putAll g j vs W) row
  | [], _, _, h => h
  | v :: vs, j, _, h => grown_putAll hg vs (j + 1) (grown_far h hg j v)
theorem below_putAll {w : World} {g : Nat} (hg : w.heap.size ≤ g) : ∀ (vs : List Value) (j : Nat) {W : World}, Below w.heap.size w W → Below w.heap.size w (putAll g j vs W)
  | [], _, _, h => h
  | v :: vs, j, _, h => below_putAll hg vs (j + 1) (h.setCell hg v)
theorem Parts.putAll {T : Option Addr} {l : List Nat} {g : Nat} (hg : ∀ a, T = some a → g ≠ a.block) : ∀ (vs : List Value) (j : Nat) {W : World}, Parts W T l → Parts (putAll g j vs W) T l
  | [], _, _, h => h
  | v :: vs, j, _, h => Parts.putAll hg vs (j + 1) (h.aside hg j v)
/-- all cells of a box written -/
theorem BoxC.fill {w W : World} {c : Nat} {xs : List Value} (h : BoxC w c xs W) : ∀ (vs : List Value), vs.length = xs.length → BoxC w c vs (Go.Proofs.YtnamkglflhkckaaGreatDoor.putAll c 0 vs W) := by
  have gen : ∀ (vs us : List Value) (j : Nat) (W : World) (ts : List Value), ts.length = j → us.length = vs.length → BoxC w c (ts ++ us) W → BoxC w c (ts ++ vs) (Go.Proofs.YtnamkglflhkckaaGreatDoor.putAll c j vs W) := by
    intro vs
    induction vs with
    | nil =>
      intro us j W ts _ hu hb
      rw [List.length_eq_zero_iff.1 hu] at hb
      exact hb
    | cons v vs ih =>
      intro us j W ts ht hu hb
      match us, hu with
      | u :: us, hu =>
        have h1 := hb.put j v (by rw [List.length_append, ht]; simp)
        have e : (ts ++ u :: us).set j v = (ts ++ [v]) ++ us := by
          rw [List.set_append_right _ _ (by omega), ht, Nat.sub_self]
          simp
        rw [e] at h1
        have := ih us (j + 1) (W.setCell ⟨c, j, none⟩ v) (ts ++ [v]) (by simp [ht]) (by simpa using hu) h1
        rw [List.append_assoc] at this
        exact this
  intro vs hv
  exact gen vs xs 0 W [] rfl hv.symm h
/-- what was read of a head is of a length that can be walked -/
theorem rds_low : ∀ (n : Nat) (h : List Hd.Pr) (s : LSt), (∀ p ∈ h, p.key.length ≤ 65536 ∧ p.txt.length ≤ 65536) → ∀ p ∈ (Hd.rds n h s).1, p.key.length ≤ 65536 ∧ p.txt.length ≤ 65536
  | 0, _, _, hf => hf
  | n + 1, h, s, hf => by
    unfold Hd.rds
    split
    · intro p hp; simp at hp
    · refine rds_low n _ _ fun p hp => ?_
      rcases List.mem_append.1 hp with hp | hp
      · exact hf p hp
      · rw [List.mem_singleton] at hp; subst hp; exact rd1_len s
theorem hread_low (s : LSt) : ∀ p ∈ (Hd.hread s).1, p.key.length ≤ 65536 ∧ p.txt.length ≤ 65536 := by
  unfold Hd.hread
  split
  · intro p hp; simp at hp
  · exact rds_low _ _ _ fun p hp => by simp at hp
theorem lite_of {l : List Hd.Pr} (h : ∀ p ∈ l, p.key.length ≤ 65536 ∧ p.txt.length ≤ 65536) : Lite l := fun i hi => by
  have := h (Hd.pr l i) (by rw [Hd.pr_at hi]; exact List.getElem_mem hi)
  omega
end Go.Proofs.YtnamkglflhkckaaGreatDoor
end
section
namespace Go.Proofs.YtnamkglflhkckaaGreatDoor
open Go.ChangeShapes Go.WideShapes Go.ChangeAt Go.RowKit
theorem txt_y {x : List UInt8} (z : x ≠ []) : ((ofL x).toList != []) = true ∧ ¬ (ofL x).toList = [] ∧ (ofL x).toList.isEmpty = false ∧ (x == ([] : List UInt8)) = false := by
  rw [str_list]; exact ⟨bne_iff_ne.2 z, z, List.isEmpty_eq_false_iff.2 z, beq_eq_false_iff_ne.2 z⟩
theorem txt_n {x : List UInt8} (z : x = []) : ((ofL x).toList != []) = false ∧ (ofL x).toList = [] ∧ (ofL x).toList.isEmpty = true ∧ (x == ([] : List UInt8)) = true := by
  rw [str_list, z]; exact ⟨rfl, rfl, rfl, rfl⟩
theorem num_y {n : Nat} (z : n ≠ 0) : ((n : Int) != 0) = true ∧ (n == 0) = false := ⟨code_ne z, beq_eq_false_iff_ne.2 z⟩
theorem num_n {n : Nat} (z : n = 0) : ((n : Int) != 0) = false ∧ (n == 0) = true := ⟨code_eq z, by rw [z]; rfl⟩
/-- the method's box, its row, what its kind tells -/
structure MkC (w : World) (x : Me) (A : Option Addr) (c g : Nat) (hs : List Value) (W : World) : Prop where
  p : BoxC w w.heap.size (meL x A c) W
  h : BoxC w g hs W
  ra : Prs W A x.head
  B : Below w.heap.size w W
theorem MkC.on {w : World} {x : Me} {A : Option Addr} {c g : Nat} {hs : List Value} {W W' : World} (h : MkC w x A c g hs W) (hb : Below W.heap.size W W') : MkC w x A c g hs W' := ⟨h.p.on hb, h.h.on hb, h.ra.on hb, bthen h.B hb (Nat.le_refl _)⟩
theorem MkC.start {w W : World} {x : Me} {A : Option Addr} {c : Nat} (hp : Prs w A x.head) (hb : Below (w.alloc (.cells #[.int .u8 (x.ch.toNat : Int), .int .u8 (x.kd.toNat : Int), .string (ofL x.name), .string (ofL x.other), .string (ofL x.key), .slice A x.head.length c, .string (ofL x.body), .int .u64 (x.n : Int), .int .u64 (x.m : Int), .bool x.yes] 29)).heap.size (w.alloc (.cells #[.int .u8 (x.ch.toNat : Int), .int .u8 (x.kd.toNat : Int), .string (ofL x.name), .string (ofL x.other), .string (ofL x.key), .slice A x.head.length c, .string (ofL x.body), .int .u64 (x.n : Int), .int .u64 (x.m : Int), .bool x.yes] 29)) W) (hs : Array Value) (t : TypeId) : MkC w x A c W.heap.size hs.toList (W.alloc (.cells hs t)) := by
  have a0 : Below w.heap.size w (w.alloc (.cells #[.int .u8 (x.ch.toNat : Int), .int .u8 (x.kd.toNat : Int), .string (ofL x.name), .string (ofL x.other), .string (ofL x.key), .slice A x.head.length c, .string (ofL x.body), .int .u64 (x.n : Int), .int .u64 (x.m : Int), .bool x.yes] 29)) := (Below.refl _ _).alloc (Nat.le_refl _) _
  have a2 : Below W.heap.size W (W.alloc (.cells hs t)) := (Below.refl _ _).alloc (Nat.le_refl _) _
  have b1 := bthen a0 hb (Nat.le_refl _)
  exact ⟨((BoxC.new (Nat.le_refl _) #[.int .u8 (x.ch.toNat : Int), .int .u8 (x.kd.toNat : Int), .string (ofL x.name), .string (ofL x.other), .string (ofL x.key), .slice A x.head.length c, .string (ofL x.body), .int .u64 (x.n : Int), .int .u64 (x.m : Int), .bool x.yes] 29).on hb).on a2, BoxC.new b1.size hs t, ((hp.on a0).on hb).on a2, bthen b1 a2 (Nat.le_refl _)⟩
end Go.Proofs.YtnamkglflhkckaaGreatDoor
end
section
namespace Go.Proofs.YtnamkglflhkckaaGreatDoor
open Go.ChangeShapes Go.WideShapes Go.ChangeAt Go.RowKit
set_option maxRecDepth 100000 in
set_option maxHeartbeats 32000000 in
theorem r11Check_n (x : Me) (A : Option Addr) (c : Nat) (w : World) (h : MeOk w x A c) (hk : x.kd.toNat = 0 ∨ x.kd.toNat = 12 ∨ x.kd.toNat = 14) : Calls Tryz.prog 11 #[meV x A c] w fun e w' => e = .returned (.int .i64 (x.code : Int)) ∧ Below w.heap.size w w' := by
  have h20 : ¬ 20 < x.kd.toNat := by omega
  have HST := Lib.hid (fun W (hb : Below (w.alloc (.cells #[.int .u8 (x.ch.toNat : Int), .int .u8 (x.kd.toNat : Int), .string (ofL x.name), .string (ofL x.other), .string (ofL x.key), .slice A x.head.length c, .string (ofL x.body), .int .u64 (x.n : Int), .int .u64 (x.m : Int), .bool x.yes] 29)).heap.size (w.alloc (.cells #[.int .u8 (x.ch.toNat : Int), .int .u8 (x.kd.toNat : Int), .string (ofL x.name), .string (ofL x.other), .string (ofL x.key), .slice A x.head.length c, .string (ofL x.body), .int .u64 (x.n : Int), .int .u64 (x.m : Int), .bool x.yes] 29)) W) => MkC.start (w := w) (W := W) (x := x) (A := A) (c := c) h.row hb #[.bool false, .bool false, .bool false, .bool false, .bool false, .bool false, .bool false, .bool true, .bool false, .bool false] 108)
  have HOF := Lib.hid (fun W => r11Of_any x.kd.toNat (by omega) W)
  rw [show Me.has x.kd.toNat = ⟨false, false, false, false, false, false, false, true, false, false⟩ by rcases hk with hk | hk | hk <;> (rw [hk]; rfl)] at HOF
  have HCO : Hid (x.code = if x.more then 4 else Me.firstc x.pcode (Me.tells x.kd.toNat)) := Lib.hid (by unfold Me.code; rw [if_neg h20])
  have HMO : Hid (x.more = ((!false && !(x.name == [])) || ((!false && !(x.other == [])) || ((!false && !(x.key == [])) || ((!false && !(x.head.length == 0)) || ((!false && !(x.body == [])) || ((!true && !(x.n == 0)) || ((!false && !(x.m == 0)) || ((!false && !(!x.yes)) || false))))))))) := Lib.hid (by unfold Me.more; rcases hk with hk | hk | hk <;> (rw [hk]; rfl))
  have HFC : Hid (Me.firstc x.pcode (Me.tells x.kd.toNat) = 0) := Lib.hid (by
    rw [show Me.tells x.kd.toNat = [5] by rcases hk with hk | hk | hk <;> (rw [hk]; rfl)]
    have p5 : x.pcode 5 = 0 := rfl
    simp only [Me.firstc, p5, ne_eq, not_true_eq_false, if_false])
  have HNB := Lib.hid (show x.more = false → (ofL x.body).size = 0 from fun g => by
    have hb := Me.more_no g (p := 4) (by decide) (by rcases hk with hk | hk | hk <;> (rw [hk]; rfl))
    have hb2 : (x.body == []) = true := hb
    rw [ofL_size, beq_iff_eq.1 hb2]; rfl)
  have hz : (ofL x.body).size = x.body.length := ofL_size x.body
  have hk2 : decide ((20 : Int) < (x.kd.toNat : Int)) = false := decide_eq_false (by omega)
  have hB0 : Below w.heap.size w (w.alloc (.cells #[.int .u8 (x.ch.toNat : Int), .int .u8 (x.kd.toNat : Int), .string (ofL x.name), .string (ofL x.other), .string (ofL x.key), .slice A x.head.length c, .string (ofL x.body), .int .u64 (x.n : Int), .int .u64 (x.m : Int), .bool x.yes] 29)) := (Below.refl _ _).alloc (Nat.le_refl _) _
  have HB0 := Lib.hid hB0
  clear hB0
  clear h hk h20
  obtain ⟨C, hC⟩ : ∃ C, C = x.code := ⟨_, rfl⟩
  have HC := Lib.hid hC
  rw [← hC]
  clear hC
  rw [HCO.out, HFC.out] at HC
  clear HCO HFC
  generalize x.more = BB at *
  simp only [meV]
  simp only [hasV] at HOF
  obtain ⟨xch, xkd, xname, xother, xkey, xhead, xbody, xn, xm, xyes⟩ := x
  dsimp only at *
  generalize xkd.toNat = kn at *
  go_enter Tryz.func11, Tryz.ntmps11
  go_wp2_with fail
  refine (HOF.out _).mono ?_
  rintro e w1 ⟨rfl, b1⟩
  have HD := Lib.hid (HST.out w1 b1)
  clear b1 HST HOF
  have d := HD.out.p.cs
  clear d
  go_upto_region 4 with fail
  simp only [List.append_eq, List.cons_append, List.nil_append]
  generalize w1.alloc (.cells #[.bool false, .bool false, .bool false, .bool false, .bool false, .bool false, .bool false, .bool true, .bool false, .bool false] 108) = w2 at *
  generalize w1.heap.size = g at *
  have c2 := HD.out.p.cs 2 _ rfl
  have c3 := HD.out.p.cs 3 _ rfl
  have c4 := HD.out.p.cs 4 _ rfl
  have c5 := HD.out.p.cs 5 _ rfl
  have c6 := HD.out.p.cs 6 _ rfl
  have c7 := HD.out.p.cs 7 _ rfl
  have c8 := HD.out.p.cs 8 _ rfl
  have c9 := HD.out.p.cs 9 _ rfl
  have cl := HD.out.p.lt
  have h0 := HD.out.h.cs 0 _ rfl
  have h1 := HD.out.h.cs 1 _ rfl
  have h2 := HD.out.h.cs 2 _ rfl
  have h3 := HD.out.h.cs 3 _ rfl
  have h4 := HD.out.h.cs 4 _ rfl
  have h5 := HD.out.h.cs 5 _ rfl
  have h6 := HD.out.h.cs 6 _ rfl
  have h7 := HD.out.h.cs 7 _ rfl
  have h8 := HD.out.h.cs 8 _ rfl
  have h9 := HD.out.h.cs 9 _ rfl
  have hl := HD.out.h.lt
  go_cut [88] (fun s88 wx => s88 = .bool BB ∧ wx = w2)
  case first =>
    clear HD
    (try clear HNN)
    (try clear HNO)
    (try clear HNK)
    (try clear HNH)
    (try clear HOC)
    (try clear HKC)
    clear hz HB0 HNB
    by_cases z_name : xname = []
    · skip
      obtain ⟨n_name, p_name, q_name, e_name⟩ := txt_n z_name
      by_cases z_other : xother = []
      · skip
        obtain ⟨n_other, p_other, q_other, e_other⟩ := txt_n z_other
        by_cases z_key : xkey = []
        · skip
          obtain ⟨n_key, p_key, q_key, e_key⟩ := txt_n z_key
          by_cases z_head : xhead.length = 0
          · skip
            have n_head : decide ((0 : Int) < (xhead.length : Int)) = false := decide_eq_false (by omega)
            have m_head : decide (0 < xhead.length) = false := decide_eq_false (by omega)
            have e_head : (xhead.length == 0) = true := by rw [z_head]; rfl
            by_cases z_body : xbody = []
            · skip
              obtain ⟨n_body, p_body, q_body, e_body⟩ := txt_n z_body
              by_cases z_n : xn = 0
              · skip
                obtain ⟨n_n, e_n⟩ := num_n z_n
                by_cases z_m : xm = 0
                · skip
                  obtain ⟨n_m, e_m⟩ := num_n z_m
                  cases xyes with
                  | false =>
                    clear z_name z_other z_key z_head z_body z_n z_m
                    have hb : BB = false := by rw [HMO.out, e_name, e_other, e_key, e_head, e_body, e_n, e_m]; rfl
                    have HBB := Lib.hid hb
                    clear hb HMO
                    go_wp2_with fail
                    go_meet
                    exact ⟨by rw [HBB.out], rfl⟩
                  | true =>
                    clear z_name z_other z_key z_head z_body z_n z_m
                    have hb : BB = true := by rw [HMO.out, e_name, e_other, e_key, e_head, e_body, e_n, e_m]; rfl
                    have HBB := Lib.hid hb
                    clear hb HMO
                    go_wp2_with fail
                    go_meet
                    exact ⟨by rw [HBB.out], rfl⟩
                · skip
                  obtain ⟨n_m, e_m⟩ := num_y z_m
                  clear z_name z_other z_key z_head z_body z_n z_m
                  have hb : BB = true := by rw [HMO.out, e_name, e_other, e_key, e_head, e_body, e_n, e_m]; rfl
                  have HBB := Lib.hid hb
                  clear hb HMO
                  go_wp2_with fail
                  go_meet
                  exact ⟨by rw [HBB.out], rfl⟩
              · skip
                obtain ⟨n_n, e_n⟩ := num_y z_n
                by_cases z_m : xm = 0
                · skip
                  obtain ⟨n_m, e_m⟩ := num_n z_m
                  cases xyes with
                  | false =>
                    clear z_name z_other z_key z_head z_body z_n z_m
                    have hb : BB = false := by rw [HMO.out, e_name, e_other, e_key, e_head, e_body, e_n, e_m]; rfl
                    have HBB := Lib.hid hb
                    clear hb HMO
                    go_wp2_with fail
                    go_meet
                    exact ⟨by rw [HBB.out], rfl⟩
                  | true =>
                    clear z_name z_other z_key z_head z_body z_n z_m
                    have hb : BB = true := by rw [HMO.out, e_name, e_other, e_key, e_head, e_body, e_n, e_m]; rfl
                    have HBB := Lib.hid hb
                    clear hb HMO
                    go_wp2_with fail
                    go_meet
                    exact ⟨by rw [HBB.out], rfl⟩
                · skip
                  obtain ⟨n_m, e_m⟩ := num_y z_m
                  clear z_name z_other z_key z_head z_body z_n z_m
                  have hb : BB = true := by rw [HMO.out, e_name, e_other, e_key, e_head, e_body, e_n, e_m]; rfl
                  have HBB := Lib.hid hb
                  clear hb HMO
                  go_wp2_with fail
                  go_meet
                  exact ⟨by rw [HBB.out], rfl⟩
            · skip
              obtain ⟨n_body, p_body, q_body, e_body⟩ := txt_y z_body
              clear z_name z_other z_key z_head z_body
              have hb : BB = true := by rw [HMO.out, e_name, e_other, e_key, e_head, e_body]; rfl
              have HBB := Lib.hid hb
              clear hb HMO
              go_wp2_with fail
              go_meet
              exact ⟨by rw [HBB.out], rfl⟩
          · skip
            have n_head : decide ((0 : Int) < (xhead.length : Int)) = true := decide_eq_true (by omega)
            have m_head : decide (0 < xhead.length) = true := decide_eq_true (by omega)
            have e_head : (xhead.length == 0) = false := beq_eq_false_iff_ne.2 z_head
            clear z_name z_other z_key z_head
            have hb : BB = true := by rw [HMO.out, e_name, e_other, e_key, e_head]; rfl
            have HBB := Lib.hid hb
            clear hb HMO
            go_wp2_with fail
            go_meet
            exact ⟨by rw [HBB.out], rfl⟩
        · skip
          obtain ⟨n_key, p_key, q_key, e_key⟩ := txt_y z_key
          clear z_name z_other z_key
          have hb : BB = true := by rw [HMO.out, e_name, e_other, e_key]; rfl
          have HBB := Lib.hid hb
          clear hb HMO
          go_wp2_with fail
          go_meet
          exact ⟨by rw [HBB.out], rfl⟩
      · skip
        obtain ⟨n_other, p_other, q_other, e_other⟩ := txt_y z_other
        clear z_name z_other
        have hb : BB = true := by rw [HMO.out, e_name, e_other]; rfl
        have HBB := Lib.hid hb
        clear hb HMO
        go_wp2_with fail
        go_meet
        exact ⟨by rw [HBB.out], rfl⟩
    · skip
      obtain ⟨n_name, p_name, q_name, e_name⟩ := txt_y z_name
      clear z_name
      have hb : BB = true := by rw [HMO.out, e_name]; rfl
      have HBB := Lib.hid hb
      clear hb HMO
      go_wp2_with fail
      go_meet
      exact ⟨by rw [HBB.out], rfl⟩
  case rest =>
    obtain ⟨rfl, rfl⟩ := hcut
    clear HMO
    cases hBB : BB with
    | true =>
      rw [hBB] at HC
      clear hBB HNB
      go_wp2_with fail
      go_ret
      exact ⟨ret_nat (by rw [HC.out]; rfl), HD.out.B⟩
    | false =>
      rw [hBB] at HNB HC
      have HNB := Lib.hid (HNB.out rfl)
      clear hBB
      have HC := Lib.hid (HC.out.trans (if_neg (by decide)))
      have h20 : ¬ 256 < (ofL xbody).size := by have := HNB.out; omega
      have g20 : decide ((256 : Int) < ((ofL xbody).size : Int)) = false := decide_eq_false (by have := HNB.out; omega)
      clear hz
      go_wp2_with fail
      go_ret
      exact ⟨ret_nat (by rw [HC.out]; simp []), HD.out.B⟩
end Go.Proofs.YtnamkglflhkckaaGreatDoor
end
