/-
  A ROW OF ANY ELEMENTS, appended to one of one's own, as a run. ADD OF THE DOCUMENT'S DRAFT: walked.
-/
import Derived.Test.YtecjngodfciokaaGreatDoorDl04
import Derived.Test.YtecjngodfciokaaGreatDoorDl40
import Derived.Test.YtecjngodfciokaaGreatDoorDl43
import Derived.Deep.Upon
import Derived.Deep.AppendLies
section
namespace Go.Proofs.YtecjngodfciokaaGreatDoor
open Go.ChangeShapes Go.WideShapes Go.ChangeAt Go.RowKit
theorem appAny_run {P : Program} {W : World} (t E : TypeId) (i : TypeInfo) (z : Value) (sz by_ : Nat) (ht : P.underlying t = some (.slice E)) (hi : P.info? E = some i) (hz : i.zero = some z) (hsize : i.size = sz) (hby : i.bytes = by_) (hzs : z.cells.size = sz) (h0 : 0 < sz) (hsmall : by_ ≤ 1000)
    {B m : Nat} {v : Value} {xs : List Value} (hown : W.ownsRow B E sz v m xs) {A : Option Addr} {n c : Nat} {cs : List Value} (hx : Rws W A cs) (hlen : cs.length = n * sz) (hone : ∀ u ∈ cs, u.oneCell' = true) (hn : m + n ≤ 100000) (hB : B ≤ W.heap.size) :
    ∃ v' w', (Builtin.append_ #[t, t] t #[v, .slice A n c]).run P W = .ok v' w' ∧ w'.ownsRow B E sz v' (m + n) (xs ++ cs) ∧ W.grownBy w' v.ownBlock ∧ ∀ g, v'.ownBlock = some g → v.ownBlock = some g ∨ W.heap.size ≤ g := by
  rcases Nat.eq_zero_or_pos n with hn0 | hn0
  · subst hn0
    rw [Nat.zero_mul] at hlen
    have e := List.eq_nil_of_length_eq_zero hlen
    subst e
    obtain ⟨A', c', e1, hc', -, -⟩ := Rw.own_cells hown
    subst e1
    have hsrc : Src P i.size t (.slice A 0 c) 0 [] W := by
      cases A with
      | none => exact Src.ofNil W ht c
      | some a => exact Src.ofSlice W ht a 0 c [] (by simp) (fun j u h => by simp at h) (fun u h => by simp at h)
    refine ⟨.slice A' m c', W, run_append_nothing W t t t E i ht hi A' m c' hc' (.slice A 0 c) hsrc, ?_, World.grownBy.refl _ _, fun g hg => Or.inl hg⟩
    rw [List.append_nil]
    exact hown
  · have hp : 0 < cs.length := by rw [hlen]; exact Nat.mul_pos hn0 h0
    obtain ⟨b, off, rfl, hb, hc⟩ := hx.lies hp
    have hb1 : (m + n) * by_ ≤ 100000 * 1000 := Nat.mul_le_mul hn hsmall
    obtain ⟨g, cap, w', hr, h2, h3, h4, h5⟩ := run_append_lies (P := P) W t t B E i z sz by_ ht hi hz hsize hby hzs h0 v m xs hown ⟨b, off, none⟩ n c cs hlen (fun j u hu => by rw [rws_add]; exact hc j u hu) hone hn0 (by unfold maxLen; omega) (by omega) hB W.heap.size rfl
    refine ⟨_, w', hr, h2, h3, fun q hq => ?_⟩
    have e : q = g := by simpa [Value.ownBlock] using hq.symm
    subst e
    exact h4.imp_right fun e => by omega
end Go.Proofs.YtecjngodfciokaaGreatDoor
end
section
namespace Go.Proofs.YtecjngodfciokaaGreatDoor
open Go.ChangeShapes Go.WideShapes Go.ChangeAt Go.RowKit
theorem chk_own {l : List De} {x : De} (h : Dr.chk l x = 0) : Dr.own x = x ∧ (x.kd = 6 ∨ x.kd = 8) := by
  unfold Dr.chk at h
  split at h
  · omega
  · rename_i hk
    split at h
    · omega
    · rename_i hc
      have hc : x.code = 0 := by omega
      have hk : x.kd = 6 ∨ x.kd = 8 := by omega
      refine ⟨Dr.own_told hk ?_, hk⟩
      unfold De.code at hc
      rw [if_neg (by omega)] at hc
      by_cases e : x = x.told
      · exact e
      · rw [if_pos e] at hc
        omega
theorem addN_bad {q : List De} {x : De} {ys : List De} {N : Nat} (h : Dr.chk q x = N) (h0 : N ≠ 0) : Dr.addN q (x :: ys) = N := by
  show (if Dr.chk q x ≠ 0 then Dr.chk q x else _) = N
  rw [h, if_pos h0]
theorem addN_good {q : List De} {x : De} {ys : List De} (h : Dr.chk q x = 0) : Dr.addN q (x :: ys) = Dr.addN (q ++ [Dr.own x]) ys := by
  show (if Dr.chk q x ≠ 0 then Dr.chk q x else _) = _
  rw [h, if_neg (by decide)]
def RAddPost (l ys : List Dp) (A : Option Addr) (c : Nat) (w : World) (e : Ending) (w' : World) : Prop :=
  (Dr.addN (l.map Dp.x) (ys.map Dp.x) ≠ 0 ∧ e = .returned (.tuple #[.slice A l.length c, .int .i64 (Dr.addN (l.map Dp.x) (ys.map Dp.x) : Int)]) ∧ Below w.heap.size w w') ∨
  (Dr.addN (l.map Dp.x) (ys.map Dp.x) = 0 ∧ ∃ A' c', e = .returned (.tuple #[.slice A' (l.length + ys.length) c', .int .i64 0]) ∧ l.length + ys.length ≤ c' ∧ l.length + ys.length ≤ 16 ∧ Dps w' A' (l ++ ys) ∧ (∀ p ∈ ys, Dr.own p.x = p.x) ∧ (∀ a, A' = some a → w.heap.size ≤ a.block) ∧ Below w.heap.size w w')
def RAddSt (l ys : List Dp) (w : World) (n g : Nat) (v i : Value) (wr : World) : Prop :=
  ∃ k : Nat, k + g = n ∧ i = .int .i64 (k : Int) ∧ wr.ownsRow w.heap.size 49 29 v (l.length + k) ((l ++ ys.take k).flatMap dpL) ∧ l.length + k ≤ 16 ∧ Dr.addN (l.map Dp.x) (ys.map Dp.x) = Dr.addN ((l ++ ys.take k).map Dp.x) ((ys.drop k).map Dp.x) ∧ (∀ p ∈ ys.take k, Dr.own p.x = p.x) ∧ Below w.heap.size w wr
set_option maxRecDepth 100000 in
set_option maxHeartbeats 32000000 in
theorem r26Add_any (l ys : List Dp) (A : Option Addr) (c : Nat) (Y : Option Addr) (yc : Nat) (w : World) (hD : Dps w A l) (hY : Dps w Y ys) (hl : l.length ≤ 16) (hys : ys.length ≤ 100000) :
    Calls Tryz.prog 9 #[.slice A l.length c, .slice Y ys.length yc] w (RAddPost l ys A c w) := by
  have HD := Lib.hid hD
  have HY := Lib.hid hY
  have HL16 := Lib.hid hl
  obtain ⟨iD, hiD, hzD, hsD, hbD⟩ := info_parts infoRDe
  obtain ⟨v0, w0, hr0, ho0, hg0, -⟩ := appAny_run (P := Tryz.prog) (W := w) 28 49 iD _ 29 344 Tryz.underlying28 hiD hzD hsD hbD (by rfl) (by decide) (by decide) (World.ownsRow_nil w w.heap.size 49 29) (A := A) (n := l.length) (c := c) hD.row (dps_len _) (dps_one l) (by omega) (Nat.le_refl _)
  have hb0 := (Below.refl w.heap.size w).grown hg0 (Nat.le_refl _) (fun k hk => by cases hk)
  rw [Nat.zero_add, List.nil_append] at ho0
  have HS0 := Lib.hid (show RAddSt l ys w ys.length ys.length v0 (.int .i64 ((0 : Nat) : Int)) w0 from ⟨0, by omega, rfl, by simpa using ho0, by omega, by simp, (fun p hp => by simp at hp), hb0⟩)
  obtain ⟨A8, c8, rfl, -, -, -, -⟩ := Rws.of_own ho0
  have HR0 := Lib.hid hr0
  obtain ⟨n, hn⟩ : ∃ n, n = ys.length := ⟨_, rfl⟩
  rw [← hn]
  rw [← hn] at HS0
  have HN := Lib.hid hn
  have hnl : n ≤ 100000 := by omega
  clear hn hys hD hY hl hr0 ho0 hg0 hb0 hiD hzD hsD hbD
  go_enter Tryz.func9, Tryz.ntmps9
  go_wp2_with (at_builtin; refine wpList_append_run (by rfl) _ _ 28 (by rfl) _ _ (by rfl) (by rfl) HR0.out ?_)
  go_loopg [6, 9, 15] n (fun g v _ i wr => RAddSt l ys w n g v i wr)
  case atStart => exact HS0.out
  case round =>
    obtain ⟨k, hk, rfl, hrow, hk16, hadd, hoy, hB⟩ := hrel
    obtain ⟨A9, c9, rfl, hc9, hn9, hr9, hb9⟩ := Rws.of_own hrow
    have HC9 := Lib.hid hc9
    have HR9 := Lib.hid hr9
    have HB99 := Lib.hid hb9
    have HK := Lib.hid hk
    have HROW := Lib.hid hrow
    have HK16 := Lib.hid hk16
    have HADD := Lib.hid hadd
    have HOY := Lib.hid hoy
    have HB := Lib.hid hB
    clear hc9 hr9 hb9 hn9 hk hrow hk16 hadd hoy hB HS0 HR0
    by_cases hlt : k < n
    · have hki : (k : Int) < (n : Int) := by omega
      have hkl : k < ys.length := by have := HN.out; omega
      obtain ⟨b, off, rfl, hbl, hat, _⟩ := dps_elt (HY.out.on HB.out) hkl
      have hok : DeOk w (ys.getD k Dp0).x (ys.getD k Dp0).A (ys.getD k Dp0).c (ys.getD k Dp0).B (ys.getD k Dp0).d := by
        obtain ⟨_, _, _, _, _, h⟩ := dps_elt HY.out hkl
        exact h
      have HDR : Hid ((ys.drop k).map Dp.x = (ys.getD k Dp0).x :: (ys.drop (k + 1)).map Dp.x) := by
        unfold Hid
        rw [← List.getElem_cons_drop hkl, List.map_cons, dp_get hkl]
      have HTKD : Hid (ys.take (k + 1) = ys.take k ++ [ys.getD k Dp0]) := by
        unfold Hid
        rw [← List.take_append_getElem hkl, dp_get hkl]
      have HTK : Hid ((ys.take (k + 1)).map Dp.x = (ys.take k).map Dp.x ++ [(ys.getD k Dp0).x]) := by
        unfold Hid
        rw [HTKD.out, List.map_append, List.map_singleton]
      have HLEN : Hid (((l ++ ys.take k).map Dp.x).length = l.length + k) := by
        unfold Hid
        rw [List.length_map, List.length_append, List.length_take]
        omega
      have HQD : Hid (Dps wr A9 (l ++ ys.take k)) := ⟨HR9.out, fun p hp => by
        rcases List.mem_append.1 hp with hp | hp
        · exact (HD.out.on HB.out).ok p hp
        · exact (HY.out.on HB.out).ok p (List.mem_of_mem_take hp)⟩
      have HQL : Hid ((l ++ ys.take k).length = l.length + k) := by
        unfold Hid
        rw [List.length_append, List.length_take]
        omega
      generalize ys.getD k Dp0 = p at *
      obtain ⟨x, XA, xc, XB, xd⟩ := p
      dsimp only at hok HDR HTK HTKD
      have HAT := Lib.hid (show wr.rangeAt b (off + k * 29) (deL x XA xc XB xd) from hat)
      have HMA := Lib.hid hok
      clear hat hok
      have HCK := Lib.hid (fun W (h : DeOk W x XA xc XB xd) => r22Check_any x XA xc XB xd W h)
      have HSE := Lib.hid (fun W (h : Dps W A9 (l ++ ys.take k)) => r26Settles_any x.name x.id (l ++ ys.take k) A9 c9 W (by rw [HQL.out]; have := HK16.out; omega) h)
      rw [HQL.out, setl_eq] at HSE
      have HE5 := Lib.hid (BoxC.new (w := wr) (W := wr) (Nat.le_refl _) (deL x XA xc XB xd).toArray 49)
      have HBX5 := Lib.hid (rtOne wr (.cells (deL x XA xc XB xd).toArray 49))
      go_upto_region 6 with (first
        | (refine wpList_load_mid (by rfl) 49 _ (by rfl) b (off + k * 29) (by rfl) (deL x XA xc XB xd) _ HAT.out Tryz.underlying49 rfl (by rw [rde_size, deL_len]) ?_)
        | (refine wpList_store_new2 (by rfl) 49 _ _ (by rfl) _ (deL x XA xc XB xd).toArray (by rfl) (by rfl) (by rw [rde_size]; rfl) (by rfl) (de_all _ _ _ _ _) ?_))
      generalize wr.alloc (.cells (deL x XA xc XB xd).toArray 49) = W5 at *
      have e0 : W5.cell? ⟨wr.heap.size, 0, none⟩ = some (.int .u8 (x.kd : Int)) := HE5.out.cs 0 _ rfl
      have el := HE5.out.lt
      by_cases h6 : x.kd = 6 ∨ x.kd = 8
      · rcases h6 with h6 | h6
        · have hn6 : ((x.kd : Int) != 6) = false := by rw [h6]; rfl
          have hn8 : ((x.kd : Int) != 8) = true := by rw [h6]; rfl
          have he8 : ((x.kd : Int) == 8) = false := by rw [h6]; rfl
          have HKD := Lib.hid h6
          clear h6
          go_wp2_with (refine wpList_load_mid (by rfl) 49 _ (by rfl) wr.heap.size 0 (by rfl) (deL x XA xc XB xd) _ HE5.out.cs.range Tryz.underlying49 rfl (by rw [rde_size, deL_len]) ?_)
          refine (HCK.out _ ((HMA.out.on HB.out).on HBX5.out)).mono ?_
          rintro e w6 ⟨rfl, b6⟩
          have HE6 := Lib.hid (HE5.out.on b6)
          have HBX6 := Lib.hid (bthen HBX5.out b6 (Nat.le_refl _))
          have HB6 := Lib.hid (bthen HB.out HBX6.out (Nat.le_refl _))
          clear b6 e0 el
          have e0 : w6.cell? ⟨wr.heap.size, 0, none⟩ = some (.int .u8 (x.kd : Int)) := HE6.out.cs 0 _ rfl
          have e15 : w6.cell? ⟨wr.heap.size, 15, none⟩ = some (.string (ofL x.name)) := HE6.out.cs 15 _ rfl
          have e16 : w6.cell? ⟨wr.heap.size, 16, none⟩ = some (.int .u64 (x.id : Int)) := HE6.out.cs 16 _ rfl
          have el := HE6.out.lt
          by_cases hc : x.code = 0
          · have hc0 : ((x.code : Int) != 0) = false := by rw [hc]; rfl
            have HC0 := Lib.hid hc
            clear hc
            have HE7 := HE6
            have HBX7 := HBX6
            have HB7 := HB6
            have HCHK : Hid (∀ N, (if 16 ≤ ((l ++ ys.take k).map Dp.x).length then 12 else 0) = N → Dr.chk ((l ++ ys.take k).map Dp.x) x = N) := fun N h => by
              unfold Dr.chk
              rw [if_neg (by have := HKD.out; omega), if_neg (by rw [HC0.out]; simp), if_neg (by have := HKD.out; omega)]
              exact h
            clear HSE HCK
            generalize hw7 : w6 = w7 at *
            clear hw7
            by_cases h16 : 16 ≤ l.length + k
            · have hd : decide (((l.length + k : Nat) : Int) ≥ 16) = true := decide_eq_true (by omega)
              have hdn : decide (16 ≤ l.length + k) = true := decide_eq_true h16
              have hch : Dr.chk ((l ++ ys.take k).map Dp.x) x = 12 := HCHK.out _ (if_pos (by rw [HLEN.out]; exact h16))
              have HF : Hid (Dr.addN (l.map Dp.x) (ys.map Dp.x) = 12) := by
                unfold Hid
                rw [HADD.out, HDR.out]
                exact addN_bad hch (by decide)
              clear hch
              generalize l.length + k = nk at *
              go_wp2_with fail
              refine bodyPost_ret (v := .tuple #[.slice A l.length c, .int .i64 12]) (by simp [results, Tryz.results9, go_sem]) rfl ?_
              exact Or.inl ⟨by rw [HF.out]; decide, by rw [HF.out]; rfl, HB7.out⟩
            · have hd : decide (((l.length + k : Nat) : Int) ≥ 16) = false := decide_eq_false (by omega)
              have hdn : decide (16 ≤ l.length + k) = false := decide_eq_false h16
              have hch : Dr.chk ((l ++ ys.take k).map Dp.x) x = 0 := HCHK.out _ (if_neg (by rw [HLEN.out]; exact h16))
              have HOWNX := Lib.hid (chk_own hch).1
              have HADN : Hid (Dr.addN (l.map Dp.x) (ys.map Dp.x) = Dr.addN ((l ++ ys.take (k + 1)).map Dp.x) ((ys.drop (k + 1)).map Dp.x)) := by
                unfold Hid
                have e2 : (l ++ ys.take (k + 1)).map Dp.x = (l ++ ys.take k).map Dp.x ++ [x] := by rw [List.map_append, HTK.out, ← List.append_assoc, ← List.map_append]
                rw [HADD.out, HDR.out, e2]
                have h1 := addN_good (ys := (ys.drop (k + 1)).map Dp.x) hch
                rw [HOWNX.out] at h1
                exact h1
              clear hch
              obtain ⟨iD, hiD, hzD, hsD, hbD⟩ := info_parts infoRDe
              have HBXA := Lib.hid (bthen HBX7.out (rtOne w7 (.cells (deL x XA xc XB xd).toArray 49)) (Nat.le_refl _))
              have HOWN := Lib.hid (ownRow_on HROW.out HBXA.out)
              have HNW := Lib.hid (BoxC.new (w := wr) (W := w7) HBX7.out.size (deL x XA xc XB xd).toArray 49)
              have HSZA := Lib.hid (show (w7.alloc (.cells (deL x XA xc XB xd).toArray 49)).heap.size = w7.heap.size + 1 by simp)
              have HNK := Lib.hid (show l.length + k < 16 by omega)
              generalize hnk : l.length + k = nk at *
              have hnk16 : nk < 16 := HNK.out
              go_upto_region 16 with (first
                | (refine wpList_load_mid (by rfl) 49 _ (by rfl) wr.heap.size 0 (by rfl) (deL x XA xc XB xd) _ HE7.out.cs.range Tryz.underlying49 rfl (by rw [rde_size, deL_len]) ?_)
                | (refine wpList_plain (by rfl) (fun K hK => wp_buildRDe _ (by rfl) x XA xc XB xd (by kernel_rfl) (hK _ _ ?_)))
                | (at_builtin; refine wpList_append_lies _ (by rfl) _ _ 28 (by rfl) w.heap.size 49 iD _ 29 344 Tryz.underlying28 hiD hzD hsD hbD (by rfl) (by decide) (.slice A9 nk c9) nk ((l ++ ys.take k).flatMap dpL) (by rfl) HOWN.out ⟨w7.heap.size, 0, none⟩ 1 1 (deL x XA xc XB xd) (by rfl) rfl (fun j u hj => by rw [rws_add, Nat.zero_add]; exact HNW.out.cs j u hj) (de_one _ _ _ _ _) (by omega) (by unfold maxLen; omega) (by omega) (Nat.le_trans HB.out.size HBXA.out.size) (w7.heap.size + 1) HSZA.out ?_; intro gg cap w2 hown hgrow hat hlt'; have HW := Lib.hid hown; have HG := Lib.hid hgrow; clear hown hgrow hat hlt'))
              have HR2 : Hid (w2.ownsRow w.heap.size 49 29 (.slice (some ⟨gg, 0, none⟩) (nk + 1) cap) (l.length + (k + 1)) ((l ++ ys.take (k + 1)).flatMap dpL)) := by
                unfold Hid
                rw [← Nat.add_assoc, hnk, HTKD.out, ← List.append_assoc, List.flatMap_append (xs := l ++ ys.take k), List.flatMap_singleton]
                exact HW.out
              have HB9 := Lib.hid ((bthen HB.out HBXA.out (Nat.le_refl _)).grown HG.out (bthen HB.out HBXA.out (Nat.le_refl _)).size (fun x hx => (HOWN.out.lt x hx).1))
              clear hiD hzD hsD hbD
              go_wp2_with fail
              go_roundg (gk - 1)
              case rel => exact ⟨k + 1, by have := HK.out; omega, by go_num, HR2.out, by omega, HADN.out, (fun p hp => by rw [HTKD.out] at hp; rcases List.mem_append.1 hp with hp | hp; exact HOY.out p hp; obtain rfl := List.mem_singleton.1 hp; exact HOWNX.out), HB9.out⟩
              case measure => have := HK.out; omega
          · have hc0 : ((x.code : Int) != 0) = true := by simp; omega
            have HF : Hid (Dr.addN (l.map Dp.x) (ys.map Dp.x) = x.code) := by
              unfold Hid
              rw [HADD.out, HDR.out]
              refine addN_bad ?_ hc
              unfold Dr.chk
              rw [if_neg (by have := HKD.out; omega), if_pos hc]
            have HCN := Lib.hid hc
            clear hc
            generalize x.code = N at *
            go_wp2_with fail
            refine bodyPost_ret (v := .tuple #[.slice A l.length c, .int .i64 (N : Int)]) (by simp [results, Tryz.results9, go_sem]) rfl ?_
            exact Or.inl ⟨by rw [HF.out]; exact HCN.out, by rw [HF.out], HB6.out⟩
        · have hn6 : ((x.kd : Int) != 6) = true := by rw [h6]; rfl
          have hn8 : ((x.kd : Int) != 8) = false := by rw [h6]; rfl
          have he8 : ((x.kd : Int) == 8) = true := by rw [h6]; rfl
          have HKD := Lib.hid h6
          clear h6
          go_wp2_with (refine wpList_load_mid (by rfl) 49 _ (by rfl) wr.heap.size 0 (by rfl) (deL x XA xc XB xd) _ HE5.out.cs.range Tryz.underlying49 rfl (by rw [rde_size, deL_len]) ?_)
          refine (HCK.out _ ((HMA.out.on HB.out).on HBX5.out)).mono ?_
          rintro e w6 ⟨rfl, b6⟩
          have HE6 := Lib.hid (HE5.out.on b6)
          have HBX6 := Lib.hid (bthen HBX5.out b6 (Nat.le_refl _))
          have HB6 := Lib.hid (bthen HB.out HBX6.out (Nat.le_refl _))
          clear b6 e0 el
          have e0 : w6.cell? ⟨wr.heap.size, 0, none⟩ = some (.int .u8 (x.kd : Int)) := HE6.out.cs 0 _ rfl
          have e15 : w6.cell? ⟨wr.heap.size, 15, none⟩ = some (.string (ofL x.name)) := HE6.out.cs 15 _ rfl
          have e16 : w6.cell? ⟨wr.heap.size, 16, none⟩ = some (.int .u64 (x.id : Int)) := HE6.out.cs 16 _ rfl
          have el := HE6.out.lt
          by_cases hc : x.code = 0
          · have hc0 : ((x.code : Int) != 0) = false := by rw [hc]; rfl
            have HC0 := Lib.hid hc
            clear hc
            cases hse : Dr.settles ((l ++ ys.take k).map Dp.x) x.name x.id with
            | true =>
              have HF : Hid (Dr.addN (l.map Dp.x) (ys.map Dp.x) = 9) := by
                unfold Hid
                rw [HADD.out, HDR.out]
                refine addN_bad ?_ (by decide)
                unfold Dr.chk
                rw [if_neg (by have := HKD.out; omega), if_neg (by rw [HC0.out]; simp), if_pos ⟨HKD.out, hse⟩]
              rw [hse] at HSE
              clear hse
              go_wp2_with fail
              refine (HSE.out _ (HQD.out.on HBX6.out)).mono ?_
              rintro e w7 ⟨rfl, b7⟩
              have HB7 := Lib.hid (bthen HB6.out b7 (Nat.le_refl _))
              clear b7
              go_wp2_with fail
              refine bodyPost_ret (v := .tuple #[.slice A l.length c, .int .i64 9]) (by simp [results, Tryz.results9, go_sem]) rfl ?_
              exact Or.inl ⟨by rw [HF.out]; decide, by rw [HF.out]; rfl, HB7.out⟩
            | false =>
              have HCHK : Hid (∀ N, (if 16 ≤ ((l ++ ys.take k).map Dp.x).length then 12 else 0) = N → Dr.chk ((l ++ ys.take k).map Dp.x) x = N) := fun N h => by
                unfold Dr.chk
                rw [if_neg (by have := HKD.out; omega), if_neg (by rw [HC0.out]; simp), if_neg (by rw [hse]; simp)]
                exact h
              rw [hse] at HSE
              clear hse
              go_wp2_with fail
              refine (HSE.out _ (HQD.out.on HBX6.out)).mono ?_
              rintro e w7 ⟨rfl, b7⟩
              have HE7 := Lib.hid (HE6.out.on b7)
              have HBX7 := Lib.hid (bthen HBX6.out b7 (Nat.le_refl _))
              have HB7 := Lib.hid (bthen HB6.out b7 (Nat.le_refl _))
              clear b7 HSE HCK
              by_cases h16 : 16 ≤ l.length + k
              · have hd : decide (((l.length + k : Nat) : Int) ≥ 16) = true := decide_eq_true (by omega)
                have hdn : decide (16 ≤ l.length + k) = true := decide_eq_true h16
                have hch : Dr.chk ((l ++ ys.take k).map Dp.x) x = 12 := HCHK.out _ (if_pos (by rw [HLEN.out]; exact h16))
                have HF : Hid (Dr.addN (l.map Dp.x) (ys.map Dp.x) = 12) := by
                  unfold Hid
                  rw [HADD.out, HDR.out]
                  exact addN_bad hch (by decide)
                clear hch
                generalize l.length + k = nk at *
                go_wp2_with fail
                refine bodyPost_ret (v := .tuple #[.slice A l.length c, .int .i64 12]) (by simp [results, Tryz.results9, go_sem]) rfl ?_
                exact Or.inl ⟨by rw [HF.out]; decide, by rw [HF.out]; rfl, HB7.out⟩
              · have hd : decide (((l.length + k : Nat) : Int) ≥ 16) = false := decide_eq_false (by omega)
                have hdn : decide (16 ≤ l.length + k) = false := decide_eq_false h16
                have hch : Dr.chk ((l ++ ys.take k).map Dp.x) x = 0 := HCHK.out _ (if_neg (by rw [HLEN.out]; exact h16))
                have HOWNX := Lib.hid (chk_own hch).1
                have HADN : Hid (Dr.addN (l.map Dp.x) (ys.map Dp.x) = Dr.addN ((l ++ ys.take (k + 1)).map Dp.x) ((ys.drop (k + 1)).map Dp.x)) := by
                  unfold Hid
                  have e2 : (l ++ ys.take (k + 1)).map Dp.x = (l ++ ys.take k).map Dp.x ++ [x] := by rw [List.map_append, HTK.out, ← List.append_assoc, ← List.map_append]
                  rw [HADD.out, HDR.out, e2]
                  have h1 := addN_good (ys := (ys.drop (k + 1)).map Dp.x) hch
                  rw [HOWNX.out] at h1
                  exact h1
                clear hch
                obtain ⟨iD, hiD, hzD, hsD, hbD⟩ := info_parts infoRDe
                have HBXA := Lib.hid (bthen HBX7.out (rtOne w7 (.cells (deL x XA xc XB xd).toArray 49)) (Nat.le_refl _))
                have HOWN := Lib.hid (ownRow_on HROW.out HBXA.out)
                have HNW := Lib.hid (BoxC.new (w := wr) (W := w7) HBX7.out.size (deL x XA xc XB xd).toArray 49)
                have HSZA := Lib.hid (show (w7.alloc (.cells (deL x XA xc XB xd).toArray 49)).heap.size = w7.heap.size + 1 by simp)
                have HNK := Lib.hid (show l.length + k < 16 by omega)
                generalize hnk : l.length + k = nk at *
                have hnk16 : nk < 16 := HNK.out
                go_upto_region 16 with (first
                  | (refine wpList_load_mid (by rfl) 49 _ (by rfl) wr.heap.size 0 (by rfl) (deL x XA xc XB xd) _ HE7.out.cs.range Tryz.underlying49 rfl (by rw [rde_size, deL_len]) ?_)
                  | (refine wpList_plain (by rfl) (fun K hK => wp_buildRDe _ (by rfl) x XA xc XB xd (by kernel_rfl) (hK _ _ ?_)))
                  | (at_builtin; refine wpList_append_lies _ (by rfl) _ _ 28 (by rfl) w.heap.size 49 iD _ 29 344 Tryz.underlying28 hiD hzD hsD hbD (by rfl) (by decide) (.slice A9 nk c9) nk ((l ++ ys.take k).flatMap dpL) (by rfl) HOWN.out ⟨w7.heap.size, 0, none⟩ 1 1 (deL x XA xc XB xd) (by rfl) rfl (fun j u hj => by rw [rws_add, Nat.zero_add]; exact HNW.out.cs j u hj) (de_one _ _ _ _ _) (by omega) (by unfold maxLen; omega) (by omega) (Nat.le_trans HB.out.size HBXA.out.size) (w7.heap.size + 1) HSZA.out ?_; intro gg cap w2 hown hgrow hat hlt'; have HW := Lib.hid hown; have HG := Lib.hid hgrow; clear hown hgrow hat hlt'))
                have HR2 : Hid (w2.ownsRow w.heap.size 49 29 (.slice (some ⟨gg, 0, none⟩) (nk + 1) cap) (l.length + (k + 1)) ((l ++ ys.take (k + 1)).flatMap dpL)) := by
                  unfold Hid
                  rw [← Nat.add_assoc, hnk, HTKD.out, ← List.append_assoc, List.flatMap_append (xs := l ++ ys.take k), List.flatMap_singleton]
                  exact HW.out
                have HB9 := Lib.hid ((bthen HB.out HBXA.out (Nat.le_refl _)).grown HG.out (bthen HB.out HBXA.out (Nat.le_refl _)).size (fun x hx => (HOWN.out.lt x hx).1))
                clear hiD hzD hsD hbD
                go_wp2_with fail
                go_roundg (gk - 1)
                case rel => exact ⟨k + 1, by have := HK.out; omega, by go_num, HR2.out, by omega, HADN.out, (fun p hp => by rw [HTKD.out] at hp; rcases List.mem_append.1 hp with hp | hp; exact HOY.out p hp; obtain rfl := List.mem_singleton.1 hp; exact HOWNX.out), HB9.out⟩
                case measure => have := HK.out; omega
          · have hc0 : ((x.code : Int) != 0) = true := by simp; omega
            have HF : Hid (Dr.addN (l.map Dp.x) (ys.map Dp.x) = x.code) := by
              unfold Hid
              rw [HADD.out, HDR.out]
              refine addN_bad ?_ hc
              unfold Dr.chk
              rw [if_neg (by have := HKD.out; omega), if_pos hc]
            have HCN := Lib.hid hc
            clear hc
            generalize x.code = N at *
            go_wp2_with fail
            refine bodyPost_ret (v := .tuple #[.slice A l.length c, .int .i64 (N : Int)]) (by simp [results, Tryz.results9, go_sem]) rfl ?_
            exact Or.inl ⟨by rw [HF.out]; exact HCN.out, by rw [HF.out], HB6.out⟩
      · have hn6 : ((x.kd : Int) != 6) = true := by simp; omega
        have hn8 : ((x.kd : Int) != 8) = true := by simp; omega
        have HF : Hid (Dr.addN (l.map Dp.x) (ys.map Dp.x) = 8) := by
          unfold Hid
          rw [HADD.out, HDR.out]
          refine addN_bad ?_ (by decide)
          unfold Dr.chk
          exact if_pos (by omega)
        have HB5 := Lib.hid (bthen HB.out HBX5.out (Nat.le_refl _))
        clear h6
        go_wp2_with fail
        refine bodyPost_ret (v := .tuple #[.slice A l.length c, .int .i64 8]) (by simp [results, Tryz.results9, go_sem]) rfl ?_
        exact Or.inl ⟨by rw [HF.out]; decide, by rw [HF.out]; rfl, HB5.out⟩
    · have hkn : k = n := by have := HK.out; omega
      have HF : Hid (Dr.addN (l.map Dp.x) (ys.map Dp.x) = 0) := by
        unfold Hid
        rw [HADD.out, hkn, HN.out, List.drop_length]
        rfl
      have HTA : Hid (ys.take k = ys) := by
        unfold Hid
        rw [hkn, HN.out, List.take_length]
      have HNK := Lib.hid (show l.length + k = l.length + ys.length by have := HN.out; omega)
      generalize hnk : l.length + k = nk at *
      subst hkn
      go_wp2_with fail
      refine bodyPost_ret (v := .tuple #[.slice A9 nk c9, .int .i64 0]) (by simp [results, Tryz.results9, go_sem]) rfl ?_
      refine Or.inr ⟨HF.out, A9, c9, by rw [HNK.out], by rw [← HNK.out]; exact HC9.out, by rw [← HNK.out]; exact HK16.out, ⟨by have := HR9.out; rw [HTA.out] at this; exact this, fun p hp => ?_⟩, (by have := HOY.out; rw [HTA.out] at this; exact this), fun a ha => (HB99.out a ha).1, HB.out⟩
      rcases List.mem_append.1 hp with hp | hp
      · exact (HD.out.on HB.out).ok p hp
      · exact (HY.out.on HB.out).ok p hp
end Go.Proofs.YtecjngodfciokaaGreatDoor
end
