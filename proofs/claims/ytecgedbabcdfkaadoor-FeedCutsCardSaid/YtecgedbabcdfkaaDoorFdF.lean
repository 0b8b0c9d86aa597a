/-
  THE LAW ON PIECES, walked.
-/
import Derived.Test.YtecgedbabcdfkaaDoorFdE
import Derived.Laws.AppendOwnNone
namespace Go.Proofs.YtecgedbabcdfkaaDoor
open Go.ChangeShapes Go.WideShapes Go.ChangeAt Go.RowKit

/-! ### texts in memory -/
structure Strs (w : World) (A : Option Addr) (l : List (List UInt8)) : Prop where
  at_ : ∀ i, i < l.length → ∃ b off, A = some ⟨b, off, none⟩ ∧ b < w.heap.size ∧ w.cell? ⟨b, off + i, none⟩ = some (.string (ofL (l.getD i [])))
theorem Strs.on {w w' : World} {A : Option Addr} {l : List (List UInt8)} (h : Strs w A l) (hb : Below w.heap.size w w') : Strs w' A l := ⟨fun i hi => by
  obtain ⟨b, off, hA, hlt, hc⟩ := h.at_ i hi
  exact ⟨b, off, hA, Nat.lt_of_lt_of_le hlt hb.size, (hb.cell (p := ⟨b, off + i, none⟩) hlt).trans hc⟩⟩
def Few (l : List (List UInt8)) : Prop := l.length ≤ 10 ∧ ∀ i, i < l.length → (l.getD i []).length ≤ 500
def FewSt (w : World) (l : List (List UInt8)) (g : Nat) (i : Value) (wr : World) : Prop :=
  ∃ k : Nat, k + g = l.length ∧ i = .int .i64 (k : Int) ∧ (∀ j, j < k → (l.getD j []).length ≤ 500) ∧ w = wr
/-- what light8 answers -/
def FewPost (l : List (List UInt8)) (w : World) (e : Ending) (w' : World) : Prop := (e = .returned (.bool true) ∧ Few l ∨ e = .returned (.bool false)) ∧ w = w'
set_option maxHeartbeats 2000000 in
theorem light8_any (A : Option Addr) (ca : Nat) (l : List (List UInt8)) (w : World) (hl : l.length ≤ 9223372036854775807) (hA : Strs w A l) :
    Calls Tryd.prog 18 #[.slice A l.length ca] w (FewPost l w) := by
  have HA := Lib.hid hA
  clear hA
  by_cases h10 : 10 < l.length
  · go_enter Tryd.func18, Tryd.ntmps18
    go_wp2_with fail
    go_ret
    exact ⟨Or.inr rfl, rfl⟩
  · go_enter Tryd.func18, Tryd.ntmps18
    go_wp2_with fail
    go_loopg [10] l.length (fun g i wr => FewSt w l g i wr)
    case atStart => exact ⟨0, by omega, rfl, fun j hj => absurd hj (by omega), rfl⟩
    case round =>
      obtain ⟨k, hk, rfl, hall, rfl⟩ := hrel
      have HK := Lib.hid hk
      have HALL := Lib.hid hall
      clear hk hall
      by_cases hlt : k < l.length
      · obtain ⟨b, off, rfl, hb, hc⟩ := HA.out.at_ k hlt
        have hz : (ofL (l.getD k [])).size = (l.getD k []).length := ofL_size _
        by_cases h5 : 500 < (l.getD k []).length
        · generalize l.getD k [] = x at *
          go_wp2_with fail
          go_ret
          exact ⟨Or.inr rfl, rfl⟩
        · have HN := Lib.hid (show ∀ j, j < k + 1 → (l.getD j []).length ≤ 500 from fun j hj => by
            by_cases e : j = k
            · rw [e]; omega
            · exact HALL.out j (by omega))
          generalize l.getD k [] = x at *
          go_wp2_with fail
          go_roundg (gk - 1)
          case rel => exact ⟨k + 1, by have := HK.out; omega, by go_num, HN.out, rfl⟩
          case measure => have := HK.out; omega
      · have HF := Lib.hid (show Few l from ⟨by omega, fun i hi => HALL.out i (by have := HK.out; omega)⟩)
        go_wp2_with fail
        go_ret
        exact ⟨Or.inl ⟨rfl, HF.out⟩, rfl⟩
theorem Duo.kept {b : Nat} {x y : Value} {w w' : World} {row : Option Nat} (h : Duo b x y w) (hg : w.grownBy w' row) (hne : some b ≠ row) : Duo b x y w' :=
  ⟨hg.cell h.c0 hne, hg.cell h.c1 hne, fun j => (World.frozen?_of_block (a := ⟨b, j, none⟩) (hg.block b h.lt hne)).trans (h.fz j)⟩
/-- Take, whatever the error was -/
theorem take_any (r c : List UInt8) (e : Nat) (w : World) (hl : r.length + c.length ≤ 100000) (hT : Tab w) :
    Calls Tryd.prog 19 #[.agg #[.string (ofL r), .int .i64 (e : Int)], .string (ofL c)] w (TakePost (Fr.take r e c) w) := by
  unfold Fr.take
  by_cases he : e ≠ 0
  · rw [if_pos he]; exact take_err r e (ofL c) w he
  · have : e = 0 := by omega
    subst this
    rw [if_neg he]
    exact take_ok r c w hl hT
theorem frms_news {w : World} {ad : Addr} {l : List Fr.Frame} (h : Frms w (some ad) l) : ∀ j u, (fcs l)[j]? = some u → w.cell? (ad.add j) = some u := by
  intro j u hu
  have hj : j < l.length * 3 := by
    have := (List.getElem?_eq_some_iff.1 hu).1
    rwa [fcs_len] at this
  obtain ⟨b, off, e, -, c0, c1, c2⟩ := h.at_ (j / 3) (by omega)
  cases e
  have e2 : (⟨b, off, none⟩ : Addr).add j = ⟨b, off + j, none⟩ := by
    unfold Addr.add
    split
    · rename_i h0
      have : j = 0 := by simpa using h0
      rw [this]; rfl
    · rfl
  rw [e2]
  have hg := Rw.flat_get frmL 3 (fun _ => rfl) (by omega) l (j / 3) (j % 3) (by omega) (Nat.mod_lt _ (by decide))
  have hjj : j / 3 * 3 + j % 3 = j := by omega
  rw [hjj] at hg
  have hu2 : (frmL l[j / 3])[j % 3]? = some u := by rw [← hg]; exact hu
  rw [frm_get l (j / 3) (by omega)] at c0 c1 c2
  have h3 : j % 3 < 3 := Nat.mod_lt _ (by decide)
  rcases (show j % 3 = 0 ∨ j % 3 = 1 ∨ j % 3 = 2 by omega) with h | h | h
  · rw [h] at hu2
    rw [show off + j = off + j / 3 * 3 by omega, c0]
    exact hu2
  · rw [h] at hu2
    rw [show off + j = off + j / 3 * 3 + 1 by omega, c1]
    exact hu2
  · rw [h] at hu2
    rw [show off + j = off + j / 3 * 3 + 2 by omega, c2]
    exact hu2
theorem wpList_append_frames {P : Program} (w : World) {ops : Array Oper} {rest : List Oper} {o : Oper} {a : Act} {Q : Exit → Act → World → Prop} (hgd : o.guard = none) (s x : Operand) (t : TypeId)
    (ho : o.op = .call { callee := .builtin .append, args := #[s, x], argTypes := #[t, t] })
    (base : Nat) (E : TypeId) (i : TypeInfo) (ht : P.underlying t = some (.slice E)) (hi : P.info? E = some i) (hz : i.zero = some (.agg #[.int .u8 0, .int .u8 0, .string ⟨#[]⟩]))
    (hsize : i.size = 3) (hby : i.bytes = 24) {v : Value} {xs : List Fr.Frame} (hs : a.eval s = v) (hown : w.ownsRow base E 3 v xs.length (fcs xs)) {A : Option Addr} {l : List Fr.Frame} {c : Nat} (hx : a.eval x = .slice A l.length c) (hl : Frms w A l) (hn : xs.length + l.length ≤ 100000) (hnil : A = none → c = 0) (hbase : base ≤ w.heap.size)
    (h : ∀ v' w', w'.ownsRow base E 3 v' (xs ++ l).length (fcs (xs ++ l)) → w.grownBy w' v.ownBlock → wpList P ops Q rest (a.put o.dst v') w') : wpList P ops Q (o :: rest) a w := by
  cases A with
  | none =>
    have e : l = [] := by
      cases l with
      | nil => rfl
      | cons f t => obtain ⟨b, off, e, _⟩ := hl.at_ 0 (by simp); cases e
    subst e
    have ec := hnil rfl
    subst ec
    refine wpList_append_own_none hgd s x t ho base E i 3 ht hi v xs.length (fcs xs) hs hown hx (h _ _ ?_ (World.grownBy.refl _ _))
    rw [List.append_nil]
    exact hown
  | some ad =>
    refine wpList_append_own w hgd s x t ho base E i _ 3 24 ht hi hz hsize hby rfl (by decide) v xs.length (fcs xs) hs hown ad l.length c (fcs l) hx (fcs_len l) (frms_news hl) (fcs_one l) (by unfold maxLen; omega) (by omega) hbase ?_
    intro v' w' h1 h2 _
    rw [← fcs_app, ← List.length_append] at h1
    exact h v' w' h1 h2
/-- the bytes of the first pieces -/
def cat (l : List (List UInt8)) (k : Nat) : List UInt8 := (l.take k).flatten
theorem cat_next (l : List (List UInt8)) (k : Nat) (h : k < l.length) : cat l (k + 1) = cat l k ++ l.getD k [] := by
  unfold cat
  rw [List.take_succ_eq_append_getElem h, List.flatten_append, List.getD_eq_getElem?_getD, List.getElem?_eq_getElem h]
  simp
theorem cat_le (l : List (List UInt8)) (hf : Few l) : ∀ k, k ≤ l.length → (cat l k).length ≤ 500 * k := by
  intro k
  induction k with
  | zero => intro _; simp [cat]
  | succ k ih =>
    intro hk
    rw [cat_next l k (by omega), List.length_append]
    have := ih (by omega)
    have := hf.2 k (by omega)
    omega
/-- what the loop of FeedTakes keeps -/
structure FtIn (w : World) (F : Nat) (S : List UInt8) (v4 : Value) (wr : World) : Prop where
  own : wr.ownsRow (F + 1) 23 3 v4 (Fr.feed S).1.length (fcs (Fr.feed S).1)
  duo : Duo F (.string (ofL (Fr.feed S).2.1)) (.int .i64 ((Fr.feed S).2.2 : Int)) wr
  below : Below w.heap.size w wr
  ge : w.heap.size ≤ F
theorem FtIn.on {w : World} {F : Nat} {S : List UInt8} {v4 : Value} {wr w' : World} (h : FtIn w F S v4 wr) (hb : Below wr.heap.size wr w') : FtIn w F S v4 w' :=
  ⟨Rw.own_on h.own hb, h.duo.on hb h.duo.lt, bthen h.below hb (Nat.le_refl _), h.ge⟩
def FtSt (w : World) (F : Nat) (l : List (List UInt8)) (g : Nat) (v4 v5 i : Value) (wr : World) : Prop :=
  ∃ k : Nat, k + g = l.length ∧ i = .int .i64 (k : Int) ∧ v5 = .string (ofL (cat l k)) ∧ FtIn w F (cat l k) v4 wr
set_option maxRecDepth 100000 in
set_option maxHeartbeats 8000000 in
theorem takes_walk (A : Option Addr) (ca : Nat) (l : List (List UInt8)) (w : World) (hl : l.length ≤ 9223372036854775807) (hA : Strs w A l) (hT : Tab w) :
    Calls Tryd.prog 7 #[.slice A l.length ca] w fun e w' => e = .returned (.bool true) ∧ Below w.heap.size w w' := by
  have HT := Lib.hid hT
  have HA := Lib.hid hA
  have HAW := Lib.hid (fdAwake_any w hT)
  have HLi := Lib.hid (fun W h => light8_any A ca l W hl h)
  clear hT hA
  go_enter Tryd.func7, Tryd.ntmps7
  go_wp2_with fail
  refine HAW.out.mono ?_
  rintro e w1 ⟨rfl, b1⟩
  have B1 := Lib.hid b1
  have HA1 := Lib.hid (HA.out.on b1)
  clear b1
  go_wp2_with fail
  refine (HLi.out _ HA1.out).mono ?_
  rintro e w2 ⟨⟨rfl, hfew⟩ | rfl, rfl⟩
  · have HFew := Lib.hid hfew
    have hl10 := hfew.1
    have HIn := Lib.hid (show FtIn w w1.heap.size [] (.slice none 0 0) (w1.alloc (.cells #[.string ⟨#[]⟩, .int .i64 0] 45)) from by
      have hd := Duo.new w1 (.string ⟨#[]⟩) (.int .i64 0) 45
      have h0 := Fr.feed_nil
      refine ⟨?_, ?_, B1.out.alloc B1.out.size _, B1.out.size⟩
      · rw [h0]; exact World.ownsRow_nil _ _ _ _
      · rw [h0]; exact hd)
    obtain ⟨iF, hiF, hzF0, hzF1, hzF2⟩ := info_parts infoF
    clear hfew
    go_wp2_with fail
    go_loopg [4, 5, 20] l.length (fun g v4 v5 i wr => FtSt w w1.heap.size l g v4 v5 i wr)
    case atStart => exact ⟨0, by omega, rfl, rfl, HIn.out⟩
    case round =>
      obtain ⟨k, hk, rfl, rfl, hI⟩ := hrel
      have HK := Lib.hid hk
      have HI := Lib.hid hI
      obtain ⟨A4, c4, rfl, -, -⟩ := Rw.own_cells hI.own
      clear hk hI
      by_cases hlt : k < l.length
      · obtain ⟨b, off, hAe, hb, hc⟩ := (HA.out.on HI.out.below).at_ k hlt
        have hS := cat_le l HFew.out k (by omega)
        have hcl := HFew.out.2 k hlt
        have hzS : (ofL (cat l k)).size ≤ 5000 := by rw [ofL_size]; omega
        have hzc : (ofL (l.getD k [])).size ≤ 500 := by rw [ofL_size]; exact hcl
        have hrl := Fr.feed_rest_le (cat l k)
        have hTr := HT.out.below HI.out.below HT.out.pos
        have H1 := Lib.hid (fun W h => take_any (Fr.feed (cat l k)).2.1 (l.getD k []) (Fr.feed (cat l k)).2.2 W (by omega) h)
        have hTF := Fr.take_feed (cat l k) (l.getD k [])
        have hcat : ofL (cat l k) ++ ofL (l.getD k []) = ofL (cat l k ++ l.getD k []) := ofL_app _ _
        have HNX := Lib.hid (cat_next l k hlt)
        have hlen2 : (cat l k ++ l.getD k []).length ≤ 5000 := by rw [List.length_append]; omega
        have H2 := Lib.hid (fun W => all8_any (cat l k ++ l.getD k []) W (by omega))
        have hcnt := Fr.feed_count (cat l k ++ l.getD k [])
        rw [hTF] at hcnt
        simp only at hcnt
        have hn : (Fr.feed (cat l k)).1.length + (Fr.take (Fr.feed (cat l k)).2.1 (Fr.feed (cat l k)).2.2 (l.getD k [])).1.length ≤ 100000 := by
          rw [← List.length_append]; omega
        have HD := Lib.hid HI.out.duo
        have HO := Lib.hid HI.out.own
        have HB := Lib.hid HI.out.below
        have HTF := Lib.hid hTF
        have HTr := Lib.hid hTr
        unfold AllPost at H2
        rw [hTF] at H2
        have HN := Lib.hid hn
        clear hrl hS hcl hlen2 hcnt hTF hTr hn HI
        generalize cat l k ++ l.getD k [] = S2 at *
        generalize hTT : Fr.take (Fr.feed (cat l k)).2.1 (Fr.feed (cat l k)).2.2 (l.getD k []) = T at *
        clear hTT
        generalize Fr.feed (cat l k) = FS at *
        generalize cat l k = S at *
        generalize l.getD k [] = c at *
        obtain ⟨fs, r, ec⟩ := FS
        obtain ⟨tf, tr, te⟩ := T
        simp only at HD HO H1 H2 HN
        subst hAe
        obtain ⟨d0, d1, d2⟩ := HD.out
        have hge := HIn.out.ge
        have hFl := HD.out.lt
        go_wp2_with fail
        refine (H1.out _ HTr.out).mono ?_
        rintro e w2 ⟨A2, c2, rfl, hc2, hn2, hF2, -, b2⟩
        simp only [TakeV]
        have HF2 := Lib.hid (hF2.on ((Below.refl _ _).alloc (Nat.le_refl _) (.cells #[.string (ofL tr), .int .i64 (te : Int)] 45)))
        have HO2 := Lib.hid ((Rw.own_on HO.out b2).alloc (.cells #[.string (ofL tr), .int .i64 (te : Int)] 45))
        have HD2 := Lib.hid ((HD.out.on b2 HD.out.lt).on ((Below.refl _ _).alloc (Nat.le_refl _) (.cells #[.string (ofL tr), .int .i64 (te : Int)] 45)) (Nat.lt_of_lt_of_le HD.out.lt b2.size))
        have HB2 := Lib.hid ((bthen HB.out b2 (Nat.le_refl _)).alloc (Nat.le_trans HB.out.size b2.size) (.cells #[.string (ofL tr), .int .i64 (te : Int)] 45))
        have HG2 := Lib.hid (Duo.new w2 (.string (ofL tr)) (.int .i64 (te : Int)) 45)
        have hnG : ∀ q, (Value.slice A4 fs.length c4).ownBlock = some q → w1.heap.size + 1 ≤ q ∧ q < w2.heap.size := fun q hq => ((Rw.own_on HO.out b2).lt q hq)
        have HNG := Lib.hid hnG
        have hsz2 := b2.size
        clear b2 hF2 hc2 d0 d1 d2 hnG
        go_wp2_with (first
          | (at_builtin; refine wpList_append_frames _ rfl _ _ 46 rfl (w1.heap.size + 1) 23 iF Tryd.underlying46 hiF hzF0 hzF1 hzF2 (by rfl) HO2.out (by rfl) HF2.out HN.out hn2 (by simp; omega) ?_; intro v' w3 hown hgrow; obtain ⟨A5, c5, rfl, -, -⟩ := Rw.own_cells hown; have HO3 := Lib.hid hown; have HGr := Lib.hid hgrow; clear hown hgrow))
        have HD3 := Lib.hid (HD2.out.on (below_row HGr.out (b := w1.heap.size + 1) (by simp; omega) (fun q hq => (HNG.out q hq).1)) (by omega))
        have HG3 := Lib.hid (HG2.out.kept HGr.out (fun e => by have := (HNG.out w2.heap.size e.symm).2; omega))
        have HB3 := Lib.hid (HB2.out.grown HGr.out (by simp; omega) (fun q hq => by have := (HNG.out q hq).1; omega))
        refine (H2.out _).mono ?_
        rintro e w4 ⟨A6, c6, rfl, hF6, b4⟩
        simp only
        have HO4 := Lib.hid (Rw.own_on HO3.out b4)
        have HF6 := Lib.hid hF6
        have HD4 := Lib.hid (HD3.out.on b4 HD3.out.lt)
        have HG4 := Lib.hid (HG3.out.on b4 HG3.out.lt)
        have HB4 := Lib.hid (bthen HB3.out b4 (Nat.le_refl _))
        obtain ⟨A7, c7, hv7, -, -, hF5⟩ := rown_frms HO4.out
        obtain ⟨rfl, -, rfl⟩ := Value.slice.inj hv7
        have HF5 := Lib.hid hF5
        clear b4 hF6 hv7 hF5
        have HE := Lib.hid (fun W h1 h2 => same8_any A5 A6 c5 c6 (fs ++ tf) W (by rw [List.length_append]; exact HN.out) h1 h2)
        simp only [List.length_append] at HE
        go_wp2_with fail
        refine (HE.out _ HF5.out HF6.out).mono ?_
        rintro e w5 ⟨rfl, b5⟩
        have HO5 := Lib.hid (Rw.own_on HO4.out b5)
        have HD5 := Lib.hid (HD4.out.on b5 HD4.out.lt)
        have HG5 := Lib.hid (HG4.out.on b5 HG4.out.lt)
        have HB5 := Lib.hid (bthen HB4.out b5 (Nat.le_refl _))
        clear b5
        have g0 := HG5.out.c0
        have g1 := HG5.out.c1
        go_wp2_with fail
        refine (frest_any _ _ _).mono ?_
        rintro e w6 ⟨rfl, b6⟩
        have HO6 := Lib.hid (Rw.own_on HO5.out b6)
        have HD6 := Lib.hid (HD5.out.on b6 HD5.out.lt)
        have HG6 := Lib.hid (HG5.out.on b6 HG5.out.lt)
        have HB6 := Lib.hid (bthen HB5.out b6 (Nat.le_refl _))
        clear b6 g0 g1
        have g0 := HG6.out.c0
        have g1 := HG6.out.c1
        go_wp2_with fail
        refine (ferr_any _ _ _).mono ?_
        rintro e w7 ⟨rfl, b7⟩
        have HO7 := Lib.hid (Rw.own_on HO6.out b7)
        have HD7 := Lib.hid (HD6.out.on b7 HD6.out.lt)
        have HG7 := Lib.hid (HG6.out.on b7 HG6.out.lt)
        have HB7 := Lib.hid (bthen HB6.out b7 (Nat.le_refl _))
        clear b7 g0 g1
        obtain ⟨g0, g1, -⟩ := HG7.out
        have d0 := HD7.out.c0
        have d1 := HD7.out.c1
        have d2 := HD7.out.fz 0
        have d3 := HD7.out.fz 1
        have dl := HD7.out.lt
        have hfin : FtIn w w1.heap.size S2 (.slice A5 (fs.length + tf.length) c5) ((w7.setCell ⟨w1.heap.size, 0, none⟩ (.string (ofL tr))).setCell ⟨w1.heap.size, 1, none⟩ (.int .i64 (te : Int))) := by
          have e := HTF.out
          refine ⟨?_, ?_, (HB7.out.setCell hge _).setCell hge _, hge⟩
          · rw [e]
            have g := only_setCell (p := ⟨w1.heap.size, 1, none⟩) (only_setCell (p := ⟨w1.heap.size, 0, none⟩) (World.grownBy.refl w7 (some w1.heap.size)) rfl (.string (ofL tr))) rfl (.int .i64 (te : Int))
            rw [show fs.length + tf.length = (fs ++ tf).length from List.length_append.symm]
            exact HO7.out.kept g (.inr (Rw.own_row HO7.out (by omega)))
          · rw [e]
            exact (HD7.out.set0 _).set1 _
        have HFin := Lib.hid hfin
        clear hfin
        go_wp2_with fail
        go_roundg (gk - 1)
        case rel => exact ⟨k + 1, by have := HK.out; omega, by go_num, by rw [HNX.out], by rw [HNX.out]; exact HFin.out⟩
        case measure => have := HK.out; omega
      · go_wp2_with fail
        go_ret
        exact ⟨rfl, HI.out.below⟩
  · go_wp2_with fail
    go_ret
    exact ⟨rfl, B1.out⟩
end Go.Proofs.YtecgedbabcdfkaaDoor
