/-
  MAY A POLICY BE: the program's Check, walked: the grants; and the whole.
-/
import Derived.Test.YtokljdaofjgihaaGreatDoorPolD
namespace Go.Proofs.YtokljdaofjgihaaGreatDoor
open Go.ChangeShapes Go.WideShapes Go.ChangeAt Go.RowKit

theorem grn_none {l : List Pl.Plc} {ah : List Pl.Grn} {x : Pl.Grn} (h : (Pl.has l.length x.fr && Pl.has l.length x.to) = false) : Pl.grnCode l ah x = 10 := by unfold Pl.grnCode; rw [if_neg (by rw [h]; simp)]
theorem grn_flow {l : List Pl.Plc} {ah : List Pl.Grn} {x : Pl.Grn} (h : (Pl.has l.length x.fr && Pl.has l.length x.to) = true) (h2 : Pl.under l x.fr x.to = true) : Pl.grnCode l ah x = 11 := by unfold Pl.grnCode; rw [if_pos h, if_pos h2]
theorem grn_range {l : List Pl.Plc} {ah : List Pl.Grn} {x : Pl.Grn} (h : (Pl.has l.length x.fr && Pl.has l.length x.to) = true) (h2 : Pl.under l x.fr x.to = false) (h3 : Pl.within x.bud 0 16 = false) : Pl.grnCode l ah x = 7 := by unfold Pl.grnCode; rw [if_pos h, if_neg (by rw [h2]; simp), if_neg (by rw [h3]; simp)]
theorem grn_there {l : List Pl.Plc} {ah : List Pl.Grn} {x : Pl.Grn} (h : (Pl.has l.length x.fr && Pl.has l.length x.to) = true) (h2 : Pl.under l x.fr x.to = false) (h3 : Pl.within x.bud 0 16 = true) (h4 : ah.any (Pl.grnSame x) = true) : Pl.grnCode l ah x = 9 := by unfold Pl.grnCode; rw [if_pos h, if_neg (by rw [h2]; simp), if_pos h3, if_pos h4]
theorem grn_ok {l : List Pl.Plc} {ah : List Pl.Grn} {x : Pl.Grn} (h : (Pl.has l.length x.fr && Pl.has l.length x.to) = true) (h2 : Pl.under l x.fr x.to = false) (h3 : Pl.within x.bud 0 16 = true) (h4 : ah.any (Pl.grnSame x) = false) : Pl.grnCode l ah x = 0 := by unfold Pl.grnCode; rw [if_pos h, if_neg (by rw [h2]; simp), if_pos h3, if_neg (by rw [h4]; simp)]
/-- what lies while a grant is looked at -/
structure GSt (l : List Pl.Plc) (ah : List Pl.Grn) (pa A : Option Addr) (f t b : Int) (x0 x1 x2 x3 x4 : Value) (w W : World) : Prop where
  box : Cell5 W w.heap.size x0 x1 x2 x3 x4
  gr : GrnAt W (w.heap.size + 1) 0 ⟨f, t, b⟩
  lt : w.heap.size + 1 < W.heap.size
  below : Below w.heap.size w W
  pl : Plcs W pa l
  ah : Grns W A ah
theorem GSt.on {l : List Pl.Plc} {ah : List Pl.Grn} {pa A : Option Addr} {f t b : Int} {x0 x1 x2 x3 x4 : Value} {w W W' : World} (h : GSt l ah pa A f t b x0 x1 x2 x3 x4 w W) (hb : Below W.heap.size W W') : GSt l ah pa A f t b x0 x1 x2 x3 x4 w W' :=
  ⟨h.box.on hb, h.gr.below hb h.lt, Nat.lt_of_lt_of_le h.lt hb.size, bthen h.below hb (Nat.le_refl _), h.pl.on hb, h.ah.on hb⟩
theorem GSt.new {l : List Pl.Plc} {ah : List Pl.Grn} {pa A : Option Addr} (f t b : Int) (x0 x1 x2 x3 x4 : Value) {w : World} (hp : Plcs w pa l) (ha : Grns w A ah) :
    GSt l ah pa A f t b x0 x1 x2 x3 x4 w ((w.alloc (.cells #[x0, x1, x2, x3, x4] 26)).alloc (.cells #[.int .i64 f, .int .i64 t, .int .i64 b] 75)) := by
  have h1 : Below w.heap.size w (w.alloc (.cells #[x0, x1, x2, x3, x4] 26)) := (Below.refl _ _).alloc (Nat.le_refl _) _
  have h2 : Below (w.alloc (.cells #[x0, x1, x2, x3, x4] 26)).heap.size (w.alloc (.cells #[x0, x1, x2, x3, x4] 26)) ((w.alloc (.cells #[x0, x1, x2, x3, x4] 26)).alloc (.cells #[.int .i64 f, .int .i64 t, .int .i64 b] 75)) := (Below.refl _ _).alloc (Nat.le_refl _) _
  refine ⟨(Cell5.new w x0 x1 x2 x3 x4 26).on h2, ?_, by simp, bthen h1 h2 (Nat.le_refl _), (hp.on h1).on h2, (ha.on h1).on h2⟩
  have := GrnAt.box ⟨f, t, b⟩ (w.alloc (.cells #[x0, x1, x2, x3, x4] 26))
  simpa using this
set_option maxHeartbeats 4000000 in
theorem checkGrant_any (p : Pl.Pol) (pa : Option Addr) (pc : Nat) (sa : Option Addr) (sc : Nat) (ga : Option Addr) (gc : Nat) (x : Pl.Grn) (ah : List Pl.Grn) (A : Option Addr) (c : Nat) (w : World) (hl : p.places.length ≤ 100000) (hla : ah.length ≤ 100000) (hp : Plcs w pa p.places) (ha : Grns w A ah) :
    Calls Tryz.prog 73 #[polV p pa pc sa sc ga gc, grnV x, .slice A ah.length c] w fun e w' => e = .returned (.int .i64 (Pl.grnCode p.places ah x : Int)) ∧ Below w.heap.size w w' := by
  have HH := Lib.hid (fun i W => phas_any p pa pc sa sc ga gc i W hl)
  have HU := Lib.hid (fun i j W h1 h2 h3 => polUnder_any p pa pc sa sc ga gc i j W hl h1 h2 h3)
  have HW := Lib.hid (fun W => within_any x.bud 0 16 W)
  have HC := Lib.hid (fun W h => contG_any x ah A c W hla h)
  have H1 := Lib.hid (fun h => grn_none (l := p.places) (ah := ah) (x := x) h)
  have H2 := Lib.hid (fun h h2 => grn_flow (l := p.places) (ah := ah) (x := x) h h2)
  have H3 := Lib.hid (fun h h2 h3 => grn_range (l := p.places) (ah := ah) (x := x) h h2 h3)
  have H4 := Lib.hid (fun h h2 h3 h4 => grn_there (l := p.places) (ah := ah) (x := x) h h2 h3 h4)
  have H5 := Lib.hid (fun h h2 h3 h4 => grn_ok (l := p.places) (ah := ah) (x := x) h h2 h3 h4)
  generalize Pl.grnCode p.places ah x = M at *
  generalize ah.any (Pl.grnSame x) = AN at *
  obtain ⟨wk, gv, pl, sl, gr⟩ := p
  obtain ⟨xf, xt, xb⟩ := x
  simp only [polV, grnV] at *
  try simp only at HH HU HW HC H1 H2 H3 H4 H5
  have HS0 := Lib.hid (GSt.new (l := pl) (ah := ah) xf xt xb (.int .i64 wk) (.int .i64 gv) (.slice pa pl.length pc) (.slice sa sl.length sc) (.slice ga gr.length gc) hp ha)
  clear hp ha
  have HHF := Lib.hid (HH.out xf)
  have HHT := Lib.hid (HH.out xt)
  have HUU := Lib.hid (fun W h1 h2 h3 => HU.out xf xt W h1 h2 h3)
  clear HH HU
  generalize Pl.under pl xf xt = U at *
  generalize Pl.within xb 0 16 = WI at *
  cases hf : Pl.has pl.length xf with
  | false =>
    have HM := Lib.hid (H1.out (by rw [hf]; rfl))
    rw [hf] at HHF
    clear hf HUU
    go_enter Tryz.func73, Tryz.ntmps73
    go_wp2_with fail
    with_reducible refine (HHF.out _).mono ?_
    rintro e w1 ⟨rfl, hB⟩
    have HS1 := Lib.hid (HS0.out.on hB)
    clear hB
    go_wp2_with fail
    go_ret
    exact ⟨ret_nat (by rw [HM.out]; rfl), HS1.out.below⟩
  | true =>
    rw [hf] at HHF
    cases ht : Pl.has pl.length xt with
    | false =>
      have HM := Lib.hid (H1.out (by rw [ht, Bool.and_false]))
      rw [ht] at HHT
      clear hf HUU ht
      go_enter Tryz.func73, Tryz.ntmps73
      go_wp2_with fail
      with_reducible refine (HHF.out _).mono ?_
      rintro e w1 ⟨rfl, hB⟩
      have HS1 := Lib.hid (HS0.out.on hB)
      clear hB
      obtain ⟨p0, p1, p2, p3, p4⟩ := HS1.out.box
      obtain ⟨q0, q1, q2⟩ := HS1.out.gr
      go_wp2_with fail
      with_reducible refine (HHT.out _).mono ?_
      rintro e w2 ⟨rfl, hB⟩
      have HS2 := Lib.hid (HS1.out.on hB)
      clear hB
      go_wp2_with fail
      go_ret
      exact ⟨ret_nat (by rw [HM.out]; rfl), HS2.out.below⟩
    | true =>
      rw [ht] at HHT
      have hft : (Pl.has pl.length xf && Pl.has pl.length xt) = true := by rw [hf, ht]; rfl
      have H2 := Lib.hid (H2.out hft)
      have H3 := Lib.hid (H3.out hft)
      have H4 := Lib.hid (H4.out hft)
      have H5 := Lib.hid (H5.out hft)
      have HUU := Lib.hid (fun W h => HUU.out W h hf ht)
      clear hf ht hft H1
      go_enter Tryz.func73, Tryz.ntmps73
      go_wp2_with fail
      with_reducible refine (HHF.out _).mono ?_
      rintro e w1 ⟨rfl, hB⟩
      have HS1 := Lib.hid (HS0.out.on hB)
      clear hB
      obtain ⟨p0, p1, p2, p3, p4⟩ := HS1.out.box
      obtain ⟨q0, q1, q2⟩ := HS1.out.gr
      go_wp2_with fail
      with_reducible refine (HHT.out _).mono ?_
      rintro e w2 ⟨rfl, hB⟩
      have HS2 := Lib.hid (HS1.out.on hB)
      clear hB p0 p1 p2 p3 p4 q0 q1 q2
      obtain ⟨p0, p1, p2, p3, p4⟩ := HS2.out.box
      obtain ⟨q0, q1, q2⟩ := HS2.out.gr
      go_wp2_with fail
      with_reducible refine (HUU.out _ HS2.out.pl).mono ?_
      rintro e w3 ⟨rfl, hB⟩
      have HS3 := Lib.hid (HS2.out.on hB)
      clear hB p0 p1 p2 p3 p4 q0 q1 q2
      obtain ⟨q0, q1, q2⟩ := HS3.out.gr
      cases U with
      | true =>
        have HM := Lib.hid (H2.out rfl)
        go_wp2_with fail
        go_ret
        exact ⟨ret_nat (by rw [HM.out]; rfl), HS3.out.below⟩
      | false =>
        go_wp2_with fail
        with_reducible refine (HW.out _).mono ?_
        rintro e w' ⟨rfl, rfl⟩
        cases WI with
        | false =>
          have HM := Lib.hid (H3.out (by simp) (by simp))
          go_wp2_with fail
          go_ret
          exact ⟨ret_nat (by rw [HM.out]; rfl), HS3.out.below⟩
        | true =>
          go_wp2_with fail
          with_reducible refine (HC.out _ HS3.out.ah).mono ?_
          rintro e w4 ⟨rfl, hB⟩
          have HS4 := Lib.hid (HS3.out.on hB)
          clear hB q0 q1 q2
          cases AN with
          | true =>
            have HM := Lib.hid (H4.out (by simp) (by simp) (by simp))
            go_wp2_with fail
            go_ret
            exact ⟨ret_nat (by rw [HM.out]; rfl), HS4.out.below⟩
          | false =>
            have HM := Lib.hid (H5.out (by simp) (by simp) (by simp))
            go_wp2_with fail
            go_ret
            exact ⟨ret_nat (by rw [HM.out]; rfl), HS4.out.below⟩
def ChkGr (l : List Pl.Plc) (g : List Pl.Grn) (w : World) (x0 x1 x2 x3 x4 : Value) (gk : Nat) (i : Value) (wr : World) : Prop :=
  ∃ k : Nat, k + gk = g.length ∧ i = .int .i64 (k : Int) ∧ (∀ j, j < k → Pl.grnCode l (g.take j) (Pl.grn g j) = 0) ∧ Below w.heap.size w wr ∧ Cell5 wr w.heap.size x0 x1 x2 x3 x4
theorem grn_call (p : Pl.Pol) (pa : Option Addr) (pc : Nat) (sa : Option Addr) (sc : Nat) (ga : Option Addr) (gc k : Nat) (hk : k < p.grants.length) (hl : p.places.length ≤ 100000) (hg : p.grants.length ≤ 100000) (W : World) (hp : Plcs W pa p.places) (ha : Grns W ga p.grants) :
    Calls Tryz.prog 73 #[polV p pa pc sa sc ga gc, grnV (Pl.grn p.grants k), .slice ga k gc] W fun e w' => e = .returned (.int .i64 (Pl.grnCode p.places (p.grants.take k) (Pl.grn p.grants k) : Int)) ∧ Below W.heap.size W w' := by
  have h := checkGrant_any p pa pc sa sc ga gc (Pl.grn p.grants k) (p.grants.take k) ga gc W hl (by rw [List.length_take]; omega) hp (ha.take k)
  have e : (List.take k p.grants).length = k := by rw [List.length_take]; omega
  rw [e] at h
  exact h
set_option maxRecDepth 100000 in
set_option maxHeartbeats 4000000 in
theorem checkGrants_any (p : Pl.Pol) (pa : Option Addr) (pc : Nat) (sa : Option Addr) (sc : Nat) (ga : Option Addr) (gc : Nat) (w : World) (hl : p.places.length ≤ 100000) (hg : p.grants.length ≤ 100000) (hgc : p.grants.length ≤ gc) (hp : Plcs w pa p.places) (ha : Grns w ga p.grants) :
    Calls Tryz.prog 46 #[polV p pa pc sa sc ga gc] w fun e w' => e = .returned (.int .i64 (Pl.grantsCode p.places p.grants : Int)) ∧ Below w.heap.size w w' := by
  have HP := Lib.hid hp
  have HG := Lib.hid ha
  clear hp ha
  have HX : Hid (Pl.grantsCode p.places p.grants = if 8 < p.grants.length then 6 else Pl.scan (fun i => Pl.grnCode p.places (p.grants.take i) (Pl.grn p.grants i)) p.grants.length) := rfl
  have HCALL := Lib.hid (fun k hk W h1 h2 => grn_call p pa pc sa sc ga gc k hk hl hg W h1 h2)
  obtain ⟨wk, gv, pl, sl, l⟩ := p
  simp only [polV] at *
  try simp only at HX HP HG HCALL
  have HSC0 := Lib.hid (fun h => Pl.scan_zero (f := fun i => Pl.grnCode pl (l.take i) (Pl.grn l i)) (n := l.length) h)
  have HSC1 := Lib.hid (fun k hk h hf => Pl.scan_at (f := fun i => Pl.grnCode pl (l.take i) (Pl.grn l i)) (n := l.length) (k := k) hk h hf)
  generalize Pl.grantsCode pl l = M at *
  generalize Pl.scan _ l.length = S at *
  have HB0 := Lib.hid (show Below w.heap.size w (w.alloc (.cells #[.int .i64 wk, .int .i64 gv, .slice pa pl.length pc, .slice sa sl.length sc, .slice ga l.length gc] 26)) from (Below.refl _ _).alloc (Nat.le_refl _) _)
  have HC0 := Lib.hid (Cell5.new w (.int .i64 wk) (.int .i64 gv) (.slice pa pl.length pc) (.slice sa sl.length sc) (.slice ga l.length gc) 26)
  obtain ⟨n, hn⟩ : ∃ n, n = l.length := ⟨_, rfl⟩
  rw [← hn] at HB0 HC0 hg hgc HX HCALL ⊢
  have HN := Lib.hid hn
  clear hn
  by_cases h8 : 8 < n
  · have HM := Lib.hid (show M = 6 by rw [HX.out, if_pos h8])
    go_enter Tryz.func46, Tryz.ntmps46
    go_wp2_with fail
    go_ret
    exact ⟨ret_nat (by rw [HM.out]; rfl), HB0.out⟩
  · have HM := Lib.hid (show M = S by rw [HX.out, if_neg h8])
    go_enter Tryz.func46, Tryz.ntmps46
    go_wp2_with fail
    go_loopg [13] n (fun g i wr => ChkGr pl l w (.int .i64 wk) (.int .i64 gv) (.slice pa pl.length pc) (.slice sa sl.length sc) (.slice ga n gc) g i wr)
    case atStart => exact ⟨0, by have := HN.out; omega, rfl, fun j hj => absurd hj (by omega), HB0.out, HC0.out⟩
    case round =>
      obtain ⟨k, hk, rfl, hno, hB, hC⟩ := hrel
      have HB := Lib.hid hB
      have HNO := Lib.hid hno
      have HKK := Lib.hid hk
      have HC := Lib.hid hC
      clear hB hno hk hC
      by_cases hlt : k < n
      · have hkl : k < l.length := by have := HN.out; omega
        obtain ⟨b, off, rfl, hbl, hat⟩ := (HG.out.on HB.out).at_ k hkl
        have HPR := Lib.hid (HP.out.on HB.out)
        have HGR := Lib.hid (HG.out.on HB.out)
        have HCALL := Lib.hid (fun W h1 h2 => HCALL.out k hlt W h1 h2)
        have HQ : Hid (∀ h, Pl.grnCode pl (l.take k) (Pl.grn l k) ≠ 0 → S = Pl.grnCode pl (l.take k) (Pl.grn l k)) := fun h hq => HSC1.out k hkl h hq
        have HNX : Hid (Pl.grnCode pl (l.take k) (Pl.grn l k) = 0 → ∀ j, j < k + 1 → Pl.grnCode pl (l.take j) (Pl.grn l j) = 0) := fun h j hj => by
          by_cases e : j = k
          · rw [e]; exact h
          · exact HNO.out j (by omega)
        have HBX := Lib.hid (GrnAt.box (Pl.grn l k) wr)
        generalize Pl.grnCode pl (l.take k) (Pl.grn l k) = D at *
        generalize Pl.grn l k = x at *
        obtain ⟨xf, xt, xb⟩ := x
        obtain ⟨c0, c1, c2⟩ := hat
        simp only [grnV] at HCALL c0 c1 c2
        try simp only at HBX
        have hkc : k ≤ gc := by omega
        have hcb := HC.out.lt
        obtain ⟨p0, p1, p2, p3, p4⟩ := HC.out
        clear hkl
        go_wp2_with fail
        refine region_tail 6 (by kernel_rfl) (by kernel_rfl) ?_
        simp only [List.take_succ_cons, List.take_zero, List.drop_succ_cons, List.drop_zero]
        obtain ⟨y0, y1, y2⟩ := HBX.out
        repeat still_step
        refine wpStill_nil ?_
        go_wp2_with fail
        have HS0 := Lib.hid (((Below.refl wr.heap.size wr).alloc (Nat.le_refl _) (.cells #[.int .i64 xf, .int .i64 xt, .int .i64 xb] 75)).drew)
        with_reducible refine (HCALL.out _ (HPR.out.on HS0.out) (HGR.out.on HS0.out)).mono ?_
        rintro e w1 ⟨rfl, hB⟩
        have HB1 := Lib.hid (bthen (bthen HB.out HS0.out (Nat.le_refl _)) hB (Nat.le_refl _))
        have HC1 := Lib.hid ((HC.out.on HS0.out).on hB)
        clear hB p0 p1 p2 p3 p4 hcb y0 y1 y2
        by_cases hD : D = 0
        · have hne2 := isz hD
          have HNX := Lib.hid (HNX.out hD)
          clear hD
          go_wp2_with fail
          go_roundg (gk - 1)
          case rel => exact ⟨k + 1, by have := HKK.out; have := HN.out; omega, by go_num, HNX.out, HB1.out, HC1.out⟩
          case measure => have := HKK.out; have := HN.out; omega
        · have hne2 := nz hD
          have HE := Lib.hid (HQ.out HNO.out hD)
          clear hD
          go_wp2_with fail
          go_ret
          exact ⟨ret_nat (by rw [HM.out, HE.out]), HB1.out⟩
      · have HE := Lib.hid (HSC0.out (fun i hi => HNO.out i (by have := HN.out; have := HKK.out; omega)))
        go_wp2_with fail
        go_ret
        exact ⟨ret_nat (by rw [HM.out, HE.out]; rfl), HB.out⟩
end Go.Proofs.YtokljdaofjgihaaGreatDoor
