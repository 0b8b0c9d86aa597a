/-
  MAY A POLICY BE, by the document: its places, walked.
-/
import Derived.Test.YtokljdaofjgihaaGreatDoorLawC
namespace Go.Proofs.YtokljdaofjgihaaGreatDoor
open Go.ChangeShapes Go.WideShapes Go.ChangeAt Go.RowKit

theorem int_beq_comm (a b : Int) : (a == b) = (b == a) := by rw [Bool.eq_iff_iff]; simp only [beq_iff_eq]; exact eq_comm

theorem chk_pl {p : Pl.Pol} (h1 : Pl.within p.work 1 16 = true) (h2 : Pl.within p.give 1 16 = true) (h : Pl.placesCode p.places ≠ 0) : Pl.check p = Pl.placesCode p.places := by
  unfold Pl.check; rw [h1, h2]; simp only [Bool.and_self, if_true]; rw [if_pos h]
theorem chk_sl {p : Pl.Pol} (h1 : Pl.within p.work 1 16 = true) (h2 : Pl.within p.give 1 16 = true) (h0 : Pl.placesCode p.places = 0) (h : Pl.slotsCode p.places.length p.slots ≠ 0) : Pl.check p = Pl.slotsCode p.places.length p.slots := by
  unfold Pl.check; rw [h1, h2]; simp only [Bool.and_self, if_true]; rw [if_neg (by rw [h0]; simp), if_pos h]
theorem chk_gr {p : Pl.Pol} (h1 : Pl.within p.work 1 16 = true) (h2 : Pl.within p.give 1 16 = true) (h0 : Pl.placesCode p.places = 0) (h3 : Pl.slotsCode p.places.length p.slots = 0) (h : Pl.grantsCode p.places p.grants ≠ 0) : Pl.check p = Pl.grantsCode p.places p.grants := by
  unfold Pl.check; rw [h1, h2]; simp only [Bool.and_self, if_true]; rw [if_neg (by rw [h0]; simp), if_neg (by rw [h3]; simp), if_pos h]
theorem chk_tu {p : Pl.Pol} (h1 : Pl.within p.work 1 16 = true) (h2 : Pl.within p.give 1 16 = true) (h0 : Pl.placesCode p.places = 0) (h3 : Pl.slotsCode p.places.length p.slots = 0) (h4 : Pl.grantsCode p.places p.grants = 0) : Pl.check p = Pl.turnsCode p.places.length p.slots := by
  unfold Pl.check; rw [h1, h2]; simp only [Bool.and_self, if_true]; rw [if_neg (by rw [h0]; simp), if_neg (by rw [h3]; simp), if_neg (by rw [h4]; simp)]
theorem pl_count0 {l : List Pl.Plc} (h : l.length = 0) : Pl.placesCode l = 15 := by unfold Pl.placesCode Pl.counted; rw [if_pos h]; rfl
theorem pl_many {l : List Pl.Plc} (h : 16 < l.length) : Pl.placesCode l = 6 := by
  have e : Pl.counted l.length 16 = 6 := by unfold Pl.counted; rw [if_neg (by omega), if_pos h]
  unfold Pl.placesCode; rw [e]; rfl
theorem pl_scan {l : List Pl.Plc} (h : l.length ≠ 0) (h2 : l.length ≤ 16) : Pl.placesCode l = Pl.scan (fun i => Pl.plcCode (l.take i) (Pl.plc l i)) l.length := by
  have e : Pl.counted l.length 16 = 0 := by unfold Pl.counted; rw [if_neg h, if_neg (by omega)]
  unfold Pl.placesCode; rw [e]; rfl
theorem any_take {l : List Pl.Plc} {k : Nat} (hk : k ≤ l.length) {q : Pl.Plc → Bool} (h : ∀ j, j < k → q (Pl.plc l j) = false) : (l.take k).any q = false := by
  rw [List.any_eq_false]
  intro x hx
  obtain ⟨i, hi, rfl⟩ := List.getElem_of_mem hx
  rw [List.length_take] at hi
  have := h i (by omega)
  rw [plc_get l i (by omega)] at this
  rw [List.getElem_take, this]; simp
theorem any_at {l : List Pl.Plc} {k m : Nat} (hk : k ≤ l.length) (hm : m < k) {q : Pl.Plc → Bool} (h : q (Pl.plc l m) = true) : (l.take k).any q = true := by
  rw [List.any_eq_true]
  refine ⟨l[m]'(by omega), ?_, by rw [← plc_get l m (by omega)]; exact h⟩
  rw [List.mem_take_iff_getElem]
  exact ⟨m, by omega, rfl⟩
theorem fine_not {x : Pl.Plc} (h : Pl.plcFine x = false) : 15 < x.lv ∨ (x.lv ≤ 15 ∧ x.bytes < 0) ∨ (x.lv ≤ 15 ∧ 0 ≤ x.bytes ∧ 65536 < x.bytes) ∨ (x.lv ≤ 15 ∧ 0 ≤ x.bytes ∧ x.bytes ≤ 65536 ∧ x.base = 0) := by
  unfold Pl.plcFine Pl.within at h
  by_cases h1 : x.lv ≤ 15
  · by_cases h2 : 0 ≤ x.bytes
    · by_cases h3 : x.bytes ≤ 65536
      · by_cases h4 : x.base = 0
        · exact Or.inr (Or.inr (Or.inr ⟨h1, h2, h3, h4⟩))
        · simp [h1, h2, h3, h4] at h
      · exact Or.inr (Or.inr (Or.inl ⟨h1, h2, by omega⟩))
    · exact Or.inr (Or.inl ⟨h1, by omega⟩)
  · exact Or.inl (by omega)
theorem fine_yes {x : Pl.Plc} (h : Pl.plcFine x = true) : x.lv ≤ 15 ∧ 0 ≤ x.bytes ∧ x.bytes ≤ 65536 ∧ x.base ≠ 0 := by
  unfold Pl.plcFine Pl.within at h
  simp only [Bool.and_eq_true, decide_eq_true_eq] at h
  exact ⟨h.1.1, h.1.2.1, h.1.2.2, h.2⟩
theorem sl_count0 {n : Nat} {l : List Int} (h : l.length = 0) : Pl.slotsCode n l = 15 := by unfold Pl.slotsCode Pl.counted; rw [if_pos h]; rfl
theorem sl_many {n : Nat} {l : List Int} (h : 32 < l.length) : Pl.slotsCode n l = 6 := by
  have e : Pl.counted l.length 32 = 6 := by unfold Pl.counted; rw [if_neg (by omega), if_pos h]
  unfold Pl.slotsCode; rw [e]; rfl
theorem sl_scan {n : Nat} {l : List Int} (h : l.length ≠ 0) (h2 : l.length ≤ 32) : Pl.slotsCode n l = Pl.scan (fun i => if Pl.has n (l.getD i 0) then 0 else 10) l.length := by
  have e : Pl.counted l.length 32 = 0 := by unfold Pl.counted; rw [if_neg h, if_neg (by omega)]
  unfold Pl.slotsCode; rw [e]; rfl
theorem gr_many {l : List Pl.Plc} {g : List Pl.Grn} (h : 8 < g.length) : Pl.grantsCode l g = 6 := by unfold Pl.grantsCode; rw [if_pos h]
theorem gr_scan {l : List Pl.Plc} {g : List Pl.Grn} (h : ¬ 8 < g.length) : Pl.grantsCode l g = Pl.scan (fun i => Pl.grnCode l (g.take i) (Pl.grn g i)) g.length := by unfold Pl.grantsCode; rw [if_neg h]
theorem has_not {n : Nat} {x : Int} (h : Pl.has n x = false) : x < 0 ∨ (0 ≤ x ∧ (n : Int) ≤ x) := by
  by_cases h1 : 0 ≤ x
  · right
    refine ⟨h1, ?_⟩
    rcases Int.lt_or_le x n with h2 | h2
    · rw [show Pl.has n x = true from Pl.within_iff.2 ⟨h1, by omega⟩] at h; cases h
    · exact h2
  · left; omega
theorem grn_any_take {l : List Pl.Grn} {k : Nat} (hk : k ≤ l.length) {q : Pl.Grn → Bool} (h : ∀ j, j < k → q (Pl.grn l j) = false) : (l.take k).any q = false := by
  rw [List.any_eq_false]
  intro x hx
  obtain ⟨i, hi, rfl⟩ := List.getElem_of_mem hx
  rw [List.length_take] at hi
  have := h i (by omega)
  rw [grn_get l i (by omega)] at this
  rw [List.getElem_take, this]; simp
theorem grn_any_at {l : List Pl.Grn} {k m : Nat} (hk : k ≤ l.length) (hm : m < k) {q : Pl.Grn → Bool} (h : q (Pl.grn l m) = true) : (l.take k).any q = true := by
  rw [List.any_eq_true]
  refine ⟨l[m]'(by omega), ?_, by rw [← grn_get l m (by omega)]; exact h⟩
  rw [List.mem_take_iff_getElem]
  exact ⟨m, by omega, rfl⟩
theorem cont_take (l : List Int) (m : Nat) (h : m < l.length) (x : Int) : (l.take (m + 1)).contains x = ((l.take m).contains x || l.getD m 0 == x) := by
  rw [List.take_succ_eq_append_getElem h, List.getD_eq_getElem?_getD, List.getElem?_eq_getElem h]
  rw [Bool.eq_iff_iff]
  simp only [List.contains_iff_mem, Bool.or_eq_true, beq_iff_eq, List.mem_append, List.mem_singleton, Option.getD_some]
  constructor
  · rintro (h | h)
    · exact Or.inl h
    · exact Or.inr h.symm
  · rintro (h | h)
    · exact Or.inl h
    · exact Or.inr h.symm
/-- the state of the document's Check -/
structure RSt0 (w wr : World) (x0 x1 x2 x3 x4 : Value) : Prop where
  bel : Below w.heap.size w wr
  box : Cell5 wr w.heap.size x0 x1 x2 x3 x4
theorem RSt0.on {w wr W : World} {x0 x1 x2 x3 x4 : Value} (h : RSt0 w wr x0 x1 x2 x3 x4) (hb : Below wr.heap.size wr W) : RSt0 w W x0 x1 x2 x3 x4 := ⟨bthen h.bel hb (Nat.le_refl _), h.box.on hb⟩
def RC1 (l : List Pl.Plc) (w : World) (x0 x1 x2 x3 x4 : Value) (g : Nat) (i : Value) (wr : World) : Prop :=
  ∃ k : Nat, k + g = l.length ∧ i = .int .i64 (k : Int) ∧ (∀ j, j < k → Pl.plcCode (l.take j) (Pl.plc l j) = 0) ∧ RSt0 w wr x0 x1 x2 x3 x4
def RC2 (l : List Pl.Plc) (x : Pl.Plc) (k q : Nat) (w : World) (x0 x1 x2 x3 x4 : Value) (g : Nat) (i : Value) (wr : World) : Prop :=
  ∃ m : Nat, m + g = k ∧ i = .int .i64 (m : Int) ∧ (∀ j, j < m → Pl.plcSame x (Pl.plc l j) = false) ∧ RSt0 w wr x0 x1 x2 x3 x4 ∧ PlcAt wr q 0 x ∧ q < wr.heap.size
def RC3 (n : Nat) (l : List Int) (w : World) (x0 x1 x2 x3 x4 : Value) (g : Nat) (i : Value) (wr : World) : Prop :=
  ∃ k : Nat, k + g = l.length ∧ i = .int .i64 (k : Int) ∧ (∀ j, j < k → (if Pl.has n (l.getD j 0) then 0 else 10) = 0) ∧ RSt0 w wr x0 x1 x2 x3 x4
def RC4 (l : List Pl.Plc) (gr : List Pl.Grn) (w : World) (x0 x1 x2 x3 x4 : Value) (g : Nat) (i : Value) (wr : World) : Prop :=
  ∃ k : Nat, k + g = gr.length ∧ i = .int .i64 (k : Int) ∧ (∀ j, j < k → Pl.grnCode l (gr.take j) (Pl.grn gr j) = 0) ∧ RSt0 w wr x0 x1 x2 x3 x4
def RC5 (gr : List Pl.Grn) (x : Pl.Grn) (k q : Nat) (w : World) (x0 x1 x2 x3 x4 : Value) (g : Nat) (i : Value) (wr : World) : Prop :=
  ∃ m : Nat, m + g = k ∧ i = .int .i64 (m : Int) ∧ (∀ j, j < m → Pl.grnSame x (Pl.grn gr j) = false) ∧ RSt0 w wr x0 x1 x2 x3 x4 ∧ GrnAt wr q 0 x ∧ q < wr.heap.size
def RC6 (n : Nat) (l : List Int) (w : World) (x0 x1 x2 x3 x4 : Value) (g : Nat) (i : Value) (wr : World) : Prop :=
  ∃ k : Nat, k + g = n ∧ i = .int .i64 (k : Int) ∧ (∀ j : Nat, j < k → (if l.contains (j : Int) then 0 else 15) = 0) ∧ RSt0 w wr x0 x1 x2 x3 x4
def RC7 (l : List Int) (k : Nat) (w : World) (x0 x1 x2 x3 x4 : Value) (g : Nat) (h i : Value) (wr : World) : Prop :=
  ∃ m : Nat, m + g = l.length ∧ i = .int .i64 (m : Int) ∧ h = .bool ((l.take m).contains (k : Int)) ∧ RSt0 w wr x0 x1 x2 x3 x4
set_option maxRecDepth 100000 in
set_option maxHeartbeats 32000000 in
theorem rcheck_any (p : Pl.Pol) (pa : Option Addr) (pc : Nat) (sa : Option Addr) (sc : Nat) (ga : Option Addr) (gc : Nat) (w : World) (hp : PolIs w p pa pc sa sc ga gc) :
    Calls Tryz.prog 12 #[polV p pa pc sa sc ga gc] w fun e w' => e = .returned (.int .i64 (Pl.check p : Int)) ∧ Below w.heap.size w w' := by
  have HP := Lib.hid hp
  have hnp := hp.npl
  have hns := hp.nsl
  have hng := hp.ngr
  have hcp := hp.cpl
  have hcg := hp.cgr
  clear hp
  have H7 := Lib.hid (fun h => check_range (p := p) h)
  have M1 := Lib.hid (fun h1 h2 h => chk_pl (p := p) h1 h2 h)
  have M2 := Lib.hid (fun h1 h2 h0 h => chk_sl (p := p) h1 h2 h0 h)
  have M3 := Lib.hid (fun h1 h2 h0 h3 h => chk_gr (p := p) h1 h2 h0 h3 h)
  have M4 := Lib.hid (fun h1 h2 h0 h3 h4 => chk_tu (p := p) h1 h2 h0 h3 h4)
  generalize Pl.check p = M at *
  have hgd := guard24
  obtain ⟨wk, gv, pl, sl, gr⟩ := p
  simp only [polV] at *
  have HST := Lib.hid (show RSt0 w (w.alloc (.cells #[.int .i64 wk, .int .i64 gv, .slice pa pl.length pc, .slice sa sl.length sc, .slice ga gr.length gc] 32)) (.int .i64 wk) (.int .i64 gv) (.slice pa pl.length pc) (.slice sa sl.length sc) (.slice ga gr.length gc) from ⟨(Below.refl _ _).alloc (Nat.le_refl _) _, Cell5.new w _ _ _ _ _ 32⟩)
  by_cases hw : 1 ≤ wk ∧ wk ≤ 16 ∧ 1 ≤ gv ∧ gv ≤ 16
  · obtain ⟨w1, w2, g1, g2⟩ := hw
    have hwt : Pl.within wk 1 16 = true := Pl.within_iff.2 ⟨w1, w2⟩
    have hgt : Pl.within gv 1 16 = true := Pl.within_iff.2 ⟨g1, g2⟩
    have M1 := Lib.hid (M1.out hwt hgt)
    have M2 := Lib.hid (M2.out hwt hgt)
    have M3 := Lib.hid (M3.out hwt hgt)
    have M4 := Lib.hid (M4.out hwt hgt)
    clear hwt hgt H7
    by_cases hn0 : pl.length = 0
    · have HM := Lib.hid (show M = 15 by have := M1.out (by rw [pl_count0 hn0]; simp); rw [this, pl_count0 hn0])
      have hne0 : ((pl.length : Int) == 0) = true := by rw [hn0]; rfl
      clear hn0
      go_enter Tryz.func12, Tryz.ntmps12
      go_wp2_with fail
      go_ret
      exact ⟨ret_nat (by rw [HM.out]; rfl), HST.out.bel⟩
    · by_cases hn16 : 16 < pl.length
      · have HM := Lib.hid (show M = 6 by have := M1.out (by rw [pl_many hn16]; simp); rw [this, pl_many hn16])
        have hne0 : ((pl.length : Int) == 0) = false := beq_eq_false_iff_ne.2 (by omega)
        clear hn0
        go_enter Tryz.func12, Tryz.ntmps12
        go_wp2_with fail
        go_ret
        exact ⟨ret_nat (by rw [HM.out]; rfl), HST.out.bel⟩
      · have HPS := Lib.hid (pl_scan hn0 (by omega))
        have HSC0 := Lib.hid (fun h => Pl.scan_zero (f := fun i => Pl.plcCode (pl.take i) (Pl.plc pl i)) (n := pl.length) h)
        have HSC1 := Lib.hid (fun k hk h hf => Pl.scan_at (f := fun i => Pl.plcCode (pl.take i) (Pl.plc pl i)) (n := pl.length) (k := k) hk h hf)
        have hne0 : ((pl.length : Int) == 0) = false := beq_eq_false_iff_ne.2 (by omega)
        clear hn0
        go_enter Tryz.func12, Tryz.ntmps12
        go_wp2_with fail
        go_loopg [47] pl.length (fun g i wr => RC1 pl w (.int .i64 wk) (.int .i64 gv) (.slice pa pl.length pc) (.slice sa sl.length sc) (.slice ga gr.length gc) g i wr)
        case atStart => exact ⟨0, by omega, rfl, fun j hj => absurd hj (by omega), HST.out⟩
        case round =>
          obtain ⟨k, hk, rfl, hno, hS⟩ := hrel
          have HS := Lib.hid hS
          have HNO := Lib.hid hno
          have HK := Lib.hid hk
          obtain ⟨g0, hg0⟩ : ∃ g0, g0 = gk := ⟨_, rfl⟩
          have HG0 := Lib.hid hg0
          clear hS hno hk hg0
          by_cases hlt : k < pl.length
          · obtain ⟨b, off, e0, hbl, hft, hat⟩ := (HP.out.on HS.out.bel).pl.at_ k hlt
            try simp only at e0
            subst e0
            have HBAD : Hid (Pl.plcCode (pl.take k) (Pl.plc pl k) ≠ 0 → M = Pl.plcCode (pl.take k) (Pl.plc pl k)) := fun h => by
              have e := HSC1.out k hlt HNO.out h
              rw [M1.out (by rw [HPS.out, e]; exact h), HPS.out, e]
            have HNX : Hid (Pl.plcCode (pl.take k) (Pl.plc pl k) = 0 → ∀ j, j < k + 1 → Pl.plcCode (pl.take j) (Pl.plc pl j) = 0) := fun h j hj => by
              by_cases e : j = k
              · rw [e]; exact h
              · exact HNO.out j (by omega)
            have HNM := Lib.hid (fun W => rname_any (Pl.plc pl k).name W hft.name)
            have HBX := Lib.hid (PlcAt.box (Pl.plc pl k) wr)
            have P1 := Lib.hid (fun h => plc_name (ahead := pl.take k) (x := Pl.plc pl k) h)
            have P2 := Lib.hid (fun h h2 => plc_range (ahead := pl.take k) (x := Pl.plc pl k) h h2)
            have P3 := Lib.hid (fun h h2 h3 => plc_there (ahead := pl.take k) (x := Pl.plc pl k) h h2 h3)
            have P4 := Lib.hid (fun h h2 h3 => plc_ok (ahead := pl.take k) (x := Pl.plc pl k) h h2 h3)
            have HAT := Lib.hid (fun m (hm : m < k) h => any_at (l := pl) (k := k) (m := m) (by omega) hm (q := Pl.plcSame (Pl.plc pl k)) h)
            have HAF := Lib.hid (fun h => any_take (l := pl) (k := k) (by omega) (q := Pl.plcSame (Pl.plc pl k)) h)
            have HFN := Lib.hid (fun h => fine_not (x := Pl.plc pl k) h)
            have HFY := Lib.hid (fun h => fine_yes (x := Pl.plc pl k) h)
            obtain ⟨c0, c1, c2, c3, c4⟩ := hat
            have hkc : k ≤ pc := by omega
            clear hft
            generalize Pl.plcCode (pl.take k) (Pl.plc pl k) = D at *
            generalize (pl.take k).any (Pl.plcSame (Pl.plc pl k)) = AN at *
            generalize Pl.plcFine (Pl.plc pl k) = FI at *
            generalize Wrd.nameCode (Pl.plc pl k).name = NC at *
            generalize Pl.plc pl k = x at *
            obtain ⟨xn, xl, xs, xb, xa⟩ := x
            try simp only at c0 c1 c2 c3 c4 HNM HFN HFY
            by_cases hN : NC = 0
            · have hne := isz hN
              have hne2 : ((NC : Int) != 0) = false := hne
              have P2 := Lib.hid (P2.out hN)
              have P3 := Lib.hid (P3.out hN)
              have P4 := Lib.hid (P4.out hN)
              clear hN P1
              obtain ⟨z0, z1, z2, z3, z4⟩ := HBX.out
              obtain ⟨q0, q1, q2, q3, q4⟩ := HS.out.box
              have hbx := HS.out.box.lt
              cases hF : FI with
              | false =>
                have HM := Lib.hid (show M = 7 by rw [HBAD.out (by rw [P2.out hF]; simp), P2.out hF])
                have HB1 := Lib.hid (HS.out.on (show Below wr.heap.size wr (wr.alloc (.cells #[.string (ofL xn), .int .u8 (xl : Int), .int .u32 (xs : Int), .int .i64 xb, .int .u64 (xa : Int)] 73)) from (Below.refl _ _).alloc (Nat.le_refl _) _))
                rcases HFN.out hF with f1 | ⟨f1, f2⟩ | ⟨f1, f2, f3⟩ | ⟨f1, f2, f3, f4⟩
                · go_wp2_with fail
                  (with_reducible refine (HNM.out _).mono ?_)
                  rintro e w' ⟨rfl, rfl⟩
                  go_wp2_with fail
                  go_ret
                  exact ⟨ret_nat (by rw [HM.out]; rfl), HB1.out.bel⟩
                · go_wp2_with fail
                  (with_reducible refine (HNM.out _).mono ?_)
                  rintro e w' ⟨rfl, rfl⟩
                  go_wp2_with fail
                  go_ret
                  exact ⟨ret_nat (by rw [HM.out]; rfl), HB1.out.bel⟩
                · go_wp2_with fail
                  (with_reducible refine (HNM.out _).mono ?_)
                  rintro e w' ⟨rfl, rfl⟩
                  go_wp2_with fail
                  go_ret
                  exact ⟨ret_nat (by rw [HM.out]; rfl), HB1.out.bel⟩
                · have hz : ((xa : Int) == 0) = true := by subst f4; rfl
                  clear f4
                  go_wp2_with fail
                  (with_reducible refine (HNM.out _).mono ?_)
                  rintro e w' ⟨rfl, rfl⟩
                  go_wp2_with fail
                  go_ret
                  exact ⟨ret_nat (by rw [HM.out]; rfl), HB1.out.bel⟩
              | true =>
                obtain ⟨f1, f2, f3, f4⟩ := HFY.out hF
                have hz : ((xa : Int) == 0) = false := beq_eq_false_iff_ne.2 (by omega)
                have P3 := Lib.hid (P3.out hF)
                have P4 := Lib.hid (P4.out hF)
                clear f4 hF P2
                obtain ⟨w5, h5⟩ : ∃ w5, w5 = wr := ⟨_, rfl⟩
                subst h5
                have HS1 := Lib.hid (HS.out.on (show Below w5.heap.size w5 (w5.alloc (.cells #[.string (ofL xn), .int .u8 (xl : Int), .int .u32 (xs : Int), .int .i64 xb, .int .u64 (xa : Int)] 73)) from (Below.refl _ _).alloc (Nat.le_refl _) _))
                have HQX := Lib.hid (show PlcAt (w5.alloc (.cells #[.string (ofL xn), .int .u8 (xl : Int), .int .u32 (xs : Int), .int .i64 xb, .int .u64 (xa : Int)] 73)) w5.heap.size 0 ⟨xn, xl, xs, xb, xa⟩ by constructor <;> simp)
                go_wp2_with fail
                (with_reducible refine (HNM.out _).mono ?_)
                rintro e w' ⟨rfl, rfl⟩
                go_wp2_with fail
                go_loopg [82] k (fun g i wx => RC2 pl ⟨xn, xl, xs, xb, xa⟩ k w5.heap.size w (.int .i64 wk) (.int .i64 gv) (.slice (some ⟨b, off, none⟩) pl.length pc) (.slice sa sl.length sc) (.slice ga gr.length gc) g i wx)
                case atStart => exact ⟨0, by omega, rfl, fun j hj => absurd hj (by omega), HS1.out, HQX.out, by simp⟩
                case round =>
                  obtain ⟨m, hm, rfl, hno2, hS2, hX2, hq2⟩ := hrel
                  have HS2 := Lib.hid hS2
                  have HNO2 := Lib.hid hno2
                  have HMK := Lib.hid hm
                  have HX2 := Lib.hid hX2
                  have hsz2 := hS2.bel.size
                  clear hS2 hno2 hm hX2 c0 c1 c2 c3 c4 z0 z1 z2 z3 z4 q0 q1 q2 q3 q4 hbx
                  by_cases hlt2 : m < k
                  · obtain ⟨b', off', e1, hbl2, hft2, hat2⟩ := (HP.out.on HS2.out.bel).pl.at_ m (by simp only; omega)
                    obtain ⟨rfl, rfl⟩ : b = b' ∧ off = off' := by simpa using e1
                    clear e1 hft2
                    obtain ⟨c0, c1, c2, c3, c4⟩ := hat2
                    obtain ⟨z0, z1, z2, z3, z4⟩ := HX2.out
                    have HAM := Lib.hid (HAT.out m hlt2)
                    have HNX2 : Hid (Pl.plcSame ⟨xn, xl, xs, xb, xa⟩ (Pl.plc pl m) = false → ∀ j, j < m + 1 → Pl.plcSame ⟨xn, xl, xs, xb, xa⟩ (Pl.plc pl j) = false) := fun h j hj => by
                      by_cases e : j = m
                      · rw [e]; exact h
                      · exact HNO2.out j (by omega)
                    have HSB : Hid (Pl.plcSame ⟨xn, xl, xs, xb, xa⟩ (Pl.plc pl m) = ((Pl.plc pl m).name == xn || ((Pl.plc pl m).lv == xl && (Pl.plc pl m).set == xs))) := rfl
                    generalize Pl.plcSame ⟨xn, xl, xs, xb, xa⟩ (Pl.plc pl m) = SM at *
                    generalize Pl.plc pl m = y at *
                    obtain ⟨yn, yl, ys, yb, ya⟩ := y
                    try simp only at c0 c1 c2 c3 c4 HSB
                    have HAL := Lib.hid (show Below wr.heap.size wr (wr.alloc (.cells #[.string (ofL yn), .int .u8 (yl : Int), .int .u32 (ys : Int), .int .i64 yb, .int .u64 (ya : Int)] 73)) from (Below.refl _ _).alloc (Nat.le_refl _) _)
                    have HN := str_same yn xn
                    have HL := cast_beq yl xl
                    have HSS := cast_beq ys xs
                    have HG := fun W => lab_eql (yl : Int) ys xl xs W
                    rw [HL, HSS] at HG
                    clear HL HSS
                    cases hnn : yn == xn with
                    | true =>
                      have HM := Lib.hid (show M = 9 by
                        have h1 := HAM.out (by rw [HSB.out, hnn, Bool.true_or])
                        rw [HBAD.out (by rw [P3.out h1]; simp), P3.out h1])
                      rw [hnn] at HN
                      clear hnn
                      go_wp2_with fail
                      go_ret
                      exact ⟨ret_nat (by rw [HM.out]; rfl), bthen HS2.out.bel HAL.out (Nat.le_refl _)⟩
                    | false =>
                      rw [hnn] at HN
                      have HSB := Lib.hid (show SM = (yl == xl && ys == xs) by rw [HSB.out, hnn, Bool.false_or])
                      clear hnn
                      cases hll : (yl == xl && ys == xs) with
                      | true =>
                        have HM := Lib.hid (show M = 9 by
                          have h1 := HAM.out (by rw [HSB.out, hll])
                          rw [HBAD.out (by rw [P3.out h1]; simp), P3.out h1])
                        rw [hll] at HG
                        clear hll
                        go_wp2_with fail
                        go_ret
                        exact ⟨ret_nat (by rw [HM.out]; rfl), bthen HS2.out.bel HAL.out (Nat.le_refl _)⟩
                      | false =>
                        have HNX3 := Lib.hid (HNX2.out (by rw [HSB.out, hll]))
                        rw [hll] at HG
                        clear hll
                        go_wp2_with fail
                        go_roundg (gk - 1)
                        case rel => exact ⟨m + 1, by have := HMK.out; omega, by go_num, HNX3.out, HS2.out.on HAL.out, HX2.out.below HAL.out hq2, Nat.lt_of_lt_of_le hq2 HAL.out.size⟩
                        case measure => have := HMK.out; omega
                  · have HD := Lib.hid (HNX.out (P4.out (HAF.out (fun j hj => HNO2.out j (by have := HMK.out; omega)))))
                    go_wp2_with fail
                    go_roundg (g0 - 1)
                    case rel => exact ⟨k + 1, by have := HK.out; have := HG0.out; omega, by go_num, HD.out, HS2.out⟩
                    case measure => have := HK.out; have := HG0.out; omega
            · have hne := nz hN
              have HM := Lib.hid (show M = NC by rw [HBAD.out (by rw [P1.out hN]; exact hN), P1.out hN])
              have HB1 := Lib.hid (HS.out.on (show Below wr.heap.size wr (wr.alloc (.cells #[.string (ofL xn), .int .u8 (xl : Int), .int .u32 (xs : Int), .int .i64 xb, .int .u64 (xa : Int)] 73)) from (Below.refl _ _).alloc (Nat.le_refl _) _))
              clear hN
              go_wp2_with fail
              (with_reducible refine (HNM.out _).mono ?_)
              rintro e w' ⟨rfl, rfl⟩
              go_wp2_with fail
              go_ret
              exact ⟨ret_nat (by rw [HM.out]), HB1.out.bel⟩
          · have HP0 := Lib.hid (show Pl.placesCode pl = 0 by rw [HPS.out]; exact HSC0.out (fun i hi => HNO.out i (by have := HK.out; omega)))
            by_cases hs0 : sl.length = 0
            · have HM := Lib.hid (show M = 15 by have := M2.out HP0.out (by rw [sl_count0 hs0]; simp); rw [this, sl_count0 hs0])
              have hse : ((sl.length : Int) == 0) = true := by rw [hs0]; rfl
              obtain ⟨q0, q1, q2, q3, q4⟩ := HS.out.box
              clear hs0
              go_wp2_with fail
              go_ret
              exact ⟨ret_nat (by rw [HM.out]; rfl), HS.out.bel⟩
            · have hse : ((sl.length : Int) == 0) = false := beq_eq_false_iff_ne.2 (by omega)
              by_cases hs32 : 32 < sl.length
              · have HM := Lib.hid (show M = 6 by have := M2.out HP0.out (by rw [sl_many hs32]; simp); rw [this, sl_many hs32])
                obtain ⟨q0, q1, q2, q3, q4⟩ := HS.out.box
                clear hs0
                go_wp2_with fail
                go_ret
                exact ⟨ret_nat (by rw [HM.out]; rfl), HS.out.bel⟩
              · have HSS := Lib.hid (sl_scan (n := pl.length) hs0 (by omega))
                have HL0 := Lib.hid (fun h => Pl.scan_zero (f := fun i => if Pl.has pl.length (sl.getD i 0) then 0 else 10) (n := sl.length) h)
                have HL1 := Lib.hid (fun k hk h hf => Pl.scan_at (f := fun i => if Pl.has pl.length (sl.getD i 0) then 0 else 10) (n := sl.length) (k := k) hk h hf)
                obtain ⟨q0, q1, q2, q3, q4⟩ := HS.out.box
                obtain ⟨w5, h5⟩ : ∃ w5, w5 = wr := ⟨_, rfl⟩
                subst h5
                clear hs0
                go_wp2_with fail
                go_loopg [111] sl.length (fun g i wx => RC3 pl.length sl w (.int .i64 wk) (.int .i64 gv) (.slice pa pl.length pc) (.slice sa sl.length sc) (.slice ga gr.length gc) g i wx)
                case atStart => exact ⟨0, by omega, rfl, fun j hj => absurd hj (by omega), HS.out⟩
                case round =>
                  obtain ⟨m, hm, rfl, hno2, hS2⟩ := hrel
                  have HS2 := Lib.hid hS2
                  have HNO2 := Lib.hid hno2
                  have HMK := Lib.hid hm
                  clear hS2 hno2 hm q0 q1 q2 q3 q4
                  by_cases hlt2 : m < sl.length
                  · obtain ⟨b', off', e1, hbl2, hc⟩ := (HP.out.on HS2.out.bel).sl.at_ m (by simp only; omega)
                    try simp only at e1 hc
                    subst e1
                    have HB10 := Lib.hid (fun h : Pl.has pl.length (sl.getD m 0) = false => show M = 10 by
                      have e := HL1.out m hlt2 HNO2.out (by rw [h]; simp)
                      have e2 : Pl.slotsCode pl.length sl = 10 := by rw [HSS.out, e, h]; rfl
                      rw [M2.out HP0.out (by rw [e2]; simp), e2])
                    have HNX2 : Hid (Pl.has pl.length (sl.getD m 0) = true → ∀ j, j < m + 1 → (if Pl.has pl.length (sl.getD j 0) then 0 else 10) = 0) := fun h j hj => by
                      by_cases e : j = m
                      · rw [e, h]; rfl
                      · exact HNO2.out j (by omega)
                    generalize sl.getD m 0 = x at *
                    cases hx : Pl.has pl.length x with
                    | false =>
                      have HM := Lib.hid (HB10.out hx)
                      rcases has_not hx with h1 | ⟨h1, h2⟩
                      · clear hx
                        go_wp2_with fail
                        go_ret
                        exact ⟨ret_nat (by rw [HM.out]; rfl), HS2.out.bel⟩
                      · clear hx
                        go_wp2_with fail
                        go_ret
                        exact ⟨ret_nat (by rw [HM.out]; rfl), HS2.out.bel⟩
                    | true =>
                      have HN3 := Lib.hid (HNX2.out hx)
                      have h1 : 0 ≤ x := (Pl.within_iff.1 hx).1
                      have h2 : x < (pl.length : Int) := by have := (Pl.within_iff.1 hx).2; omega
                      clear hx
                      go_wp2_with fail
                      go_roundg (gk - 1)
                      case rel => exact ⟨m + 1, by have := HMK.out; omega, by go_num, HN3.out, HS2.out⟩
                      case measure => have := HMK.out; omega
                  · have HQ0 := Lib.hid (show Pl.slotsCode pl.length sl = 0 by rw [HSS.out]; exact HL0.out (fun i hi => HNO2.out i (by have := HMK.out; omega)))
                    obtain ⟨q0, q1, q2, q3, q4⟩ := HS2.out.box
                    by_cases hg8 : 8 < gr.length
                    · have HM := Lib.hid (show M = 6 by have := M3.out HP0.out HQ0.out (by rw [gr_many hg8]; simp); rw [this, gr_many hg8])
                      go_wp2_with fail
                      go_ret
                      exact ⟨ret_nat (by rw [HM.out]; rfl), HS2.out.bel⟩
                    · have HGS := Lib.hid (gr_scan (l := pl) hg8)
                      obtain ⟨w6, h6⟩ : ∃ w6, w6 = wr := ⟨_, rfl⟩
                      subst h6
                      go_wp2_with fail
                      go_loopg [130] gr.length (fun g i wx => RC4 pl gr w (.int .i64 wk) (.int .i64 gv) (.slice pa pl.length pc) (.slice sa sl.length sc) (.slice ga gr.length gc) g i wx)
                      case atStart => exact ⟨0, by omega, rfl, fun j hj => absurd hj (by omega), HS2.out⟩
                      case round =>
                        obtain ⟨k4, hk4, rfl, hno4, hS4⟩ := hrel
                        obtain ⟨w7, h7⟩ : ∃ w7, w7 = wr := ⟨_, rfl⟩
                        subst h7
                        obtain ⟨g4, hg4⟩ : ∃ g4, g4 = gk := ⟨_, rfl⟩
                        have HG4 := Lib.hid hg4
                        have HS4 := Lib.hid hS4
                        have HNO4 := Lib.hid hno4
                        have HK4 := Lib.hid hk4
                        clear hS4 hno4 hk4 hg4 q0 q1 q2 q3 q4
                        obtain ⟨q0, q1, q2, q3, q4⟩ := HS4.out.box
                        have hbx := HS4.out.box.lt
                        by_cases hlt4 : k4 < gr.length
                        · obtain ⟨bg, og, e1, hbl4, hat4⟩ := (HP.out.on HS4.out.bel).gr.at_ k4 (by simp only; omega)
                          try simp only at e1
                          subst e1
                          have HB4 := Lib.hid (fun h : Pl.grnCode pl (gr.take k4) (Pl.grn gr k4) ≠ 0 => show M = Pl.grnCode pl (gr.take k4) (Pl.grn gr k4) by
                            have e := Pl.scan_at (f := fun i => Pl.grnCode pl (gr.take i) (Pl.grn gr i)) (n := gr.length) (k := k4) hlt4 HNO4.out h
                            rw [M3.out HP0.out HQ0.out (by rw [HGS.out, e]; exact h), HGS.out, e])
                          have HNX4 : Hid (Pl.grnCode pl (gr.take k4) (Pl.grn gr k4) = 0 → ∀ j, j < k4 + 1 → Pl.grnCode pl (gr.take j) (Pl.grn gr j) = 0) := fun h j hj => by
                            by_cases e : j = k4
                            · rw [e]; exact h
                            · exact HNO4.out j (by omega)
                          have G1 := Lib.hid (fun h => grn_none (l := pl) (ah := gr.take k4) (x := Pl.grn gr k4) h)
                          have G2 := Lib.hid (fun h h2 => grn_flow (l := pl) (ah := gr.take k4) (x := Pl.grn gr k4) h h2)
                          have G3 := Lib.hid (fun h h2 h3 => grn_range (l := pl) (ah := gr.take k4) (x := Pl.grn gr k4) h h2 h3)
                          have G4 := Lib.hid (fun h h2 h3 h4 => grn_there (l := pl) (ah := gr.take k4) (x := Pl.grn gr k4) h h2 h3 h4)
                          have G5 := Lib.hid (fun h h2 h3 h4 => grn_ok (l := pl) (ah := gr.take k4) (x := Pl.grn gr k4) h h2 h3 h4)
                          have HAT4 := Lib.hid (fun m (hm : m < k4) h => grn_any_at (l := gr) (k := k4) (m := m) (by omega) hm (q := Pl.grnSame (Pl.grn gr k4)) h)
                          have HAF4 := Lib.hid (fun h => grn_any_take (l := gr) (k := k4) (by omega) (q := Pl.grnSame (Pl.grn gr k4)) h)
                          have hkg : k4 ≤ gc := by omega
                          obtain ⟨c0, c1, c2⟩ := hat4
                          have HBX4 := Lib.hid (GrnAt.box (Pl.grn gr k4) w7)
                          generalize Pl.grnCode pl (gr.take k4) (Pl.grn gr k4) = D4 at *
                          generalize (gr.take k4).any (Pl.grnSame (Pl.grn gr k4)) = AN4 at *
                          generalize Pl.grn gr k4 = x at *
                          obtain ⟨xf, xt, xb⟩ := x
                          try simp only at c0 c1 c2 G1 G2 G3 G4 G5
                          have HAL4 := Lib.hid (show Below w7.heap.size w7 (w7.alloc (.cells #[.int .i64 xf, .int .i64 xt, .int .i64 xb] 76)) from (Below.refl _ _).alloc (Nat.le_refl _) _)
                          cases hf : Pl.has pl.length xf with
                          | false =>
                            have HM := Lib.hid (show M = 10 by have e := G1.out (by rw [hf]; rfl); rw [HB4.out (by rw [e]; simp), e])
                            rcases has_not hf with h1 | ⟨h1, h2⟩
                            all_goals
                              clear hf
                              go_wp2_with fail
                              go_ret
                              exact ⟨ret_nat (by rw [HM.out]; rfl), bthen HS4.out.bel HAL4.out (Nat.le_refl _)⟩
                          | true =>
                            obtain ⟨hf0, hf1, hf2⟩ := has_lt hf
                            have hf3 : xf < (pl.length : Int) := by omega
                            cases ht : Pl.has pl.length xt with
                            | false =>
                              have HM := Lib.hid (show M = 10 by have e := G1.out (by rw [hf, ht]; rfl); rw [HB4.out (by rw [e]; simp), e])
                              rcases has_not ht with h1 | ⟨h1, h2⟩
                              all_goals
                                clear hf ht hf2
                                go_wp2_with fail
                                go_ret
                                exact ⟨ret_nat (by rw [HM.out]; rfl), bthen HS4.out.bel HAL4.out (Nat.le_refl _)⟩
                            | true =>
                              obtain ⟨ht0, ht1, ht2⟩ := has_lt ht
                              have ht3 : xt < (pl.length : Int) := by omega
                              have hft : (Pl.has pl.length xf && Pl.has pl.length xt) = true := by rw [hf, ht]; rfl
                              have K2 := Lib.hid (G2.out hft)
                              have K3 := Lib.hid (G3.out hft)
                              have K4 := Lib.hid (G4.out hft)
                              have K5 := Lib.hid (G5.out hft)
                              clear hf ht hft G1 G2 G3 G4 G5
                              obtain ⟨bp, op, e5, hbp, -, hatf⟩ := (HP.out.on HS4.out.bel).pl.at_ xf.toNat (by simp only; omega)
                              obtain ⟨bp', op', e6, -, -, hatt⟩ := (HP.out.on HS4.out.bel).pl.at_ xt.toNat (by simp only; omega)
                              try simp only at e5 e6
                              rw [e5] at e6
                              obtain ⟨rfl, rfl⟩ : bp = bp' ∧ op = op' := by simpa using e6
                              subst e5
                              have HUU : Hid (Pl.under pl xf xt = Lat.under (Pl.plc pl xf.toNat).lv (Pl.plc pl xf.toNat).set (Pl.plc pl xt.toNat).lv (Pl.plc pl xt.toNat).set) := rfl
                              have HRU := Lib.hid (fun W => refUnder_any (Pl.plc pl xf.toNat).lv (Pl.plc pl xf.toNat).set (Pl.plc pl xt.toNat).lv (Pl.plc pl xt.toNat).set W)
                              rw [← HUU.out] at HRU
                              clear HUU e6
                              generalize Pl.under pl xf xt = U at *
                              obtain ⟨-, a1, a2, -, -⟩ := hatf
                              obtain ⟨-, b1, b2, -, -⟩ := hatt
                              try simp only at a1 a2 b1 b2
                              generalize Pl.plc pl xf.toNat = pf at *
                              generalize Pl.plc pl xt.toNat = pt at *
                              obtain ⟨fn, fl, fs, fb, fa⟩ := pf
                              obtain ⟨tn, tl, ts, tb, ta⟩ := pt
                              try simp only at a1 a2 b1 b2 HRU
                              generalize xf.toNat = nf at *
                              generalize xt.toNat = nt at *
                              subst hf2 ht2
                              obtain ⟨y0, y1, y2⟩ := HBX4.out
                              try simp only at y0 y1 y2
                              go_wp2_with fail
                              refine region_tail 14 (by kernel_rfl) (by kernel_rfl) ?_
                              simp only [List.take_succ_cons, List.take_zero, List.drop_succ_cons, List.drop_zero]
                              repeat still_step
                              refine wpStill_nil ?_
                              go_wp2_with fail
                              (with_reducible refine (HRU.out _).mono ?_)
                              rintro e wu ⟨rfl, hB⟩
                              have HS5 := Lib.hid (((HS4.out.on HAL4.out).on ((Below.refl _ _).drew)).on hB)
                              have hq0 : w7.heap.size < (w7.alloc (.cells #[.int .i64 (nf : Int), .int .i64 (nt : Int), .int .i64 xb] 76)).heap.size := by simp
                              have hXr : GrnAt (w7.alloc (.cells #[.int .i64 (nf : Int), .int .i64 (nt : Int), .int .i64 xb] 76)).drew w7.heap.size 0 ⟨(nf : Int), (nt : Int), xb⟩ := by constructor <;> simp
                              have HX5 := Lib.hid (show GrnAt wu w7.heap.size 0 ⟨(nf : Int), (nt : Int), xb⟩ from hXr.below hB hq0)
                              have hq5 : w7.heap.size < wu.heap.size := Nat.lt_of_lt_of_le hq0 hB.size
                              clear hB y0 y1 y2 a1 a2 b1 b2
                              cases U with
                              | true =>
                                have HM := Lib.hid (show M = 11 by have e := K2.out rfl; rw [HB4.out (by rw [e]; simp), e])
                                go_wp2_with fail
                                go_ret
                                exact ⟨ret_nat (by rw [HM.out]; rfl), HS5.out.bel⟩
                              | false =>
                                obtain ⟨y0, y1, y2⟩ := HX5.out
                                try simp only at y0 y1 y2
                                cases hw5 : Pl.within xb 0 16 with
                                | false =>
                                  have HM := Lib.hid (show M = 7 by have e := K3.out rfl hw5; rw [HB4.out (by rw [e]; simp), e])
                                  have hcs : xb < 0 ∨ (0 ≤ xb ∧ 16 < xb) := by
                                    rcases Int.lt_or_le xb 0 with h | h
                                    · exact Or.inl h
                                    · right
                                      refine ⟨h, ?_⟩
                                      rcases Int.lt_or_le 16 xb with h2 | h2
                                      · exact h2
                                      · rw [show Pl.within xb 0 16 = true from Pl.within_iff.2 ⟨h, h2⟩] at hw5; cases hw5
                                  clear hw5
                                  rcases hcs with h1 | ⟨h1, h2⟩
                                  all_goals
                                    go_wp2_with fail
                                    go_ret
                                    exact ⟨ret_nat (by rw [HM.out]; rfl), HS5.out.bel⟩
                                | true =>
                                  have h1 : 0 ≤ xb := (Pl.within_iff.1 hw5).1
                                  have h2 : xb ≤ 16 := (Pl.within_iff.1 hw5).2
                                  have L4 := Lib.hid (K4.out rfl hw5)
                                  have L5 := Lib.hid (K5.out rfl hw5)
                                  obtain ⟨d0, d1, d2, d3, d4⟩ := HS5.out.box
                                  clear hw5 K2 K3 K4 K5
                                  go_wp2_with fail
                                  go_loopg [183] k4 (fun g i wx => RC5 gr ⟨(nf : Int), (nt : Int), xb⟩ k4 w7.heap.size w (.int .i64 wk) (.int .i64 gv) (.slice (some ⟨bp, op, none⟩) pl.length pc) (.slice sa sl.length sc) (.slice (some ⟨bg, og, none⟩) gr.length gc) g i wx)
                                  case atStart => exact ⟨0, by omega, rfl, fun j hj => absurd hj (by omega), HS5.out, HX5.out, hq5⟩
                                  case round =>
                                    obtain ⟨m5, hm5, rfl, hno5, hS6, hX6, hq6⟩ := hrel
                                    have HS6 := Lib.hid hS6
                                    have HNO5 := Lib.hid hno5
                                    have HM5 := Lib.hid hm5
                                    have HX6 := Lib.hid hX6
                                    clear hS6 hno5 hm5 hX6 c0 c1 c2 y0 y1 y2 q0 q1 q2 q3 q4 d0 d1 d2 d3 d4
                                    by_cases hlt5 : m5 < k4
                                    · obtain ⟨b', off', e1, hbl6, hat6⟩ := (HP.out.on HS6.out.bel).gr.at_ m5 (by simp only; omega)
                                      obtain ⟨rfl, rfl⟩ : bg = b' ∧ og = off' := by simpa using e1
                                      clear e1
                                      obtain ⟨c0, c1, c2⟩ := hat6
                                      obtain ⟨z0, z1, z2⟩ := HX6.out
                                      try simp only at z0 z1 z2
                                      have HAM := Lib.hid (HAT4.out m5 hlt5)
                                      have HNX5 : Hid (Pl.grnSame ⟨(nf : Int), (nt : Int), xb⟩ (Pl.grn gr m5) = false → ∀ j, j < m5 + 1 → Pl.grnSame ⟨(nf : Int), (nt : Int), xb⟩ (Pl.grn gr j) = false) := fun h j hj => by
                                        by_cases e : j = m5
                                        · rw [e]; exact h
                                        · exact HNO5.out j (by omega)
                                      have HSB : Hid (Pl.grnSame ⟨(nf : Int), (nt : Int), xb⟩ (Pl.grn gr m5) = ((nf : Int) == (Pl.grn gr m5).fr && (nt : Int) == (Pl.grn gr m5).to)) := rfl
                                      generalize Pl.grnSame ⟨(nf : Int), (nt : Int), xb⟩ (Pl.grn gr m5) = SM at *
                                      generalize Pl.grn gr m5 = y at *
                                      obtain ⟨yf, yt, yb⟩ := y
                                      try simp only at c0 c1 c2 HSB
                                      have HAL := Lib.hid (show Below wr.heap.size wr (wr.alloc (.cells #[.int .i64 yf, .int .i64 yt, .int .i64 yb] 76)) from (Below.refl _ _).alloc (Nat.le_refl _) _)
                                      have E1 := int_beq_comm yf (nf : Int)
                                      have E2 := int_beq_comm yt (nt : Int)
                                      cases hb1 : (nf : Int) == yf with
                                      | true =>
                                        rw [hb1] at E1
                                        cases hb2 : (nt : Int) == yt with
                                        | true =>
                                          have HM := Lib.hid (show M = 9 by
                                            have h1 := HAM.out (by rw [HSB.out, hb1, hb2]; rfl)
                                            rw [HB4.out (by rw [L4.out h1]; simp), L4.out h1])
                                          rw [hb2] at E2
                                          clear hb1 hb2
                                          go_wp2_with fail
                                          go_ret
                                          exact ⟨ret_nat (by rw [HM.out]; rfl), bthen HS6.out.bel HAL.out (Nat.le_refl _)⟩
                                        | false =>
                                          have HN6 := Lib.hid (HNX5.out (by rw [HSB.out, hb1, hb2]; rfl))
                                          rw [hb2] at E2
                                          clear hb1 hb2
                                          go_wp2_with fail
                                          go_roundg (gk - 1)
                                          case rel => exact ⟨m5 + 1, by have := HM5.out; omega, by go_num, HN6.out, HS6.out.on HAL.out, HX6.out.below HAL.out hq6, Nat.lt_of_lt_of_le hq6 HAL.out.size⟩
                                          case measure => have := HM5.out; omega
                                      | false =>
                                        have HN6 := Lib.hid (HNX5.out (by rw [HSB.out, hb1]; rfl))
                                        rw [hb1] at E1
                                        clear hb1 E2
                                        go_wp2_with fail
                                        go_roundg (gk - 1)
                                        case rel => exact ⟨m5 + 1, by have := HM5.out; omega, by go_num, HN6.out, HS6.out.on HAL.out, HX6.out.below HAL.out hq6, Nat.lt_of_lt_of_le hq6 HAL.out.size⟩
                                        case measure => have := HM5.out; omega
                                    · have HD := Lib.hid (HNX4.out (L5.out (HAF4.out (fun j hj => HNO5.out j (by have := HM5.out; omega)))))
                                      go_wp2_with fail
                                      go_roundg (g4 - 1)
                                      case rel => exact ⟨k4 + 1, by have := HK4.out; have := HG4.out; omega, by go_num, HD.out, HS6.out⟩
                                      case measure => have := HK4.out; have := HG4.out; omega
                        · have HR0 := Lib.hid (show Pl.grantsCode pl gr = 0 by rw [HGS.out]; exact Pl.scan_zero (f := fun i => Pl.grnCode pl (gr.take i) (Pl.grn gr i)) (fun i hi => HNO4.out i (by have := HK4.out; omega)))
                          have HMT := Lib.hid (M4.out HP0.out HQ0.out HR0.out)
                          have HTX : Hid (Pl.turnsCode pl.length sl = Pl.scan (fun i => if sl.contains (i : Int) then 0 else 15) pl.length) := rfl
                          go_wp2_with fail
                          go_loopg [15] pl.length (fun g i wx => RC6 pl.length sl w (.int .i64 wk) (.int .i64 gv) (.slice pa pl.length pc) (.slice sa sl.length sc) (.slice ga gr.length gc) g i wx)
                          case atStart => exact ⟨0, by omega, rfl, fun j hj => absurd hj (by omega), HS4.out⟩
                          case round =>
                            obtain ⟨k6, hk6, rfl, hno6, hS6⟩ := hrel
                            obtain ⟨w8, h8⟩ : ∃ w8, w8 = wr := ⟨_, rfl⟩
                            subst h8
                            obtain ⟨g6, hg6⟩ : ∃ g6, g6 = gk := ⟨_, rfl⟩
                            have HG6 := Lib.hid hg6
                            have HS6 := Lib.hid hS6
                            have HNO6 := Lib.hid hno6
                            have HK6 := Lib.hid hk6
                            clear hS6 hno6 hk6 hg6 q0 q1 q2 q3 q4 hbx
                            obtain ⟨q0, q1, q2, q3, q4⟩ := HS6.out.box
                            by_cases hlt6 : k6 < pl.length
                            · have HB6 := Lib.hid (fun h : sl.contains (k6 : Int) = false => show M = 15 by
                                have e := Pl.scan_at (f := fun i => if sl.contains (i : Int) then 0 else 15) (n := pl.length) (k := k6) hlt6 HNO6.out (by rw [h]; simp)
                                rw [HMT.out, HTX.out, e, h]; rfl)
                              have HNX6 : Hid (sl.contains (k6 : Int) = true → ∀ j : Nat, j < k6 + 1 → (if sl.contains (j : Int) then 0 else 15) = 0) := fun h j hj => by
                                by_cases e : j = k6
                                · rw [e, h]; rfl
                                · exact HNO6.out j (by omega)
                              go_wp2_with fail
                              go_loopg [16, 209] sl.length (fun g h i wx => RC7 sl k6 w (.int .i64 wk) (.int .i64 gv) (.slice pa pl.length pc) (.slice sa sl.length sc) (.slice ga gr.length gc) g h i wx)
                              case atStart => exact ⟨0, by omega, rfl, rfl, HS6.out⟩
                              case round =>
                                obtain ⟨m7, hm7, rfl, rfl, hS7⟩ := hrel
                                have HS7 := Lib.hid hS7
                                have HM7 := Lib.hid hm7
                                clear hS7 hm7
                                by_cases hlt7 : m7 < sl.length
                                · obtain ⟨b', off', e1, hbl7, hc⟩ := (HP.out.on HS7.out.bel).sl.at_ m7 (by simp only; omega)
                                  try simp only at e1 hc
                                  subst e1
                                  have HCT := Lib.hid (cont_take sl m7 hlt7 (k6 : Int))
                                  generalize sl.getD m7 0 = x at *
                                  cases hcc : (sl.take m7).contains (k6 : Int) with
                                  | true =>
                                    have HC2 := Lib.hid (show (sl.take (m7 + 1)).contains (k6 : Int) = true by rw [HCT.out, hcc, Bool.true_or])
                                    clear hcc
                                    go_wp2_with fail
                                    go_roundg (gk - 1)
                                    case rel => exact ⟨m7 + 1, by have := HM7.out; omega, by go_num, by rw [HC2.out], HS7.out⟩
                                    case measure => have := HM7.out; omega
                                  | false =>
                                    have HC2 := Lib.hid (show (sl.take (m7 + 1)).contains (k6 : Int) = (x == (k6 : Int)) by rw [HCT.out, hcc, Bool.false_or])
                                    clear hcc
                                    go_wp2_with fail
                                    go_roundg (gk - 1)
                                    case rel => exact ⟨m7 + 1, by have := HM7.out; omega, by go_num, by rw [HC2.out], HS7.out⟩
                                    case measure => have := HM7.out; omega
                                · have HTL := Lib.hid (show sl.take m7 = sl by rw [List.take_of_length_le (by omega)])
                                  rw [HTL.out]
                                  cases hcc : sl.contains (k6 : Int) with
                                  | true =>
                                    have HN8 := Lib.hid (HNX6.out hcc)
                                    clear hcc
                                    go_wp2_with fail
                                    go_roundg (g6 - 1)
                                    case rel => exact ⟨k6 + 1, by have := HK6.out; have := HG6.out; omega, by go_num, HN8.out, HS7.out⟩
                                    case measure => have := HK6.out; have := HG6.out; omega
                                  | false =>
                                    have HM := Lib.hid (HB6.out hcc)
                                    clear hcc
                                    go_wp2_with fail
                                    go_ret
                                    exact ⟨ret_nat (by rw [HM.out]; rfl), HS7.out.bel⟩
                            · have HM := Lib.hid (show M = 0 by
                                rw [HMT.out, HTX.out]
                                exact Pl.scan_zero (f := fun i => if sl.contains (i : Int) then 0 else 15) (fun i hi => HNO6.out i (by have := HK6.out; omega)))
                              go_wp2_with fail
                              go_ret
                              exact ⟨ret_nat (by rw [HM.out]; rfl), HS6.out.bel⟩
  · have HM := Lib.hid (show M = 7 from H7.out (by
      rw [Bool.eq_false_iff]
      intro h
      simp only [Bool.and_eq_true] at h
      have a := Pl.within_iff.1 h.1
      have b := Pl.within_iff.1 h.2
      exact hw ⟨a.1, a.2, b.1, b.2⟩))
    have hcs : wk < 1 ∨ (1 ≤ wk ∧ 16 < wk) ∨ (1 ≤ wk ∧ wk ≤ 16 ∧ gv < 1) ∨ (1 ≤ wk ∧ wk ≤ 16 ∧ 1 ≤ gv ∧ 16 < gv) := by omega
    clear hw
    rcases hcs with h | ⟨h, h2⟩ | ⟨h, h2, h3⟩ | ⟨h, h2, h3, h4⟩
    all_goals
      go_enter Tryz.func12, Tryz.ntmps12
      go_wp2_with fail
      go_ret
      exact ⟨ret_nat (by rw [HM.out]; rfl), HST.out.bel⟩
end Go.Proofs.YtokljdaofjgihaaGreatDoor
