/-
  BINDINGS THAT ARE THERE; an exchange dropped, a binding taken out, a queue forgotten: walked.
-/
import Derived.Test.YtopobliajgocaaaGreatDoorZp28

section
namespace Go.Proofs.YtopobliajgocaaaGreatDoor
open Go.ChangeShapes Go.WideShapes Go.ChangeAt Go.RowKit
theorem bd_get {l : List Bp} {i : Nat} (hi : i < l.length) : l[i] = l.getD i ⟨Bk.Bd0, none, 0⟩ := by rw [List.getD_eq_getElem?_getD, List.getElem?_eq_getElem hi]; rfl
def IdxBd (x : Bd) (ps : List Bp) (w : World) (g : Nat) (i : Value) (wr : World) : Prop :=
  ∃ k : Nat, k + g = ps.length ∧ i = .int .i64 (k : Int) ∧ (∀ j, j < k → bdEq x (ps.getD j ⟨Bk.Bd0, none, 0⟩).x = false) ∧ Below w.heap.size w wr
set_option maxHeartbeats 4000000 in
theorem indexBd_any (x : Bd) (Ax : Option Addr) (cx : Nat) (ps : List Bp) (B : Option Addr) (d : Nat) (w : World) (hl : ps.length ≤ 100000) (hx : BdOk w x Ax cx) (hp : Bds w B ps) :
    Calls Tryz.prog 85 #[.slice B ps.length d, .func (.func 37) #[bdV x Ax cx] #[]] w fun e w' => e = .returned (.int .i64 (idx (fun p : Bp => bdEq x p.x) ps)) ∧ Below w.heap.size w w' := by
  have HP := Lib.hid hp
  have HXO := Lib.hid hx
  have HT := Lib.hid (fun (y : Bd) (Ay : Option Addr) (cy : Nat) (W : World) (h1 : BdOk W x Ax cx) (h2 : BdOk W y Ay cy) => bdSame_any x y Ax cx Ay cy W h1.len h2.len h1.row h2.row)
  have HNONE := Lib.hid (fun h => idx_none (q := fun p : Bp => bdEq x p.x) (l := ps) ⟨Bk.Bd0, none, 0⟩ h)
  have HSOME := Lib.hid (fun k (hk : k < ps.length) h hq => idx_some (q := fun p : Bp => bdEq x p.x) (l := ps) ⟨Bk.Bd0, none, 0⟩ hk h hq)
  clear hp hx
  generalize idx (fun p : Bp => bdEq x p.x) ps = M at *
  obtain ⟨n, hn⟩ : ∃ n, n = ps.length := ⟨_, rfl⟩
  rw [← hn]
  have HN := Lib.hid hn
  have hnl : n ≤ 100000 := by omega
  clear hn
  simp only [bdV] at HT ⊢
  go_enter Tryz.func85, Tryz.ntmps85
  go_wp2_with fail
  go_loopg [8] n (fun g i wr => IdxBd x ps w g i wr)
  case atStart => exact ⟨0, by have := HN.out; omega, rfl, fun j hj => absurd hj (by omega), Below.refl _ _⟩
  case round =>
    obtain ⟨k, hk, rfl, hno, hB⟩ := hrel
    have HB := Lib.hid hB
    have HNO := Lib.hid hno
    have HK := Lib.hid hk
    clear hB hno hk
    by_cases hlt : k < n
    · have hkl : k < ps.length := by have := HN.out; omega
      have hbd := HP.out.on HB.out
      obtain ⟨bb, off, rfl, hbl, hat⟩ := bps_get hbd.row hkl
      have hok := hbd.ok ps[k] (List.getElem_mem hkl)
      rw [bd_get hkl] at hat hok
      have HQ : Hid (∀ h, bdEq x (ps.getD k ⟨Bk.Bd0, none, 0⟩).x = true → M = (k : Int)) := fun h hq => HSOME.out k (by have := HN.out; omega) h hq
      have HNX : Hid (bdEq x (ps.getD k ⟨Bk.Bd0, none, 0⟩).x = false → ∀ j, j < k + 1 → bdEq x (ps.getD j ⟨Bk.Bd0, none, 0⟩).x = false) := fun hq j hj => by
        by_cases e : j = k
        · rw [e]; exact hq
        · exact HNO.out j (by omega)
      generalize ps.getD k ⟨Bk.Bd0, none, 0⟩ = p at *
      obtain ⟨y, Ay, cy⟩ := p
      unfold bpL bdL at hat
      dsimp only at hat hok HQ HNX
      have HC := Lib.hid (HT.out y Ay cy wr (HXO.out.on HB.out) hok)
      have c0 := hat 0 _ rfl
      have c1 := hat 1 _ rfl
      have c2 := hat 2 _ rfl
      have c3 := hat 3 _ rfl
      have c4 := hat 4 _ rfl
      have c5 := hat 5 _ rfl
      rw [Nat.add_zero] at c0
      clear hat hok hbd
      cases hq : bdEq x y with
      | true =>
        have HM := Lib.hid (HQ.out HNO.out hq)
        rw [hq] at HC
        clear hq
        go_wp2_with fail
        refine HC.out.mono ?_
        rintro e w' ⟨rfl, hB1⟩
        have HB1 := Lib.hid (HB.out.trans (hB1.mono HB.out.size))
        clear hB1
        go_wp2_with fail
        go_ret
        exact ⟨ret_nat HM.out.symm, HB1.out⟩
      | false =>
        have HNEXT := Lib.hid (HNX.out hq)
        rw [hq] at HC
        clear hq
        go_wp2_with fail
        refine HC.out.mono ?_
        rintro e w' ⟨rfl, hB1⟩
        have HB1 := Lib.hid (HB.out.trans (hB1.mono HB.out.size))
        clear hB1
        go_wp2_with fail
        go_roundg (gk - 1)
        case rel => exact ⟨k + 1, by have := HK.out; have := HN.out; omega, by go_num, HNEXT.out, HB1.out⟩
        case measure => have := HK.out; have := HN.out; omega
    · have HM := Lib.hid (HNONE.out (fun i hi => HNO.out i (by have := HN.out; omega)))
      go_wp2_with fail
      go_ret
      exact ⟨ret_nat HM.out.symm, HB.out⟩
theorem contBd_any (x : Bd) (Ax : Option Addr) (cx : Nat) (ps : List Bp) (B : Option Addr) (d : Nat) (w : World) (hl : ps.length ≤ 100000) (hx : BdOk w x Ax cx) (hp : Bds w B ps) :
    Calls Tryz.prog 75 #[.slice B ps.length d, .func (.func 37) #[bdV x Ax cx] #[]] w fun e w' => e = .returned (.bool (ps.any fun p => bdEq x p.x)) ∧ Below w.heap.size w w' := by
  have HC := Lib.hid (indexBd_any x Ax cx ps B d w hl hx hp)
  have HA := Lib.hid (idx_any (fun p : Bp => bdEq x p.x) ps)
  clear hx hp
  obtain ⟨M, hM⟩ : ∃ M, M = idx (fun p : Bp => bdEq x p.x) ps := ⟨_, rfl⟩
  rw [← hM] at HC HA
  clear hM
  simp only [bdV] at *
  go_enter Tryz.func75, Tryz.ntmps75
  go_wp2_with fail
  refine HC.out.mono ?_
  rintro e w' ⟨rfl, hB1⟩
  have HB1 := Lib.hid hB1
  clear hB1
  go_wp2_with fail
  go_ret
  exact ⟨ret_bool (by rw [← HA.out]), HB1.out⟩
theorem any_mem {x : Bd} {ps : List Bp} {l : List Bd} (h : ps.map Bp.x = l) : (ps.any fun p => bdEq x p.x) = decide (x ∈ l) := by
  subst h
  rw [Bool.eq_iff_iff, List.any_eq_true, decide_eq_true_eq, List.mem_map]
  constructor
  · rintro ⟨p, hp, he⟩
    rw [bdEq_dec] at he
    exact ⟨p, hp, (of_decide_eq_true he).symm⟩
  · rintro ⟨p, hp, he⟩
    exact ⟨p, hp, by rw [bdEq_dec, he]; exact decide_eq_true rfl⟩
theorem rtHas_any (b : Bk) (A : Option Addr) (c : Nat) (B : Option Addr) (d : Nat) (ps : List Bp) (x : Bd) (Ax : Option Addr) (cx : Nat) (w : World) (hl : b.binds.length ≤ 1000) (hI : BkAt w A c B d b ps) (hx : BdOk w x Ax cx) :
    Calls Tryz.prog 51 #[bkV A c B d b, bdV x Ax cx] w fun e w' => e = .returned (.bool (decide (x ∈ b.binds))) ∧ Below w.heap.size w w' := by
  obtain ⟨shops, binds⟩ := b
  dsimp only at hl ⊢
  have hml := hI.len
  dsimp only at hml
  have hb0 := rtTwo w (.cells #[.slice A shops.length c, .slice B binds.length d] 28) (.cells #[.string (ofL x.shop), .string (ofL x.to), .bool x.up, .string (ofL x.key), .slice Ax x.want.length cx, .bool x.all] 37)
  have hc := contBd_any x Ax cx ps B d _ (by omega) (hx.on hb0) (hI.bds.on hb0)
  rw [any_mem hI.xs, hml] at hc
  dsimp only at hc
  have HC := Lib.hid hc
  have HB0 := Lib.hid hb0
  generalize decide (x ∈ binds) = M at *
  simp only [bkV, bdV] at *
  clear hI hx hb0 hc hml
  go_enter Tryz.func51, Tryz.ntmps51
  go_wp2_with fail
  refine HC.out.mono ?_
  rintro e w' ⟨rfl, hB1⟩
  have HB1 := Lib.hid (bthen HB0.out hB1 (Nat.le_refl _))
  clear hB1
  go_wp2_with fail
  go_ret
  exact ⟨rfl, HB1.out⟩
theorem filter_erase {α : Type} (q : α → Bool) (z : α) : ∀ (l : List α) (k : Nat), k < l.length → (∀ i, i < l.length → q (l.getD i z) = decide (i = k)) → l.filter (fun x => !q x) = l.eraseIdx k
  | [], k, hk, _ => by simp at hk
  | x :: l, 0, _, h => by
    have h0 : q x = true := by have := h 0 (by simp); simpa using this
    rw [List.filter_cons, h0]
    show l.filter _ = l
    rw [List.filter_eq_self]
    intro y hy
    obtain ⟨i, hi, rfl⟩ := List.getElem_of_mem hy
    have := h (i + 1) (by simp; omega)
    rw [List.getD_cons_succ, List.getD_eq_getElem?_getD, List.getElem?_eq_getElem hi] at this
    simpa using this
  | x :: l, k + 1, hk, h => by
    have h0 : q x = false := by have := h 0 (by simp); simpa using this
    rw [List.filter_cons, h0, List.eraseIdx_cons_succ]
    show x :: l.filter _ = _
    rw [filter_erase q z l k (by simpa using hk) (fun i hi => by have := h (i + 1) (by simp; omega); rw [List.getD_cons_succ] at this; simpa using this)]
theorem once_idx {l : List Sh} {n : List UInt8} {k : Nat} (ho : l.Pairwise fun x y => x.name ≠ y.name) (hk : k < l.length) (hn : (l.getD k Bk.Sh0).name = n) : ∀ i, i < l.length → ((l.getD i Bk.Sh0).name == n) = decide (i = k) := by
  intro i hi
  by_cases e : i = k
  · subst e; rw [hn, decide_eq_true rfl]; simp
  · rw [decide_eq_false e, beq_eq_false_iff_ne]
    intro h
    rw [← hn] at h
    rw [← sh_get hi, ← sh_get hk] at h
    rw [List.pairwise_iff_getElem] at ho
    rcases Nat.lt_or_ge i k with h1 | h1
    · exact ho i k hi hk h1 h
    · exact ho k i hk hi (by omega) h.symm
set_option maxRecDepth 100000 in
set_option maxHeartbeats 8000000 in
theorem rtDrop_any (b : Bk) (A : Option Addr) (c : Nat) (B : Option Addr) (d : Nat) (ps : List Bp) (n : List UInt8) (w : World) (U : Nat → Prop) (hl : b.shops.length ≤ 1000) (hlb : b.binds.length ≤ 1000) (ho : b.shops.Pairwise fun x y => x.name ≠ y.name) (hI : BkAt w A c B d b ps) (hU : BkU U w A B ps) :
    Calls Tryz.prog 25 #[bkV A c B d b, .string (ofL n)] w (BkPost U (b.drop n).1 (b.drop n).2 w) := by
  obtain ⟨shops, binds⟩ := b
  dsimp only at hl hlb ho
  have hml := hI.len
  dsimp only at hml
  have hf := find_idx (fun x : Sh => x.name == n) shops Bk.Sh0
  have hb0 := rtThree w (.cells #[.slice A shops.length c, .slice B binds.length d] 28) (.cells #[.string (ofL n)] 9) (.cells #[.slice none 0 0, .slice none 0 0] 28)
  have HX0 := Lib.hid (rtNext (rtNext (rtAt0 w #[.slice A shops.length c, .slice B binds.length d] 28) (.cells #[.string (ofL n)] 9)) (.cells #[.slice none 0 0, .slice none 0 0] 28))
  have HN0 := Lib.hid (rtNext (rtAt1 w (.cells #[.slice A shops.length c, .slice B binds.length d] 28) #[.string (ofL n)] 9) (.cells #[.slice none 0 0, .slice none 0 0] 28))
  have HR0 := Lib.hid (rtAt2 w (.cells #[.slice A shops.length c, .slice B binds.length d] 28) (.cells #[.string (ofL n)] 9) #[.slice none 0 0, .slice none 0 0] 28)
  have HSZ := Lib.hid (show (((w.alloc (.cells #[.slice A shops.length c, .slice B binds.length d] 28)).alloc (.cells #[.string (ofL n)] 9)).alloc (.cells #[.slice none 0 0, .slice none 0 0] 28)).heap.size = w.heap.size + 3 by simp)
  have hC := rtShop_any ⟨shops, binds⟩ A c B d n _ (by show shops.length ≤ 100000; omega) (hI.shs.on hb0)
  have HB0 := Lib.hid hb0
  have HI0 := Lib.hid hI
  have HU := Lib.hid hU
  obtain ⟨e1, e2⟩ | ⟨k, e1, hk, e2⟩ := hf
  · have e2' : Bk.shop ⟨shops, binds⟩ n = none := e2
    have e3 : Bk.drop ⟨shops, binds⟩ n = (⟨shops, binds⟩, 10) := by unfold Bk.drop; rw [e2']
    rw [e2', Option.getD_none, Option.isSome_none] at hC
    rw [e3]
    dsimp only
    have HC := Lib.hid hC
    generalize Bk.Sh0 = x at *
    simp only [bkV, shV] at *
    clear hI hU hb0 e1 e2 e2' e3 hml ho hC
    go_enter Tryz.func25, Tryz.ntmps25
    go_wp2_with fail
    generalize ((w.alloc (.cells #[.slice A shops.length c, .slice B binds.length d] 28)).alloc (.cells #[.string (ofL n)] 9)).alloc (.cells #[.slice none 0 0, .slice none 0 0] 28) = w1 at *
    refine HC.out.mono ?_
    rintro e w2 ⟨rfl, b2⟩
    have HB2 := Lib.hid (bthen HB0.out b2 (Nat.le_refl _))
    have HX2 := HX0.out.on b2
    have HR2 := Lib.hid (HR0.out.on b2)
    clear b2
    have x0 := HX2.cs 0 _ rfl
    have x1 := HX2.cs 1 _ rfl
    have xl := HX2.lt
    have r0 := HR2.out.cs 0 _ rfl
    have r1 := HR2.out.cs 1 _ rfl
    have rl := HR2.out.lt
    have rf : ∀ j, w2.frozen? ⟨w.heap.size + 2, j, none⟩ = false := HR2.out.s
    clear HX2
    go_wp2_with fail
    have hQ := rtNext (HR2.out.fill [.slice A shops.length c, .slice B binds.length d] rfl) (.cells #[.string (ofL x.name), .int .u8 (x.sort : Int), .string (ofL x.to)] 34)
    have hB' := below_putAll (g := w.heap.size + 2) (by omega) [.slice A shops.length c, .slice B binds.length d] 0 HB2.out
    have hB := hB'.alloc hB'.size (.cells #[.string (ofL x.name), .int .u8 (x.sort : Int), .string (ofL x.to)] 34)
    simp only [putAll] at hQ hB
    have g0 := hQ.cs 0 _ rfl
    have g1 := hQ.cs 1 _ rfl
    exact bodyPost_ret (v := .tuple #[.agg #[.slice A shops.length c, .slice B binds.length d], .int .i64 10]) (by simp [results, Tryz.results25, go_sem, g0, g1]) rfl ⟨A, c, B, d, ps, rfl, HI0.out.on hB, (HU.out.mono (fun g h => .inl h)).on hB.size, hB⟩
  · have e2' : Bk.shop ⟨shops, binds⟩ n = some (shops.getD k Bk.Sh0) := e2
    have hn : (shops.getD k Bk.Sh0).name = n := by have := List.find?_some e2; simpa using this
    have hq := once_idx ho hk hn
    have hfe := filter_erase (fun x : Sh => x.name == n) Bk.Sh0 shops k hk hq
    have hEl : (shops.eraseIdx k).length = shops.length - 1 := by rw [List.length_eraseIdx, if_pos hk]
    have e3 : Bk.drop ⟨shops, binds⟩ n = (⟨shops.eraseIdx k, binds.filter fun x => !(x.shop == n)⟩, 0) := by unfold Bk.drop; rw [e2', ← hfe]
    rw [e2', Option.getD_some, Option.isSome_some] at hC
    rw [e3]
    dsimp only
    have HC := Lib.hid hC
    have HQ := Lib.hid hq
    have HK := Lib.hid hk
    have HEL := Lib.hid hEl
    have HD1 := Lib.hid (fun W x h => rtDrop1_any x n (w.heap.size + 1) W h)
    have HD2 := Lib.hid (fun W x A c h => rtDrop2_any x A c n (w.heap.size + 1) W h)
    generalize shops.getD k Bk.Sh0 = x at *
    have HSH := Lib.hid (fun W h => rtShops_any ⟨shops, binds⟩ A c B d W (by show shops.length ≤ 100000; omega) h)
    simp only [bkV, shV] at *
    try dsimp only at HSH
    clear hI hU hb0 e1 e2 e2' e3 hml ho hC hq hn hfe hk hEl
    go_enter Tryz.func25, Tryz.ntmps25
    go_wp2_with fail
    generalize ((w.alloc (.cells #[.slice A shops.length c, .slice B binds.length d] 28)).alloc (.cells #[.string (ofL n)] 9)).alloc (.cells #[.slice none 0 0, .slice none 0 0] 28) = w1 at *
    refine HC.out.mono ?_
    rintro e w2 ⟨rfl, b2⟩
    have HA2 := Lib.hid (bthen b2 (rtOne w2 (.cells #[.string (ofL x.name), .int .u8 (x.sort : Int), .string (ofL x.to)] 34)) (Nat.le_refl _))
    have HB3 := Lib.hid (bthen HB0.out HA2.out (Nat.le_refl _))
    have HX3 := Lib.hid (HX0.out.on HA2.out)
    have HN3 := Lib.hid (HN0.out.on HA2.out)
    have HR3 := Lib.hid (HR0.out.on HA2.out)
    have HX2 := HX0.out.on b2
    have x0 := HX2.cs 0 _ rfl
    have x1 := HX2.cs 1 _ rfl
    have xl := HX2.lt
    have hs3 := HA2.out.size
    rw [HSZ.out] at hs3
    have HS3 := Lib.hid hs3
    clear b2 HX2 hs3
    have HSH2 := Lib.hid (HSH.out (w2.alloc (.cells #[.string (ofL x.name), .int .u8 (x.sort : Int), .string (ofL x.to)] 34)) (HI0.out.shs.on HB3.out))
    go_wp2_with fail
    generalize w2.alloc (.cells #[.string (ofL x.name), .int .u8 (x.sort : Int), .string (ofL x.to)] 34) = w3 at *
    refine HSH2.out.mono ?_
    rintro e w4 ⟨A4, c4, rfl, ho4, b4⟩
    obtain ⟨R, rfl, hR1, hR2, hR3⟩ := rtOwnSome ho4 (by have := HK.out; omega)
    have HRB := Lib.hid (BoxC.rtOwn (w0 := w3) ho4 (Nat.le_refl _))
    have HDL := Lib.hid (delFSh_any (w0 := w3) w4 (fun x => x.name == n) HRB.out hl hR3 HK.out HQ.out b4 (fun W y hW => HD1.out W y ((HN3.out.on hW).cs 0 _ rfl)))
    have HRG := Lib.hid hR1
    have HRC := Lib.hid hR3
    unfold DlPost at HDL
    clear ho4 hR1 hR2 hR3 b4 x0 x1 xl
    go_wp2_with fail
    refine HDL.out.mono ?_
    rintro e w5 ⟨rfl, hRB5, b5⟩
    have HRB5 := Lib.hid hRB5
    have HB5 := Lib.hid (bthen HB3.out b5 (Nat.le_refl _))
    have HX5 := Lib.hid (HX3.out.on b5)
    have HN5 := Lib.hid (HN3.out.on b5)
    have HR5 := Lib.hid (HR3.out.on b5)
    have HS5 := Lib.hid b5.size
    have x0 := HX5.out.cs 0 _ rfl
    have x1 := HX5.out.cs 1 _ rfl
    have xl := HX5.out.lt
    have xf : ∀ j, w5.frozen? ⟨w.heap.size, j, none⟩ = false := HX5.out.s
    clear hRB5 b5
    have hR6 := HRB5.out.aside (g := w.heap.size) (by have := HRG.out; have := HS3.out; omega) 0 (.slice (some ⟨R, 0, none⟩) (shops.length - 1) c4)
    have hB6 := HB5.out.setCell (p := ⟨w.heap.size, 0, none⟩) (Nat.le_refl _) (.slice (some ⟨R, 0, none⟩) (shops.length - 1) c4)
    have hN6 := HN5.out.aside (g := w.heap.size) (by omega) 0 (.slice (some ⟨R, 0, none⟩) (shops.length - 1) c4)
    have HR6 := Lib.hid (HR5.out.aside (g := w.heap.size) (by omega) 0 (.slice (some ⟨R, 0, none⟩) (shops.length - 1) c4))
    have hI6 : BkAt (w5.setCell ⟨w.heap.size, 0, none⟩ (.slice (some ⟨R, 0, none⟩) (shops.length - 1) c4)) (some ⟨R, 0, none⟩) c4 B d ⟨shops.eraseIdx k, binds⟩ ps := by
      have h0 := HI0.out.on hB6
      exact ⟨h0.xs, by have := HEL.out; have := HRC.out; show (shops.eraseIdx k).length ≤ c4; omega, (fun e => by cases e), h0.capB, h0.nilB, ⟨Rws.of_news fun j u hu => by rw [Nat.zero_add]; exact hR6.cs j u hu⟩, h0.bds⟩
    have hU6 : BkU (fun g => (U g ∧ g < w.heap.size) ∨ g = R) (w5.setCell ⟨w.heap.size, 0, none⟩ (.slice (some ⟨R, 0, none⟩) (shops.length - 1) c4)) (some ⟨R, 0, none⟩) B ps := by
      have h0 := (HU.out.self.on hB6.size).mono (V := fun g => (U g ∧ g < w.heap.size) ∨ g = R) (fun g h => .inl h)
      exact ⟨fun x hx => by obtain rfl := Option.some.inj hx; exact ⟨.inr rfl, by simpa using HRB5.out.lt⟩, h0.b, h0.p⟩
    have hkp := rtKeep_any 61 (w.heap.size + 1) (.inl rfl) (fun x => !(x.shop == n)) ⟨shops.eraseIdx k, binds⟩ (some ⟨R, 0, none⟩) c4 B d ps _ hlb hI6 _ hU6 (fun W y Ay cy hW _ => HD2.out W y Ay cy ((hN6.on hW).cs 0 _ rfl))
    simp only [bkV] at hkp
    try dsimp only at hkp
    rw [HEL.out] at hkp
    have HKP := Lib.hid hkp
    have HB6 := Lib.hid hB6
    clear hkp hB6 hN6 hI6 hU6 hR6
    go_wp2_with fail
    have hs6 : (w5.setCell ⟨w.heap.size, 0, none⟩ (.slice (some ⟨R, 0, none⟩) (shops.length - 1) c4)).heap.size = w5.heap.size := by simp
    have HS6 := Lib.hid hs6
    clear hs6
    generalize w5.setCell ⟨w.heap.size, 0, none⟩ (.slice (some ⟨R, 0, none⟩) (shops.length - 1) c4) = w6 at *
    refine HKP.out.mono ?_
    rintro e w7 ⟨A7, c7, B7, d7, ps7, rfl, hI7, hU7, b7⟩
    have HI7 := Lib.hid hI7
    have HU7 := Lib.hid hU7
    have HB7 := Lib.hid (bthen HB6.out b7 (Nat.le_refl _))
    have HR7 := Lib.hid (HR6.out.on b7)
    clear hI7 hU7 b7 x0 x1 xl xf
    have r0 := HR7.out.cs 0 _ rfl
    have r1 := HR7.out.cs 1 _ rfl
    have rl := HR7.out.lt
    have rf : ∀ j, w7.frozen? ⟨w.heap.size + 2, j, none⟩ = false := HR7.out.s
    simp only [bkV]
    go_wp2_with fail
    have hQ := HR7.out.fill [.slice A7 (shops.eraseIdx k).length c7, .slice B7 (binds.filter fun x => !(x.shop == n)).length d7] rfl
    have hB := below_putAll (g := w.heap.size + 2) (by omega) [.slice A7 (shops.eraseIdx k).length c7, .slice B7 (binds.filter fun x => !(x.shop == n)).length d7] 0 HB7.out
    have hng : ¬ ((((U (w.heap.size + 2) ∧ w.heap.size + 2 < w.heap.size) ∨ w.heap.size + 2 = R) ∨ w6.heap.size ≤ w.heap.size + 2)) := by
      have := HRG.out; have := HS3.out; have := HS6.out; have := HS5.out
      rintro ((h | h) | h)
      · omega
      · omega
      · omega
    have hI8 := (HI7.out.put HU7.out hng 0 (.slice A7 (shops.eraseIdx k).length c7)).put (HU7.out.put (w.heap.size + 2) 0 (.slice A7 (shops.eraseIdx k).length c7)) hng 1 (.slice B7 (binds.filter fun x => !(x.shop == n)).length d7)
    have hU8 := (HU7.out.put (w.heap.size + 2) 0 (.slice A7 (shops.eraseIdx k).length c7)).put (w.heap.size + 2) 1 (.slice B7 (binds.filter fun x => !(x.shop == n)).length d7)
    simp only [putAll] at hQ hB
    have g0 := hQ.cs 0 _ rfl
    have g1 := hQ.cs 1 _ rfl
    exact bodyPost_ret (v := .tuple #[.agg #[.slice A7 (shops.eraseIdx k).length c7, .slice B7 (binds.filter fun x => !(x.shop == n)).length d7], .int .i64 0]) (by simp [results, Tryz.results25, go_sem, g0, g1]) rfl ⟨A7, c7, B7, d7, ps7, rfl, hI8, hU8.mono (fun g h => by
      have := HRG.out; have := HS3.out; have := HS6.out; have := HS5.out
      rcases h with (⟨h, -⟩ | h) | h
      · exact .inl h
      · exact .inr (by omega)
      · exact .inr (by omega)), hB⟩
set_option maxRecDepth 100000 in
set_option maxHeartbeats 4000000 in
theorem rtForget_any (b : Bk) (A : Option Addr) (c : Nat) (B : Option Addr) (d : Nat) (ps : List Bp) (n : List UInt8) (w : World) (U : Nat → Prop) (hlb : b.binds.length ≤ 1000) (hI : BkAt w A c B d b ps) (hU : BkU U w A B ps) :
    Calls Tryz.prog 31 #[bkV A c B d b, .string (ofL n)] w (BkPost1 U (b.forget n) w) := by
  obtain ⟨shops, binds⟩ := b
  dsimp only at hlb
  have hb0 := rtThree w (.cells #[.slice A shops.length c, .slice B binds.length d] 28) (.cells #[.string (ofL n)] 9) (.cells #[.slice none 0 0, .slice none 0 0] 28)
  have HN0 := rtNext (rtAt1 w (.cells #[.slice A shops.length c, .slice B binds.length d] 28) #[.string (ofL n)] 9) (.cells #[.slice none 0 0, .slice none 0 0] 28)
  have HR0 := Lib.hid (rtAt2 w (.cells #[.slice A shops.length c, .slice B binds.length d] 28) (.cells #[.string (ofL n)] 9) #[.slice none 0 0, .slice none 0 0] 28)
  have HSZ := Lib.hid (show (((w.alloc (.cells #[.slice A shops.length c, .slice B binds.length d] 28)).alloc (.cells #[.string (ofL n)] 9)).alloc (.cells #[.slice none 0 0, .slice none 0 0] 28)).heap.size = w.heap.size + 3 by simp)
  have hkp := rtKeep_any 64 (w.heap.size + 1) (.inr (.inr rfl)) (fun x => x.up || !(x.to == n)) ⟨shops, binds⟩ A c B d ps _ hlb (hI.on hb0) _ (hU.self.on hb0.size) (fun W y Ay cy hW _ => rtForget1_any y Ay cy n (w.heap.size + 1) W ((HN0.on hW).cs 0 _ rfl))
  have HKP := Lib.hid hkp
  have HB0 := Lib.hid hb0
  unfold Bk.forget
  dsimp only
  generalize binds.filter (fun x => x.up || !(x.to == n)) = out at *
  simp only [bkV] at *
  clear hI hU hb0 hkp HN0
  go_enter Tryz.func31, Tryz.ntmps31
  go_wp2_with fail
  generalize ((w.alloc (.cells #[.slice A shops.length c, .slice B binds.length d] 28)).alloc (.cells #[.string (ofL n)] 9)).alloc (.cells #[.slice none 0 0, .slice none 0 0] 28) = w6 at *
  refine HKP.out.mono ?_
  rintro e w7 ⟨A7, c7, B7, d7, ps7, rfl, hI7, hU7, b7⟩
  have HI7 := Lib.hid hI7
  have HU7 := Lib.hid hU7
  have HB7 := Lib.hid (bthen HB0.out b7 (Nat.le_refl _))
  have HR7 := Lib.hid (HR0.out.on b7)
  have HS7 := Lib.hid b7.size
  clear hI7 hU7 b7
  have r0 := HR7.out.cs 0 _ rfl
  have r1 := HR7.out.cs 1 _ rfl
  have rl := HR7.out.lt
  have rf : ∀ j, w7.frozen? ⟨w.heap.size + 2, j, none⟩ = false := HR7.out.s
  simp only [bkV]
  go_wp2_with fail
  have hQ := HR7.out.fill [.slice A7 shops.length c7, .slice B7 out.length d7] rfl
  have hB := below_putAll (g := w.heap.size + 2) (by omega) [.slice A7 shops.length c7, .slice B7 out.length d7] 0 HB7.out
  have hng : ¬ ((U (w.heap.size + 2) ∧ w.heap.size + 2 < w.heap.size) ∨ w6.heap.size ≤ w.heap.size + 2) := by
    have := HSZ.out
    rintro (h | h)
    · omega
    · omega
  have hI8 := (HI7.out.put HU7.out hng 0 (.slice A7 shops.length c7)).put (HU7.out.put (w.heap.size + 2) 0 (.slice A7 shops.length c7)) hng 1 (.slice B7 out.length d7)
  have hU8 := (HU7.out.put (w.heap.size + 2) 0 (.slice A7 shops.length c7)).put (w.heap.size + 2) 1 (.slice B7 out.length d7)
  simp only [putAll] at hQ hB
  have g0 := hQ.cs 0 _ rfl
  have g1 := hQ.cs 1 _ rfl
  refine bodyPost_ret (v := .agg #[.slice A7 shops.length c7, .slice B7 out.length d7]) (by simp [results, Tryz.results31, go_sem, g0, g1]) rfl ⟨A7, c7, B7, d7, ps7, rfl, hI8, hU8.mono (fun g h => ?_), hB⟩
  have := HSZ.out
  rcases h with ⟨h, -⟩ | h
  · exact .inl h
  · exact .inr (by omega)
set_option maxRecDepth 100000 in
set_option maxHeartbeats 4000000 in
theorem rtUnbind_any (b : Bk) (A : Option Addr) (c : Nat) (B : Option Addr) (d : Nat) (ps : List Bp) (x : Bd) (Ax : Option Addr) (cx : Nat) (w : World) (U : Nat → Prop) (hlb : b.binds.length ≤ 1000) (hI : BkAt w A c B d b ps) (hU : BkU U w A B ps) (hx : BdOk w x Ax cx) :
    Calls Tryz.prog 29 #[bkV A c B d b, bdV x Ax cx] w (BkPost U (b.unbind x).1 (b.unbind x).2 w) := by
  obtain ⟨shops, binds⟩ := b
  dsimp only at hlb
  have hb0 := rtThree w (.cells #[.slice A shops.length c, .slice B binds.length d] 28) (.cells #[.string (ofL x.shop), .string (ofL x.to), .bool x.up, .string (ofL x.key), .slice Ax x.want.length cx, .bool x.all] 37) (.cells #[.slice none 0 0, .slice none 0 0] 28)
  have HX0 := Lib.hid (rtNext (rtNext (rtAt0 w #[.slice A shops.length c, .slice B binds.length d] 28) (.cells #[.string (ofL x.shop), .string (ofL x.to), .bool x.up, .string (ofL x.key), .slice Ax x.want.length cx, .bool x.all] 37)) (.cells #[.slice none 0 0, .slice none 0 0] 28))
  have HN0 := Lib.hid (rtNext (rtAt1 w (.cells #[.slice A shops.length c, .slice B binds.length d] 28) #[.string (ofL x.shop), .string (ofL x.to), .bool x.up, .string (ofL x.key), .slice Ax x.want.length cx, .bool x.all] 37) (.cells #[.slice none 0 0, .slice none 0 0] 28))
  have HR0 := Lib.hid (rtAt2 w (.cells #[.slice A shops.length c, .slice B binds.length d] 28) (.cells #[.string (ofL x.shop), .string (ofL x.to), .bool x.up, .string (ofL x.key), .slice Ax x.want.length cx, .bool x.all] 37) #[.slice none 0 0, .slice none 0 0] 28)
  have HSZ := Lib.hid (show (((w.alloc (.cells #[.slice A shops.length c, .slice B binds.length d] 28)).alloc (.cells #[.string (ofL x.shop), .string (ofL x.to), .bool x.up, .string (ofL x.key), .slice Ax x.want.length cx, .bool x.all] 37)).alloc (.cells #[.slice none 0 0, .slice none 0 0] 28)).heap.size = w.heap.size + 3 by simp)
  have hhas := rtHas_any ⟨shops, binds⟩ A c B d ps x Ax cx _ hlb (hI.on hb0) (hx.on hb0)
  have HB0 := Lib.hid hb0
  have HI0 := Lib.hid hI
  have HU := Lib.hid hU
  have HXO := Lib.hid hx
  dsimp only at hhas
  by_cases hm : x ∈ binds
  · have e3 : Bk.unbind ⟨shops, binds⟩ x = (⟨shops, binds.filter fun y => !(decide (x = y))⟩, 0) := by unfold Bk.unbind; rw [if_pos hm]
    rw [decide_eq_true hm] at hhas
    rw [e3]
    dsimp only
    have HH := Lib.hid hhas
    have HD := Lib.hid (fun W y Ay cy h1 h2 h3 => rtUnbind1_any y x Ay Ax cy cx (w.heap.size + 1) W h1 h2 h3)
    have HKK := Lib.hid (fun W h1 U h2 h3 => rtKeep_any 63 (w.heap.size + 1) (.inr (.inl rfl)) (fun y => !bdEq x y) ⟨shops, binds⟩ A c B d ps W hlb h1 U h2 h3)
    have e4 : (binds.filter fun y => !bdEq x y) = binds.filter fun y => !(decide (x = y)) := by congr 1; funext y; rw [bdEq_dec]
    rw [e4] at HKK
    generalize binds.filter (fun y => !(decide (x = y))) = out at *
    simp only [bkV, bdV] at *
    clear hI hU hb0 hhas hm e3 e4 hx
    go_enter Tryz.func29, Tryz.ntmps29
    go_wp2_with fail
    generalize ((w.alloc (.cells #[.slice A shops.length c, .slice B binds.length d] 28)).alloc (.cells #[.string (ofL x.shop), .string (ofL x.to), .bool x.up, .string (ofL x.key), .slice Ax x.want.length cx, .bool x.all] 37)).alloc (.cells #[.slice none 0 0, .slice none 0 0] 28) = w1 at *
    refine HH.out.mono ?_
    rintro e w6 ⟨rfl, b6⟩
    have hb6 := bthen HB0.out b6 (Nat.le_refl _)
    have hX6 := HX0.out.on b6
    have hN6 := HN0.out.on b6
    have x0 := hX6.cs 0 _ rfl
    have x1 := hX6.cs 1 _ rfl
    have xl := hX6.lt
    have HKP := Lib.hid (HKK.out w6 (HI0.out.on hb6) _ (HU.out.self.on hb6.size) (fun W y Ay cy hW hy => HD.out W y Ay cy (fun j v hv => (hN6.on hW).cs j v hv) (HXO.out.on (bthen hb6 hW (Nat.le_refl _))) hy))
    have hsz6 := b6.size
    rw [HSZ.out] at hsz6
    replace HSZ := Lib.hid hsz6
    replace HB0 := Lib.hid hb6
    replace HR0 := Lib.hid (HR0.out.on b6)
    clear b6 hb6 hX6 hN6 hsz6
    go_wp2_with fail
    refine HKP.out.mono ?_
    rintro e w7 ⟨A7, c7, B7, d7, ps7, rfl, hI7, hU7, b7⟩
    clear x0 x1 xl
    have HI7 := Lib.hid hI7
    have HU7 := Lib.hid hU7
    have HB7 := Lib.hid (bthen HB0.out b7 (Nat.le_refl _))
    have HR7 := Lib.hid (HR0.out.on b7)
    have HS7 := Lib.hid b7.size
    clear hI7 hU7 b7
    have r0 := HR7.out.cs 0 _ rfl
    have r1 := HR7.out.cs 1 _ rfl
    have rl := HR7.out.lt
    have rf : ∀ j, w7.frozen? ⟨w.heap.size + 2, j, none⟩ = false := HR7.out.s
    simp only [bkV]
    go_wp2_with fail
    have hQ := HR7.out.fill [.slice A7 shops.length c7, .slice B7 out.length d7] rfl
    have hB := below_putAll (g := w.heap.size + 2) (by omega) [.slice A7 shops.length c7, .slice B7 out.length d7] 0 HB7.out
    have hng : ¬ ((U (w.heap.size + 2) ∧ w.heap.size + 2 < w.heap.size) ∨ w6.heap.size ≤ w.heap.size + 2) := by
      have := HSZ.out
      rintro (h | h)
      · omega
      · omega
    have hI8 := (HI7.out.put HU7.out hng 0 (.slice A7 shops.length c7)).put (HU7.out.put (w.heap.size + 2) 0 (.slice A7 shops.length c7)) hng 1 (.slice B7 out.length d7)
    have hU8 := (HU7.out.put (w.heap.size + 2) 0 (.slice A7 shops.length c7)).put (w.heap.size + 2) 1 (.slice B7 out.length d7)
    simp only [putAll] at hQ hB
    have g0 := hQ.cs 0 _ rfl
    have g1 := hQ.cs 1 _ rfl
    refine bodyPost_ret (v := .tuple #[.agg #[.slice A7 shops.length c7, .slice B7 out.length d7], .int .i64 0]) (by simp [results, Tryz.results29, go_sem, g0, g1]) rfl ⟨A7, c7, B7, d7, ps7, rfl, hI8, hU8.mono (fun g h => ?_), hB⟩
    have := HSZ.out
    rcases h with ⟨h, -⟩ | h
    · exact .inl h
    · exact .inr (by omega)
  · have e3 : Bk.unbind ⟨shops, binds⟩ x = (⟨shops, binds⟩, 10) := by unfold Bk.unbind; rw [if_neg hm]
    rw [decide_eq_false hm] at hhas
    rw [e3]
    dsimp only
    have HH := Lib.hid hhas
    simp only [bkV, bdV] at *
    clear hI hU hb0 hhas hm e3 hx
    go_enter Tryz.func29, Tryz.ntmps29
    go_wp2_with fail
    generalize ((w.alloc (.cells #[.slice A shops.length c, .slice B binds.length d] 28)).alloc (.cells #[.string (ofL x.shop), .string (ofL x.to), .bool x.up, .string (ofL x.key), .slice Ax x.want.length cx, .bool x.all] 37)).alloc (.cells #[.slice none 0 0, .slice none 0 0] 28) = w1 at *
    refine HH.out.mono ?_
    rintro e w2 ⟨rfl, b2⟩
    have HB2 := Lib.hid (bthen HB0.out b2 (Nat.le_refl _))
    have HX2 := HX0.out.on b2
    have HR2 := Lib.hid (HR0.out.on b2)
    clear b2
    have x0 := HX2.cs 0 _ rfl
    have x1 := HX2.cs 1 _ rfl
    have xl := HX2.lt
    have r0 := HR2.out.cs 0 _ rfl
    have r1 := HR2.out.cs 1 _ rfl
    have rl := HR2.out.lt
    have rf : ∀ j, w2.frozen? ⟨w.heap.size + 2, j, none⟩ = false := HR2.out.s
    clear HX2
    go_wp2_with fail
    have hQ := HR2.out.fill [.slice A shops.length c, .slice B binds.length d] rfl
    have hB := below_putAll (g := w.heap.size + 2) (by omega) [.slice A shops.length c, .slice B binds.length d] 0 HB2.out
    simp only [putAll] at hQ hB
    have g0 := hQ.cs 0 _ rfl
    have g1 := hQ.cs 1 _ rfl
    exact bodyPost_ret (v := .tuple #[.agg #[.slice A shops.length c, .slice B binds.length d], .int .i64 10]) (by simp [results, Tryz.results29, go_sem, g0, g1]) rfl ⟨A, c, B, d, ps, rfl, HI0.out.on hB, (HU.out.mono (fun g h => .inl h)).on hB.size, hB⟩
end Go.Proofs.YtopobliajgocaaaGreatDoor
end
