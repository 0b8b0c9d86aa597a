/-
  SOME OF A BOOK's BINDINGS KEPT, by a closure: walked.
-/
import Derived.Test.YtopobliajgocaaaGreatDoorZp24

section
namespace Go.Proofs.YtopobliajgocaaaGreatDoor
open Go.ChangeShapes Go.WideShapes Go.ChangeAt Go.RowKit
theorem rtOwnPut {w : World} {B e sz n : Nat} {v : Value} {xs : List Value} (h : w.ownsRow B e sz v n xs) {g : Nat} (hg : g < B) (j : Nat) (u : Value) : (w.setCell ⟨g, j, none⟩ u).ownsRow B e sz v n xs := h.kept (only_setCell (p := ⟨g, j, none⟩) (World.grownBy.refl w (some g)) rfl u) (.inr (Rw.own_row h hg))
/-- a closure that tells of a binding, and writes nothing that was there -/
def TellsBd (f : Nat) (c : Array Value) (q : Bd → Bool) (w : World) : Prop :=
  ∀ (W : World) (x : Bd) (A : Option Addr) (k : Nat), Below w.heap.size w W → BdOk W x A k → Calls Tryz.prog f (#[bdV x A k] ++ c) W fun e w' => e = .returned (.bool (q x)) ∧ Below W.heap.size W w'
theorem rtDrop2_any (x : Bd) (A : Option Addr) (c : Nat) (s : List UInt8) (b : Nat) (w : World) (h : w.cell? ⟨b, 0, none⟩ = some (.string (ofL s))) : Calls Tryz.prog 61 #[bdV x A c, .pointer (some ⟨b, 0, none⟩)] w fun e w' => e = .returned (.bool (!(x.shop == s))) ∧ Below w.heap.size w w' := by
  have hbl := World.block_lt_of_cell? w _ h
  simp only at hbl
  have HN := str_same x.shop s
  generalize (x.shop == s) = B at *
  simp only [bdV] at *
  go_enter Tryz.func61, Tryz.ntmps61
  go_wp2_with fail
  go_ret
  exact ⟨by simp, rtOne w _⟩
theorem rtForget1_any (x : Bd) (A : Option Addr) (c : Nat) (s : List UInt8) (b : Nat) (w : World) (h : w.cell? ⟨b, 0, none⟩ = some (.string (ofL s))) : Calls Tryz.prog 64 #[bdV x A c, .pointer (some ⟨b, 0, none⟩)] w fun e w' => e = .returned (.bool (x.up || !(x.to == s))) ∧ Below w.heap.size w w' := by
  have hbl := World.block_lt_of_cell? w _ h
  simp only at hbl
  have HN := str_same x.to s
  have HB := Lib.hid (rtOne w (.cells #[.string (ofL x.shop), .string (ofL x.to), .bool x.up, .string (ofL x.key), .slice A x.want.length c, .bool x.all] 37))
  generalize (x.to == s) = B at *
  simp only [bdV] at *
  cases hu : x.up with
  | true =>
    rw [hu] at HB
    go_enter Tryz.func64, Tryz.ntmps64
    go_wp2_with fail
    go_ret
    exact ⟨by simp, HB.out⟩
  | false =>
    rw [hu] at HB
    go_enter Tryz.func64, Tryz.ntmps64
    go_wp2_with fail
    go_ret
    exact ⟨by simp, HB.out⟩
theorem rtUnbind1_any (y x : Bd) (Ay Ax : Option Addr) (cy cx : Nat) (b : Nat) (w : World) (hx : ∀ j v, (bdL x Ax cx)[j]? = some v → w.cell? ⟨b, j, none⟩ = some v) (hox : BdOk w x Ax cx) (hoy : BdOk w y Ay cy) : Calls Tryz.prog 63 #[bdV y Ay cy, .pointer (some ⟨b, 0, none⟩)] w fun e w' => e = .returned (.bool (!bdEq x y)) ∧ Below w.heap.size w w' := by
  have x0 := hx 0 _ rfl
  have x1 := hx 1 _ rfl
  have x2 := hx 2 _ rfl
  have x3 := hx 3 _ rfl
  have x4 := hx 4 _ rfl
  have x5 := hx 5 _ rfl
  have hbl := World.block_lt_of_cell? w _ x0
  simp only at hbl
  have hb0 := rtOne w (.cells #[.string (ofL y.shop), .string (ofL y.to), .bool y.up, .string (ofL y.key), .slice Ay y.want.length cy, .bool y.all] 37)
  have HC := Lib.hid (bdSame_any x y Ax cx Ay cy _ hox.len hoy.len (hox.row.on hb0) (hoy.row.on hb0))
  have HB0 := Lib.hid hb0
  clear hox hoy hb0 hx
  generalize bdEq x y = E at *
  simp only [bdV] at *
  go_enter Tryz.func63, Tryz.ntmps63
  go_wp2_with fail
  refine HC.out.mono ?_
  rintro e w2 ⟨rfl, b2⟩
  have HB2 := Lib.hid (bthen HB0.out b2 (Nat.le_refl _))
  clear b2
  go_wp2_with fail
  go_ret
  exact ⟨rfl, HB2.out⟩
def KpSt (q : Bd → Bool) (ps : List Bp) (w1 : World) (n g : Nat) (v i : Value) (wr : World) : Prop :=
  ∃ k : Nat, k + g = n ∧ i = .int .i64 (k : Int) ∧ wr.ownsRow w1.heap.size 37 6 v ((ps.take k).filter fun p => q p.x).length (bps ((ps.take k).filter fun p => q p.x)) ∧ Below w1.heap.size w1 wr
theorem kp_yes {q : Bd → Bool} {ps : List Bp} {k : Nat} (hk : k < ps.length) (h : q ps[k].x = true) : (ps.take (k + 1)).filter (fun p => q p.x) = (ps.take k).filter (fun p => q p.x) ++ [ps[k]] := by
  rw [List.take_succ_eq_append_getElem hk, List.filter_append]
  simp [h]
theorem kp_no {q : Bd → Bool} {ps : List Bp} {k : Nat} (hk : k < ps.length) (h : q ps[k].x = false) : (ps.take (k + 1)).filter (fun p => q p.x) = (ps.take k).filter (fun p => q p.x) := by
  rw [List.take_succ_eq_append_getElem hk, List.filter_append]
  simp [h]
theorem kp_len {q : Bd → Bool} (ps : List Bp) (k : Nat) : ((ps.take k).filter fun p => q p.x).length ≤ ps.length := Nat.le_trans (List.length_filter_le _ _) (by rw [List.length_take]; omega)
theorem kp_map {q : Bd → Bool} (ps : List Bp) : (ps.filter fun p => q p.x).map Bp.x = (ps.map Bp.x).filter q := by
  induction ps with
  | nil => rfl
  | cons p ps ih => cases h : q p.x <;> simp [h, ih]
set_option maxRecDepth 100000 in
set_option maxHeartbeats 8000000 in
theorem rtKeep_any (f : Nat) (pb : Nat) (hf : f = 61 ∨ f = 63 ∨ f = 64) (q : Bd → Bool) (b : Bk) (A : Option Addr) (c : Nat) (B : Option Addr) (d : Nat) (ps : List Bp) (w : World) (hl : b.binds.length ≤ 1000) (hI : BkAt w A c B d b ps) (U : Nat → Prop) (hU : BkU U w A B ps) (ht : TellsBd f #[.pointer (some ⟨pb, 0, none⟩)] q w) :
    Calls Tryz.prog 60 #[bkV A c B d b, .func (.func f) #[] #[.pointer (some ⟨pb, 0, none⟩)]] w (BkPost1 U ⟨b.shops, b.binds.filter q⟩ w) := by
  obtain ⟨shops, binds⟩ := b
  dsimp only at hl
  obtain ⟨iN, hiN, hzN0, hzN1, hzN2⟩ := info_parts infoBd
  have hml := hI.len
  dsimp only at hml
  have hb0 := rtTwo w (.cells #[.slice A shops.length c, .slice B binds.length d] 28) (.cells #[.slice none 0 0, .slice none 0 0] 28)
  have HX0 := Lib.hid (rtNext (rtAt0 w #[.slice A shops.length c, .slice B binds.length d] 28) (.cells #[.slice none 0 0, .slice none 0 0] 28))
  have HR0 := Lib.hid (rtAt1 w (.cells #[.slice A shops.length c, .slice B binds.length d] 28) #[.slice none 0 0, .slice none 0 0] 28)
  have HSZ := Lib.hid (show ((w.alloc (.cells #[.slice A shops.length c, .slice B binds.length d] 28)).alloc (.cells #[.slice none 0 0, .slice none 0 0] 28)).heap.size = w.heap.size + 2 by simp)
  have HB0 := Lib.hid hb0
  have HI0 := Lib.hid hI
  have HU := Lib.hid hU
  have HT := Lib.hid ht
  have HML := Lib.hid hml
  unfold bkV
  dsimp only
  rw [← hml] at HX0 HR0 HSZ HB0 hl ⊢
  clear hml hI hU ht hb0
  rcases hf with rfl | rfl | rfl
  all_goals
    go_enter Tryz.func60, Tryz.ntmps60
    go_wp2_with fail
    generalize (w.alloc (.cells #[.slice A shops.length c, .slice B ps.length d] 28)).alloc (.cells #[.slice none 0 0, .slice none 0 0] 28) = w1 at *
    go_loopg [5, 11] ps.length (fun g v i wr => KpSt q ps w1 ps.length g v i wr)
    case atStart => exact ⟨0, by omega, rfl, World.ownsRow_nil _ _ _ _, Below.refl _ _⟩
    case round =>
      obtain ⟨k, hk, rfl, hown, hB⟩ := hrel
      have HK := Lib.hid hk
      have HB := Lib.hid hB
      have HOWN := Lib.hid hown
      obtain ⟨Av, cv, rfl, -, -⟩ := Rw.own_cells hown
      clear hk hB hown
      have HBW := Lib.hid (bthen HB0.out HB.out (Nat.le_refl _))
      by_cases hlt : k < ps.length
      · have hbd := HI0.out.bds.on HBW.out
        obtain ⟨bb, off, rfl, hbl, hat⟩ := bps_get hbd.row hlt
        have hok := hbd.ok ps[k] (List.getElem_mem hlt)
        have HLEN := Lib.hid (kp_len (q := q) ps k)
        have HY := Lib.hid (fun h => kp_yes (q := q) hlt h)
        have HNO := Lib.hid (fun h => kp_no (q := q) hlt h)
        generalize hys : (ps.take k).filter (fun p => q p.x) = ys at *
        have hyl : ys.length ≤ 1000 := by have := HLEN.out; omega
        generalize ps[k] = p at *
        obtain ⟨x, Ax, cx⟩ := p
        unfold bpL bdL at hat
        dsimp only at hat hok HY HNO
        have c0 := hat 0 _ rfl
        have c1 := hat 1 _ rfl
        have c2 := hat 2 _ rfl
        have c3 := hat 3 _ rfl
        have c4 := hat 4 _ rfl
        have c5 := hat 5 _ rfl
        rw [Nat.add_zero] at c0
        have ha := rtOne wr (.cells #[.string (ofL x.shop), .string (ofL x.to), .bool x.up, .string (ofL x.key), .slice Ax x.want.length cx, .bool x.all] 37)
        have HC := Lib.hid (HT.out _ x Ax cx (bthen HBW.out ha (Nat.le_refl _)) (hok.on ha))
        have HE0 := Lib.hid (rtAt0 wr #[.string (ofL x.shop), .string (ofL x.to), .bool x.up, .string (ofL x.key), .slice Ax x.want.length cx, .bool x.all] 37)
        have HA := Lib.hid ha
        have HW1 := Lib.hid HB.out.size
        clear hat hok hbd ha
        simp only [bdV] at HC
        cases hq : q x with
        | true =>
          have HNX := Lib.hid (HY.out hq)
          rw [hq] at HC
          clear hq
          go_wp2_with fail
          generalize wr.alloc (.cells #[.string (ofL x.shop), .string (ofL x.to), .bool x.up, .string (ofL x.key), .slice Ax x.want.length cx, .bool x.all] 37) = w2 at *
          refine HC.out.mono ?_
          rintro e w3 ⟨rfl, hb3⟩
          have HB3 := Lib.hid (bthen HA.out hb3 (Nat.le_refl _))
          have HE3 := HE0.out.on hb3
          have z0 := HE3.cs 0 _ rfl
          have z1 := HE3.cs 1 _ rfl
          have z2 := HE3.cs 2 _ rfl
          have z3 := HE3.cs 3 _ rfl
          have z4 := HE3.cs 4 _ rfl
          have z5 := HE3.cs 5 _ rfl
          have zl := HE3.lt
          have HA4 := Lib.hid (rtOne w3 (.cells #[.string (ofL x.shop), .string (ofL x.to), .bool x.up, .string (ofL x.key), .slice Ax x.want.length cx, .bool x.all] 37))
          have HOW := Lib.hid (Rw.own_on (Rw.own_on HOWN.out HB3.out) HA4.out)
          have HNW := Lib.hid (Rws.of_news (w := w3.alloc (.cells #[.string (ofL x.shop), .string (ofL x.to), .bool x.up, .string (ofL x.key), .slice Ax x.want.length cx, .bool x.all] 37)) (b := w3.heap.size) (off := 0) (cs := bps [⟨x, Ax, cx⟩]) (fun j u hu => by
            rw [bps_one1] at hu
            rw [Nat.zero_add]
            exact (BoxC.new (w := w3) (Nat.le_refl _) #[.string (ofL x.shop), .string (ofL x.to), .bool x.up, .string (ofL x.key), .slice Ax x.want.length cx, .bool x.all] 37).cs j u hu))
          have hsz : w1.heap.size ≤ (w3.alloc (.cells #[.string (ofL x.shop), .string (ofL x.to), .bool x.up, .string (ofL x.key), .slice Ax x.want.length cx, .bool x.all] 37)).heap.size := by have := HW1.out; have := HB3.out.size; have := HA4.out.size; omega
          clear hb3 HE3
          go_wp2_with (at_builtin; refine wpList_append_rws _ rfl _ _ 26 rfl w1.heap.size 37 iN _ 6 88 Tryz.underlying26 hiN hzN0 hzN1 hzN2 rfl (by decide) (by decide) (by rfl) HOW.out (by rfl) HNW.out (by rfl) (bps_one _) (by omega) (fun e => by cases e) hsz ?_; intro v' w4 hown hgrow; have HO4 := Lib.hid hown; have HG4 := Lib.hid hgrow; obtain ⟨A5, c5', rfl, -, -⟩ := Rw.own_cells hown; clear hown hgrow)
          go_roundg (gk - 1)
          case rel => exact ⟨k + 1, by have := HK.out; omega, by go_num, by rw [HNX.out, List.length_append, bps_app]; exact HO4.out, (bthen (bthen HB.out HB3.out (Nat.le_refl _)) HA4.out (Nat.le_refl _)).grown HG4.out hsz (fun k hk => (HOW.out.lt k hk).1)⟩
          case measure => have := HK.out; omega
        | false =>
          have HNX := Lib.hid (HNO.out hq)
          rw [hq] at HC
          clear hq
          go_wp2_with fail
          generalize wr.alloc (.cells #[.string (ofL x.shop), .string (ofL x.to), .bool x.up, .string (ofL x.key), .slice Ax x.want.length cx, .bool x.all] 37) = w2 at *
          refine HC.out.mono ?_
          rintro e w3 ⟨rfl, hb3⟩
          have HB3 := Lib.hid (bthen HA.out hb3 (Nat.le_refl _))
          clear hb3
          go_wp2_with fail
          go_roundg (gk - 1)
          case rel => exact ⟨k + 1, by have := HK.out; omega, by go_num, by rw [HNX.out]; exact Rw.own_on HOWN.out HB3.out, bthen HB.out HB3.out (Nat.le_refl _)⟩
          case measure => have := HK.out; omega
      · have hkn : k = ps.length := by have := HK.out; omega
        have HKE := Lib.hid (show (ps.take k).filter (fun p => q p.x) = ps.filter (fun p => q p.x) by rw [hkn, List.take_length])
        rw [HKE.out] at HOWN ⊢
        clear hkn
        have HX2 := Lib.hid (HX0.out.on HB.out)
        have HR2 := Lib.hid (HR0.out.on HB.out)
        have x0 := HX2.out.cs 0 _ rfl
        have x1 := HX2.out.cs 1 _ rfl
        have xl := HX2.out.lt
        have xf : ∀ j, wr.frozen? ⟨w.heap.size, j, none⟩ = false := HX2.out.s
        have r0 := HR2.out.cs 0 _ rfl
        have r1 := HR2.out.cs 1 _ rfl
        have rl := HR2.out.lt
        have rf : ∀ j, wr.frozen? ⟨w.heap.size + 1, j, none⟩ = false := HR2.out.s
        have hmp := kp_map (q := q) ps
        rw [HI0.out.xs] at hmp
        have HMP := Lib.hid hmp
        clear hmp
        have HMM := Lib.hid (fun p (hp : p ∈ ps.filter (fun p => q p.x)) => And.intro (HI0.out.bds.ok p (List.mem_filter.1 hp).1) (HU.out.p p (List.mem_filter.1 hp).1))
        generalize ps.filter (fun p => q p.x) = ys at *
        have HYL := Lib.hid (show (binds.filter q).length = ys.length by rw [← HMP.out, List.length_map])
        go_wp2_with fail
        have hQ := (HR2.out.aside (g := w.heap.size) (by omega) 1 (.slice Av ys.length cv)).fill [.slice A shops.length c, .slice Av ys.length cv] rfl
        have hB := below_putAll (g := w.heap.size + 1) (by omega) [.slice A shops.length c, .slice Av ys.length cv] 0 (HBW.out.setCell (p := ⟨w.heap.size, 1, none⟩) (Nat.le_refl _) (.slice Av ys.length cv))
        simp only [putAll] at hQ hB
        have g0 := hQ.cs 0 _ rfl
        have g1 := hQ.cs 1 _ rfl
        have hO := rtOwnPut (rtOwnPut (rtOwnPut HOWN.out (g := w.heap.size) (by have := HSZ.out; omega) 1 (.slice Av ys.length cv)) (g := w.heap.size + 1) (by have := HSZ.out; omega) 0 (.slice A shops.length c)) (g := w.heap.size + 1) (by have := HSZ.out; omega) 1 (.slice Av ys.length cv)
        refine bodyPost_ret (v := .agg #[.slice A shops.length c, .slice Av ys.length cv]) (by simp [results, Tryz.results60, go_sem, g0, g1]) rfl ?_
        obtain ⟨A9, c9, e9, hc9, hn9, hr9, hb9⟩ := Rws.of_own hO
        obtain ⟨rfl, -, rfl⟩ := Value.slice.inj e9
        refine ⟨A, c, Av, cv, ys, by unfold bkV; rw [HYL.out], ⟨HMP.out, HI0.out.capA, HI0.out.nilA, hc9, hn9, HI0.out.shs.on hB, ⟨hr9, fun p hp => (HMM.out p hp).1.on hB⟩⟩, ⟨fun x hx => ⟨.inl (HU.out.a x hx).1, Nat.lt_of_lt_of_le (HU.out.a x hx).2 hB.size⟩, fun x hx => ⟨.inr (by have := (hb9 x hx).1; have := HSZ.out; omega), (hb9 x hx).2⟩, fun p hp hw x hx => ⟨.inl ((HMM.out p hp).2 hw x hx).1, Nat.lt_of_lt_of_le ((HMM.out p hp).2 hw x hx).2 hB.size⟩⟩, hB⟩
end Go.Proofs.YtopobliajgocaaaGreatDoor
end
