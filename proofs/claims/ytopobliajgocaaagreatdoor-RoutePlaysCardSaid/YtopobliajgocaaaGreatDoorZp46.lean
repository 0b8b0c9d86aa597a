/-
  BOOKS HELD AGAINST EACH OTHER, the document's: walked.
-/
import Derived.Test.YtopobliajgocaaaGreatDoorZp45

section
namespace Go.Proofs.YtopobliajgocaaaGreatDoor
open Go.ChangeShapes Go.WideShapes Go.ChangeAt Go.RowKit
/-- two boxes -/
structure Bo (w : World) (X Y : List Value) (W : World) : Prop where
  bx : BoxC w w.heap.size X W
  by_ : BoxC w (w.heap.size + 1) Y W
  B : Below w.heap.size w W
theorem Bo.on {w W W' : World} {X Y : List Value} (h : Bo w X Y W) (hb : Below W.heap.size W W') : Bo w X Y W' := ⟨h.bx.on hb, h.by_.on hb, bthen h.B hb (Nat.le_refl _)⟩
theorem Bo.new (w : World) (X Y : Array Value) (t t' : TypeId) : Bo w X.toList Y.toList ((w.alloc (.cells X t)).alloc (.cells Y t')) := ⟨rtNext (rtAt0 w X t) _, rtAt1 w _ Y t', rtTwo w _ _⟩
def SmSt (w : World) (X Y : List Value) (b q : List Sh) (n g : Nat) (i : Value) (wr : World) : Prop := ∃ k : Nat, k + g = n ∧ i = .int .i64 (k : Int) ∧ (∀ j, j < k → b.getD j Bk.Sh0 = q.getD j Bk.Sh0) ∧ Bo w X Y wr
def SnSt (w : World) (X Y : List Value) (b q : List Bd) (n g : Nat) (i : Value) (wr : World) : Prop := ∃ k : Nat, k + g = n ∧ i = .int .i64 (k : Int) ∧ (∀ j, j < k → b.getD j Bk.Bd0 = q.getD j Bk.Bd0) ∧ Bo w X Y wr
attribute [local go_sem] guardRSh
set_option maxRecDepth 100000 in
set_option maxHeartbeats 16000000 in
theorem r14Same_any (b q : Bk) (A : Option Addr) (c : Nat) (B : Option Addr) (d : Nat) (ps : List Bp) (C : Option Addr) (e : Nat) (D : Option Addr) (f : Nat) (qs : List Bp) (w : World) (h1 : b.shops.length ≤ 100000) (h2 : b.binds.length ≤ 100000) (h3 : q.shops.length ≤ 100000) (h4 : q.binds.length ≤ 100000) (hI : BkAt w A c B d b ps) (hJ : BkAt w C e D f q qs) :
    Calls Tryz.prog 9 #[bkV A c B d b, bkV C e D f q] w fun en w' => en = .returned (.bool (decide (b = q))) ∧ Below w.heap.size w w' := by
  have HBO := Lib.hid (Bo.new w #[.slice A b.shops.length c, .slice B b.binds.length d] #[.slice C q.shops.length e, .slice D q.binds.length f] 32 32)
  have HI := Lib.hid (fun W (hb : Below w.heap.size w W) => hI.on hb)
  have HJ := Lib.hid (fun W (hb : Below w.heap.size w W) => hJ.on hb)
  have HPL := Lib.hid hI.len
  have HQL := Lib.hid hJ.len
  have HXL := Lib.hid (fun i (hi : i < ps.length) => bx_get hI.xs hi)
  have HXM := Lib.hid (fun i (hi : i < qs.length) => bx_get hJ.xs hi)
  have hdec : decide (b = q) = (decide (b.shops = q.shops) && decide (b.binds = q.binds)) := by
    cases b; cases q
    simp
  rw [hdec]
  have HSE := Lib.hid (fun x y W => rsh_eq x y W)
  have HSB := Lib.hid (fun x y A c B d W h1 h2 h3 h4 => r14SameBind_any x y A c B d W h1 h2 h3 h4)
  have HSNE := Lib.hid (show b.shops.length ≠ q.shops.length → (decide (b.shops = q.shops) && decide (b.binds = q.binds)) = false from fun h => by rw [la_len h]; rfl)
  have HSNO := Lib.hid (fun k h => (show (decide (b.shops = q.shops) && decide (b.binds = q.binds)) = false by rw [la_not (l := b.shops) (m := q.shops) (z := Bk.Sh0) (k := k) h]; rfl))
  have HBNE := Lib.hid (show b.binds.length ≠ q.binds.length → (decide (b.shops = q.shops) && decide (b.binds = q.binds)) = false from fun h => by rw [la_len h, Bool.and_false])
  have HBNO := Lib.hid (fun k h => (show (decide (b.shops = q.shops) && decide (b.binds = q.binds)) = false by rw [la_not (l := b.binds) (m := q.binds) (z := Bk.Bd0) (k := k) h, Bool.and_false]))
  have HYES := Lib.hid (fun h g h' g' => (show (decide (b.shops = q.shops) && decide (b.binds = q.binds)) = true by rw [la_yes (l := b.shops) (m := q.shops) (z := Bk.Sh0) h g, la_yes (l := b.binds) (m := q.binds) (z := Bk.Bd0) h' g']; rfl))
  clear hI hJ hdec
  obtain ⟨shb, bnb⟩ := b
  obtain ⟨shq, bnq⟩ := q
  dsimp only at *
  generalize (decide (shb = shq) && decide (bnb = bnq)) = M at *
  unfold bkV
  dsimp only
  by_cases hsl : shb.length = shq.length
  · have dsl : ((shb.length : Int) != (shq.length : Int)) = false := by rw [hsl]; simp
    have HSL := Lib.hid hsl
    clear hsl
    by_cases hbl : bnb.length = bnq.length
    · have dbl : ((bnb.length : Int) != (bnq.length : Int)) = false := by rw [hbl]; simp
      have HBL := Lib.hid hbl
      clear hbl
      go_enter Tryz.func9, Tryz.ntmps9
      go_upto_region 1 with fail
      generalize (w.alloc (.cells #[.slice A shb.length c, .slice B bnb.length d] 32)).alloc (.cells #[.slice C shq.length e, .slice D bnq.length f] 32) = w1 at *
      have x0 := HBO.out.bx.cs 0 _ rfl
      have x1 := HBO.out.bx.cs 1 _ rfl
      have xl := HBO.out.bx.lt
      have y0 := HBO.out.by_.cs 0 _ rfl
      have y1 := HBO.out.by_.cs 1 _ rfl
      have yl := HBO.out.by_.lt
      go_wp2_with fail
      clear dsl dbl x0 x1 xl y0 y1 yl
      go_loopg [26] shb.length (fun g i wr => SmSt w [.slice A shb.length c, .slice B bnb.length d] [.slice C shq.length e, .slice D bnq.length f] shb shq shb.length g i wr)
      case atStart => exact ⟨0, by omega, rfl, fun j hj => absurd hj (by omega), HBO.out⟩
      case round =>
        obtain ⟨k, hk, rfl, hno, hbo⟩ := hrel
        have HK := Lib.hid hk
        have HALL := Lib.hid hno
        have HB1 := Lib.hid hbo
        have x0 := hbo.bx.cs 0 _ rfl
        have x1 := hbo.bx.cs 1 _ rfl
        have xl := hbo.bx.lt
        have y0 := hbo.by_.cs 0 _ rfl
        have y1 := hbo.by_.cs 1 _ rfl
        have yl := hbo.by_.lt
        clear hk hno hbo
        by_cases hlt : k < shb.length
        · have hlt2 : k < shq.length := by have := HSL.out; omega
          obtain ⟨ba, oa, rfl, hba, hc3⟩ := shs_get (HI.out _ HB1.out.B).shs.row hlt
          obtain ⟨bb, ob, rfl, hbb, hd3⟩ := shs_get (HJ.out _ HB1.out.B).shs.row hlt2
          rw [sh_get] at hc3 hd3
          have hk1 : ¬ ((k : Int) < 0) := by omega
          have hk2 : (k : Int) < (shb.length : Int) := by omega
          have hk3 : (k : Int) < (shq.length : Int) := by omega
          by_cases he : shb.getD k Bk.Sh0 = shq.getD k Bk.Sh0
          · have HNEXT := Lib.hid (show ∀ j, j < k + 1 → shb.getD j Bk.Sh0 = shq.getD j Bk.Sh0 from fun j hj => by
              by_cases e : j = k
              · rw [e]; exact he
              · exact HALL.out j (by omega))
            have hq := HSE.out (shb.getD k Bk.Sh0) (shq.getD k Bk.Sh0)
            rw [decide_eq_true he] at hq
            clear he
            generalize shb.getD k Bk.Sh0 = x at *
            generalize shq.getD k Bk.Sh0 = y at *
            have c0 := hc3 0 _ rfl
            have d0 := hd3 0 _ rfl
            have c1 := hc3 1 _ rfl
            have d1 := hd3 1 _ rfl
            have c2 := hc3 2 _ rfl
            have d2 := hd3 2 _ rfl
            rw [Nat.add_zero] at c0 d0
            clear hc3 hd3
            go_wp2_with fail
            go_quiet (fail)
            go_wp2_with fail
            go_roundg (gk - 1)
            case rel => exact ⟨k + 1, by have := HK.out; omega, by go_num, HNEXT.out, HB1.out.on (drewN_below (Below.refl _ _) _)⟩
            case measure => have := HK.out; omega
          · have HM := Lib.hid (HSNO.out k he)
            have hq := HSE.out (shb.getD k Bk.Sh0) (shq.getD k Bk.Sh0)
            rw [decide_eq_false he] at hq
            clear he
            generalize shb.getD k Bk.Sh0 = x at *
            generalize shq.getD k Bk.Sh0 = y at *
            have c0 := hc3 0 _ rfl
            have d0 := hd3 0 _ rfl
            have c1 := hc3 1 _ rfl
            have d1 := hd3 1 _ rfl
            have c2 := hc3 2 _ rfl
            have d2 := hd3 2 _ rfl
            rw [Nat.add_zero] at c0 d0
            clear hc3 hd3
            go_wp2_with fail
            go_quiet (fail)
            go_wp2_with fail
            go_ret
            exact ⟨ret_bool HM.out.symm, drewN_below HB1.out.B _⟩
        · have HSALL := Lib.hid (show ∀ j, j < shb.length → shb.getD j Bk.Sh0 = shq.getD j Bk.Sh0 from fun j hj => HALL.out j (by omega))
          clear HALL
          go_wp2_with fail
          clear x0 x1 xl y0 y1 yl
          go_loopg [44] bnb.length (fun g i wr => SnSt w [.slice A shb.length c, .slice B bnb.length d] [.slice C shq.length e, .slice D bnq.length f] bnb bnq bnb.length g i wr)
          case atStart => exact ⟨0, by omega, rfl, fun j hj => absurd hj (by omega), HB1.out⟩
          case round =>
            obtain ⟨k2, hk, rfl, hno, hbo⟩ := hrel
            have HK2 := Lib.hid hk
            have HALL := Lib.hid hno
            have HB2 := Lib.hid hbo
            have x0 := hbo.bx.cs 0 _ rfl
            have x1 := hbo.bx.cs 1 _ rfl
            have xl := hbo.bx.lt
            have y0 := hbo.by_.cs 0 _ rfl
            have y1 := hbo.by_.cs 1 _ rfl
            have yl := hbo.by_.lt
            clear hk hno hbo
            by_cases hlt3 : k2 < bnb.length
            · have hlt4 : k2 < bnq.length := by have := HBL.out; omega
              have hkp : k2 < ps.length := by have := HPL.out; omega
              have hkq : k2 < qs.length := by have := HQL.out; omega
              obtain ⟨ba, oa, rfl, hba, hc⟩ := bps_get (HI.out _ HB2.out.B).bds.row hkp
              obtain ⟨bb, ob, rfl, hbb, hd⟩ := bps_get (HJ.out _ HB2.out.B).bds.row hkq
              have hok := (HI.out _ HB2.out.B).bds.ok ps[k2] (List.getElem_mem hkp)
              have hom := (HJ.out _ HB2.out.B).bds.ok qs[k2] (List.getElem_mem hkq)
              have hx1 := HXL.out k2 hkp
              have hx2 := HXM.out k2 hkq
              have hk1 : ¬ ((k2 : Int) < 0) := by omega
              have hk2' : (k2 : Int) < (bnb.length : Int) := by omega
              have hk3 : (k2 : Int) < (bnq.length : Int) := by omega
              have HNEXT := Lib.hid (show ps[k2].x = qs[k2].x → ∀ j, j < k2 + 1 → bnb.getD j Bk.Bd0 = bnq.getD j Bk.Bd0 from fun he j hj => by
                by_cases e : j = k2
                · rw [e, ← hx1, ← hx2]; exact he
                · exact HALL.out j (by omega))
              have HSTOP := Lib.hid (show ps[k2].x ≠ qs[k2].x → M = false from fun he => HBNO.out k2 (by rw [← hx1, ← hx2]; exact he))
              clear hx1 hx2
              generalize ps[k2] = p at *
              generalize qs[k2] = r at *
              obtain ⟨x, Ax, cx⟩ := p
              obtain ⟨y, Ay, cy⟩ := r
              dsimp only at hok hom HNEXT HSTOP
              unfold bpL bdL at hc hd
              dsimp only at hc hd
              have c0 := hc 0 _ rfl
              have d0 := hd 0 _ rfl
              have c1 := hc 1 _ rfl
              have d1 := hd 1 _ rfl
              have c2 := hc 2 _ rfl
              have d2 := hd 2 _ rfl
              have c3 := hc 3 _ rfl
              have d3 := hd 3 _ rfl
              have c4 := hc 4 _ rfl
              have d4 := hd 4 _ rfl
              have c5 := hc 5 _ rfl
              have d5 := hd 5 _ rfl
              rw [Nat.add_zero] at c0 d0
              clear hc hd hkp hkq
              have HSE1 := Lib.hid (fun W (hb : Below wr.heap.size wr W) => HSB.out x y Ax cx Ay cy W hok.len hom.len (hok.row.on hb) (hom.row.on hb))
              rw [bdEq_dec] at HSE1
              clear hok hom
              simp only [bdV] at HSE1
              go_upto_region 12 with fail
              by_cases he : x = y
              · rw [decide_eq_true he] at HSE1
                have HNX := Lib.hid (HNEXT.out he)
                clear he
                refine wp_region_held_drew (S := fun a => Below (wr.heap.size) wr a) (by kernel_rfl) (by (try dsimp only); exact (Below.refl _ _).drew) (fun hHeld => ?_)
                refine wpAnyH_take (i := 0) (oi := { dst := some 47, op := Go.Op.fieldAddr 32 (Go.Operand.tmp 2) 1, type := 0, pos := "ref.go:205", after := #[], guard := none }) (v := ?_) rfl (by kernel_rfl) (by kernel_rfl) (by kernel_rfl) (fun _ _ _ h => h) (Or.inl ⟨by rfl, ?_⟩) (by assumption) ?_
                rotate_left 1
                · intro wS hSw; (try dsimp only at hSw); go_simp; try with_reducible rfl
                try simp only [Act.put, List.setIfInBounds_toArray, List.set_cons_zero, List.set_cons_succ]
                refine wpAnyH_take (i := 1) (oi := { dst := some 48, op := Go.Op.load 30 (Go.Operand.tmp 47), type := 30, pos := "ref.go:205", after := #[{ on := 0, ground := Go.Ground.data }], guard := none }) (v := ?_) rfl (by kernel_rfl) (by kernel_rfl) (by kernel_rfl) (fun _ _ _ h => h) (Or.inl ⟨by rfl, ?_⟩) (by assumption) ?_
                rotate_left 1
                · intro wS hSw; (try dsimp only at hSw); have x0 := cell_on hSw x0; have x1 := cell_on hSw x1; have y0 := cell_on hSw y0; have y1 := cell_on hSw y1; have c0 := cell_on hSw c0; have c1 := cell_on hSw c1; have c2 := cell_on hSw c2; have c3 := cell_on hSw c3; have c4 := cell_on hSw c4; have c5 := cell_on hSw c5; have d0 := cell_on hSw d0; have d1 := cell_on hSw d1; have d2 := cell_on hSw d2; have d3 := cell_on hSw d3; have d4 := cell_on hSw d4; have d5 := cell_on hSw d5; go_simp; try with_reducible rfl
                try simp only [Act.put, List.setIfInBounds_toArray, List.set_cons_zero, List.set_cons_succ]
                refine wpAnyH_take (i := 2) (oi := { dst := some 49, op := Go.Op.move (Go.Operand.tmp 6), type := 3, pos := "ref.go:205", after := #[], guard := none }) (v := ?_) rfl (by kernel_rfl) (by kernel_rfl) (by kernel_rfl) (fun _ _ _ h => h) (Or.inl ⟨by rfl, ?_⟩) (by assumption) ?_
                rotate_left 1
                · intro wS hSw; (try dsimp only at hSw); go_simp; try with_reducible rfl
                try simp only [Act.put, List.setIfInBounds_toArray, List.set_cons_zero, List.set_cons_succ]
                refine wpAnyH_take (i := 3) (oi := { dst := some 50, op := Go.Op.indexAddr 30 (Go.Operand.tmp 48) (Go.Operand.tmp 49), type := 0, pos := "ref.go:205", after := #[{ on := 1, ground := Go.Ground.data }, { on := 2, ground := Go.Ground.data }], guard := none }) (v := ?_) rfl (by kernel_rfl) (by kernel_rfl) (by kernel_rfl) (fun _ _ _ h => h) (Or.inl ⟨by rfl, ?_⟩) (by assumption) ?_
                rotate_left 1
                · intro wS hSw; (try dsimp only at hSw); go_simp; try with_reducible rfl
                try simp only [Act.put, List.setIfInBounds_toArray, List.set_cons_zero, List.set_cons_succ]
                refine wpAnyH_take (i := 4) (oi := { dst := some 51, op := Go.Op.load 69 (Go.Operand.tmp 50), type := 69, pos := "ref.go:205", after := #[{ on := 3, ground := Go.Ground.data }], guard := none }) (v := ?_) rfl (by kernel_rfl) (by kernel_rfl) (by kernel_rfl) (fun _ _ _ h => h) (Or.inl ⟨by rfl, ?_⟩) (by assumption) ?_
                rotate_left 1
                · intro wS hSw; (try dsimp only at hSw); have x0 := cell_on hSw x0; have x1 := cell_on hSw x1; have y0 := cell_on hSw y0; have y1 := cell_on hSw y1; have c0 := cell_on hSw c0; have c1 := cell_on hSw c1; have c2 := cell_on hSw c2; have c3 := cell_on hSw c3; have c4 := cell_on hSw c4; have c5 := cell_on hSw c5; have d0 := cell_on hSw d0; have d1 := cell_on hSw d1; have d2 := cell_on hSw d2; have d3 := cell_on hSw d3; have d4 := cell_on hSw d4; have d5 := cell_on hSw d5; go_simp; try with_reducible rfl
                try simp only [Act.put, List.setIfInBounds_toArray, List.set_cons_zero, List.set_cons_succ]
                refine wpAnyH_take (i := 5) (oi := { dst := some 52, op := Go.Op.fieldAddr 32 (Go.Operand.tmp 3) 1, type := 0, pos := "ref.go:205", after := #[], guard := none }) (v := ?_) rfl (by kernel_rfl) (by kernel_rfl) (by kernel_rfl) (fun _ _ _ h => h) (Or.inl ⟨by rfl, ?_⟩) (by assumption) ?_
                rotate_left 1
                · intro wS hSw; (try dsimp only at hSw); go_simp; try with_reducible rfl
                try simp only [Act.put, List.setIfInBounds_toArray, List.set_cons_zero, List.set_cons_succ]
                refine wpAnyH_take (i := 6) (oi := { dst := some 53, op := Go.Op.load 30 (Go.Operand.tmp 52), type := 30, pos := "ref.go:205", after := #[{ on := 5, ground := Go.Ground.data }], guard := none }) (v := ?_) rfl (by kernel_rfl) (by kernel_rfl) (by kernel_rfl) (fun _ _ _ h => h) (Or.inl ⟨by rfl, ?_⟩) (by assumption) ?_
                rotate_left 1
                · intro wS hSw; (try dsimp only at hSw); have x0 := cell_on hSw x0; have x1 := cell_on hSw x1; have y0 := cell_on hSw y0; have y1 := cell_on hSw y1; have c0 := cell_on hSw c0; have c1 := cell_on hSw c1; have c2 := cell_on hSw c2; have c3 := cell_on hSw c3; have c4 := cell_on hSw c4; have c5 := cell_on hSw c5; have d0 := cell_on hSw d0; have d1 := cell_on hSw d1; have d2 := cell_on hSw d2; have d3 := cell_on hSw d3; have d4 := cell_on hSw d4; have d5 := cell_on hSw d5; go_simp; try with_reducible rfl
                try simp only [Act.put, List.setIfInBounds_toArray, List.set_cons_zero, List.set_cons_succ]
                refine wpAnyH_take (i := 7) (oi := { dst := some 54, op := Go.Op.move (Go.Operand.tmp 6), type := 3, pos := "ref.go:205", after := #[], guard := none }) (v := ?_) rfl (by kernel_rfl) (by kernel_rfl) (by kernel_rfl) (fun _ _ _ h => h) (Or.inl ⟨by rfl, ?_⟩) (by assumption) ?_
                rotate_left 1
                · intro wS hSw; (try dsimp only at hSw); go_simp; try with_reducible rfl
                try simp only [Act.put, List.setIfInBounds_toArray, List.set_cons_zero, List.set_cons_succ]
                refine wpAnyH_take (i := 8) (oi := { dst := some 55, op := Go.Op.indexAddr 30 (Go.Operand.tmp 53) (Go.Operand.tmp 54), type := 0, pos := "ref.go:205", after := #[{ on := 6, ground := Go.Ground.data }, { on := 7, ground := Go.Ground.data }], guard := none }) (v := ?_) rfl (by kernel_rfl) (by kernel_rfl) (by kernel_rfl) (fun _ _ _ h => h) (Or.inl ⟨by rfl, ?_⟩) (by assumption) ?_
                rotate_left 1
                · intro wS hSw; (try dsimp only at hSw); go_simp; try with_reducible rfl
                try simp only [Act.put, List.setIfInBounds_toArray, List.set_cons_zero, List.set_cons_succ]
                refine wpAnyH_take (i := 9) (oi := { dst := some 56, op := Go.Op.load 69 (Go.Operand.tmp 55), type := 69, pos := "ref.go:205", after := #[{ on := 8, ground := Go.Ground.data }], guard := none }) (v := ?_) rfl (by kernel_rfl) (by kernel_rfl) (by kernel_rfl) (fun _ _ _ h => h) (Or.inl ⟨by rfl, ?_⟩) (by assumption) ?_
                rotate_left 1
                · intro wS hSw; (try dsimp only at hSw); have x0 := cell_on hSw x0; have x1 := cell_on hSw x1; have y0 := cell_on hSw y0; have y1 := cell_on hSw y1; have c0 := cell_on hSw c0; have c1 := cell_on hSw c1; have c2 := cell_on hSw c2; have c3 := cell_on hSw c3; have c4 := cell_on hSw c4; have c5 := cell_on hSw c5; have d0 := cell_on hSw d0; have d1 := cell_on hSw d1; have d2 := cell_on hSw d2; have d3 := cell_on hSw d3; have d4 := cell_on hSw d4; have d5 := cell_on hSw d5; go_simp; try with_reducible rfl
                try simp only [Act.put, List.setIfInBounds_toArray, List.set_cons_zero, List.set_cons_succ]
                refine wpAnyH_ready (rs := [10]) (by kernel_rfl) (by simp) ?_
                refine AllReadyH.cons (o := { dst := some 57, op := Go.Op.call { callee := Go.Callee.value (Go.Operand.func 33), args := #[Go.Operand.tmp 51, Go.Operand.tmp 56], argTypes := #[69, 69] }, type := 4, pos := "ref.go:205", after := #[{ on := 4, ground := Go.Ground.data }, { on := 9, ground := Go.Ground.data }], guard := none }) rfl (fun K hK => ?_) (AllReadyH.nil)
                go_simp
                go_at_call 33
                refine (HSE1.out _ (show Below wr.heap.size wr _ from hHeld)).mono ?_
                rintro e wx ⟨rfl, hb2⟩
                refine hK.out _ _ (bthen hHeld hb2 (Nat.le_refl _)) (fun hHeld2 => ?_)
                clear hK K hHeld hb2
                have hHeld := hHeld2
                clear hHeld2
                try simp only [Act.put, List.setIfInBounds_toArray, List.set_cons_zero, List.set_cons_succ]
                refine wpAnyH_take (i := 11) (oi := { dst := some 58, op := Go.Op.unOp Go.UnOp.not 4 (Go.Operand.tmp 57), type := 4, pos := "ref.go:205", after := #[{ on := 10, ground := Go.Ground.data }], guard := none }) (v := ?_) rfl (by kernel_rfl) (by kernel_rfl) (by kernel_rfl) (fun _ _ _ h => h) (Or.inl ⟨by rfl, ?_⟩) (by assumption) ?_
                rotate_left 1
                · intro wS hSw; (try dsimp only at hSw); go_simp; try with_reducible rfl
                try simp only [Act.put, List.setIfInBounds_toArray, List.set_cons_zero, List.set_cons_succ]
                refine wpAnyH_done (by kernel_rfl) ?_ _
                have hZ := hHeld
                clear hHeld
                have hb9 : Below wr.heap.size wr _ := hZ
                have HB9 := Lib.hid (HB2.out.on hb9)
                clear hZ hb9 x0 x1 y0 y1 c0 c1 c2 c3 c4 c5 d0 d1 d2 d3 d4 d5 xl yl
                go_wp2_with fail
                go_roundg (gk - 1)
                case rel => exact ⟨k2 + 1, by have := HK2.out; omega, by go_num, HNX.out, HB9.out⟩
                case measure => have := HK2.out; omega
              · rw [decide_eq_false he] at HSE1
                have HM := Lib.hid (HSTOP.out he)
                clear he
                refine wp_region_held_drew (S := fun a => Below (wr.heap.size) wr a) (by kernel_rfl) (by (try dsimp only); exact (Below.refl _ _).drew) (fun hHeld => ?_)
                refine wpAnyH_take (i := 0) (oi := { dst := some 47, op := Go.Op.fieldAddr 32 (Go.Operand.tmp 2) 1, type := 0, pos := "ref.go:205", after := #[], guard := none }) (v := ?_) rfl (by kernel_rfl) (by kernel_rfl) (by kernel_rfl) (fun _ _ _ h => h) (Or.inl ⟨by rfl, ?_⟩) (by assumption) ?_
                rotate_left 1
                · intro wS hSw; (try dsimp only at hSw); go_simp; try with_reducible rfl
                try simp only [Act.put, List.setIfInBounds_toArray, List.set_cons_zero, List.set_cons_succ]
                refine wpAnyH_take (i := 1) (oi := { dst := some 48, op := Go.Op.load 30 (Go.Operand.tmp 47), type := 30, pos := "ref.go:205", after := #[{ on := 0, ground := Go.Ground.data }], guard := none }) (v := ?_) rfl (by kernel_rfl) (by kernel_rfl) (by kernel_rfl) (fun _ _ _ h => h) (Or.inl ⟨by rfl, ?_⟩) (by assumption) ?_
                rotate_left 1
                · intro wS hSw; (try dsimp only at hSw); have x0 := cell_on hSw x0; have x1 := cell_on hSw x1; have y0 := cell_on hSw y0; have y1 := cell_on hSw y1; have c0 := cell_on hSw c0; have c1 := cell_on hSw c1; have c2 := cell_on hSw c2; have c3 := cell_on hSw c3; have c4 := cell_on hSw c4; have c5 := cell_on hSw c5; have d0 := cell_on hSw d0; have d1 := cell_on hSw d1; have d2 := cell_on hSw d2; have d3 := cell_on hSw d3; have d4 := cell_on hSw d4; have d5 := cell_on hSw d5; go_simp; try with_reducible rfl
                try simp only [Act.put, List.setIfInBounds_toArray, List.set_cons_zero, List.set_cons_succ]
                refine wpAnyH_take (i := 2) (oi := { dst := some 49, op := Go.Op.move (Go.Operand.tmp 6), type := 3, pos := "ref.go:205", after := #[], guard := none }) (v := ?_) rfl (by kernel_rfl) (by kernel_rfl) (by kernel_rfl) (fun _ _ _ h => h) (Or.inl ⟨by rfl, ?_⟩) (by assumption) ?_
                rotate_left 1
                · intro wS hSw; (try dsimp only at hSw); go_simp; try with_reducible rfl
                try simp only [Act.put, List.setIfInBounds_toArray, List.set_cons_zero, List.set_cons_succ]
                refine wpAnyH_take (i := 3) (oi := { dst := some 50, op := Go.Op.indexAddr 30 (Go.Operand.tmp 48) (Go.Operand.tmp 49), type := 0, pos := "ref.go:205", after := #[{ on := 1, ground := Go.Ground.data }, { on := 2, ground := Go.Ground.data }], guard := none }) (v := ?_) rfl (by kernel_rfl) (by kernel_rfl) (by kernel_rfl) (fun _ _ _ h => h) (Or.inl ⟨by rfl, ?_⟩) (by assumption) ?_
                rotate_left 1
                · intro wS hSw; (try dsimp only at hSw); go_simp; try with_reducible rfl
                try simp only [Act.put, List.setIfInBounds_toArray, List.set_cons_zero, List.set_cons_succ]
                refine wpAnyH_take (i := 4) (oi := { dst := some 51, op := Go.Op.load 69 (Go.Operand.tmp 50), type := 69, pos := "ref.go:205", after := #[{ on := 3, ground := Go.Ground.data }], guard := none }) (v := ?_) rfl (by kernel_rfl) (by kernel_rfl) (by kernel_rfl) (fun _ _ _ h => h) (Or.inl ⟨by rfl, ?_⟩) (by assumption) ?_
                rotate_left 1
                · intro wS hSw; (try dsimp only at hSw); have x0 := cell_on hSw x0; have x1 := cell_on hSw x1; have y0 := cell_on hSw y0; have y1 := cell_on hSw y1; have c0 := cell_on hSw c0; have c1 := cell_on hSw c1; have c2 := cell_on hSw c2; have c3 := cell_on hSw c3; have c4 := cell_on hSw c4; have c5 := cell_on hSw c5; have d0 := cell_on hSw d0; have d1 := cell_on hSw d1; have d2 := cell_on hSw d2; have d3 := cell_on hSw d3; have d4 := cell_on hSw d4; have d5 := cell_on hSw d5; go_simp; try with_reducible rfl
                try simp only [Act.put, List.setIfInBounds_toArray, List.set_cons_zero, List.set_cons_succ]
                refine wpAnyH_take (i := 5) (oi := { dst := some 52, op := Go.Op.fieldAddr 32 (Go.Operand.tmp 3) 1, type := 0, pos := "ref.go:205", after := #[], guard := none }) (v := ?_) rfl (by kernel_rfl) (by kernel_rfl) (by kernel_rfl) (fun _ _ _ h => h) (Or.inl ⟨by rfl, ?_⟩) (by assumption) ?_
                rotate_left 1
                · intro wS hSw; (try dsimp only at hSw); go_simp; try with_reducible rfl
                try simp only [Act.put, List.setIfInBounds_toArray, List.set_cons_zero, List.set_cons_succ]
                refine wpAnyH_take (i := 6) (oi := { dst := some 53, op := Go.Op.load 30 (Go.Operand.tmp 52), type := 30, pos := "ref.go:205", after := #[{ on := 5, ground := Go.Ground.data }], guard := none }) (v := ?_) rfl (by kernel_rfl) (by kernel_rfl) (by kernel_rfl) (fun _ _ _ h => h) (Or.inl ⟨by rfl, ?_⟩) (by assumption) ?_
                rotate_left 1
                · intro wS hSw; (try dsimp only at hSw); have x0 := cell_on hSw x0; have x1 := cell_on hSw x1; have y0 := cell_on hSw y0; have y1 := cell_on hSw y1; have c0 := cell_on hSw c0; have c1 := cell_on hSw c1; have c2 := cell_on hSw c2; have c3 := cell_on hSw c3; have c4 := cell_on hSw c4; have c5 := cell_on hSw c5; have d0 := cell_on hSw d0; have d1 := cell_on hSw d1; have d2 := cell_on hSw d2; have d3 := cell_on hSw d3; have d4 := cell_on hSw d4; have d5 := cell_on hSw d5; go_simp; try with_reducible rfl
                try simp only [Act.put, List.setIfInBounds_toArray, List.set_cons_zero, List.set_cons_succ]
                refine wpAnyH_take (i := 7) (oi := { dst := some 54, op := Go.Op.move (Go.Operand.tmp 6), type := 3, pos := "ref.go:205", after := #[], guard := none }) (v := ?_) rfl (by kernel_rfl) (by kernel_rfl) (by kernel_rfl) (fun _ _ _ h => h) (Or.inl ⟨by rfl, ?_⟩) (by assumption) ?_
                rotate_left 1
                · intro wS hSw; (try dsimp only at hSw); go_simp; try with_reducible rfl
                try simp only [Act.put, List.setIfInBounds_toArray, List.set_cons_zero, List.set_cons_succ]
                refine wpAnyH_take (i := 8) (oi := { dst := some 55, op := Go.Op.indexAddr 30 (Go.Operand.tmp 53) (Go.Operand.tmp 54), type := 0, pos := "ref.go:205", after := #[{ on := 6, ground := Go.Ground.data }, { on := 7, ground := Go.Ground.data }], guard := none }) (v := ?_) rfl (by kernel_rfl) (by kernel_rfl) (by kernel_rfl) (fun _ _ _ h => h) (Or.inl ⟨by rfl, ?_⟩) (by assumption) ?_
                rotate_left 1
                · intro wS hSw; (try dsimp only at hSw); go_simp; try with_reducible rfl
                try simp only [Act.put, List.setIfInBounds_toArray, List.set_cons_zero, List.set_cons_succ]
                refine wpAnyH_take (i := 9) (oi := { dst := some 56, op := Go.Op.load 69 (Go.Operand.tmp 55), type := 69, pos := "ref.go:205", after := #[{ on := 8, ground := Go.Ground.data }], guard := none }) (v := ?_) rfl (by kernel_rfl) (by kernel_rfl) (by kernel_rfl) (fun _ _ _ h => h) (Or.inl ⟨by rfl, ?_⟩) (by assumption) ?_
                rotate_left 1
                · intro wS hSw; (try dsimp only at hSw); have x0 := cell_on hSw x0; have x1 := cell_on hSw x1; have y0 := cell_on hSw y0; have y1 := cell_on hSw y1; have c0 := cell_on hSw c0; have c1 := cell_on hSw c1; have c2 := cell_on hSw c2; have c3 := cell_on hSw c3; have c4 := cell_on hSw c4; have c5 := cell_on hSw c5; have d0 := cell_on hSw d0; have d1 := cell_on hSw d1; have d2 := cell_on hSw d2; have d3 := cell_on hSw d3; have d4 := cell_on hSw d4; have d5 := cell_on hSw d5; go_simp; try with_reducible rfl
                try simp only [Act.put, List.setIfInBounds_toArray, List.set_cons_zero, List.set_cons_succ]
                refine wpAnyH_ready (rs := [10]) (by kernel_rfl) (by simp) ?_
                refine AllReadyH.cons (o := { dst := some 57, op := Go.Op.call { callee := Go.Callee.value (Go.Operand.func 33), args := #[Go.Operand.tmp 51, Go.Operand.tmp 56], argTypes := #[69, 69] }, type := 4, pos := "ref.go:205", after := #[{ on := 4, ground := Go.Ground.data }, { on := 9, ground := Go.Ground.data }], guard := none }) rfl (fun K hK => ?_) (AllReadyH.nil)
                go_simp
                go_at_call 33
                refine (HSE1.out _ (show Below wr.heap.size wr _ from hHeld)).mono ?_
                rintro e wx ⟨rfl, hb2⟩
                refine hK.out _ _ (bthen hHeld hb2 (Nat.le_refl _)) (fun hHeld2 => ?_)
                clear hK K hHeld hb2
                have hHeld := hHeld2
                clear hHeld2
                try simp only [Act.put, List.setIfInBounds_toArray, List.set_cons_zero, List.set_cons_succ]
                refine wpAnyH_take (i := 11) (oi := { dst := some 58, op := Go.Op.unOp Go.UnOp.not 4 (Go.Operand.tmp 57), type := 4, pos := "ref.go:205", after := #[{ on := 10, ground := Go.Ground.data }], guard := none }) (v := ?_) rfl (by kernel_rfl) (by kernel_rfl) (by kernel_rfl) (fun _ _ _ h => h) (Or.inl ⟨by rfl, ?_⟩) (by assumption) ?_
                rotate_left 1
                · intro wS hSw; (try dsimp only at hSw); go_simp; try with_reducible rfl
                try simp only [Act.put, List.setIfInBounds_toArray, List.set_cons_zero, List.set_cons_succ]
                refine wpAnyH_done (by kernel_rfl) ?_ _
                have hZ := hHeld
                clear hHeld
                have hb9 : Below wr.heap.size wr _ := hZ
                have HB9 := Lib.hid (HB2.out.on hb9)
                clear hZ hb9 x0 x1 y0 y1 c0 c1 c2 c3 c4 c5 d0 d1 d2 d3 d4 d5 xl yl
                go_wp2_with fail
                go_ret
                exact ⟨ret_bool HM.out.symm, HB9.out.B⟩
            · have HM := Lib.hid (HYES.out HSL.out HSALL.out HBL.out (fun j hj => HALL.out j (by omega)))
              go_wp2_with fail
              go_ret
              exact ⟨ret_bool HM.out.symm, HB2.out.B⟩
    · have HM := Lib.hid (HBNE.out hbl)
      have dbl : ((bnb.length : Int) != (bnq.length : Int)) = true := by rw [bne_iff_ne]; omega
      clear hbl
      go_enter Tryz.func9, Tryz.ntmps9
      go_upto_region 1 with fail
      generalize (w.alloc (.cells #[.slice A shb.length c, .slice B bnb.length d] 32)).alloc (.cells #[.slice C shq.length e, .slice D bnq.length f] 32) = w1 at *
      have x0 := HBO.out.bx.cs 0 _ rfl
      have x1 := HBO.out.bx.cs 1 _ rfl
      have xl := HBO.out.bx.lt
      have y0 := HBO.out.by_.cs 0 _ rfl
      have y1 := HBO.out.by_.cs 1 _ rfl
      have yl := HBO.out.by_.lt
      go_wp2_with fail
      go_ret
      exact ⟨ret_bool HM.out.symm, HBO.out.B⟩
  · have HM := Lib.hid (HSNE.out hsl)
    have dsl : ((shb.length : Int) != (shq.length : Int)) = true := by rw [bne_iff_ne]; omega
    clear hsl
    go_enter Tryz.func9, Tryz.ntmps9
    go_upto_region 1 with fail
    generalize (w.alloc (.cells #[.slice A shb.length c, .slice B bnb.length d] 32)).alloc (.cells #[.slice C shq.length e, .slice D bnq.length f] 32) = w1 at *
    have x0 := HBO.out.bx.cs 0 _ rfl
    have x1 := HBO.out.bx.cs 1 _ rfl
    have xl := HBO.out.bx.lt
    have y0 := HBO.out.by_.cs 0 _ rfl
    have y1 := HBO.out.by_.cs 1 _ rfl
    have yl := HBO.out.by_.lt
    go_wp2_with fail
    go_ret
    exact ⟨ret_bool HM.out.symm, HBO.out.B⟩
end Go.Proofs.YtopobliajgocaaaGreatDoor
end
