/-
  ROWS OF ITEMS held against each other: the document's, walked.
-/
import Derived.Test.YtfbajmiiecmelabDoorLo47

section
namespace Go.Proofs.YtfbajmiiecmelabDoor
open Go.ChangeShapes Go.WideShapes Go.ChangeAt Go.RowKit
theorem maEq_dec (x y : Ml) : maEq x y = decide (x = y) := by
  unfold maEq
  cases x; cases y
  rw [Bool.eq_iff_iff]
  simp only [Bool.and_eq_true, beq_iff_eq, decide_eq_true_eq, Ml.mk.injEq]
  constructor
  · rintro ⟨⟨⟨⟨⟨⟨h1, h2⟩, h3⟩, h4⟩, h5⟩, h6⟩, h7⟩
    exact ⟨h1, h2, h3, h4, h5, h6, h7⟩
  · rintro ⟨h1, h2, h3, h4, h5, h6, h7⟩
    exact ⟨⟨⟨⟨⟨⟨h1, h2⟩, h3⟩, h4⟩, h5⟩, h6⟩, h7⟩
theorem itEqR_dec (x y : It) : itEqR x y = decide (x = y) := by
  unfold itEqR
  rw [maEq_dec]
  cases x; cases y
  rw [Bool.eq_iff_iff]
  simp only [Bool.and_eq_true, beq_iff_eq, decide_eq_true_eq, It.mk.injEq]
  constructor
  · rintro ⟨⟨h1, h2⟩, h3⟩; exact ⟨h1, h2, h3⟩
  · rintro ⟨h1, h2, h3⟩; exact ⟨⟨h1, h2⟩, h3⟩
def SmSt (w : World) (l1 l2 : List It) (n g : Nat) (i : Value) (wr : World) : Prop := ∃ k : Nat, k + g = n ∧ i = .int .i64 (k : Int) ∧ (∀ j, j < k → l1.getD j it0 = l2.getD j it0) ∧ Below w.heap.size w wr
set_option maxRecDepth 100000 in
set_option maxHeartbeats 4000000 in
theorem r18Same_any (l1 l2 : List It) (m1 m2 : List ItP) (A1 A2 : Option Addr) (c1 c2 : Nat) (w : World) (h1 : m1.map (·.x) = l1) (h2 : m2.map (·.x) = l2) (_hl1 : l1.length ≤ 1000) (hl2 : l2.length ≤ 1000) (hI1 : Its w A1 m1) (hI2 : Its w A2 m2) :
    Calls Tryd.prog 8 #[.slice A1 m1.length c1, .slice A2 m2.length c2] w fun e w' => e = .returned (.bool (decide (l1 = l2))) ∧ Below w.heap.size w w' := by
  have hm1 := xs_len h1
  have hm2 := xs_len h2
  have HI1 := Lib.hid hI1
  have HI2 := Lib.hid hI2
  have H1 := Lib.hid h1
  have H2 := Lib.hid h2
  clear hI1 hI2 h1 h2
  by_cases hlen : m1.length = m2.length
  · have HLE := Lib.hid (show l1.length = l2.length by omega)
    have HM1 := Lib.hid hm1
    have hml : m1.length ≤ 1000 := by omega
    rw [← hlen]
    have HLN := Lib.hid hlen
    clear hlen hm1 hm2
    generalize m2.length = n2 at HLN
    go_enter Tryd.func8, Tryd.ntmps8
    go_wp2_with fail
    go_loopg [13] m1.length (fun g i wr => SmSt w l1 l2 m1.length g i wr)
    case atStart => exact ⟨0, by omega, rfl, fun j hj => absurd hj (by omega), Below.refl _ _⟩
    case round =>
      obtain ⟨k, hk, rfl, hall, hB⟩ := hrel
      have HK := Lib.hid hk
      have HALL := Lib.hid hall
      have HBK := Lib.hid hB
      clear hk hall hB
      by_cases hlt : k < m1.length
      · have hlt2 : k < m2.length := by have := HM1.out; have := HLE.out; have := xs_len H2.out; omega
        obtain ⟨b1, o1, e1, hb1, ha1⟩ := (HI1.out.on HBK.out).at_ k hlt
        obtain ⟨b2, o2, e2, hb2, ha2⟩ := (HI2.out.on HBK.out).at_ k hlt2
        have hg1 := (HI1.out.on HBK.out).ok _ (List.getElem_mem hlt)
        have hg2 := (HI2.out.on HBK.out).ok _ (List.getElem_mem hlt2)
        have hx1 := xs_get H1.out hlt
        have hx2 := xs_get H2.out hlt2
        subst e1
        subst e2
        generalize m1[k] = p1 at *
        generalize m2[k] = p2 at *
        obtain ⟨x, Ax, cx⟩ := p1
        obtain ⟨y, Ay, cy⟩ := p2
        dsimp only at hx1 hx2 ha1 ha2 hg1 hg2
        unfold itL at ha1 ha2
        have x0 := ha1 0 _ rfl
        have x1 := ha1 1 _ rfl
        have x2 := ha1 2 _ rfl
        have x3 := ha1 3 _ rfl
        have x4 := ha1 4 _ rfl
        have x5 := ha1 5 _ rfl
        have x6 := ha1 6 _ rfl
        have x7 := ha1 7 _ rfl
        have x8 := ha1 8 _ rfl
        have y0 := ha2 0 _ rfl
        have y1 := ha2 1 _ rfl
        have y2 := ha2 2 _ rfl
        have y3 := ha2 3 _ rfl
        have y4 := ha2 4 _ rfl
        have y5 := ha2 5 _ rfl
        have y6 := ha2 6 _ rfl
        have y7 := ha2 7 _ rfl
        have y8 := ha2 8 _ rfl
        rw [Nat.add_zero] at x0 y0
        have HSA := Lib.hid (fun W (hb : Below wr.heap.size wr W) => r18SameItem_any x y Ax Ay cx cy W hg1.ok.len hg2.ok.len (hg1.ok.row.on hb) (hg2.ok.row.on hb))
        rw [itEqR_dec] at HSA
        simp only [itV] at HSA
        have HX1 := Lib.hid hx1
        have HX2 := Lib.hid hx2
        have hi1 : (0 : Int) ≤ (k : Int) := by omega
        have hi2 : (k : Int) < (m1.length : Int) := by omega
        have hi3 : ((k : Int)).toNat = k := by omega
        clear ha1 ha2 hg1 hg2 hx1 hx2 hb1 hb2
        by_cases hxy : x = y
        · rw [decide_eq_true hxy] at HSA
          have HXY := Lib.hid hxy
          clear hxy
          go_upto_region 6 with fail
          refine wp_region_held_drew (S := fun a => Below wr.heap.size wr a) (by kernel_rfl) (by (try dsimp only); exact (Below.refl _ _).drew) (fun hHeld => ?_)
          refine wpAnyH_take (i := 0) (oi := { dst := some 16, op := Go.Op.move (Go.Operand.tmp 0), type := 24, pos := "ref.go:171", after := #[], guard := none }) (v := ?_) rfl (by kernel_rfl) (by kernel_rfl) (by kernel_rfl) (fun _ _ _ h => h) (Or.inl ⟨by rfl, ?_⟩) (by assumption) ?_
          rotate_left 1
          · intro w hSw; (try dsimp only at hSw); go_simp; try with_reducible rfl
          try simp only [Act.put, List.setIfInBounds_toArray, List.set_cons_zero, List.set_cons_succ]
          refine wpAnyH_take (i := 1) (oi := { dst := some 17, op := Go.Op.move (Go.Operand.tmp 5), type := 3, pos := "ref.go:171", after := #[], guard := none }) (v := ?_) rfl (by kernel_rfl) (by kernel_rfl) (by kernel_rfl) (fun _ _ _ h => h) (Or.inl ⟨by rfl, ?_⟩) (by assumption) ?_
          rotate_left 1
          · intro w hSw; (try dsimp only at hSw); go_simp; try with_reducible rfl
          try simp only [Act.put, List.setIfInBounds_toArray, List.set_cons_zero, List.set_cons_succ]
          refine wpAnyH_take (i := 2) (oi := { dst := some 18, op := Go.Op.indexAddr 24 (Go.Operand.tmp 16) (Go.Operand.tmp 17), type := 0, pos := "ref.go:171", after := #[{ on := 0, ground := Go.Ground.data }, { on := 1, ground := Go.Ground.data }], guard := none }) (v := ?_) rfl (by kernel_rfl) (by kernel_rfl) (by kernel_rfl) (fun _ _ _ h => h) (Or.inl ⟨by rfl, ?_⟩) (by assumption) ?_
          rotate_left 1
          · intro w hSw; (try dsimp only at hSw); go_simp; try with_reducible rfl
          try simp only [Act.put, List.setIfInBounds_toArray, List.set_cons_zero, List.set_cons_succ]
          refine wpAnyH_take (i := 3) (oi := { dst := some 19, op := Go.Op.load 32 (Go.Operand.tmp 18), type := 32, pos := "ref.go:171", after := #[{ on := 2, ground := Go.Ground.data }], guard := none }) (v := ?_) rfl (by kernel_rfl) (by kernel_rfl) (by kernel_rfl) (fun _ _ _ h => h) (Or.inl ⟨by rfl, ?_⟩) (by assumption) ?_
          rotate_left 1
          · intro w hSw; (try dsimp only at hSw); have x0 := cell_on hSw x0; have x1 := cell_on hSw x1; have x2 := cell_on hSw x2; have x3 := cell_on hSw x3; have x4 := cell_on hSw x4; have x5 := cell_on hSw x5; have x6 := cell_on hSw x6; have x7 := cell_on hSw x7; have x8 := cell_on hSw x8; have y0 := cell_on hSw y0; have y1 := cell_on hSw y1; have y2 := cell_on hSw y2; have y3 := cell_on hSw y3; have y4 := cell_on hSw y4; have y5 := cell_on hSw y5; have y6 := cell_on hSw y6; have y7 := cell_on hSw y7; have y8 := cell_on hSw y8; go_simp; try with_reducible rfl
          try simp only [Act.put, List.setIfInBounds_toArray, List.set_cons_zero, List.set_cons_succ]
          refine wpAnyH_take (i := 4) (oi := { dst := some 20, op := Go.Op.move (Go.Operand.tmp 1), type := 24, pos := "ref.go:171", after := #[], guard := none }) (v := ?_) rfl (by kernel_rfl) (by kernel_rfl) (by kernel_rfl) (fun _ _ _ h => h) (Or.inl ⟨by rfl, ?_⟩) (by assumption) ?_
          rotate_left 1
          · intro w hSw; (try dsimp only at hSw); go_simp; try with_reducible rfl
          try simp only [Act.put, List.setIfInBounds_toArray, List.set_cons_zero, List.set_cons_succ]
          refine wpAnyH_take (i := 5) (oi := { dst := some 21, op := Go.Op.move (Go.Operand.tmp 5), type := 3, pos := "ref.go:171", after := #[], guard := none }) (v := ?_) rfl (by kernel_rfl) (by kernel_rfl) (by kernel_rfl) (fun _ _ _ h => h) (Or.inl ⟨by rfl, ?_⟩) (by assumption) ?_
          rotate_left 1
          · intro w hSw; (try dsimp only at hSw); go_simp; try with_reducible rfl
          try simp only [Act.put, List.setIfInBounds_toArray, List.set_cons_zero, List.set_cons_succ]
          refine wpAnyH_take (i := 6) (oi := { dst := some 22, op := Go.Op.indexAddr 24 (Go.Operand.tmp 20) (Go.Operand.tmp 21), type := 0, pos := "ref.go:171", after := #[{ on := 4, ground := Go.Ground.data }, { on := 5, ground := Go.Ground.data }], guard := none }) (v := ?_) rfl (by kernel_rfl) (by kernel_rfl) (by kernel_rfl) (fun _ _ _ h => h) (Or.inl ⟨by rfl, ?_⟩) (by assumption) ?_
          rotate_left 1
          · intro w hSw; (try dsimp only at hSw); go_simp; try with_reducible rfl
          try simp only [Act.put, List.setIfInBounds_toArray, List.set_cons_zero, List.set_cons_succ]
          refine wpAnyH_take (i := 7) (oi := { dst := some 23, op := Go.Op.load 32 (Go.Operand.tmp 22), type := 32, pos := "ref.go:171", after := #[{ on := 6, ground := Go.Ground.data }], guard := none }) (v := ?_) rfl (by kernel_rfl) (by kernel_rfl) (by kernel_rfl) (fun _ _ _ h => h) (Or.inl ⟨by rfl, ?_⟩) (by assumption) ?_
          rotate_left 1
          · intro w hSw; (try dsimp only at hSw); have x0 := cell_on hSw x0; have x1 := cell_on hSw x1; have x2 := cell_on hSw x2; have x3 := cell_on hSw x3; have x4 := cell_on hSw x4; have x5 := cell_on hSw x5; have x6 := cell_on hSw x6; have x7 := cell_on hSw x7; have x8 := cell_on hSw x8; have y0 := cell_on hSw y0; have y1 := cell_on hSw y1; have y2 := cell_on hSw y2; have y3 := cell_on hSw y3; have y4 := cell_on hSw y4; have y5 := cell_on hSw y5; have y6 := cell_on hSw y6; have y7 := cell_on hSw y7; have y8 := cell_on hSw y8; go_simp; try with_reducible rfl
          try simp only [Act.put, List.setIfInBounds_toArray, List.set_cons_zero, List.set_cons_succ]
          refine wpAnyH_ready (rs := [8]) (by kernel_rfl) (by simp) ?_
          refine AllReadyH.cons (o := { dst := some 24, op := Go.Op.call { callee := Go.Callee.value (Go.Operand.func 20), args := #[Go.Operand.tmp 19, Go.Operand.tmp 23], argTypes := #[32, 32] }, type := 4, pos := "ref.go:171", after := #[{ on := 3, ground := Go.Ground.data }, { on := 7, ground := Go.Ground.data }], guard := none }) rfl (fun K hK => ?_) (AllReadyH.nil)
          go_simp
          go_at_call 20
          refine (HSA.out _ hHeld).mono ?_
          rintro e wx ⟨rfl, hb2⟩
          refine hK.out _ _ (bthen hHeld hb2 (Nat.le_refl _)) (fun hHeld2 => ?_)
          clear hK K hHeld hb2
          have hHeld := hHeld2
          clear hHeld2
          try simp only [Act.put, List.setIfInBounds_toArray, List.set_cons_zero, List.set_cons_succ]
          refine wpAnyH_take (i := 9) (oi := { dst := some 25, op := Go.Op.unOp Go.UnOp.not 4 (Go.Operand.tmp 24), type := 4, pos := "ref.go:171", after := #[{ on := 8, ground := Go.Ground.data }], guard := none }) (v := ?_) rfl (by kernel_rfl) (by kernel_rfl) (by kernel_rfl) (fun _ _ _ h => h) (Or.inl ⟨by rfl, ?_⟩) (by assumption) ?_
          rotate_left 1
          · intro w hSw; (try dsimp only at hSw); go_simp; try with_reducible rfl
          try simp only [Act.put, List.setIfInBounds_toArray, List.set_cons_zero, List.set_cons_succ]
          refine wpAnyH_done (by kernel_rfl) ?_ _
          have hZ := hHeld
          clear hHeld
          have HB5 := Lib.hid (bthen HBK.out hZ (Nat.le_refl _))
          clear hZ x0 y0 x1 y1 x2 y2 x3 y3 x4 y4 x5 y5 x6 y6 x7 y7 x8 y8
          go_wp2_with fail
          go_roundg (gk - 1)
          case rel => exact ⟨k + 1, by have := HK.out; omega, by go_num, fun j hj => by
            by_cases e : j = k
            · subst e; rw [← HX1.out, ← HX2.out]; exact HXY.out
            · exact HALL.out j (by omega), HB5.out⟩
          case measure => have := HK.out; omega
        · rw [decide_eq_false hxy] at HSA
          have HXY := Lib.hid (show decide (l1 = l2) = false from decide_eq_false (fun e => hxy (by rw [HX1.out, HX2.out, e])))
          clear hxy
          go_upto_region 6 with fail
          refine wp_region_held_drew (S := fun a => Below wr.heap.size wr a) (by kernel_rfl) (by (try dsimp only); exact (Below.refl _ _).drew) (fun hHeld => ?_)
          refine wpAnyH_take (i := 0) (oi := { dst := some 16, op := Go.Op.move (Go.Operand.tmp 0), type := 24, pos := "ref.go:171", after := #[], guard := none }) (v := ?_) rfl (by kernel_rfl) (by kernel_rfl) (by kernel_rfl) (fun _ _ _ h => h) (Or.inl ⟨by rfl, ?_⟩) (by assumption) ?_
          rotate_left 1
          · intro w hSw; (try dsimp only at hSw); go_simp; try with_reducible rfl
          try simp only [Act.put, List.setIfInBounds_toArray, List.set_cons_zero, List.set_cons_succ]
          refine wpAnyH_take (i := 1) (oi := { dst := some 17, op := Go.Op.move (Go.Operand.tmp 5), type := 3, pos := "ref.go:171", after := #[], guard := none }) (v := ?_) rfl (by kernel_rfl) (by kernel_rfl) (by kernel_rfl) (fun _ _ _ h => h) (Or.inl ⟨by rfl, ?_⟩) (by assumption) ?_
          rotate_left 1
          · intro w hSw; (try dsimp only at hSw); go_simp; try with_reducible rfl
          try simp only [Act.put, List.setIfInBounds_toArray, List.set_cons_zero, List.set_cons_succ]
          refine wpAnyH_take (i := 2) (oi := { dst := some 18, op := Go.Op.indexAddr 24 (Go.Operand.tmp 16) (Go.Operand.tmp 17), type := 0, pos := "ref.go:171", after := #[{ on := 0, ground := Go.Ground.data }, { on := 1, ground := Go.Ground.data }], guard := none }) (v := ?_) rfl (by kernel_rfl) (by kernel_rfl) (by kernel_rfl) (fun _ _ _ h => h) (Or.inl ⟨by rfl, ?_⟩) (by assumption) ?_
          rotate_left 1
          · intro w hSw; (try dsimp only at hSw); go_simp; try with_reducible rfl
          try simp only [Act.put, List.setIfInBounds_toArray, List.set_cons_zero, List.set_cons_succ]
          refine wpAnyH_take (i := 3) (oi := { dst := some 19, op := Go.Op.load 32 (Go.Operand.tmp 18), type := 32, pos := "ref.go:171", after := #[{ on := 2, ground := Go.Ground.data }], guard := none }) (v := ?_) rfl (by kernel_rfl) (by kernel_rfl) (by kernel_rfl) (fun _ _ _ h => h) (Or.inl ⟨by rfl, ?_⟩) (by assumption) ?_
          rotate_left 1
          · intro w hSw; (try dsimp only at hSw); have x0 := cell_on hSw x0; have x1 := cell_on hSw x1; have x2 := cell_on hSw x2; have x3 := cell_on hSw x3; have x4 := cell_on hSw x4; have x5 := cell_on hSw x5; have x6 := cell_on hSw x6; have x7 := cell_on hSw x7; have x8 := cell_on hSw x8; have y0 := cell_on hSw y0; have y1 := cell_on hSw y1; have y2 := cell_on hSw y2; have y3 := cell_on hSw y3; have y4 := cell_on hSw y4; have y5 := cell_on hSw y5; have y6 := cell_on hSw y6; have y7 := cell_on hSw y7; have y8 := cell_on hSw y8; go_simp; try with_reducible rfl
          try simp only [Act.put, List.setIfInBounds_toArray, List.set_cons_zero, List.set_cons_succ]
          refine wpAnyH_take (i := 4) (oi := { dst := some 20, op := Go.Op.move (Go.Operand.tmp 1), type := 24, pos := "ref.go:171", after := #[], guard := none }) (v := ?_) rfl (by kernel_rfl) (by kernel_rfl) (by kernel_rfl) (fun _ _ _ h => h) (Or.inl ⟨by rfl, ?_⟩) (by assumption) ?_
          rotate_left 1
          · intro w hSw; (try dsimp only at hSw); go_simp; try with_reducible rfl
          try simp only [Act.put, List.setIfInBounds_toArray, List.set_cons_zero, List.set_cons_succ]
          refine wpAnyH_take (i := 5) (oi := { dst := some 21, op := Go.Op.move (Go.Operand.tmp 5), type := 3, pos := "ref.go:171", after := #[], guard := none }) (v := ?_) rfl (by kernel_rfl) (by kernel_rfl) (by kernel_rfl) (fun _ _ _ h => h) (Or.inl ⟨by rfl, ?_⟩) (by assumption) ?_
          rotate_left 1
          · intro w hSw; (try dsimp only at hSw); go_simp; try with_reducible rfl
          try simp only [Act.put, List.setIfInBounds_toArray, List.set_cons_zero, List.set_cons_succ]
          refine wpAnyH_take (i := 6) (oi := { dst := some 22, op := Go.Op.indexAddr 24 (Go.Operand.tmp 20) (Go.Operand.tmp 21), type := 0, pos := "ref.go:171", after := #[{ on := 4, ground := Go.Ground.data }, { on := 5, ground := Go.Ground.data }], guard := none }) (v := ?_) rfl (by kernel_rfl) (by kernel_rfl) (by kernel_rfl) (fun _ _ _ h => h) (Or.inl ⟨by rfl, ?_⟩) (by assumption) ?_
          rotate_left 1
          · intro w hSw; (try dsimp only at hSw); go_simp; try with_reducible rfl
          try simp only [Act.put, List.setIfInBounds_toArray, List.set_cons_zero, List.set_cons_succ]
          refine wpAnyH_take (i := 7) (oi := { dst := some 23, op := Go.Op.load 32 (Go.Operand.tmp 22), type := 32, pos := "ref.go:171", after := #[{ on := 6, ground := Go.Ground.data }], guard := none }) (v := ?_) rfl (by kernel_rfl) (by kernel_rfl) (by kernel_rfl) (fun _ _ _ h => h) (Or.inl ⟨by rfl, ?_⟩) (by assumption) ?_
          rotate_left 1
          · intro w hSw; (try dsimp only at hSw); have x0 := cell_on hSw x0; have x1 := cell_on hSw x1; have x2 := cell_on hSw x2; have x3 := cell_on hSw x3; have x4 := cell_on hSw x4; have x5 := cell_on hSw x5; have x6 := cell_on hSw x6; have x7 := cell_on hSw x7; have x8 := cell_on hSw x8; have y0 := cell_on hSw y0; have y1 := cell_on hSw y1; have y2 := cell_on hSw y2; have y3 := cell_on hSw y3; have y4 := cell_on hSw y4; have y5 := cell_on hSw y5; have y6 := cell_on hSw y6; have y7 := cell_on hSw y7; have y8 := cell_on hSw y8; go_simp; try with_reducible rfl
          try simp only [Act.put, List.setIfInBounds_toArray, List.set_cons_zero, List.set_cons_succ]
          refine wpAnyH_ready (rs := [8]) (by kernel_rfl) (by simp) ?_
          refine AllReadyH.cons (o := { dst := some 24, op := Go.Op.call { callee := Go.Callee.value (Go.Operand.func 20), args := #[Go.Operand.tmp 19, Go.Operand.tmp 23], argTypes := #[32, 32] }, type := 4, pos := "ref.go:171", after := #[{ on := 3, ground := Go.Ground.data }, { on := 7, ground := Go.Ground.data }], guard := none }) rfl (fun K hK => ?_) (AllReadyH.nil)
          go_simp
          go_at_call 20
          refine (HSA.out _ hHeld).mono ?_
          rintro e wx ⟨rfl, hb2⟩
          refine hK.out _ _ (bthen hHeld hb2 (Nat.le_refl _)) (fun hHeld2 => ?_)
          clear hK K hHeld hb2
          have hHeld := hHeld2
          clear hHeld2
          try simp only [Act.put, List.setIfInBounds_toArray, List.set_cons_zero, List.set_cons_succ]
          refine wpAnyH_take (i := 9) (oi := { dst := some 25, op := Go.Op.unOp Go.UnOp.not 4 (Go.Operand.tmp 24), type := 4, pos := "ref.go:171", after := #[{ on := 8, ground := Go.Ground.data }], guard := none }) (v := ?_) rfl (by kernel_rfl) (by kernel_rfl) (by kernel_rfl) (fun _ _ _ h => h) (Or.inl ⟨by rfl, ?_⟩) (by assumption) ?_
          rotate_left 1
          · intro w hSw; (try dsimp only at hSw); go_simp; try with_reducible rfl
          try simp only [Act.put, List.setIfInBounds_toArray, List.set_cons_zero, List.set_cons_succ]
          refine wpAnyH_done (by kernel_rfl) ?_ _
          have hZ := hHeld
          clear hHeld
          have HB5 := Lib.hid (bthen HBK.out hZ (Nat.le_refl _))
          clear hZ x0 y0 x1 y1 x2 y2 x3 y3 x4 y4 x5 y5 x6 y6 x7 y7 x8 y8
          go_wp2_with fail
          go_ret
          exact ⟨ret_bool HXY.out.symm, HB5.out⟩
      · have HEQ := Lib.hid (show l1 = l2 from by
          apply List.ext_getElem HLE.out
          intro j h1 h2
          have := HALL.out j (by have := HK.out; have := HM1.out; omega)
          rwa [Ln.getD_lt h1, Ln.getD_lt h2] at this)
        go_wp2_with fail
        go_ret
        exact ⟨ret_bool (decide_eq_true HEQ.out).symm, HBK.out⟩
  · have hne : decide (l1 = l2) = false := decide_eq_false (fun e => hlen (by rw [hm1, hm2, e]))
    have d1 : ((m1.length : Int) != (m2.length : Int)) = true := by rw [bne_iff_ne]; omega
    have d2 : (m1.length != m2.length) = true := by rw [bne_iff_ne]; exact hlen
    rw [hne]
    go_enter Tryd.func8, Tryd.ntmps8
    go_wp2_with fail
    go_ret
    exact ⟨rfl, Below.refl _ _⟩
end Go.Proofs.YtfbajmiiecmelabDoor
end
