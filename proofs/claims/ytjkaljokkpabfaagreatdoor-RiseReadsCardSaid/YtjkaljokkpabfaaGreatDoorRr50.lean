/-
  THE LAW RiseReads, walked.
-/
import Derived.Test.YtjkaljokkpabfaaGreatDoorRr34
import Derived.Test.YtjkaljokkpabfaaGreatDoorRr49

section
namespace Go.Proofs.YtjkaljokkpabfaaGreatDoor
open Go.ChangeShapes Go.WideShapes Go.ChangeAt Go.RowKit
set_option maxRecDepth 100000 in
set_option maxHeartbeats 16000000 in
theorem riseReads_walk (l : List UInt8) (x : Ml) (A : Option Addr) (c k : Nat) (w : World) (hl : l.length ≤ 9223372036854775807) (hx : MaIn w x A c) (hk : k < 18446744073709551616) (hL : Len w) :
    Calls Tryz.prog 3 #[.string (ofL l), maV x A c, .int .u64 (k : Int)] w fun e w' => e = .returned (.bool true) ∧ Below w.heap.size w w' := by
  have hz : (ofL l).size = l.length := ofL_size l
  have HM0 := Lib.hid (MaX.start w x A c hx.row 25)
  have HAW := Lib.hid (awake20_any _ (hL.on HM0.out.B))
  have HLX := Lib.hid (fun W h => ml_light_any x A c W hx.big h)
  have HLL := Lib.hid hL
  have HROW := Lib.hid hx.row
  have HFX := Lib.hid hx.fits
  clear hL
  simp only [maV] at HLX ⊢
  go_enter Tryz.func3, Tryz.ntmps3
  go_wp2_with fail
  refine HAW.out.mono ?_
  rintro e w1 ⟨rfl, b1⟩
  have HM1 := Lib.hid (HM0.out.on b1)
  clear b1
  have y0 := HM1.out.p.cs 0 _ rfl
  have y1 := HM1.out.p.cs 1 _ rfl
  have y2 := HM1.out.p.cs 2 _ rfl
  have y3 := HM1.out.p.cs 3 _ rfl
  have y4 := HM1.out.p.cs 4 _ rfl
  have y5 := HM1.out.p.cs 5 _ rfl
  have y6 := HM1.out.p.cs 6 _ rfl
  have yl := HM1.out.p.lt
  by_cases h1 : 2000 < l.length
  · go_wp2_with fail
    go_ret
    exact ⟨rfl, HM1.out.B⟩
  cases hlx : maLight x with
  | false =>
    rw [hlx] at HLX
    clear hlx
    go_wp2_with fail
    refine (HLX.out _ HM1.out.ra).mono ?_
    rintro e w2 ⟨rfl, b2⟩
    have HM2 := Lib.hid (HM1.out.on b2)
    clear b2
    go_wp2_with fail
    go_ret
    exact ⟨rfl, HM2.out.B⟩
  | true =>
    have HOK := Lib.hid (fun W (g : Prs W A x.head) => ml_light_Ok (w := W) hlx hx.cap g)
    rw [hlx] at HLX
    clear hlx hx
    go_wp2_with fail
    refine (HLX.out _ HM1.out.ra).mono ?_
    rintro e w2 ⟨rfl, b2⟩
    have HM2 := Lib.hid (HM1.out.on b2)
    clear b2 y0 y1 y2 y3 y4 y5 y6 yl
    have HNEW := Lib.hid (inew_l l w2)
    go_wp2_with fail
    refine HNEW.out.mono ?_
    rintro e w3 ⟨rfl, hi3, b3⟩
    have b4 := alloc1B w3 (.cells #[.string (ofL l), .int .i64 0, .int .i64 0] 32)
    have HI4 := Lib.hid ((rdr_in w2.heap.size).on hi3 b4)
    have HR4 := Lib.hid (RefL.new l w3 32)
    have HM4 := Lib.hid ((HM2.out.on b3).on b4)
    have hl1 : w2.heap.size < w3.heap.size := hi3.lt
    have hl0 : w.heap.size < w2.heap.size := Nat.lt_of_le_of_lt HM2.out.p.ge HM2.out.p.lt
    have hl00 : w.heap.size < w2.heap.size := HM2.out.p.lt
    have hok : lOk (l, (0 : Int)) := lOk_new l
    have HFI := Lib.hid (Rs.readA_fine hok)
    have HP := Lib.hid (fun W hB h => rsRead_any w2.heap.size (l, 0) W h hok (fun W' hg => HLL.out.on (below_in (B := w.heap.size) hB hg hB.size (Nat.le_of_lt hl00))))
    have HRP := Lib.hid (fun W h => r20Read_any w3.heap.size (ofL l) (l, 0) W h (by omega) hok)
    unfold RfPost at HP HRP
    clear hi3 b3 b4 hok HNEW HM1 HM0 HAW HLX
    go_wp2_with fail
    refine (HP.out _ HM4.out.B HI4.out).mono ?_
    rintro e w5 ⟨A5, c5, p5, rfl, hp5, hc5, hn5, hM5, ho5, hh5, hi5, hg5⟩
    have HR5 := Lib.hid ((rdr_ref w3.heap.size (ofL l)).gr HR4.out hg5 (fun e => by have := Option.some.inj e; omega))
    have HM5 := Lib.hid (HM4.out.gr HROW.out hg5 hl00 (Nat.le_of_lt hl00))
    have HI5 := Lib.hid hi5
    have HA5 := Lib.hid hM5
    have HP5 := Lib.hid hp5
    have HO5 := Lib.hid (show (∀ a, A5 = some a → w3.heap.size < a.block) ∧ (∀ q ∈ p5, q.x.head ≠ [] → ∀ a, q.A = some a → w3.heap.size < a.block) from ⟨fun a ha => by have := ho5 a ha; simp at this; omega, fun q hq hh a ha => by have := hh5 q hq hh a ha; simp at this; omega⟩)
    have HC5 := Lib.hid (And.intro hc5 hn5)
    clear hp5 hc5 hn5 hM5 ho5 hh5 hi5 hg5 HI4 HR4 HM4 HP HM2
    go_wp2_with fail
    refine (HRP.out _ HR5.out).mono ?_
    rintro e w6 ⟨A6, c6, p6, rfl, hp6, hc6, hn6, hM6, ho6, hh6, hi6, hg6⟩
    have hl30 : w.heap.size < w3.heap.size := by omega
    have HM6 := Lib.hid (HM5.out.gr HROW.out hg6 hl30 (Nat.le_of_lt hl30))
    have HA56 := Lib.hid (HA5.out.gr hg6 HO5.out.1 HO5.out.2)
    have HI6 := Lib.hid ((rdr_in w2.heap.size).gr HI5.out hg6 (fun e => by have := Option.some.inj e; omega))
    have HR6 := Lib.hid hi6
    have HA6 := Lib.hid hM6
    have HP6 := Lib.hid hp6
    have HC6 := Lib.hid (And.intro hc6 hn6)
    clear hp6 hc6 hn6 hM6 ho6 hh6 hi6 hg6 HRP HM5 HA5 HI5 HR5 HO5
    generalize Rs.readA (l, 0) = RA at *
    generalize Rs.readE (l, 0) = RE at *
    obtain ⟨T, L⟩ := RA
    simp only at HFI HP5 HP6
    go_wp2_with fail
    have hb67 := rs_two w6 (.cells #[.int .u64 (T : Int), .slice A5 p5.length c5] 35) (.cells #[.int .u64 (T : Int), .slice A6 p6.length c6] 38)
    have HXA := Lib.hid ((BoxC.new (w := w) (W := w6) HM6.out.B.size #[.int .u64 (T : Int), .slice A5 p5.length c5] 35).on (alloc1B _ (.cells #[.int .u64 (T : Int), .slice A6 p6.length c6] 38)))
    have HXB := Lib.hid (BoxC.new (w := w) (W := w6.alloc (.cells #[.int .u64 (T : Int), .slice A5 p5.length c5] 35)) (by simp; have := HM6.out.B.size; omega) #[.int .u64 (T : Int), .slice A6 p6.length c6] 38)
    rw [show (w6.alloc (.cells #[.int .u64 (T : Int), .slice A5 p5.length c5] 35)).heap.size = w6.heap.size + 1 by simp] at HXB
    have HI7 := Lib.hid ((rdr_in w2.heap.size).on HI6.out hb67)
    have HR7 := Lib.hid ((rdr_ref w3.heap.size (ofL l)).on HR6.out hb67)
    have HA7 := Lib.hid (HA56.out.on hb67)
    have HB7 := Lib.hid (HA6.out.on hb67)
    have HM7 := Lib.hid (HM6.out.on hb67)
    clear hb67 HI6 HR6 HA56 HA6 HM6
    generalize (w6.alloc (.cells #[.int .u64 (T : Int), .slice A5 p5.length c5] 35)).alloc (.cells #[.int .u64 (T : Int), .slice A6 p6.length c6] 38) = w7 at *
    generalize w6.heap.size + 1 = pb at *
    generalize w6.heap.size = pa at *
    generalize w2.heap.size = bi at *
    generalize w3.heap.size = bq at *
    have hcd := HR7.out.code
    have e0 := HXA.out.cs 0 _ rfl
    have e1 := HXA.out.cs 1 _ rfl
    have g0 := HXB.out.cs 0 _ rfl
    have g1 := HXB.out.cs 1 _ rfl
    have HL7 := Lib.hid (HLL.out.on HM7.out.B)
    have HER := Lib.hid (fun W h => ierr_b bi RE W h)
    have HLF := Lib.hid (fun W h => ileft_b bi RE W h)
    have HRL := Lib.hid (fun W h => rileft_b bq (ofL l) RE W h (by omega))
    have HTO := Lib.hid (fun W h1 h2 h3 => told20_any T k c5 c6 A5 A6 p5 p6 W hk (by rw [HP5.out]; exact HFI.out) (HP5.out.trans HP6.out.symm) h1 h2 h3)
    have hsz : (ofL l).size ≤ 1000000 := by omega
    refine wp_region_held_drew (S := fun a => Below (w7.heap.size) w7 a) (by kernel_rfl) (by (try dsimp only); exact (Below.refl _ _).drew) (fun hHeld => ?_)
    refine wpAnyH_take (i := 0) (oi := { dst := some 34, op := Go.Op.move (Go.Operand.tmp 7), type := 28, pos := "law.go:81", after := #[], guard := none }) (v := ?_) rfl (by kernel_rfl) (by kernel_rfl) (by kernel_rfl) (fun _ _ _ h => h) (Or.inl ⟨by rfl, ?_⟩) (by assumption) ?_
    rotate_left 1
    · intro wS hSw; (try dsimp only at hSw); go_simp; try with_reducible rfl
    try simp only [Act.put, List.setIfInBounds_toArray, List.set_cons_zero, List.set_cons_succ]
    refine wpAnyH_take (i := 2) (oi := { dst := some 36, op := Go.Op.move (Go.Operand.tmp 8), type := 30, pos := "law.go:81", after := #[], guard := none }) (v := ?_) rfl (by kernel_rfl) (by kernel_rfl) (by kernel_rfl) (fun _ _ _ h => h) (Or.inl ⟨by rfl, ?_⟩) (by assumption) ?_
    rotate_left 1
    · intro wS hSw; (try dsimp only at hSw); go_simp; try with_reducible rfl
    try simp only [Act.put, List.setIfInBounds_toArray, List.set_cons_zero, List.set_cons_succ]
    refine wpAnyH_take (i := 3) (oi := { dst := some 37, op := Go.Op.nilCheck (Go.Operand.tmp 36), type := 0, pos := "law.go:81", after := #[{ on := 2, ground := Go.Ground.data }], guard := none }) (v := ?_) rfl (by kernel_rfl) (by kernel_rfl) (by kernel_rfl) (fun _ _ _ h => h) (Or.inl ⟨by rfl, ?_⟩) (by assumption) ?_
    rotate_left 1
    · intro wS hSw; (try dsimp only at hSw); go_simp; try with_reducible rfl
    try simp only [Act.put, List.setIfInBounds_toArray, List.set_cons_zero, List.set_cons_succ]
    refine wpAnyH_take (i := 4) (oi := { dst := some 38, op := Go.Op.fieldAddr 32 (Go.Operand.tmp 37) 2, type := 0, pos := "law.go:81", after := #[{ on := 3, ground := Go.Ground.data }], guard := none }) (v := ?_) rfl (by kernel_rfl) (by kernel_rfl) (by kernel_rfl) (fun _ _ _ h => h) (Or.inl ⟨by rfl, ?_⟩) (by assumption) ?_
    rotate_left 1
    · intro wS hSw; (try dsimp only at hSw); go_simp; try with_reducible rfl
    try simp only [Act.put, List.setIfInBounds_toArray, List.set_cons_zero, List.set_cons_succ]
    refine wpAnyH_take (i := 5) (oi := { dst := some 39, op := Go.Op.load 3 (Go.Operand.tmp 38), type := 3, pos := "law.go:81", after := #[{ on := 4, ground := Go.Ground.data }], guard := none }) (v := ?_) rfl (by kernel_rfl) (by kernel_rfl) (by kernel_rfl) (fun _ _ _ h => h) (Or.inl ⟨by rfl, ?_⟩) (by assumption) ?_
    rotate_left 1
    · intro wS hSw; (try dsimp only at hSw); have hcd := cell_on hSw hcd; have e0 := cell_on hSw e0; have e1 := cell_on hSw e1; have g0 := cell_on hSw g0; have g1 := cell_on hSw g1; go_simp; try with_reducible rfl
    try simp only [Act.put, List.setIfInBounds_toArray, List.set_cons_zero, List.set_cons_succ]
    refine wpAnyH_ready (rs := [1]) (by kernel_rfl) (by simp) ?_
    refine AllReadyH.cons (o := { dst := some 35, op := Go.Op.call { callee := Go.Callee.value (Go.Operand.func 9), args := #[Go.Operand.tmp 34], argTypes := #[28] }, type := 40, pos := "law.go:81", after := #[{ on := 0, ground := Go.Ground.data }], guard := none }) rfl (fun K hK => ?_) (AllReadyH.nil)
    go_simp
    go_at_call 9
    refine (HER.out _ ((rdr_in bi).on HI7.out hHeld)).mono ?_
    rintro e wx ⟨rfl, hb2⟩
    refine hK.out _ _ (bthen hHeld hb2 (Nat.le_refl _)) (fun hHeld2 => ?_)
    clear hK K hHeld hb2
    have hHeld := hHeld2
    clear hHeld2
    try simp only [Act.put, List.setIfInBounds_toArray, List.set_cons_zero, List.set_cons_succ]
    refine wpAnyH_take (i := 6) (oi := { dst := some 40, op := Go.Op.binOp Go.BinOp.neq 3 (Go.Operand.tmp 35) (Go.Operand.tmp 39) 3, type := 4, pos := "law.go:81", after := #[{ on := 1, ground := Go.Ground.data }, { on := 5, ground := Go.Ground.data }], guard := none }) (v := ?_) rfl (by kernel_rfl) (by kernel_rfl) (by kernel_rfl) (fun _ _ _ h => h) (Or.inl ⟨by rfl, ?_⟩) (by assumption) ?_
    rotate_left 1
    · intro wS hSw; (try dsimp only at hSw); go_simp; try with_reducible rfl
    try simp only [Act.put, List.setIfInBounds_toArray, List.set_cons_zero, List.set_cons_succ]
    refine wpAnyH_take (i := 7) (oi := { dst := some 41, op := Go.Op.move (Go.Operand.tmp 40), type := 4, pos := "law.go:81", after := #[{ on := 6, ground := Go.Ground.data }, { on := 1, ground := Go.Ground.chain }], guard := none }) (v := ?_) rfl (by kernel_rfl) (by kernel_rfl) (by kernel_rfl) (fun _ _ _ h => h) (Or.inl ⟨by rfl, ?_⟩) (by assumption) ?_
    rotate_left 1
    · intro wS hSw; (try dsimp only at hSw); go_simp; try with_reducible rfl
    try simp only [Act.put, List.setIfInBounds_toArray, List.set_cons_zero, List.set_cons_succ]
    refine wpAnyH_take (i := 8) (oi := { dst := some 42, op := Go.Op.move (Go.Operand.tmp 7), type := 28, pos := "law.go:81", after := #[{ on := 7, ground := Go.Ground.guard }], guard := some (7, false) }) (v := ?_) rfl (by kernel_rfl) (by kernel_rfl) (by kernel_rfl) (fun _ _ _ h => h) (Or.inl ⟨by rfl, ?_⟩) (by assumption) ?_
    rotate_left 1
    · intro wS hSw; (try dsimp only at hSw); go_simp; try with_reducible rfl
    try simp only [Act.put, List.setIfInBounds_toArray, List.set_cons_zero, List.set_cons_succ]
    refine wpAnyH_take (i := 10) (oi := { dst := some 44, op := Go.Op.move (Go.Operand.tmp 8), type := 30, pos := "law.go:81", after := #[{ on := 7, ground := Go.Ground.guard }], guard := some (7, false) }) (v := ?_) rfl (by kernel_rfl) (by kernel_rfl) (by kernel_rfl) (fun _ _ _ h => h) (Or.inl ⟨by rfl, ?_⟩) (by assumption) ?_
    rotate_left 1
    · intro wS hSw; (try dsimp only at hSw); go_simp; try with_reducible rfl
    try simp only [Act.put, List.setIfInBounds_toArray, List.set_cons_zero, List.set_cons_succ]
    refine wpAnyH_ready (rs := [9]) (by kernel_rfl) (by simp) ?_
    refine AllReadyH.cons (o := { dst := some 43, op := Go.Op.call { callee := Go.Callee.value (Go.Operand.func 10), args := #[Go.Operand.tmp 42], argTypes := #[28] }, type := 3, pos := "law.go:81", after := #[{ on := 8, ground := Go.Ground.data }, { on := 7, ground := Go.Ground.chain }, { on := 7, ground := Go.Ground.guard }], guard := some (7, false) }) rfl (fun K hK => ?_) (AllReadyH.nil)
    go_simp
    go_at_call 10
    refine (HLF.out _ ((rdr_in bi).on HI7.out hHeld)).mono ?_
    rintro e wx ⟨rfl, hb2⟩
    refine hK.out _ _ (bthen hHeld hb2 (Nat.le_refl _)) (fun hHeld2 => ?_)
    clear hK K hHeld hb2
    have hHeld := hHeld2
    clear hHeld2
    try simp only [Act.put, List.setIfInBounds_toArray, List.set_cons_zero, List.set_cons_succ]
    refine wpAnyH_ready (rs := [11]) (by kernel_rfl) (by simp) ?_
    refine AllReadyH.cons (o := { dst := some 45, op := Go.Op.call { callee := Go.Callee.value (Go.Operand.func 11), args := #[Go.Operand.tmp 44], argTypes := #[30] }, type := 3, pos := "law.go:81", after := #[{ on := 10, ground := Go.Ground.data }, { on := 9, ground := Go.Ground.chain }, { on := 7, ground := Go.Ground.guard }], guard := some (7, false) }) rfl (fun K hK => ?_) (AllReadyH.nil)
    go_simp
    go_at_call 11
    refine (HRL.out _ ((rdr_ref bq (ofL l)).on HR7.out hHeld)).mono ?_
    rintro e wx ⟨rfl, hb2⟩
    refine hK.out _ _ (bthen hHeld hb2 (Nat.le_refl _)) (fun hHeld2 => ?_)
    clear hK K hHeld hb2
    have hHeld := hHeld2
    clear hHeld2
    try simp only [Act.put, List.setIfInBounds_toArray, List.set_cons_zero, List.set_cons_succ]
    refine wpAnyH_take (i := 12) (oi := { dst := some 46, op := Go.Op.binOp Go.BinOp.neq 3 (Go.Operand.tmp 43) (Go.Operand.tmp 45) 3, type := 4, pos := "law.go:81", after := #[{ on := 9, ground := Go.Ground.data }, { on := 11, ground := Go.Ground.data }, { on := 7, ground := Go.Ground.guard }], guard := some (7, false) }) (v := ?_) rfl (by kernel_rfl) (by kernel_rfl) (by kernel_rfl) (fun _ _ _ h => h) (Or.inl ⟨by rfl, ?_⟩) (by assumption) ?_
    rotate_left 1
    · intro wS hSw; (try dsimp only at hSw); go_simp; try with_reducible rfl
    try simp only [Act.put, List.setIfInBounds_toArray, List.set_cons_zero, List.set_cons_succ]
    refine wpAnyH_take (i := 13) (oi := { dst := some 47, op := Go.Op.pick (Go.Operand.tmp 41) (Go.Operand.const (Go.Value.bool true)) (Go.Operand.tmp 46), type := 4, pos := "law.go:81", after := #[{ on := 7, ground := Go.Ground.data }, { on := 12, ground := Go.Ground.data }], guard := none }) (v := ?_) rfl (by kernel_rfl) (by kernel_rfl) (by kernel_rfl) (fun _ _ _ h => h) (Or.inl ⟨by rfl, ?_⟩) (by assumption) ?_
    rotate_left 1
    · intro wS hSw; (try dsimp only at hSw); go_simp; try with_reducible rfl
    try simp only [Act.put, List.setIfInBounds_toArray, List.set_cons_zero, List.set_cons_succ]
    refine wpAnyH_take (i := 14) (oi := { dst := some 48, op := Go.Op.move (Go.Operand.tmp 47), type := 4, pos := "law.go:81", after := #[{ on := 13, ground := Go.Ground.data }, { on := 11, ground := Go.Ground.chain }], guard := none }) (v := ?_) rfl (by kernel_rfl) (by kernel_rfl) (by kernel_rfl) (fun _ _ _ h => h) (Or.inl ⟨by rfl, ?_⟩) (by assumption) ?_
    rotate_left 1
    · intro wS hSw; (try dsimp only at hSw); go_simp; try with_reducible rfl
    try simp only [Act.put, List.setIfInBounds_toArray, List.set_cons_zero, List.set_cons_succ]
    refine wpAnyH_take (i := 15) (oi := { dst := some 49, op := Go.Op.load 35 (Go.Operand.tmp 9), type := 35, pos := "law.go:81", after := #[{ on := 14, ground := Go.Ground.guard }], guard := some (14, false) }) (v := ?_) rfl (by kernel_rfl) (by kernel_rfl) (by kernel_rfl) (fun _ _ _ h => h) (Or.inl ⟨by rfl, ?_⟩) (by assumption) ?_
    rotate_left 1
    · intro wS hSw; (try dsimp only at hSw); have hcd := cell_on hSw hcd; have e0 := cell_on hSw e0; have e1 := cell_on hSw e1; have g0 := cell_on hSw g0; have g1 := cell_on hSw g1; go_simp; try with_reducible rfl
    try simp only [Act.put, List.setIfInBounds_toArray, List.set_cons_zero, List.set_cons_succ]
    refine wpAnyH_take (i := 16) (oi := { dst := some 50, op := Go.Op.load 38 (Go.Operand.tmp 10), type := 38, pos := "law.go:81", after := #[{ on := 14, ground := Go.Ground.guard }], guard := some (14, false) }) (v := ?_) rfl (by kernel_rfl) (by kernel_rfl) (by kernel_rfl) (fun _ _ _ h => h) (Or.inl ⟨by rfl, ?_⟩) (by assumption) ?_
    rotate_left 1
    · intro wS hSw; (try dsimp only at hSw); have hcd := cell_on hSw hcd; have e0 := cell_on hSw e0; have e1 := cell_on hSw e1; have g0 := cell_on hSw g0; have g1 := cell_on hSw g1; go_simp; try with_reducible rfl
    try simp only [Act.put, List.setIfInBounds_toArray, List.set_cons_zero, List.set_cons_succ]
    refine wpAnyH_take (i := 17) (oi := { dst := some 51, op := Go.Op.move (Go.Operand.tmp 2), type := 22, pos := "law.go:81", after := #[{ on := 14, ground := Go.Ground.guard }], guard := some (14, false) }) (v := ?_) rfl (by kernel_rfl) (by kernel_rfl) (by kernel_rfl) (fun _ _ _ h => h) (Or.inl ⟨by rfl, ?_⟩) (by assumption) ?_
    rotate_left 1
    · intro wS hSw; (try dsimp only at hSw); go_simp; try with_reducible rfl
    try simp only [Act.put, List.setIfInBounds_toArray, List.set_cons_zero, List.set_cons_succ]
    refine wpAnyH_ready (rs := [18]) (by kernel_rfl) (by simp) ?_
    refine AllReadyH.cons (o := { dst := some 52, op := Go.Op.call { callee := Go.Callee.value (Go.Operand.func 12), args := #[Go.Operand.tmp 49, Go.Operand.tmp 50, Go.Operand.tmp 51], argTypes := #[35, 38, 22] }, type := 4, pos := "law.go:81", after := #[{ on := 15, ground := Go.Ground.data }, { on := 16, ground := Go.Ground.data }, { on := 17, ground := Go.Ground.data }, { on := 14, ground := Go.Ground.chain }, { on := 14, ground := Go.Ground.guard }], guard := some (14, false) }) rfl (fun K hK => ?_) (AllReadyH.nil)
    go_simp
    go_at_call 12
    refine (HTO.out _ (HA7.out.on hHeld) (HB7.out.on hHeld) (HL7.out.on hHeld)).mono ?_
    rintro e wx ⟨rfl, hb2⟩
    refine hK.out _ _ (bthen hHeld hb2 (Nat.le_refl _)) (fun hHeld2 => ?_)
    clear hK K hHeld hb2
    have hHeld := hHeld2
    clear hHeld2
    try simp only [Act.put, List.setIfInBounds_toArray, List.set_cons_zero, List.set_cons_succ]
    refine wpAnyH_take (i := 19) (oi := { dst := some 53, op := Go.Op.unOp Go.UnOp.not 4 (Go.Operand.tmp 52), type := 4, pos := "law.go:81", after := #[{ on := 18, ground := Go.Ground.data }, { on := 14, ground := Go.Ground.guard }], guard := some (14, false) }) (v := ?_) rfl (by kernel_rfl) (by kernel_rfl) (by kernel_rfl) (fun _ _ _ h => h) (Or.inl ⟨by rfl, ?_⟩) (by assumption) ?_
    rotate_left 1
    · intro wS hSw; (try dsimp only at hSw); go_simp; try with_reducible rfl
    try simp only [Act.put, List.setIfInBounds_toArray, List.set_cons_zero, List.set_cons_succ]
    refine wpAnyH_take (i := 20) (oi := { dst := some 54, op := Go.Op.pick (Go.Operand.tmp 48) (Go.Operand.const (Go.Value.bool true)) (Go.Operand.tmp 53), type := 4, pos := "law.go:81", after := #[{ on := 14, ground := Go.Ground.data }, { on := 19, ground := Go.Ground.data }], guard := none }) (v := ?_) rfl (by kernel_rfl) (by kernel_rfl) (by kernel_rfl) (fun _ _ _ h => h) (Or.inl ⟨by rfl, ?_⟩) (by assumption) ?_
    rotate_left 1
    · intro wS hSw; (try dsimp only at hSw); go_simp; try with_reducible rfl
    try simp only [Act.put, List.setIfInBounds_toArray, List.set_cons_zero, List.set_cons_succ]
    refine wpAnyH_done (by kernel_rfl) ?_ _
    have hZ := hHeld
    clear hHeld
    have HZ := Lib.hid hZ
    clear hZ e0 e1 g0 g1 hcd HER HLF HRL HTO
    have HXA9 := Lib.hid (HXA.out.on HZ.out)
    have HXB9 := Lib.hid (HXB.out.on HZ.out)
    have HM9 := Lib.hid (HM7.out.on HZ.out)
    have HA9 := Lib.hid (HA7.out.on HZ.out)
    have HB9 := Lib.hid (HB7.out.on HZ.out)
    clear HZ HXA HXB HM7 HA7 HB7 HI7 HR7 HL7
    generalize wx = w9 at *
    have e0 := HXA9.out.cs 0 _ rfl
    have e1 := HXA9.out.cs 1 _ rfl
    have el := HXA9.out.lt
    have y0 := HM9.out.p.cs 0 _ rfl
    have y1 := HM9.out.p.cs 1 _ rfl
    have y2 := HM9.out.p.cs 2 _ rfl
    have y3 := HM9.out.p.cs 3 _ rfl
    have y4 := HM9.out.p.cs 4 _ rfl
    have y5 := HM9.out.p.cs 5 _ rfl
    have y6 := HM9.out.p.cs 6 _ rfl
    have yl := HM9.out.p.lt
    have hp5l : p5.length ≤ 16 := by have h1 := HFI.out.le; have h2 := congrArg List.length HP5.out; rw [List.length_map] at h2; omega
    have hp6l : p6.length ≤ 16 := by have h1 := HFI.out.le; have h2 := congrArg List.length HP6.out; rw [List.length_map] at h2; omega
    have HPT := Lib.hid (fun W h1 h2 h3 => rsPut_any (fun _ => True) T c5 A5 p5 x A c W hp5l HC5.out.1 HC5.out.2 HFI.out.big (HOK.out W h1) ⟨h2, fun _ _ => trivial, fun _ _ _ _ => trivial⟩ h3)
    have HRT := Lib.hid (fun W h1 h2 => r20Put_any T c6 A6 p6 x A c W hp6l HC6.out.1 HC6.out.2 HFI.out.big (HOK.out W h1) h2)
    unfold RsPutPost at HPT
    unfold RPutPost at HRT
    rw [HP5.out] at HPT
    rw [HP6.out] at HRT
    simp only [maV] at HPT HRT
    have HFA := Lib.hid (Rs.add_fine HFI.out HFX.out)
    generalize Rs.addT T x = T1 at *
    generalize Rs.addK T L x = K1 at *
    generalize Rs.addC T x = cd at *
    have HTO := Lib.hid (fun Aa ca Ab cb (pa pb : List Mp) W (e1 : pa.map Mp.x = K1) (e2 : pb.map Mp.x = K1) h1 h2 h3 => told20_any T1 k ca cb Aa Ab pa pb W hk (by rw [e1]; exact HFA.out) (e1.trans e2.symm) h1 h2 h3)
    clear HFI HFX hp5l hp6l HC5 HC6 HFA HP5 HP6
    go_wp2_with fail
    refine (HPT.out _ HM9.out.ra HA9.out (HLL.out.on HM9.out.B)).mono ?_
    rintro e w10 ⟨Aa, ca, ka, rfl, hka, -, -, hMa, b10⟩
    have HMa := Lib.hid hMa.m
    have HKa := Lib.hid hka
    clear hMa hka e0 e1 el y0 y1 y2 y3 y4 y5 y6 yl
    have b11 := alloc1B w10 (.cells #[.int .u64 (T1 : Int), .slice Aa ka.length ca] 35)
    have HM11 := Lib.hid ((HM9.out.on b10).on b11)
    have HXB11 := Lib.hid ((HXB9.out.on b10).on b11)
    have HB11 := Lib.hid ((HB9.out.on b10).on b11)
    have HMa11 := Lib.hid (HMa.out.on b11)
    have HXa := Lib.hid (BoxC.new (w := w) (W := w10) (HM9.out.on b10).B.size #[.int .u64 (T1 : Int), .slice Aa ka.length ca] 35)
    clear b10 b11 HM9 HXA9 HXB9 HA9 HB9 HMa HPT
    have g0 := HXB11.out.cs 0 _ rfl
    have g1 := HXB11.out.cs 1 _ rfl
    have gl := HXB11.out.lt
    have y0 := HM11.out.p.cs 0 _ rfl
    have y1 := HM11.out.p.cs 1 _ rfl
    have y2 := HM11.out.p.cs 2 _ rfl
    have y3 := HM11.out.p.cs 3 _ rfl
    have y4 := HM11.out.p.cs 4 _ rfl
    have y5 := HM11.out.p.cs 5 _ rfl
    have y6 := HM11.out.p.cs 6 _ rfl
    have yl := HM11.out.p.lt
    go_wp2_with fail
    refine (HRT.out _ HM11.out.ra HB11.out).mono ?_
    rintro e w12 ⟨Ab, cb, kb, rfl, hkb, -, -, hMb, b12⟩
    have HKb := Lib.hid hkb
    have b13 := alloc1B w12 (.cells #[.int .u64 (T1 : Int), .slice Ab kb.length cb] 38)
    have HB13 := Lib.hid ((HM11.out.on b12).on b13)
    have HMa13 := Lib.hid ((HMa11.out.on b12).on b13)
    have HMb13 := Lib.hid (hMb.on b13)
    have HXa13 := Lib.hid ((HXa.out.on b12).on b13)
    have HXb13 := Lib.hid (BoxC.new (w := w) (W := w12) (HM11.out.on b12).B.size #[.int .u64 (T1 : Int), .slice Ab kb.length cb] 38)
    clear hkb hMb b12 b13 g0 g1 gl HM11 HXB11 HB11 HMa11 HXa HRT y0 y1 y2 y3 y4 y5 y6 yl
    have e0 := HXa13.out.cs 0 _ rfl
    have e1 := HXa13.out.cs 1 _ rfl
    have g0 := HXb13.out.cs 0 _ rfl
    have g1 := HXb13.out.cs 1 _ rfl
    go_wp2_with fail
    refine (HTO.out _ _ _ _ _ _ _ HKa.out HKb.out HMa13.out HMb13.out (HLL.out.on HB13.out.B)).mono ?_
    rintro e w14 ⟨rfl, b14⟩
    have HBZ := Lib.hid (HB13.out.on b14)
    clear b14 e0 e1 g0 g1
    go_wp2_with fail
    go_ret
    exact ⟨rfl, HBZ.out.B⟩
theorem riseReadsLaw (s : ByteArray) (x : Ml) (A : Option Addr) (c k : Nat) (w : World) (hs : s.size ≤ maxLen) (hx : MaIn w x A c) (hk : k < 18446744073709551616) (hL : Len w) :
    Calls Tryz.prog 3 #[.string s, maV x A c, .int .u64 (k : Int)] w fun e w' => e = .returned (.bool true) ∧ Below w.heap.size w w' := by
  have hz := ofL_size s.data.toList
  rw [ofL_toList] at hz
  have := riseReads_walk s.data.toList x A c k w (by unfold maxLen at hs; omega) hx hk hL
  rw [ofL_toList] at this
  exact this
end Go.Proofs.YtjkaljokkpabfaaGreatDoor
end
