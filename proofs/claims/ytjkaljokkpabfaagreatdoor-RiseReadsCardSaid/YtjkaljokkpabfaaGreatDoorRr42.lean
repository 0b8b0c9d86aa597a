/-
  WHAT A RISE TELLS: walked.
-/
import Derived.Test.YtjkaljokkpabfaaGreatDoorRr41

section
namespace Go.Proofs.YtjkaljokkpabfaaGreatDoor
open Go.ChangeShapes Go.WideShapes Go.ChangeAt Go.RowKit
theorem r20Same_yes (T c1 c2 : Nat) (A1 A2 : Option Addr) (l1 l2 : List Mp) (w : World) (hl1 : l1.length ≤ 1000) (hl2 : l2.length ≤ 1000) (he : l1.map Mp.x = l2.map Mp.x) (h1 : Mas w A1 l1) (h2 : Mas w A2 l2) :
    Calls Tryz.prog 25 #[.agg #[.int .u64 (T : Int), .slice A1 l1.length c1], .agg #[.int .u64 (T : Int), .slice A2 l2.length c2]] w fun e w' => e = .returned (.bool true) ∧ Below w.heap.size w w' :=
  (r20Same_any T T c1 c2 A1 A2 l1 l2 w hl1 hl2 h1 h2).mono fun _ _ ⟨e1, e2⟩ => ⟨by rw [e1, decide_eq_true ⟨rfl, he⟩], e2⟩
/-- rises that may be -/
structure RsFine (T : Nat) (L : List Ml) : Prop where
  le : L.length ≤ 16
  lt : L.length ≤ T
  po : 0 < T → 0 < L.length
  big : T < 18446744073709551616
  fi : ∀ x ∈ L, Ml.Fits x
set_option maxRecDepth 100000 in
set_option maxHeartbeats 8000000 in
theorem told20_any (T k c c' : Nat) (A A' : Option Addr) (l l' : List Mp) (w : World) (hk : k < 18446744073709551616) (hF : RsFine T (l.map Mp.x)) (he : l.map Mp.x = l'.map Mp.x) (h1 : Mas w A l) (h2 : Mas w A' l') (hL : Len w) :
    Calls Tryz.prog 12 #[.agg #[.int .u64 (T : Int), .slice A l.length c], .agg #[.int .u64 (T : Int), .slice A' l'.length c'], .int .u64 (k : Int)] w fun e w' => e = .returned (.bool true) ∧ Below w.heap.size w w' := by
  have hml : (l.map Mp.x).length = l.length := by simp
  have hml' : (l.map Mp.x).length = l'.length := by rw [he]; simp
  have h16 : l.length ≤ 16 := by have := hF.le; omega
  have hl' : l'.length ≤ 1000 := by have := hF.le; omega
  have hfl : ∀ p ∈ l, Ml.Fits p.x := fun p hp => hF.fi _ (List.mem_map.2 ⟨p, hp, rfl⟩)
  have hfl' : ∀ p ∈ l', Ml.Fits p.x := fun p hp => hF.fi _ (by rw [he]; exact List.mem_map.2 ⟨p, hp, rfl⟩)
  have HB0 := Lib.hid (rs_two w (.cells #[.int .u64 (T : Int), .slice A l.length c] 35) (.cells #[.int .u64 (T : Int), .slice A' l'.length c'] 38))
  have HXA := Lib.hid ((BoxC.new (w := w) (W := w) (Nat.le_refl _) #[.int .u64 (T : Int), .slice A l.length c] 35).on (alloc1B _ (.cells #[.int .u64 (T : Int), .slice A' l'.length c'] 38)))
  have HXB := Lib.hid (rs_box1 w (.cells #[.int .u64 (T : Int), .slice A l.length c] 35) #[.int .u64 (T : Int), .slice A' l'.length c'] 38)
  have HAF := Lib.hid (fun W h => rsAfter_any T c A l k W (by omega) (by have := hF.lt; omega) (fun h => by have := hF.po h; omega) hF.big hk h)
  have HRF := Lib.hid (fun W h => r20After_any T c' A' l' k W hl' (by have := hF.lt; omega) (fun h => by have := hF.po h; omega) hF.big hk h)
  unfold RsAftPost at HAF
  unfold RAfP at HRF
  rw [← he, show Rs.aftN T l'.length k = Rs.aftN T (l.map Mp.x).length k by rw [hml']] at HRF
  have HM0 := Lib.hid h1
  have HM20 := Lib.hid h2
  have HL0 := Lib.hid hL
  have HOF := Lib.hid (fun W h => of20_any T c A l W (by omega) h)
  unfold OfRsPost at HOF
  have HSZ0 := Lib.hid (fun W h hL => rsSize_any T c A l W (by omega) h hfl hL)
  have HSR0 := Lib.hid (fun W h => r20Size_any T c' A' l' W hl' h hfl')
  rw [← he] at HSR0
  have HLL := Lib.hid (show (l.map Mp.x).length ≤ 1000 by rw [hml]; omega)
  have HLE := Lib.hid he.symm
  have hYl : (Rs.aft T (l.map Mp.x) k).head.length ≤ 100000 := by
    unfold Rs.aft
    split
    · simp [Ml.zero]
    · rw [← mp_getD]
      by_cases hi : Rs.aftI T (l.map Mp.x).length k < l.length
      · exact (h1.ok hi).len
      · rw [List.getD_eq_getElem?_getD, List.getElem?_eq_none (by omega)]; simp [Mp.zero, Ml.zero]
  have HYL := Lib.hid hYl
  generalize l.map Mp.x = L at *
  generalize Rs.aft T L k = y at *
  generalize Rs.aftN T L.length k = NN at *
  generalize decide (k < T) = OK at *
  clear h1 h2 hL he hfl hfl' hF hYl hml hml'
  go_enter Tryz.func12, Tryz.ntmps12
  have e0 := HXA.out.cs 0 _ rfl
  have e1 := HXA.out.cs 1 _ rfl
  have el := HXA.out.lt
  go_wp2_with fail
  generalize (w.alloc (.cells #[.int .u64 (T : Int), .slice A l.length c] 35)).alloc (.cells #[.int .u64 (T : Int), .slice A' l'.length c'] 38) = w1 at *
  refine (HAF.out _ (HM0.out.on HB0.out)).mono ?_
  rintro e w2 ⟨Ay, cy, rfl, ho, hb2⟩
  have HT2 := Lib.hid (alloc1B w2 (.cells #[.int .u64 (y.id : Int), .string (ofL y.shop), .string (ofL y.key), .slice Ay y.head.length cy, .string (ofL y.body), .int .u64 (y.due : Int), .int .u8 (y.hops : Int)] 25))
  have HZ2 := Lib.hid (BoxC.new (w := w2) (W := w2) (Nat.le_refl _) #[.int .u64 (y.id : Int), .string (ofL y.shop), .string (ofL y.key), .slice Ay y.head.length cy, .string (ofL y.body), .int .u64 (y.due : Int), .int .u8 (y.hops : Int)] 25)
  have HB2 := Lib.hid (bthen (bthen HB0.out hb2 (Nat.le_refl _)) HT2.out (Nat.le_refl _))
  have HP2 := Lib.hid ((ho.row.1).on HT2.out)
  have HXB2 := Lib.hid ((HXB.out.on hb2).on HT2.out)
  have HXA2 := Lib.hid ((HXA.out.on hb2).on HT2.out)
  have f0 := HXB2.out.cs 0 _ rfl
  have f1 := HXB2.out.cs 1 _ rfl
  have fl := HXB2.out.lt
  clear ho hb2 e0 e1 el
  simp only [maV]
  go_wp2_with fail
  generalize w2.alloc (.cells #[.int .u64 (y.id : Int), .string (ofL y.shop), .string (ofL y.key), .slice Ay y.head.length cy, .string (ofL y.body), .int .u64 (y.due : Int), .int .u8 (y.hops : Int)] 25) = w3 at *
  generalize w2.heap.size = b8 at *
  refine (HRF.out _ (HM20.out.on HB2.out)).mono ?_
  rintro e w5 ⟨Az, cz, rfl, ho, hb5⟩
  have HT5 := Lib.hid (alloc1B w5 (.cells #[.int .u64 (y.id : Int), .string (ofL y.shop), .string (ofL y.key), .slice Az y.head.length cz, .string (ofL y.body), .int .u64 (y.due : Int), .int .u8 (y.hops : Int)] 25))
  have HB35 := Lib.hid (bthen hb5 HT5.out (Nat.le_refl _))
  have HZ5 := Lib.hid (BoxC.new (w := w5) (W := w5) (Nat.le_refl _) #[.int .u64 (y.id : Int), .string (ofL y.shop), .string (ofL y.key), .slice Az y.head.length cz, .string (ofL y.body), .int .u64 (y.due : Int), .int .u8 (y.hops : Int)] 25)
  have HB5 := Lib.hid (bthen HB2.out HB35.out (Nat.le_refl _))
  have HP5 := Lib.hid (ho.on HT5.out)
  have HP25 := Lib.hid (HP2.out.on HB35.out)
  have HXA5 := Lib.hid (HXA2.out.on HB35.out)
  have HXB5 := Lib.hid (HXB2.out.on HB35.out)
  have HZ25 := Lib.hid (HZ2.out.on HB35.out)
  clear ho hb5 f0 f1 fl
  simp only [maV]
  go_upto_region 3 with fail
  generalize w5.alloc (.cells #[.int .u64 (y.id : Int), .string (ofL y.shop), .string (ofL y.key), .slice Az y.head.length cz, .string (ofL y.body), .int .u64 (y.due : Int), .int .u8 (y.hops : Int)] 25) = w4 at *
  generalize w5.heap.size = b11 at *
  have e0 := HXA5.out.cs 0 _ rfl
  have e1 := HXA5.out.cs 1 _ rfl
  have f0 := HXB5.out.cs 0 _ rfl
  have f1 := HXB5.out.cs 1 _ rfl
  have x0 := HZ25.out.cs 0 _ rfl
  have x1 := HZ25.out.cs 1 _ rfl
  have x2 := HZ25.out.cs 2 _ rfl
  have x3 := HZ25.out.cs 3 _ rfl
  have x4 := HZ25.out.cs 4 _ rfl
  have x5 := HZ25.out.cs 5 _ rfl
  have x6 := HZ25.out.cs 6 _ rfl
  have y0 := HZ5.out.cs 0 _ rfl
  have y1 := HZ5.out.cs 1 _ rfl
  have y2 := HZ5.out.cs 2 _ rfl
  have y3 := HZ5.out.cs 3 _ rfl
  have y4 := HZ5.out.cs 4 _ rfl
  have y5 := HZ5.out.cs 5 _ rfl
  have y6 := HZ5.out.cs 6 _ rfl
  have HM := Lib.hid (HM0.out.on HB5.out)
  have HM2 := Lib.hid (HM20.out.on HB5.out)
  have HSA := Lib.hid (fun W (hb : Below w4.heap.size w4 W) => r13Same_any y y Ay cy Az cz W (HYL.out) (HYL.out) (HP25.out.on hb) (HP5.out.on hb))
  rw [maEq_self] at HSA
  simp only [maV] at HSA
  have HSZ := Lib.hid (fun W (hb : Below w4.heap.size w4 W) => HSZ0.out W (HM.out.on hb) (HL0.out.on (bthen HB5.out hb (Nat.le_refl _))))
  have HSR := Lib.hid (fun W (hb : Below w4.heap.size w4 W) => HSR0.out W (HM2.out.on hb))
  have d1 : ((NN : Int) == (NN : Int)) = true := by simp
  have d2 : ((Rs.size L : Int) == (Rs.size L : Int)) = true := by simp
  generalize Rs.size L = SZ at *
  refine wp_region_held_drew (S := fun a => Below (w4.heap.size) w4 a) (by kernel_rfl) (by (try dsimp only); exact (Below.refl _ _).drew) (fun hHeld => ?_)
  refine wpAnyH_take (i := 0) (oi := { dst := some 27, op := Go.Op.load 35 (Go.Operand.tmp 3), type := 35, pos := "law.go:45", after := #[], guard := none }) (v := ?_) rfl (by kernel_rfl) (by kernel_rfl) (by kernel_rfl) (fun _ _ _ h => h) (Or.inl ⟨by rfl, ?_⟩) (by assumption) ?_
  rotate_left 1
  · intro wS hSw; (try dsimp only at hSw); have e0 := cell_on hSw e0; have e1 := cell_on hSw e1; have f0 := cell_on hSw f0; have f1 := cell_on hSw f1; have x0 := cell_on hSw x0; have x1 := cell_on hSw x1; have x2 := cell_on hSw x2; have x3 := cell_on hSw x3; have x4 := cell_on hSw x4; have x5 := cell_on hSw x5; have x6 := cell_on hSw x6; have y0 := cell_on hSw y0; have y1 := cell_on hSw y1; have y2 := cell_on hSw y2; have y3 := cell_on hSw y3; have y4 := cell_on hSw y4; have y5 := cell_on hSw y5; have y6 := cell_on hSw y6; go_simp; try with_reducible rfl
  try simp only [Act.put, List.setIfInBounds_toArray, List.set_cons_zero, List.set_cons_succ]
  refine wpAnyH_take (i := 2) (oi := { dst := some 29, op := Go.Op.load 38 (Go.Operand.tmp 4), type := 38, pos := "law.go:45", after := #[], guard := none }) (v := ?_) rfl (by kernel_rfl) (by kernel_rfl) (by kernel_rfl) (fun _ _ _ h => h) (Or.inl ⟨by rfl, ?_⟩) (by assumption) ?_
  rotate_left 1
  · intro wS hSw; (try dsimp only at hSw); have e0 := cell_on hSw e0; have e1 := cell_on hSw e1; have f0 := cell_on hSw f0; have f1 := cell_on hSw f1; have x0 := cell_on hSw x0; have x1 := cell_on hSw x1; have x2 := cell_on hSw x2; have x3 := cell_on hSw x3; have x4 := cell_on hSw x4; have x5 := cell_on hSw x5; have x6 := cell_on hSw x6; have y0 := cell_on hSw y0; have y1 := cell_on hSw y1; have y2 := cell_on hSw y2; have y3 := cell_on hSw y3; have y4 := cell_on hSw y4; have y5 := cell_on hSw y5; have y6 := cell_on hSw y6; go_simp; try with_reducible rfl
  try simp only [Act.put, List.setIfInBounds_toArray, List.set_cons_zero, List.set_cons_succ]
  refine wpAnyH_ready (rs := [1]) (by kernel_rfl) (by simp) ?_
  refine AllReadyH.cons (o := { dst := some 28, op := Go.Op.call { callee := Go.Callee.value (Go.Operand.func 26), args := #[Go.Operand.tmp 27], argTypes := #[35] }, type := 38, pos := "law.go:45", after := #[{ on := 0, ground := Go.Ground.data }], guard := none }) rfl (fun K hK => ?_) (AllReadyH.nil)
  go_simp
  go_at_call 26
  refine (HOF.out _ (HM.out.on hHeld)).mono ?_
  rintro e wx ⟨A6, c6, p6, rfl, hp6, hc6, hn6, hM6, hb2⟩
  have HM6 := Lib.hid hM6
  have HP6 := Lib.hid hp6
  have HL6 := Lib.hid (show p6.length ≤ 1000 by have := congrArg List.length hp6; rw [List.length_map] at this; rw [this]; exact HLL.out)
  clear hM6 hp6 hc6 hn6
  refine hK.out _ _ (bthen hHeld hb2 (Nat.le_refl _)) (fun hHeld2 => ?_)
  clear hK K hHeld hb2
  have hHeld := hHeld2
  clear hHeld2
  try simp only [Act.put, List.setIfInBounds_toArray, List.set_cons_zero, List.set_cons_succ]
  refine wpAnyH_ready (rs := [3]) (by kernel_rfl) (by simp) ?_
  refine AllReadyH.cons (o := { dst := some 30, op := Go.Op.call { callee := Go.Callee.value (Go.Operand.func 25), args := #[Go.Operand.tmp 28, Go.Operand.tmp 29], argTypes := #[38, 38] }, type := 4, pos := "law.go:45", after := #[{ on := 1, ground := Go.Ground.data }, { on := 2, ground := Go.Ground.data }, { on := 1, ground := Go.Ground.chain }], guard := none }) rfl (fun K hK => ?_) (AllReadyH.nil)
  go_simp
  go_at_call 25
  refine (r20Same_yes T c6 c' A6 A' p6 l' _ HL6.out hl' (HP6.out.trans HLE.out.symm) HM6.out (HM2.out.on hHeld)).mono ?_
  rintro e wx ⟨rfl, hb2⟩
  refine hK.out _ _ (bthen hHeld hb2 (Nat.le_refl _)) (fun hHeld2 => ?_)
  clear hK K hHeld hb2
  have hHeld := hHeld2
  clear hHeld2
  try simp only [Act.put, List.setIfInBounds_toArray, List.set_cons_zero, List.set_cons_succ]
  refine wpAnyH_take (i := 4) (oi := { dst := some 31, op := Go.Op.move (Go.Operand.tmp 30), type := 4, pos := "law.go:45", after := #[{ on := 3, ground := Go.Ground.data }, { on := 3, ground := Go.Ground.chain }], guard := none }) (v := ?_) rfl (by kernel_rfl) (by kernel_rfl) (by kernel_rfl) (fun _ _ _ h => h) (Or.inl ⟨by rfl, ?_⟩) (by assumption) ?_
  rotate_left 1
  · intro wS hSw; (try dsimp only at hSw); go_simp; try with_reducible rfl
  try simp only [Act.put, List.setIfInBounds_toArray, List.set_cons_zero, List.set_cons_succ]
  refine wpAnyH_take (i := 5) (oi := { dst := some 32, op := Go.Op.move (Go.Operand.tmp 7), type := 22, pos := "law.go:45", after := #[{ on := 4, ground := Go.Ground.guard }], guard := some (4, true) }) (v := ?_) rfl (by kernel_rfl) (by kernel_rfl) (by kernel_rfl) (fun _ _ _ h => h) (Or.inl ⟨by rfl, ?_⟩) (by assumption) ?_
  rotate_left 1
  · intro wS hSw; (try dsimp only at hSw); go_simp; try with_reducible rfl
  try simp only [Act.put, List.setIfInBounds_toArray, List.set_cons_zero, List.set_cons_succ]
  refine wpAnyH_take (i := 6) (oi := { dst := some 33, op := Go.Op.move (Go.Operand.tmp 10), type := 22, pos := "law.go:45", after := #[{ on := 4, ground := Go.Ground.guard }], guard := some (4, true) }) (v := ?_) rfl (by kernel_rfl) (by kernel_rfl) (by kernel_rfl) (fun _ _ _ h => h) (Or.inl ⟨by rfl, ?_⟩) (by assumption) ?_
  rotate_left 1
  · intro wS hSw; (try dsimp only at hSw); go_simp; try with_reducible rfl
  try simp only [Act.put, List.setIfInBounds_toArray, List.set_cons_zero, List.set_cons_succ]
  refine wpAnyH_take (i := 7) (oi := { dst := some 34, op := Go.Op.binOp Go.BinOp.eql 22 (Go.Operand.tmp 32) (Go.Operand.tmp 33) 22, type := 4, pos := "law.go:45", after := #[{ on := 5, ground := Go.Ground.data }, { on := 6, ground := Go.Ground.data }, { on := 4, ground := Go.Ground.guard }], guard := some (4, true) }) (v := ?_) rfl (by kernel_rfl) (by kernel_rfl) (by kernel_rfl) (fun _ _ _ h => h) (Or.inl ⟨by rfl, ?_⟩) (by assumption) ?_
  rotate_left 1
  · intro wS hSw; (try dsimp only at hSw); go_simp; try with_reducible rfl
  try simp only [Act.put, List.setIfInBounds_toArray, List.set_cons_zero, List.set_cons_succ]
  refine wpAnyH_take (i := 8) (oi := { dst := some 35, op := Go.Op.pick (Go.Operand.tmp 31) (Go.Operand.tmp 34) (Go.Operand.const (Go.Value.bool false)), type := 4, pos := "law.go:45", after := #[{ on := 4, ground := Go.Ground.data }, { on := 7, ground := Go.Ground.data }], guard := none }) (v := ?_) rfl (by kernel_rfl) (by kernel_rfl) (by kernel_rfl) (fun _ _ _ h => h) (Or.inl ⟨by rfl, ?_⟩) (by assumption) ?_
  rotate_left 1
  · intro wS hSw; (try dsimp only at hSw); go_simp; try with_reducible rfl
  try simp only [Act.put, List.setIfInBounds_toArray, List.set_cons_zero, List.set_cons_succ]
  refine wpAnyH_take (i := 9) (oi := { dst := some 36, op := Go.Op.move (Go.Operand.tmp 35), type := 4, pos := "law.go:45", after := #[{ on := 8, ground := Go.Ground.data }, { on := 4, ground := Go.Ground.chain }], guard := none }) (v := ?_) rfl (by kernel_rfl) (by kernel_rfl) (by kernel_rfl) (fun _ _ _ h => h) (Or.inl ⟨by rfl, ?_⟩) (by assumption) ?_
  rotate_left 1
  · intro wS hSw; (try dsimp only at hSw); go_simp; try with_reducible rfl
  try simp only [Act.put, List.setIfInBounds_toArray, List.set_cons_zero, List.set_cons_succ]
  refine wpAnyH_take (i := 10) (oi := { dst := some 37, op := Go.Op.load 25 (Go.Operand.tmp 8), type := 25, pos := "law.go:45", after := #[{ on := 9, ground := Go.Ground.guard }], guard := some (9, true) }) (v := ?_) rfl (by kernel_rfl) (by kernel_rfl) (by kernel_rfl) (fun _ _ _ h => h) (Or.inl ⟨by rfl, ?_⟩) (by assumption) ?_
  rotate_left 1
  · intro wS hSw; (try dsimp only at hSw); have e0 := cell_on hSw e0; have e1 := cell_on hSw e1; have f0 := cell_on hSw f0; have f1 := cell_on hSw f1; have x0 := cell_on hSw x0; have x1 := cell_on hSw x1; have x2 := cell_on hSw x2; have x3 := cell_on hSw x3; have x4 := cell_on hSw x4; have x5 := cell_on hSw x5; have x6 := cell_on hSw x6; have y0 := cell_on hSw y0; have y1 := cell_on hSw y1; have y2 := cell_on hSw y2; have y3 := cell_on hSw y3; have y4 := cell_on hSw y4; have y5 := cell_on hSw y5; have y6 := cell_on hSw y6; go_simp; try with_reducible rfl
  try simp only [Act.put, List.setIfInBounds_toArray, List.set_cons_zero, List.set_cons_succ]
  refine wpAnyH_take (i := 11) (oi := { dst := some 38, op := Go.Op.load 25 (Go.Operand.tmp 11), type := 25, pos := "law.go:45", after := #[{ on := 9, ground := Go.Ground.guard }], guard := some (9, true) }) (v := ?_) rfl (by kernel_rfl) (by kernel_rfl) (by kernel_rfl) (fun _ _ _ h => h) (Or.inl ⟨by rfl, ?_⟩) (by assumption) ?_
  rotate_left 1
  · intro wS hSw; (try dsimp only at hSw); have e0 := cell_on hSw e0; have e1 := cell_on hSw e1; have f0 := cell_on hSw f0; have f1 := cell_on hSw f1; have x0 := cell_on hSw x0; have x1 := cell_on hSw x1; have x2 := cell_on hSw x2; have x3 := cell_on hSw x3; have x4 := cell_on hSw x4; have x5 := cell_on hSw x5; have x6 := cell_on hSw x6; have y0 := cell_on hSw y0; have y1 := cell_on hSw y1; have y2 := cell_on hSw y2; have y3 := cell_on hSw y3; have y4 := cell_on hSw y4; have y5 := cell_on hSw y5; have y6 := cell_on hSw y6; go_simp; try with_reducible rfl
  try simp only [Act.put, List.setIfInBounds_toArray, List.set_cons_zero, List.set_cons_succ]
  refine wpAnyH_ready (rs := [12]) (by kernel_rfl) (by simp) ?_
  refine AllReadyH.cons (o := { dst := some 39, op := Go.Op.call { callee := Go.Callee.value (Go.Operand.func 27), args := #[Go.Operand.tmp 37, Go.Operand.tmp 38], argTypes := #[25, 25] }, type := 4, pos := "law.go:45", after := #[{ on := 10, ground := Go.Ground.data }, { on := 11, ground := Go.Ground.data }, { on := 9, ground := Go.Ground.chain }, { on := 9, ground := Go.Ground.guard }], guard := some (9, true) }) rfl (fun K hK => ?_) (AllReadyH.nil)
  go_simp
  go_at_call 27
  refine (HSA.out _ hHeld).mono ?_
  rintro e wx ⟨rfl, hb2⟩
  refine hK.out _ _ (bthen hHeld hb2 (Nat.le_refl _)) (fun hHeld2 => ?_)
  clear hK K hHeld hb2
  have hHeld := hHeld2
  clear hHeld2
  try simp only [Act.put, List.setIfInBounds_toArray, List.set_cons_zero, List.set_cons_succ]
  refine wpAnyH_take (i := 13) (oi := { dst := some 40, op := Go.Op.pick (Go.Operand.tmp 36) (Go.Operand.tmp 39) (Go.Operand.const (Go.Value.bool false)), type := 4, pos := "law.go:45", after := #[{ on := 9, ground := Go.Ground.data }, { on := 12, ground := Go.Ground.data }], guard := none }) (v := ?_) rfl (by kernel_rfl) (by kernel_rfl) (by kernel_rfl) (fun _ _ _ h => h) (Or.inl ⟨by rfl, ?_⟩) (by assumption) ?_
  rotate_left 1
  · intro wS hSw; (try dsimp only at hSw); go_simp; try with_reducible rfl
  try simp only [Act.put, List.setIfInBounds_toArray, List.set_cons_zero, List.set_cons_succ]
  refine wpAnyH_take (i := 14) (oi := { dst := some 41, op := Go.Op.move (Go.Operand.tmp 40), type := 4, pos := "law.go:45", after := #[{ on := 13, ground := Go.Ground.data }, { on := 12, ground := Go.Ground.chain }], guard := none }) (v := ?_) rfl (by kernel_rfl) (by kernel_rfl) (by kernel_rfl) (fun _ _ _ h => h) (Or.inl ⟨by rfl, ?_⟩) (by assumption) ?_
  rotate_left 1
  · intro wS hSw; (try dsimp only at hSw); go_simp; try with_reducible rfl
  try simp only [Act.put, List.setIfInBounds_toArray, List.set_cons_zero, List.set_cons_succ]
  refine wpAnyH_take (i := 15) (oi := { dst := some 42, op := Go.Op.move (Go.Operand.tmp 9), type := 4, pos := "law.go:45", after := #[{ on := 14, ground := Go.Ground.guard }], guard := some (14, true) }) (v := ?_) rfl (by kernel_rfl) (by kernel_rfl) (by kernel_rfl) (fun _ _ _ h => h) (Or.inl ⟨by rfl, ?_⟩) (by assumption) ?_
  rotate_left 1
  · intro wS hSw; (try dsimp only at hSw); go_simp; try with_reducible rfl
  try simp only [Act.put, List.setIfInBounds_toArray, List.set_cons_zero, List.set_cons_succ]
  refine wpAnyH_take (i := 16) (oi := { dst := some 43, op := Go.Op.move (Go.Operand.tmp 12), type := 4, pos := "law.go:45", after := #[{ on := 14, ground := Go.Ground.guard }], guard := some (14, true) }) (v := ?_) rfl (by kernel_rfl) (by kernel_rfl) (by kernel_rfl) (fun _ _ _ h => h) (Or.inl ⟨by rfl, ?_⟩) (by assumption) ?_
  rotate_left 1
  · intro wS hSw; (try dsimp only at hSw); go_simp; try with_reducible rfl
  try simp only [Act.put, List.setIfInBounds_toArray, List.set_cons_zero, List.set_cons_succ]
  refine wpAnyH_take (i := 17) (oi := { dst := some 44, op := Go.Op.binOp Go.BinOp.eql 4 (Go.Operand.tmp 42) (Go.Operand.tmp 43) 4, type := 4, pos := "law.go:45", after := #[{ on := 15, ground := Go.Ground.data }, { on := 16, ground := Go.Ground.data }, { on := 14, ground := Go.Ground.guard }], guard := some (14, true) }) (v := ?_) rfl (by kernel_rfl) (by kernel_rfl) (by kernel_rfl) (fun _ _ _ h => h) (Or.inl ⟨by rfl, ?_⟩) (by assumption) ?_
  rotate_left 1
  · intro wS hSw; (try dsimp only at hSw); go_simp; try with_reducible rfl
  try simp only [Act.put, List.setIfInBounds_toArray, List.set_cons_zero, List.set_cons_succ]
  refine wpAnyH_take (i := 18) (oi := { dst := some 45, op := Go.Op.pick (Go.Operand.tmp 41) (Go.Operand.tmp 44) (Go.Operand.const (Go.Value.bool false)), type := 4, pos := "law.go:45", after := #[{ on := 14, ground := Go.Ground.data }, { on := 17, ground := Go.Ground.data }], guard := none }) (v := ?_) rfl (by kernel_rfl) (by kernel_rfl) (by kernel_rfl) (fun _ _ _ h => h) (Or.inl ⟨by rfl, ?_⟩) (by assumption) ?_
  rotate_left 1
  · intro wS hSw; (try dsimp only at hSw); go_simp; try with_reducible rfl
  try simp only [Act.put, List.setIfInBounds_toArray, List.set_cons_zero, List.set_cons_succ]
  refine wpAnyH_take (i := 19) (oi := { dst := some 46, op := Go.Op.move (Go.Operand.tmp 45), type := 4, pos := "law.go:45", after := #[{ on := 18, ground := Go.Ground.data }, { on := 14, ground := Go.Ground.chain }], guard := none }) (v := ?_) rfl (by kernel_rfl) (by kernel_rfl) (by kernel_rfl) (fun _ _ _ h => h) (Or.inl ⟨by rfl, ?_⟩) (by assumption) ?_
  rotate_left 1
  · intro wS hSw; (try dsimp only at hSw); go_simp; try with_reducible rfl
  try simp only [Act.put, List.setIfInBounds_toArray, List.set_cons_zero, List.set_cons_succ]
  refine wpAnyH_take (i := 20) (oi := { dst := some 47, op := Go.Op.load 35 (Go.Operand.tmp 3), type := 35, pos := "law.go:45", after := #[{ on := 19, ground := Go.Ground.guard }], guard := some (19, true) }) (v := ?_) rfl (by kernel_rfl) (by kernel_rfl) (by kernel_rfl) (fun _ _ _ h => h) (Or.inl ⟨by rfl, ?_⟩) (by assumption) ?_
  rotate_left 1
  · intro wS hSw; (try dsimp only at hSw); have e0 := cell_on hSw e0; have e1 := cell_on hSw e1; have f0 := cell_on hSw f0; have f1 := cell_on hSw f1; have x0 := cell_on hSw x0; have x1 := cell_on hSw x1; have x2 := cell_on hSw x2; have x3 := cell_on hSw x3; have x4 := cell_on hSw x4; have x5 := cell_on hSw x5; have x6 := cell_on hSw x6; have y0 := cell_on hSw y0; have y1 := cell_on hSw y1; have y2 := cell_on hSw y2; have y3 := cell_on hSw y3; have y4 := cell_on hSw y4; have y5 := cell_on hSw y5; have y6 := cell_on hSw y6; go_simp; try with_reducible rfl
  try simp only [Act.put, List.setIfInBounds_toArray, List.set_cons_zero, List.set_cons_succ]
  refine wpAnyH_take (i := 22) (oi := { dst := some 49, op := Go.Op.load 38 (Go.Operand.tmp 4), type := 38, pos := "law.go:45", after := #[{ on := 19, ground := Go.Ground.guard }], guard := some (19, true) }) (v := ?_) rfl (by kernel_rfl) (by kernel_rfl) (by kernel_rfl) (fun _ _ _ h => h) (Or.inl ⟨by rfl, ?_⟩) (by assumption) ?_
  rotate_left 1
  · intro wS hSw; (try dsimp only at hSw); have e0 := cell_on hSw e0; have e1 := cell_on hSw e1; have f0 := cell_on hSw f0; have f1 := cell_on hSw f1; have x0 := cell_on hSw x0; have x1 := cell_on hSw x1; have x2 := cell_on hSw x2; have x3 := cell_on hSw x3; have x4 := cell_on hSw x4; have x5 := cell_on hSw x5; have x6 := cell_on hSw x6; have y0 := cell_on hSw y0; have y1 := cell_on hSw y1; have y2 := cell_on hSw y2; have y3 := cell_on hSw y3; have y4 := cell_on hSw y4; have y5 := cell_on hSw y5; have y6 := cell_on hSw y6; go_simp; try with_reducible rfl
  try simp only [Act.put, List.setIfInBounds_toArray, List.set_cons_zero, List.set_cons_succ]
  refine wpAnyH_ready (rs := [21]) (by kernel_rfl) (by simp) ?_
  refine AllReadyH.cons (o := { dst := some 48, op := Go.Op.call { callee := Go.Callee.value (Go.Operand.func 28), args := #[Go.Operand.tmp 47], argTypes := #[35] }, type := 3, pos := "law.go:45", after := #[{ on := 20, ground := Go.Ground.data }, { on := 19, ground := Go.Ground.chain }, { on := 19, ground := Go.Ground.guard }], guard := some (19, true) }) rfl (fun K hK => ?_) (AllReadyH.nil)
  go_simp
  go_at_call 28
  refine (HSZ.out _ hHeld).mono ?_
  rintro e wx ⟨rfl, hb2⟩
  refine hK.out _ _ (bthen hHeld hb2 (Nat.le_refl _)) (fun hHeld2 => ?_)
  clear hK K hHeld hb2
  have hHeld := hHeld2
  clear hHeld2
  try simp only [Act.put, List.setIfInBounds_toArray, List.set_cons_zero, List.set_cons_succ]
  refine wpAnyH_ready (rs := [23]) (by kernel_rfl) (by simp) ?_
  refine AllReadyH.cons (o := { dst := some 50, op := Go.Op.call { callee := Go.Callee.value (Go.Operand.func 29), args := #[Go.Operand.tmp 49], argTypes := #[38] }, type := 3, pos := "law.go:45", after := #[{ on := 22, ground := Go.Ground.data }, { on := 21, ground := Go.Ground.chain }, { on := 19, ground := Go.Ground.guard }], guard := some (19, true) }) rfl (fun K hK => ?_) (AllReadyH.nil)
  go_simp
  go_at_call 29
  refine (HSR.out _ hHeld).mono ?_
  rintro e wx ⟨rfl, hb2⟩
  refine hK.out _ _ (bthen hHeld hb2 (Nat.le_refl _)) (fun hHeld2 => ?_)
  clear hK K hHeld hb2
  have hHeld := hHeld2
  clear hHeld2
  try simp only [Act.put, List.setIfInBounds_toArray, List.set_cons_zero, List.set_cons_succ]
  refine wpAnyH_take (i := 24) (oi := { dst := some 51, op := Go.Op.binOp Go.BinOp.eql 3 (Go.Operand.tmp 48) (Go.Operand.tmp 50) 3, type := 4, pos := "law.go:45", after := #[{ on := 21, ground := Go.Ground.data }, { on := 23, ground := Go.Ground.data }, { on := 19, ground := Go.Ground.guard }], guard := some (19, true) }) (v := ?_) rfl (by kernel_rfl) (by kernel_rfl) (by kernel_rfl) (fun _ _ _ h => h) (Or.inl ⟨by rfl, ?_⟩) (by assumption) ?_
  rotate_left 1
  · intro wS hSw; (try dsimp only at hSw); go_simp; try with_reducible rfl
  try simp only [Act.put, List.setIfInBounds_toArray, List.set_cons_zero, List.set_cons_succ]
  refine wpAnyH_take (i := 25) (oi := { dst := some 52, op := Go.Op.pick (Go.Operand.tmp 46) (Go.Operand.tmp 51) (Go.Operand.const (Go.Value.bool false)), type := 4, pos := "law.go:45", after := #[{ on := 19, ground := Go.Ground.data }, { on := 24, ground := Go.Ground.data }], guard := none }) (v := ?_) rfl (by kernel_rfl) (by kernel_rfl) (by kernel_rfl) (fun _ _ _ h => h) (Or.inl ⟨by rfl, ?_⟩) (by assumption) ?_
  rotate_left 1
  · intro wS hSw; (try dsimp only at hSw); go_simp; try with_reducible rfl
  try simp only [Act.put, List.setIfInBounds_toArray, List.set_cons_zero, List.set_cons_succ]
  refine wpAnyH_take (i := 26) (oi := { dst := some 6, op := Go.Op.assign (Go.Operand.tmp 52), type := 4, pos := "law.go:45", after := #[{ on := 25, ground := Go.Ground.data }, { on := 23, ground := Go.Ground.chain }, { on := 0, ground := Go.Ground.phase }, { on := 1, ground := Go.Ground.phase }, { on := 2, ground := Go.Ground.phase }, { on := 3, ground := Go.Ground.phase }, { on := 4, ground := Go.Ground.phase }, { on := 5, ground := Go.Ground.phase }, { on := 6, ground := Go.Ground.phase }, { on := 7, ground := Go.Ground.phase }, { on := 8, ground := Go.Ground.phase }, { on := 9, ground := Go.Ground.phase }, { on := 10, ground := Go.Ground.phase }, { on := 11, ground := Go.Ground.phase }, { on := 12, ground := Go.Ground.phase }, { on := 13, ground := Go.Ground.phase }, { on := 14, ground := Go.Ground.phase }, { on := 15, ground := Go.Ground.phase }, { on := 16, ground := Go.Ground.phase }, { on := 17, ground := Go.Ground.phase }, { on := 18, ground := Go.Ground.phase }, { on := 19, ground := Go.Ground.phase }, { on := 20, ground := Go.Ground.phase }, { on := 21, ground := Go.Ground.phase }, { on := 22, ground := Go.Ground.phase }, { on := 23, ground := Go.Ground.phase }, { on := 24, ground := Go.Ground.phase }, { on := 25, ground := Go.Ground.phase }], guard := none }) (v := ?_) rfl (by kernel_rfl) (by kernel_rfl) (by kernel_rfl) (fun _ _ _ h => h) (Or.inl ⟨by rfl, ?_⟩) (by assumption) ?_
  rotate_left 1
  · intro wS hSw; (try dsimp only at hSw); go_simp; try with_reducible rfl
  try simp only [Act.put, List.setIfInBounds_toArray, List.set_cons_zero, List.set_cons_succ]
  refine wpAnyH_done (by kernel_rfl) ?_ _
  have hZ := hHeld
  clear hHeld
  have HBF := Lib.hid (bthen HB5.out hZ (Nat.le_refl _))
  clear hZ e0 e1 f0 f1 x0 x1 x2 x3 x4 x5 x6 y0 y1 y2 y3 y4 y5 y6
  go_wp2_with fail
  go_ret
  exact ⟨rfl, HBF.out⟩
end Go.Proofs.YtjkaljokkpabfaaGreatDoor
end
