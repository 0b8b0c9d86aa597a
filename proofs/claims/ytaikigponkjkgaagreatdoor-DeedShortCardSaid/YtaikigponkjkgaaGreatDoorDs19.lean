/-
  A BINDING's RULE; bindings held against each other: walked, the program's and the document's.
-/
import Derived.Test.YtaikigponkjkgaaGreatDoorDs17
import Derived.Test.YtaikigponkjkgaaGreatDoorDs18
import Derived.Deep.RegionHeld3
import Derived.Deep.DeepCutAuto
section
namespace Go.Proofs.YtaikigponkjkgaaGreatDoor
open Go.ChangeShapes Go.WideShapes Go.ChangeAt Go.RowKit
theorem qds19a (l : List Value) (i : Nat) (v : Value) : l.toArray.setIfInBounds i v = (l.set i v).toArray := by simp
theorem qds19b (v u : Value) (l : List Value) : (v :: l).set 0 u = u :: l := rfl
theorem qds19c (v u : Value) (n : Nat) (l : List Value) : (v :: l).set (n + 1) u = v :: l.set n u := rfl
theorem bdRule_any (x : Bd) (A : Option Addr) (c sort : Nat) (w : World) : Calls Tryz.prog 130 #[bdV x A c, .int .u8 (sort : Int)] w fun e w' => e = .returned (ruV (bdRu sort x) A c) ∧ Below w.heap.size w w' := by
  simp only [bdV, ruV, bdRu]
  go_enter Tryz.func130, Tryz.ntmps130
  go_wp2_with fail
  exact bodyPost_ret (v := .agg #[.int .u8 (sort : Int), .string (ofL x.key), .slice A x.want.length c, .bool x.all]) (by simp [results, Tryz.results130, go_sem]) rfl ⟨by simp, rtTwo w _ _⟩
def bdEq (x y : Bd) : Bool := (x.shop == y.shop) && ((x.to == y.to) && ((x.up == y.up) && ((x.key == y.key) && ((x.all == y.all) && decide (x.want = y.want)))))
theorem bdEq_dec (x y : Bd) : bdEq x y = decide (x = y) := by
  unfold bdEq
  cases x; cases y
  rw [Bool.eq_iff_iff]
  simp only [Bool.and_eq_true, beq_iff_eq, decide_eq_true_eq, Bd.mk.injEq]
  constructor
  · rintro ⟨h1, h2, h3, h4, h5, h6⟩; exact ⟨h1, h2, h3, h4, h6, h5⟩
  · rintro ⟨h1, h2, h3, h4, h6, h5⟩; exact ⟨h1, h2, h3, h4, h5, h6⟩
theorem bdEq_ru (x y : Bd) : bdEq x y = ((x.shop == y.shop) && ((x.to == y.to) && ((x.up == y.up) && ruSame (bdRu 0 x) (bdRu 0 y)))) := by
  unfold bdEq ruSame bdRu
  simp [Bool.and_assoc]
set_option maxRecDepth 100000 in
set_option maxHeartbeats 4000000 in
theorem bdSame_any (x y : Bd) (A : Option Addr) (c : Nat) (B : Option Addr) (d : Nat) (w : World) (hl : x.want.length ≤ 100000) (hm : y.want.length ≤ 100000) (hA : Prs w A x.want) (hB : Prs w B y.want) :
    Calls Tryz.prog 129 #[bdV x A c, bdV y B d] w fun e w' => e = .returned (.bool (bdEq x y)) ∧ Below w.heap.size w w' := by
  have HB0 := Lib.hid (rtTwo w (.cells #[.string (ofL x.shop), .string (ofL x.to), .bool x.up, .string (ofL x.key), .slice A x.want.length c, .bool x.all] 48) (.cells #[.string (ofL y.shop), .string (ofL y.to), .bool y.up, .string (ofL y.key), .slice B y.want.length d, .bool y.all] 48))
  have HPA := Lib.hid (hA.on HB0.out)
  have HPB := Lib.hid (hB.on HB0.out)
  have HR1 := Lib.hid (fun W => bdRule_any x A c 0 W)
  have HR2 := Lib.hid (fun W => bdRule_any y B d 0 W)
  have HS := Lib.hid (fun W h1 h2 => mSame_any (bdRu 0 x) (bdRu 0 y) A c B d W hl hm h1 h2)
  have HX := Lib.hid (bdEq_ru x y)
  have HBX := Lib.hid (rtNext (rtAt0 w #[.string (ofL x.shop), .string (ofL x.to), .bool x.up, .string (ofL x.key), .slice A x.want.length c, .bool x.all] 48) (.cells #[.string (ofL y.shop), .string (ofL y.to), .bool y.up, .string (ofL y.key), .slice B y.want.length d, .bool y.all] 48))
  have HBY := Lib.hid (rtAt1 w (.cells #[.string (ofL x.shop), .string (ofL x.to), .bool x.up, .string (ofL x.key), .slice A x.want.length c, .bool x.all] 48) #[.string (ofL y.shop), .string (ofL y.to), .bool y.up, .string (ofL y.key), .slice B y.want.length d, .bool y.all] 48)
  clear hA hB
  generalize ruSame (bdRu 0 x) (bdRu 0 y) = M at *
  have q_shop := str_same x.shop y.shop
  have q_to := str_same x.to y.to
  simp only [bdV] at HR1 HR2 ⊢
  simp only [ruV, bdRu] at HR1 HR2 HS
  cases e_shop : x.shop == y.shop with
  | false =>
    rw [e_shop] at q_shop
    have HC := Lib.hid (show bdEq x y = false by rw [HX.out, e_shop]; simp)
    clear e_shop
    go_enter Tryz.func129, Tryz.ntmps129
    go_upto_region 1 with fail
    generalize (w.alloc (.cells #[.string (ofL x.shop), .string (ofL x.to), .bool x.up, .string (ofL x.key), .slice A x.want.length c, .bool x.all] 48)).alloc (.cells #[.string (ofL y.shop), .string (ofL y.to), .bool y.up, .string (ofL y.key), .slice B y.want.length d, .bool y.all] 48) = w2 at *
    have x0 := HBX.out.cs 0 _ rfl
    have x1 := HBX.out.cs 1 _ rfl
    have x2 := HBX.out.cs 2 _ rfl
    have x3 := HBX.out.cs 3 _ rfl
    have x4 := HBX.out.cs 4 _ rfl
    have x5 := HBX.out.cs 5 _ rfl
    have y0 := HBY.out.cs 0 _ rfl
    have y1 := HBY.out.cs 1 _ rfl
    have y2 := HBY.out.cs 2 _ rfl
    have y3 := HBY.out.cs 3 _ rfl
    have y4 := HBY.out.cs 4 _ rfl
    have y5 := HBY.out.cs 5 _ rfl
    refine wp_region_held_drew (S := fun a => Below (w2.heap.size) w2 a) (by kernel_rfl) (by (try dsimp only); exact (Below.refl _ _).drew) (fun hHeld => ?_)
    refine wpAnyH_take (i := 0) (oi := ⟨some 5, .fieldAddr 48 (.tmp 2) 0, 0, "route.go:60", #[], none⟩) (v := ?_) rfl (by kernel_rfl) (by kernel_rfl) (by kernel_rfl) (fun _ _ _ h => h) (Or.inl ⟨by rfl, ?_⟩) (by assumption) ?_
    rotate_left 1
    · intro wS hSw; (try dsimp only at hSw); go_simp; try with_reducible rfl
    try simp only [Act.put, qds19a, qds19b, qds19c]
    refine wpAnyH_take (i := 1) (oi := ⟨some 6, .load 9 (.tmp 5), 9, "route.go:60", #[⟨0, .data⟩], none⟩) (v := ?_) rfl (by kernel_rfl) (by kernel_rfl) (by kernel_rfl) (fun _ _ _ h => h) (Or.inl ⟨by rfl, ?_⟩) (by assumption) ?_
    rotate_left 1
    · intro wS hSw; (try dsimp only at hSw); have x0 := cell_on hSw x0; have x1 := cell_on hSw x1; have x2 := cell_on hSw x2; have x3 := cell_on hSw x3; have x4 := cell_on hSw x4; have x5 := cell_on hSw x5; have y0 := cell_on hSw y0; have y1 := cell_on hSw y1; have y2 := cell_on hSw y2; have y3 := cell_on hSw y3; have y4 := cell_on hSw y4; have y5 := cell_on hSw y5; go_simp; try with_reducible rfl
    try simp only [Act.put, qds19a, qds19b, qds19c]
    refine wpAnyH_take (i := 2) (oi := ⟨some 7, .fieldAddr 48 (.tmp 3) 0, 0, "route.go:60", #[], none⟩) (v := ?_) rfl (by kernel_rfl) (by kernel_rfl) (by kernel_rfl) (fun _ _ _ h => h) (Or.inl ⟨by rfl, ?_⟩) (by assumption) ?_
    rotate_left 1
    · intro wS hSw; (try dsimp only at hSw); go_simp; try with_reducible rfl
    try simp only [Act.put, qds19a, qds19b, qds19c]
    refine wpAnyH_take (i := 3) (oi := ⟨some 8, .load 9 (.tmp 7), 9, "route.go:60", #[⟨2, .data⟩], none⟩) (v := ?_) rfl (by kernel_rfl) (by kernel_rfl) (by kernel_rfl) (fun _ _ _ h => h) (Or.inl ⟨by rfl, ?_⟩) (by assumption) ?_
    rotate_left 1
    · intro wS hSw; (try dsimp only at hSw); have x0 := cell_on hSw x0; have x1 := cell_on hSw x1; have x2 := cell_on hSw x2; have x3 := cell_on hSw x3; have x4 := cell_on hSw x4; have x5 := cell_on hSw x5; have y0 := cell_on hSw y0; have y1 := cell_on hSw y1; have y2 := cell_on hSw y2; have y3 := cell_on hSw y3; have y4 := cell_on hSw y4; have y5 := cell_on hSw y5; go_simp; try with_reducible rfl
    try simp only [Act.put, qds19a, qds19b, qds19c]
    refine wpAnyH_take (i := 4) (oi := ⟨some 9, .binOp .eql 9 (.tmp 6) (.tmp 8) 9, 4, "route.go:60", #[⟨1, .data⟩, ⟨3, .data⟩], none⟩) (v := ?_) rfl (by kernel_rfl) (by kernel_rfl) (by kernel_rfl) (fun _ _ _ h => h) (Or.inl ⟨by rfl, ?_⟩) (by assumption) ?_
    rotate_left 1
    · intro wS hSw; (try dsimp only at hSw); go_simp; try with_reducible rfl
    try simp only [Act.put, qds19a, qds19b, qds19c]
    refine wpAnyH_take (i := 5) (oi := ⟨some 10, .move (.tmp 9), 4, "route.go:60", #[⟨4, .data⟩], none⟩) (v := ?_) rfl (by kernel_rfl) (by kernel_rfl) (by kernel_rfl) (fun _ _ _ h => h) (Or.inl ⟨by rfl, ?_⟩) (by assumption) ?_
    rotate_left 1
    · intro wS hSw; (try dsimp only at hSw); go_simp; try with_reducible rfl
    try simp only [Act.put, qds19a, qds19b, qds19c]
    refine wpAnyH_take (i := 6) (oi := ⟨some 11, .fieldAddr 48 (.tmp 2) 1, 0, "route.go:60", #[⟨5, .guard⟩], some (5, true)⟩) (v := undef) rfl (by kernel_rfl) (by kernel_rfl) (by kernel_rfl) (fun _ _ _ h => h) (Or.inr ⟨by rfl, rfl⟩) (by assumption) ?_
    try simp only [Act.put, qds19a, qds19b, qds19c]
    refine wpAnyH_take (i := 7) (oi := ⟨some 12, .load 9 (.tmp 11), 9, "route.go:60", #[⟨6, .data⟩, ⟨5, .guard⟩], some (5, true)⟩) (v := undef) rfl (by kernel_rfl) (by kernel_rfl) (by kernel_rfl) (fun _ _ _ h => h) (Or.inr ⟨by rfl, rfl⟩) (by assumption) ?_
    try simp only [Act.put, qds19a, qds19b, qds19c]
    refine wpAnyH_take (i := 8) (oi := ⟨some 13, .fieldAddr 48 (.tmp 3) 1, 0, "route.go:60", #[⟨5, .guard⟩], some (5, true)⟩) (v := undef) rfl (by kernel_rfl) (by kernel_rfl) (by kernel_rfl) (fun _ _ _ h => h) (Or.inr ⟨by rfl, rfl⟩) (by assumption) ?_
    try simp only [Act.put, qds19a, qds19b, qds19c]
    refine wpAnyH_take (i := 9) (oi := ⟨some 14, .load 9 (.tmp 13), 9, "route.go:60", #[⟨8, .data⟩, ⟨5, .guard⟩], some (5, true)⟩) (v := undef) rfl (by kernel_rfl) (by kernel_rfl) (by kernel_rfl) (fun _ _ _ h => h) (Or.inr ⟨by rfl, rfl⟩) (by assumption) ?_
    try simp only [Act.put, qds19a, qds19b, qds19c]
    refine wpAnyH_take (i := 10) (oi := ⟨some 15, .binOp .eql 9 (.tmp 12) (.tmp 14) 9, 4, "route.go:60", #[⟨7, .data⟩, ⟨9, .data⟩, ⟨5, .guard⟩], some (5, true)⟩) (v := undef) rfl (by kernel_rfl) (by kernel_rfl) (by kernel_rfl) (fun _ _ _ h => h) (Or.inr ⟨by rfl, rfl⟩) (by assumption) ?_
    try simp only [Act.put, qds19a, qds19b, qds19c]
    refine wpAnyH_take (i := 11) (oi := ⟨some 16, .pick (.tmp 10) (.tmp 15) (.const (.bool false)), 4, "route.go:60", #[⟨5, .data⟩, ⟨10, .data⟩], none⟩) (v := ?_) rfl (by kernel_rfl) (by kernel_rfl) (by kernel_rfl) (fun _ _ _ h => h) (Or.inl ⟨by rfl, ?_⟩) (by assumption) ?_
    rotate_left 1
    · intro wS hSw; (try dsimp only at hSw); go_simp; try with_reducible rfl
    try simp only [Act.put, qds19a, qds19b, qds19c]
    refine wpAnyH_take (i := 12) (oi := ⟨some 17, .move (.tmp 16), 4, "route.go:60", #[⟨11, .data⟩, ⟨5, .chain⟩], none⟩) (v := ?_) rfl (by kernel_rfl) (by kernel_rfl) (by kernel_rfl) (fun _ _ _ h => h) (Or.inl ⟨by rfl, ?_⟩) (by assumption) ?_
    rotate_left 1
    · intro wS hSw; (try dsimp only at hSw); go_simp; try with_reducible rfl
    try simp only [Act.put, qds19a, qds19b, qds19c]
    refine wpAnyH_take (i := 13) (oi := ⟨some 18, .fieldAddr 48 (.tmp 2) 2, 0, "route.go:60", #[⟨12, .guard⟩], some (12, true)⟩) (v := undef) rfl (by kernel_rfl) (by kernel_rfl) (by kernel_rfl) (fun _ _ _ h => h) (Or.inr ⟨by rfl, rfl⟩) (by assumption) ?_
    try simp only [Act.put, qds19a, qds19b, qds19c]
    refine wpAnyH_take (i := 14) (oi := ⟨some 19, .load 4 (.tmp 18), 4, "route.go:60", #[⟨13, .data⟩, ⟨12, .guard⟩], some (12, true)⟩) (v := undef) rfl (by kernel_rfl) (by kernel_rfl) (by kernel_rfl) (fun _ _ _ h => h) (Or.inr ⟨by rfl, rfl⟩) (by assumption) ?_
    try simp only [Act.put, qds19a, qds19b, qds19c]
    refine wpAnyH_take (i := 15) (oi := ⟨some 20, .fieldAddr 48 (.tmp 3) 2, 0, "route.go:60", #[⟨12, .guard⟩], some (12, true)⟩) (v := undef) rfl (by kernel_rfl) (by kernel_rfl) (by kernel_rfl) (fun _ _ _ h => h) (Or.inr ⟨by rfl, rfl⟩) (by assumption) ?_
    try simp only [Act.put, qds19a, qds19b, qds19c]
    refine wpAnyH_take (i := 16) (oi := ⟨some 21, .load 4 (.tmp 20), 4, "route.go:60", #[⟨15, .data⟩, ⟨12, .guard⟩], some (12, true)⟩) (v := undef) rfl (by kernel_rfl) (by kernel_rfl) (by kernel_rfl) (fun _ _ _ h => h) (Or.inr ⟨by rfl, rfl⟩) (by assumption) ?_
    try simp only [Act.put, qds19a, qds19b, qds19c]
    refine wpAnyH_take (i := 17) (oi := ⟨some 22, .binOp .eql 4 (.tmp 19) (.tmp 21) 4, 4, "route.go:60", #[⟨14, .data⟩, ⟨16, .data⟩, ⟨12, .guard⟩], some (12, true)⟩) (v := undef) rfl (by kernel_rfl) (by kernel_rfl) (by kernel_rfl) (fun _ _ _ h => h) (Or.inr ⟨by rfl, rfl⟩) (by assumption) ?_
    try simp only [Act.put, qds19a, qds19b, qds19c]
    refine wpAnyH_take (i := 18) (oi := ⟨some 23, .pick (.tmp 17) (.tmp 22) (.const (.bool false)), 4, "route.go:60", #[⟨12, .data⟩, ⟨17, .data⟩], none⟩) (v := ?_) rfl (by kernel_rfl) (by kernel_rfl) (by kernel_rfl) (fun _ _ _ h => h) (Or.inl ⟨by rfl, ?_⟩) (by assumption) ?_
    rotate_left 1
    · intro wS hSw; (try dsimp only at hSw); go_simp; try with_reducible rfl
    try simp only [Act.put, qds19a, qds19b, qds19c]
    refine wpAnyH_take (i := 19) (oi := ⟨some 24, .move (.tmp 23), 4, "route.go:60", #[⟨18, .data⟩, ⟨12, .chain⟩], none⟩) (v := ?_) rfl (by kernel_rfl) (by kernel_rfl) (by kernel_rfl) (fun _ _ _ h => h) (Or.inl ⟨by rfl, ?_⟩) (by assumption) ?_
    rotate_left 1
    · intro wS hSw; (try dsimp only at hSw); go_simp; try with_reducible rfl
    try simp only [Act.put, qds19a, qds19b, qds19c]
    refine wpAnyH_take (i := 20) (oi := ⟨some 25, .load 48 (.tmp 2), 48, "route.go:60", #[⟨19, .guard⟩], some (19, true)⟩) (v := undef) rfl (by kernel_rfl) (by kernel_rfl) (by kernel_rfl) (fun _ _ _ h => h) (Or.inr ⟨by rfl, rfl⟩) (by assumption) ?_
    try simp only [Act.put, qds19a, qds19b, qds19c]
    refine wpAnyH_take (i := 21) (oi := ⟨some 26, .call { callee := .value (.func 130), args := #[.tmp 25, .const (.int .u8 0)], argTypes := #[48, 5] }, 172, "route.go:61", #[⟨20, .data⟩, ⟨19, .chain⟩, ⟨19, .guard⟩], some (19, true)⟩) (v := undef) rfl (by kernel_rfl) (by kernel_rfl) (by kernel_rfl) (fun _ _ _ h => h) (Or.inr ⟨by rfl, rfl⟩) (by assumption) ?_
    try simp only [Act.put, qds19a, qds19b, qds19c]
    refine wpAnyH_take (i := 22) (oi := ⟨some 27, .load 48 (.tmp 3), 48, "route.go:60", #[⟨19, .guard⟩], some (19, true)⟩) (v := undef) rfl (by kernel_rfl) (by kernel_rfl) (by kernel_rfl) (fun _ _ _ h => h) (Or.inr ⟨by rfl, rfl⟩) (by assumption) ?_
    try simp only [Act.put, qds19a, qds19b, qds19c]
    refine wpAnyH_take (i := 23) (oi := ⟨some 28, .call { callee := .value (.func 130), args := #[.tmp 27, .const (.int .u8 0)], argTypes := #[48, 5] }, 172, "route.go:61", #[⟨22, .data⟩, ⟨21, .chain⟩, ⟨19, .guard⟩], some (19, true)⟩) (v := undef) rfl (by kernel_rfl) (by kernel_rfl) (by kernel_rfl) (fun _ _ _ h => h) (Or.inr ⟨by rfl, rfl⟩) (by assumption) ?_
    try simp only [Act.put, qds19a, qds19b, qds19c]
    refine wpAnyH_take (i := 24) (oi := ⟨some 29, .call { callee := .value (.func 141), args := #[.tmp 26, .tmp 28], argTypes := #[172, 172] }, 4, "route.go:61", #[⟨21, .data⟩, ⟨23, .data⟩, ⟨23, .chain⟩, ⟨19, .guard⟩], some (19, true)⟩) (v := undef) rfl (by kernel_rfl) (by kernel_rfl) (by kernel_rfl) (fun _ _ _ h => h) (Or.inr ⟨by rfl, rfl⟩) (by assumption) ?_
    try simp only [Act.put, qds19a, qds19b, qds19c]
    refine wpAnyH_take (i := 25) (oi := ⟨some 30, .pick (.tmp 24) (.tmp 29) (.const (.bool false)), 4, "route.go:60", #[⟨19, .data⟩, ⟨24, .data⟩], none⟩) (v := ?_) rfl (by kernel_rfl) (by kernel_rfl) (by kernel_rfl) (fun _ _ _ h => h) (Or.inl ⟨by rfl, ?_⟩) (by assumption) ?_
    rotate_left 1
    · intro wS hSw; (try dsimp only at hSw); go_simp; try with_reducible rfl
    try simp only [Act.put, qds19a, qds19b, qds19c]
    refine wpAnyH_take (i := 26) (oi := ⟨some 4, .assign (.tmp 30), 4, "route.go:60", #[⟨25, .data⟩, ⟨24, .chain⟩, ⟨0, .phase⟩, ⟨1, .phase⟩, ⟨2, .phase⟩, ⟨3, .phase⟩, ⟨4, .phase⟩, ⟨5, .phase⟩, ⟨6, .phase⟩, ⟨7, .phase⟩, ⟨8, .phase⟩, ⟨9, .phase⟩, ⟨10, .phase⟩, ⟨11, .phase⟩, ⟨12, .phase⟩, ⟨13, .phase⟩, ⟨14, .phase⟩, ⟨15, .phase⟩, ⟨16, .phase⟩, ⟨17, .phase⟩, ⟨18, .phase⟩, ⟨19, .phase⟩, ⟨20, .phase⟩, ⟨21, .phase⟩, ⟨22, .phase⟩, ⟨23, .phase⟩, ⟨24, .phase⟩, ⟨25, .phase⟩], none⟩) (v := ?_) rfl (by kernel_rfl) (by kernel_rfl) (by kernel_rfl) (fun _ _ _ h => h) (Or.inl ⟨by rfl, ?_⟩) (by assumption) ?_
    rotate_left 1
    · intro wS hSw; (try dsimp only at hSw); go_simp; try with_reducible rfl
    try simp only [Act.put, qds19a, qds19b, qds19c]
    refine wpAnyH_done (by kernel_rfl) ?_ _
    have hZ := hHeld
    clear hHeld
    have HBZ := Lib.hid (bthen HB0.out (show Below w2.heap.size w2 _ from hZ) (Nat.le_refl _))
    clear hZ x0 x1 x2 x3 x4 x5 y0 y1 y2 y3 y4 y5
    go_wp2_with fail
    go_ret
    exact ⟨ret_bool HC.out.symm, HBZ.out⟩
  | true =>
    rw [e_shop] at q_shop
    cases e_to : x.to == y.to with
    | false =>
      rw [e_to] at q_to
      have HC := Lib.hid (show bdEq x y = false by rw [HX.out, e_shop, e_to]; simp)
      clear e_shop e_to
      go_enter Tryz.func129, Tryz.ntmps129
      go_upto_region 1 with fail
      generalize (w.alloc (.cells #[.string (ofL x.shop), .string (ofL x.to), .bool x.up, .string (ofL x.key), .slice A x.want.length c, .bool x.all] 48)).alloc (.cells #[.string (ofL y.shop), .string (ofL y.to), .bool y.up, .string (ofL y.key), .slice B y.want.length d, .bool y.all] 48) = w2 at *
      have x0 := HBX.out.cs 0 _ rfl
      have x1 := HBX.out.cs 1 _ rfl
      have x2 := HBX.out.cs 2 _ rfl
      have x3 := HBX.out.cs 3 _ rfl
      have x4 := HBX.out.cs 4 _ rfl
      have x5 := HBX.out.cs 5 _ rfl
      have y0 := HBY.out.cs 0 _ rfl
      have y1 := HBY.out.cs 1 _ rfl
      have y2 := HBY.out.cs 2 _ rfl
      have y3 := HBY.out.cs 3 _ rfl
      have y4 := HBY.out.cs 4 _ rfl
      have y5 := HBY.out.cs 5 _ rfl
      refine wp_region_held_drew (S := fun a => Below (w2.heap.size) w2 a) (by kernel_rfl) (by (try dsimp only); exact (Below.refl _ _).drew) (fun hHeld => ?_)
      refine wpAnyH_take (i := 0) (oi := ⟨some 5, .fieldAddr 48 (.tmp 2) 0, 0, "route.go:60", #[], none⟩) (v := ?_) rfl (by kernel_rfl) (by kernel_rfl) (by kernel_rfl) (fun _ _ _ h => h) (Or.inl ⟨by rfl, ?_⟩) (by assumption) ?_
      rotate_left 1
      · intro wS hSw; (try dsimp only at hSw); go_simp; try with_reducible rfl
      try simp only [Act.put, qds19a, qds19b, qds19c]
      refine wpAnyH_take (i := 1) (oi := ⟨some 6, .load 9 (.tmp 5), 9, "route.go:60", #[⟨0, .data⟩], none⟩) (v := ?_) rfl (by kernel_rfl) (by kernel_rfl) (by kernel_rfl) (fun _ _ _ h => h) (Or.inl ⟨by rfl, ?_⟩) (by assumption) ?_
      rotate_left 1
      · intro wS hSw; (try dsimp only at hSw); have x0 := cell_on hSw x0; have x1 := cell_on hSw x1; have x2 := cell_on hSw x2; have x3 := cell_on hSw x3; have x4 := cell_on hSw x4; have x5 := cell_on hSw x5; have y0 := cell_on hSw y0; have y1 := cell_on hSw y1; have y2 := cell_on hSw y2; have y3 := cell_on hSw y3; have y4 := cell_on hSw y4; have y5 := cell_on hSw y5; go_simp; try with_reducible rfl
      try simp only [Act.put, qds19a, qds19b, qds19c]
      refine wpAnyH_take (i := 2) (oi := ⟨some 7, .fieldAddr 48 (.tmp 3) 0, 0, "route.go:60", #[], none⟩) (v := ?_) rfl (by kernel_rfl) (by kernel_rfl) (by kernel_rfl) (fun _ _ _ h => h) (Or.inl ⟨by rfl, ?_⟩) (by assumption) ?_
      rotate_left 1
      · intro wS hSw; (try dsimp only at hSw); go_simp; try with_reducible rfl
      try simp only [Act.put, qds19a, qds19b, qds19c]
      refine wpAnyH_take (i := 3) (oi := ⟨some 8, .load 9 (.tmp 7), 9, "route.go:60", #[⟨2, .data⟩], none⟩) (v := ?_) rfl (by kernel_rfl) (by kernel_rfl) (by kernel_rfl) (fun _ _ _ h => h) (Or.inl ⟨by rfl, ?_⟩) (by assumption) ?_
      rotate_left 1
      · intro wS hSw; (try dsimp only at hSw); have x0 := cell_on hSw x0; have x1 := cell_on hSw x1; have x2 := cell_on hSw x2; have x3 := cell_on hSw x3; have x4 := cell_on hSw x4; have x5 := cell_on hSw x5; have y0 := cell_on hSw y0; have y1 := cell_on hSw y1; have y2 := cell_on hSw y2; have y3 := cell_on hSw y3; have y4 := cell_on hSw y4; have y5 := cell_on hSw y5; go_simp; try with_reducible rfl
      try simp only [Act.put, qds19a, qds19b, qds19c]
      refine wpAnyH_take (i := 4) (oi := ⟨some 9, .binOp .eql 9 (.tmp 6) (.tmp 8) 9, 4, "route.go:60", #[⟨1, .data⟩, ⟨3, .data⟩], none⟩) (v := ?_) rfl (by kernel_rfl) (by kernel_rfl) (by kernel_rfl) (fun _ _ _ h => h) (Or.inl ⟨by rfl, ?_⟩) (by assumption) ?_
      rotate_left 1
      · intro wS hSw; (try dsimp only at hSw); go_simp; try with_reducible rfl
      try simp only [Act.put, qds19a, qds19b, qds19c]
      refine wpAnyH_take (i := 5) (oi := ⟨some 10, .move (.tmp 9), 4, "route.go:60", #[⟨4, .data⟩], none⟩) (v := ?_) rfl (by kernel_rfl) (by kernel_rfl) (by kernel_rfl) (fun _ _ _ h => h) (Or.inl ⟨by rfl, ?_⟩) (by assumption) ?_
      rotate_left 1
      · intro wS hSw; (try dsimp only at hSw); go_simp; try with_reducible rfl
      try simp only [Act.put, qds19a, qds19b, qds19c]
      refine wpAnyH_take (i := 6) (oi := ⟨some 11, .fieldAddr 48 (.tmp 2) 1, 0, "route.go:60", #[⟨5, .guard⟩], some (5, true)⟩) (v := ?_) rfl (by kernel_rfl) (by kernel_rfl) (by kernel_rfl) (fun _ _ _ h => h) (Or.inl ⟨by rfl, ?_⟩) (by assumption) ?_
      rotate_left 1
      · intro wS hSw; (try dsimp only at hSw); go_simp; try with_reducible rfl
      try simp only [Act.put, qds19a, qds19b, qds19c]
      refine wpAnyH_take (i := 7) (oi := ⟨some 12, .load 9 (.tmp 11), 9, "route.go:60", #[⟨6, .data⟩, ⟨5, .guard⟩], some (5, true)⟩) (v := ?_) rfl (by kernel_rfl) (by kernel_rfl) (by kernel_rfl) (fun _ _ _ h => h) (Or.inl ⟨by rfl, ?_⟩) (by assumption) ?_
      rotate_left 1
      · intro wS hSw; (try dsimp only at hSw); have x0 := cell_on hSw x0; have x1 := cell_on hSw x1; have x2 := cell_on hSw x2; have x3 := cell_on hSw x3; have x4 := cell_on hSw x4; have x5 := cell_on hSw x5; have y0 := cell_on hSw y0; have y1 := cell_on hSw y1; have y2 := cell_on hSw y2; have y3 := cell_on hSw y3; have y4 := cell_on hSw y4; have y5 := cell_on hSw y5; go_simp; try with_reducible rfl
      try simp only [Act.put, qds19a, qds19b, qds19c]
      refine wpAnyH_take (i := 8) (oi := ⟨some 13, .fieldAddr 48 (.tmp 3) 1, 0, "route.go:60", #[⟨5, .guard⟩], some (5, true)⟩) (v := ?_) rfl (by kernel_rfl) (by kernel_rfl) (by kernel_rfl) (fun _ _ _ h => h) (Or.inl ⟨by rfl, ?_⟩) (by assumption) ?_
      rotate_left 1
      · intro wS hSw; (try dsimp only at hSw); go_simp; try with_reducible rfl
      try simp only [Act.put, qds19a, qds19b, qds19c]
      refine wpAnyH_take (i := 9) (oi := ⟨some 14, .load 9 (.tmp 13), 9, "route.go:60", #[⟨8, .data⟩, ⟨5, .guard⟩], some (5, true)⟩) (v := ?_) rfl (by kernel_rfl) (by kernel_rfl) (by kernel_rfl) (fun _ _ _ h => h) (Or.inl ⟨by rfl, ?_⟩) (by assumption) ?_
      rotate_left 1
      · intro wS hSw; (try dsimp only at hSw); have x0 := cell_on hSw x0; have x1 := cell_on hSw x1; have x2 := cell_on hSw x2; have x3 := cell_on hSw x3; have x4 := cell_on hSw x4; have x5 := cell_on hSw x5; have y0 := cell_on hSw y0; have y1 := cell_on hSw y1; have y2 := cell_on hSw y2; have y3 := cell_on hSw y3; have y4 := cell_on hSw y4; have y5 := cell_on hSw y5; go_simp; try with_reducible rfl
      try simp only [Act.put, qds19a, qds19b, qds19c]
      refine wpAnyH_take (i := 10) (oi := ⟨some 15, .binOp .eql 9 (.tmp 12) (.tmp 14) 9, 4, "route.go:60", #[⟨7, .data⟩, ⟨9, .data⟩, ⟨5, .guard⟩], some (5, true)⟩) (v := ?_) rfl (by kernel_rfl) (by kernel_rfl) (by kernel_rfl) (fun _ _ _ h => h) (Or.inl ⟨by rfl, ?_⟩) (by assumption) ?_
      rotate_left 1
      · intro wS hSw; (try dsimp only at hSw); go_simp; try with_reducible rfl
      try simp only [Act.put, qds19a, qds19b, qds19c]
      refine wpAnyH_take (i := 11) (oi := ⟨some 16, .pick (.tmp 10) (.tmp 15) (.const (.bool false)), 4, "route.go:60", #[⟨5, .data⟩, ⟨10, .data⟩], none⟩) (v := ?_) rfl (by kernel_rfl) (by kernel_rfl) (by kernel_rfl) (fun _ _ _ h => h) (Or.inl ⟨by rfl, ?_⟩) (by assumption) ?_
      rotate_left 1
      · intro wS hSw; (try dsimp only at hSw); go_simp; try with_reducible rfl
      try simp only [Act.put, qds19a, qds19b, qds19c]
      refine wpAnyH_take (i := 12) (oi := ⟨some 17, .move (.tmp 16), 4, "route.go:60", #[⟨11, .data⟩, ⟨5, .chain⟩], none⟩) (v := ?_) rfl (by kernel_rfl) (by kernel_rfl) (by kernel_rfl) (fun _ _ _ h => h) (Or.inl ⟨by rfl, ?_⟩) (by assumption) ?_
      rotate_left 1
      · intro wS hSw; (try dsimp only at hSw); go_simp; try with_reducible rfl
      try simp only [Act.put, qds19a, qds19b, qds19c]
      refine wpAnyH_take (i := 13) (oi := ⟨some 18, .fieldAddr 48 (.tmp 2) 2, 0, "route.go:60", #[⟨12, .guard⟩], some (12, true)⟩) (v := undef) rfl (by kernel_rfl) (by kernel_rfl) (by kernel_rfl) (fun _ _ _ h => h) (Or.inr ⟨by rfl, rfl⟩) (by assumption) ?_
      try simp only [Act.put, qds19a, qds19b, qds19c]
      refine wpAnyH_take (i := 14) (oi := ⟨some 19, .load 4 (.tmp 18), 4, "route.go:60", #[⟨13, .data⟩, ⟨12, .guard⟩], some (12, true)⟩) (v := undef) rfl (by kernel_rfl) (by kernel_rfl) (by kernel_rfl) (fun _ _ _ h => h) (Or.inr ⟨by rfl, rfl⟩) (by assumption) ?_
      try simp only [Act.put, qds19a, qds19b, qds19c]
      refine wpAnyH_take (i := 15) (oi := ⟨some 20, .fieldAddr 48 (.tmp 3) 2, 0, "route.go:60", #[⟨12, .guard⟩], some (12, true)⟩) (v := undef) rfl (by kernel_rfl) (by kernel_rfl) (by kernel_rfl) (fun _ _ _ h => h) (Or.inr ⟨by rfl, rfl⟩) (by assumption) ?_
      try simp only [Act.put, qds19a, qds19b, qds19c]
      refine wpAnyH_take (i := 16) (oi := ⟨some 21, .load 4 (.tmp 20), 4, "route.go:60", #[⟨15, .data⟩, ⟨12, .guard⟩], some (12, true)⟩) (v := undef) rfl (by kernel_rfl) (by kernel_rfl) (by kernel_rfl) (fun _ _ _ h => h) (Or.inr ⟨by rfl, rfl⟩) (by assumption) ?_
      try simp only [Act.put, qds19a, qds19b, qds19c]
      refine wpAnyH_take (i := 17) (oi := ⟨some 22, .binOp .eql 4 (.tmp 19) (.tmp 21) 4, 4, "route.go:60", #[⟨14, .data⟩, ⟨16, .data⟩, ⟨12, .guard⟩], some (12, true)⟩) (v := undef) rfl (by kernel_rfl) (by kernel_rfl) (by kernel_rfl) (fun _ _ _ h => h) (Or.inr ⟨by rfl, rfl⟩) (by assumption) ?_
      try simp only [Act.put, qds19a, qds19b, qds19c]
      refine wpAnyH_take (i := 18) (oi := ⟨some 23, .pick (.tmp 17) (.tmp 22) (.const (.bool false)), 4, "route.go:60", #[⟨12, .data⟩, ⟨17, .data⟩], none⟩) (v := ?_) rfl (by kernel_rfl) (by kernel_rfl) (by kernel_rfl) (fun _ _ _ h => h) (Or.inl ⟨by rfl, ?_⟩) (by assumption) ?_
      rotate_left 1
      · intro wS hSw; (try dsimp only at hSw); go_simp; try with_reducible rfl
      try simp only [Act.put, qds19a, qds19b, qds19c]
      refine wpAnyH_take (i := 19) (oi := ⟨some 24, .move (.tmp 23), 4, "route.go:60", #[⟨18, .data⟩, ⟨12, .chain⟩], none⟩) (v := ?_) rfl (by kernel_rfl) (by kernel_rfl) (by kernel_rfl) (fun _ _ _ h => h) (Or.inl ⟨by rfl, ?_⟩) (by assumption) ?_
      rotate_left 1
      · intro wS hSw; (try dsimp only at hSw); go_simp; try with_reducible rfl
      try simp only [Act.put, qds19a, qds19b, qds19c]
      refine wpAnyH_take (i := 20) (oi := ⟨some 25, .load 48 (.tmp 2), 48, "route.go:60", #[⟨19, .guard⟩], some (19, true)⟩) (v := undef) rfl (by kernel_rfl) (by kernel_rfl) (by kernel_rfl) (fun _ _ _ h => h) (Or.inr ⟨by rfl, rfl⟩) (by assumption) ?_
      try simp only [Act.put, qds19a, qds19b, qds19c]
      refine wpAnyH_take (i := 21) (oi := ⟨some 26, .call { callee := .value (.func 130), args := #[.tmp 25, .const (.int .u8 0)], argTypes := #[48, 5] }, 172, "route.go:61", #[⟨20, .data⟩, ⟨19, .chain⟩, ⟨19, .guard⟩], some (19, true)⟩) (v := undef) rfl (by kernel_rfl) (by kernel_rfl) (by kernel_rfl) (fun _ _ _ h => h) (Or.inr ⟨by rfl, rfl⟩) (by assumption) ?_
      try simp only [Act.put, qds19a, qds19b, qds19c]
      refine wpAnyH_take (i := 22) (oi := ⟨some 27, .load 48 (.tmp 3), 48, "route.go:60", #[⟨19, .guard⟩], some (19, true)⟩) (v := undef) rfl (by kernel_rfl) (by kernel_rfl) (by kernel_rfl) (fun _ _ _ h => h) (Or.inr ⟨by rfl, rfl⟩) (by assumption) ?_
      try simp only [Act.put, qds19a, qds19b, qds19c]
      refine wpAnyH_take (i := 23) (oi := ⟨some 28, .call { callee := .value (.func 130), args := #[.tmp 27, .const (.int .u8 0)], argTypes := #[48, 5] }, 172, "route.go:61", #[⟨22, .data⟩, ⟨21, .chain⟩, ⟨19, .guard⟩], some (19, true)⟩) (v := undef) rfl (by kernel_rfl) (by kernel_rfl) (by kernel_rfl) (fun _ _ _ h => h) (Or.inr ⟨by rfl, rfl⟩) (by assumption) ?_
      try simp only [Act.put, qds19a, qds19b, qds19c]
      refine wpAnyH_take (i := 24) (oi := ⟨some 29, .call { callee := .value (.func 141), args := #[.tmp 26, .tmp 28], argTypes := #[172, 172] }, 4, "route.go:61", #[⟨21, .data⟩, ⟨23, .data⟩, ⟨23, .chain⟩, ⟨19, .guard⟩], some (19, true)⟩) (v := undef) rfl (by kernel_rfl) (by kernel_rfl) (by kernel_rfl) (fun _ _ _ h => h) (Or.inr ⟨by rfl, rfl⟩) (by assumption) ?_
      try simp only [Act.put, qds19a, qds19b, qds19c]
      refine wpAnyH_take (i := 25) (oi := ⟨some 30, .pick (.tmp 24) (.tmp 29) (.const (.bool false)), 4, "route.go:60", #[⟨19, .data⟩, ⟨24, .data⟩], none⟩) (v := ?_) rfl (by kernel_rfl) (by kernel_rfl) (by kernel_rfl) (fun _ _ _ h => h) (Or.inl ⟨by rfl, ?_⟩) (by assumption) ?_
      rotate_left 1
      · intro wS hSw; (try dsimp only at hSw); go_simp; try with_reducible rfl
      try simp only [Act.put, qds19a, qds19b, qds19c]
      refine wpAnyH_take (i := 26) (oi := ⟨some 4, .assign (.tmp 30), 4, "route.go:60", #[⟨25, .data⟩, ⟨24, .chain⟩, ⟨0, .phase⟩, ⟨1, .phase⟩, ⟨2, .phase⟩, ⟨3, .phase⟩, ⟨4, .phase⟩, ⟨5, .phase⟩, ⟨6, .phase⟩, ⟨7, .phase⟩, ⟨8, .phase⟩, ⟨9, .phase⟩, ⟨10, .phase⟩, ⟨11, .phase⟩, ⟨12, .phase⟩, ⟨13, .phase⟩, ⟨14, .phase⟩, ⟨15, .phase⟩, ⟨16, .phase⟩, ⟨17, .phase⟩, ⟨18, .phase⟩, ⟨19, .phase⟩, ⟨20, .phase⟩, ⟨21, .phase⟩, ⟨22, .phase⟩, ⟨23, .phase⟩, ⟨24, .phase⟩, ⟨25, .phase⟩], none⟩) (v := ?_) rfl (by kernel_rfl) (by kernel_rfl) (by kernel_rfl) (fun _ _ _ h => h) (Or.inl ⟨by rfl, ?_⟩) (by assumption) ?_
      rotate_left 1
      · intro wS hSw; (try dsimp only at hSw); go_simp; try with_reducible rfl
      try simp only [Act.put, qds19a, qds19b, qds19c]
      refine wpAnyH_done (by kernel_rfl) ?_ _
      have hZ := hHeld
      clear hHeld
      have HBZ := Lib.hid (bthen HB0.out (show Below w2.heap.size w2 _ from hZ) (Nat.le_refl _))
      clear hZ x0 x1 x2 x3 x4 x5 y0 y1 y2 y3 y4 y5
      go_wp2_with fail
      go_ret
      exact ⟨ret_bool HC.out.symm, HBZ.out⟩
    | true =>
      rw [e_to] at q_to
      cases e_up : x.up == y.up with
      | false =>
        have HC := Lib.hid (show bdEq x y = false by rw [HX.out, e_shop, e_to, e_up]; simp)
        clear e_shop e_to
        go_enter Tryz.func129, Tryz.ntmps129
        go_upto_region 1 with fail
        generalize (w.alloc (.cells #[.string (ofL x.shop), .string (ofL x.to), .bool x.up, .string (ofL x.key), .slice A x.want.length c, .bool x.all] 48)).alloc (.cells #[.string (ofL y.shop), .string (ofL y.to), .bool y.up, .string (ofL y.key), .slice B y.want.length d, .bool y.all] 48) = w2 at *
        have x0 := HBX.out.cs 0 _ rfl
        have x1 := HBX.out.cs 1 _ rfl
        have x2 := HBX.out.cs 2 _ rfl
        have x3 := HBX.out.cs 3 _ rfl
        have x4 := HBX.out.cs 4 _ rfl
        have x5 := HBX.out.cs 5 _ rfl
        have y0 := HBY.out.cs 0 _ rfl
        have y1 := HBY.out.cs 1 _ rfl
        have y2 := HBY.out.cs 2 _ rfl
        have y3 := HBY.out.cs 3 _ rfl
        have y4 := HBY.out.cs 4 _ rfl
        have y5 := HBY.out.cs 5 _ rfl
        refine wp_region_held_drew (S := fun a => Below (w2.heap.size) w2 a) (by kernel_rfl) (by (try dsimp only); exact (Below.refl _ _).drew) (fun hHeld => ?_)
        refine wpAnyH_take (i := 0) (oi := ⟨some 5, .fieldAddr 48 (.tmp 2) 0, 0, "route.go:60", #[], none⟩) (v := ?_) rfl (by kernel_rfl) (by kernel_rfl) (by kernel_rfl) (fun _ _ _ h => h) (Or.inl ⟨by rfl, ?_⟩) (by assumption) ?_
        rotate_left 1
        · intro wS hSw; (try dsimp only at hSw); go_simp; try with_reducible rfl
        try simp only [Act.put, qds19a, qds19b, qds19c]
        refine wpAnyH_take (i := 1) (oi := ⟨some 6, .load 9 (.tmp 5), 9, "route.go:60", #[⟨0, .data⟩], none⟩) (v := ?_) rfl (by kernel_rfl) (by kernel_rfl) (by kernel_rfl) (fun _ _ _ h => h) (Or.inl ⟨by rfl, ?_⟩) (by assumption) ?_
        rotate_left 1
        · intro wS hSw; (try dsimp only at hSw); have x0 := cell_on hSw x0; have x1 := cell_on hSw x1; have x2 := cell_on hSw x2; have x3 := cell_on hSw x3; have x4 := cell_on hSw x4; have x5 := cell_on hSw x5; have y0 := cell_on hSw y0; have y1 := cell_on hSw y1; have y2 := cell_on hSw y2; have y3 := cell_on hSw y3; have y4 := cell_on hSw y4; have y5 := cell_on hSw y5; go_simp; try with_reducible rfl
        try simp only [Act.put, qds19a, qds19b, qds19c]
        refine wpAnyH_take (i := 2) (oi := ⟨some 7, .fieldAddr 48 (.tmp 3) 0, 0, "route.go:60", #[], none⟩) (v := ?_) rfl (by kernel_rfl) (by kernel_rfl) (by kernel_rfl) (fun _ _ _ h => h) (Or.inl ⟨by rfl, ?_⟩) (by assumption) ?_
        rotate_left 1
        · intro wS hSw; (try dsimp only at hSw); go_simp; try with_reducible rfl
        try simp only [Act.put, qds19a, qds19b, qds19c]
        refine wpAnyH_take (i := 3) (oi := ⟨some 8, .load 9 (.tmp 7), 9, "route.go:60", #[⟨2, .data⟩], none⟩) (v := ?_) rfl (by kernel_rfl) (by kernel_rfl) (by kernel_rfl) (fun _ _ _ h => h) (Or.inl ⟨by rfl, ?_⟩) (by assumption) ?_
        rotate_left 1
        · intro wS hSw; (try dsimp only at hSw); have x0 := cell_on hSw x0; have x1 := cell_on hSw x1; have x2 := cell_on hSw x2; have x3 := cell_on hSw x3; have x4 := cell_on hSw x4; have x5 := cell_on hSw x5; have y0 := cell_on hSw y0; have y1 := cell_on hSw y1; have y2 := cell_on hSw y2; have y3 := cell_on hSw y3; have y4 := cell_on hSw y4; have y5 := cell_on hSw y5; go_simp; try with_reducible rfl
        try simp only [Act.put, qds19a, qds19b, qds19c]
        refine wpAnyH_take (i := 4) (oi := ⟨some 9, .binOp .eql 9 (.tmp 6) (.tmp 8) 9, 4, "route.go:60", #[⟨1, .data⟩, ⟨3, .data⟩], none⟩) (v := ?_) rfl (by kernel_rfl) (by kernel_rfl) (by kernel_rfl) (fun _ _ _ h => h) (Or.inl ⟨by rfl, ?_⟩) (by assumption) ?_
        rotate_left 1
        · intro wS hSw; (try dsimp only at hSw); go_simp; try with_reducible rfl
        try simp only [Act.put, qds19a, qds19b, qds19c]
        refine wpAnyH_take (i := 5) (oi := ⟨some 10, .move (.tmp 9), 4, "route.go:60", #[⟨4, .data⟩], none⟩) (v := ?_) rfl (by kernel_rfl) (by kernel_rfl) (by kernel_rfl) (fun _ _ _ h => h) (Or.inl ⟨by rfl, ?_⟩) (by assumption) ?_
        rotate_left 1
        · intro wS hSw; (try dsimp only at hSw); go_simp; try with_reducible rfl
        try simp only [Act.put, qds19a, qds19b, qds19c]
        refine wpAnyH_take (i := 6) (oi := ⟨some 11, .fieldAddr 48 (.tmp 2) 1, 0, "route.go:60", #[⟨5, .guard⟩], some (5, true)⟩) (v := ?_) rfl (by kernel_rfl) (by kernel_rfl) (by kernel_rfl) (fun _ _ _ h => h) (Or.inl ⟨by rfl, ?_⟩) (by assumption) ?_
        rotate_left 1
        · intro wS hSw; (try dsimp only at hSw); go_simp; try with_reducible rfl
        try simp only [Act.put, qds19a, qds19b, qds19c]
        refine wpAnyH_take (i := 7) (oi := ⟨some 12, .load 9 (.tmp 11), 9, "route.go:60", #[⟨6, .data⟩, ⟨5, .guard⟩], some (5, true)⟩) (v := ?_) rfl (by kernel_rfl) (by kernel_rfl) (by kernel_rfl) (fun _ _ _ h => h) (Or.inl ⟨by rfl, ?_⟩) (by assumption) ?_
        rotate_left 1
        · intro wS hSw; (try dsimp only at hSw); have x0 := cell_on hSw x0; have x1 := cell_on hSw x1; have x2 := cell_on hSw x2; have x3 := cell_on hSw x3; have x4 := cell_on hSw x4; have x5 := cell_on hSw x5; have y0 := cell_on hSw y0; have y1 := cell_on hSw y1; have y2 := cell_on hSw y2; have y3 := cell_on hSw y3; have y4 := cell_on hSw y4; have y5 := cell_on hSw y5; go_simp; try with_reducible rfl
        try simp only [Act.put, qds19a, qds19b, qds19c]
        refine wpAnyH_take (i := 8) (oi := ⟨some 13, .fieldAddr 48 (.tmp 3) 1, 0, "route.go:60", #[⟨5, .guard⟩], some (5, true)⟩) (v := ?_) rfl (by kernel_rfl) (by kernel_rfl) (by kernel_rfl) (fun _ _ _ h => h) (Or.inl ⟨by rfl, ?_⟩) (by assumption) ?_
        rotate_left 1
        · intro wS hSw; (try dsimp only at hSw); go_simp; try with_reducible rfl
        try simp only [Act.put, qds19a, qds19b, qds19c]
        refine wpAnyH_take (i := 9) (oi := ⟨some 14, .load 9 (.tmp 13), 9, "route.go:60", #[⟨8, .data⟩, ⟨5, .guard⟩], some (5, true)⟩) (v := ?_) rfl (by kernel_rfl) (by kernel_rfl) (by kernel_rfl) (fun _ _ _ h => h) (Or.inl ⟨by rfl, ?_⟩) (by assumption) ?_
        rotate_left 1
        · intro wS hSw; (try dsimp only at hSw); have x0 := cell_on hSw x0; have x1 := cell_on hSw x1; have x2 := cell_on hSw x2; have x3 := cell_on hSw x3; have x4 := cell_on hSw x4; have x5 := cell_on hSw x5; have y0 := cell_on hSw y0; have y1 := cell_on hSw y1; have y2 := cell_on hSw y2; have y3 := cell_on hSw y3; have y4 := cell_on hSw y4; have y5 := cell_on hSw y5; go_simp; try with_reducible rfl
        try simp only [Act.put, qds19a, qds19b, qds19c]
        refine wpAnyH_take (i := 10) (oi := ⟨some 15, .binOp .eql 9 (.tmp 12) (.tmp 14) 9, 4, "route.go:60", #[⟨7, .data⟩, ⟨9, .data⟩, ⟨5, .guard⟩], some (5, true)⟩) (v := ?_) rfl (by kernel_rfl) (by kernel_rfl) (by kernel_rfl) (fun _ _ _ h => h) (Or.inl ⟨by rfl, ?_⟩) (by assumption) ?_
        rotate_left 1
        · intro wS hSw; (try dsimp only at hSw); go_simp; try with_reducible rfl
        try simp only [Act.put, qds19a, qds19b, qds19c]
        refine wpAnyH_take (i := 11) (oi := ⟨some 16, .pick (.tmp 10) (.tmp 15) (.const (.bool false)), 4, "route.go:60", #[⟨5, .data⟩, ⟨10, .data⟩], none⟩) (v := ?_) rfl (by kernel_rfl) (by kernel_rfl) (by kernel_rfl) (fun _ _ _ h => h) (Or.inl ⟨by rfl, ?_⟩) (by assumption) ?_
        rotate_left 1
        · intro wS hSw; (try dsimp only at hSw); go_simp; try with_reducible rfl
        try simp only [Act.put, qds19a, qds19b, qds19c]
        refine wpAnyH_take (i := 12) (oi := ⟨some 17, .move (.tmp 16), 4, "route.go:60", #[⟨11, .data⟩, ⟨5, .chain⟩], none⟩) (v := ?_) rfl (by kernel_rfl) (by kernel_rfl) (by kernel_rfl) (fun _ _ _ h => h) (Or.inl ⟨by rfl, ?_⟩) (by assumption) ?_
        rotate_left 1
        · intro wS hSw; (try dsimp only at hSw); go_simp; try with_reducible rfl
        try simp only [Act.put, qds19a, qds19b, qds19c]
        refine wpAnyH_take (i := 13) (oi := ⟨some 18, .fieldAddr 48 (.tmp 2) 2, 0, "route.go:60", #[⟨12, .guard⟩], some (12, true)⟩) (v := ?_) rfl (by kernel_rfl) (by kernel_rfl) (by kernel_rfl) (fun _ _ _ h => h) (Or.inl ⟨by rfl, ?_⟩) (by assumption) ?_
        rotate_left 1
        · intro wS hSw; (try dsimp only at hSw); go_simp; try with_reducible rfl
        try simp only [Act.put, qds19a, qds19b, qds19c]
        refine wpAnyH_take (i := 14) (oi := ⟨some 19, .load 4 (.tmp 18), 4, "route.go:60", #[⟨13, .data⟩, ⟨12, .guard⟩], some (12, true)⟩) (v := ?_) rfl (by kernel_rfl) (by kernel_rfl) (by kernel_rfl) (fun _ _ _ h => h) (Or.inl ⟨by rfl, ?_⟩) (by assumption) ?_
        rotate_left 1
        · intro wS hSw; (try dsimp only at hSw); have x0 := cell_on hSw x0; have x1 := cell_on hSw x1; have x2 := cell_on hSw x2; have x3 := cell_on hSw x3; have x4 := cell_on hSw x4; have x5 := cell_on hSw x5; have y0 := cell_on hSw y0; have y1 := cell_on hSw y1; have y2 := cell_on hSw y2; have y3 := cell_on hSw y3; have y4 := cell_on hSw y4; have y5 := cell_on hSw y5; go_simp; try with_reducible rfl
        try simp only [Act.put, qds19a, qds19b, qds19c]
        refine wpAnyH_take (i := 15) (oi := ⟨some 20, .fieldAddr 48 (.tmp 3) 2, 0, "route.go:60", #[⟨12, .guard⟩], some (12, true)⟩) (v := ?_) rfl (by kernel_rfl) (by kernel_rfl) (by kernel_rfl) (fun _ _ _ h => h) (Or.inl ⟨by rfl, ?_⟩) (by assumption) ?_
        rotate_left 1
        · intro wS hSw; (try dsimp only at hSw); go_simp; try with_reducible rfl
        try simp only [Act.put, qds19a, qds19b, qds19c]
        refine wpAnyH_take (i := 16) (oi := ⟨some 21, .load 4 (.tmp 20), 4, "route.go:60", #[⟨15, .data⟩, ⟨12, .guard⟩], some (12, true)⟩) (v := ?_) rfl (by kernel_rfl) (by kernel_rfl) (by kernel_rfl) (fun _ _ _ h => h) (Or.inl ⟨by rfl, ?_⟩) (by assumption) ?_
        rotate_left 1
        · intro wS hSw; (try dsimp only at hSw); have x0 := cell_on hSw x0; have x1 := cell_on hSw x1; have x2 := cell_on hSw x2; have x3 := cell_on hSw x3; have x4 := cell_on hSw x4; have x5 := cell_on hSw x5; have y0 := cell_on hSw y0; have y1 := cell_on hSw y1; have y2 := cell_on hSw y2; have y3 := cell_on hSw y3; have y4 := cell_on hSw y4; have y5 := cell_on hSw y5; go_simp; try with_reducible rfl
        try simp only [Act.put, qds19a, qds19b, qds19c]
        refine wpAnyH_take (i := 17) (oi := ⟨some 22, .binOp .eql 4 (.tmp 19) (.tmp 21) 4, 4, "route.go:60", #[⟨14, .data⟩, ⟨16, .data⟩, ⟨12, .guard⟩], some (12, true)⟩) (v := ?_) rfl (by kernel_rfl) (by kernel_rfl) (by kernel_rfl) (fun _ _ _ h => h) (Or.inl ⟨by rfl, ?_⟩) (by assumption) ?_
        rotate_left 1
        · intro wS hSw; (try dsimp only at hSw); go_simp; try with_reducible rfl
        try simp only [Act.put, qds19a, qds19b, qds19c]
        refine wpAnyH_take (i := 18) (oi := ⟨some 23, .pick (.tmp 17) (.tmp 22) (.const (.bool false)), 4, "route.go:60", #[⟨12, .data⟩, ⟨17, .data⟩], none⟩) (v := ?_) rfl (by kernel_rfl) (by kernel_rfl) (by kernel_rfl) (fun _ _ _ h => h) (Or.inl ⟨by rfl, ?_⟩) (by assumption) ?_
        rotate_left 1
        · intro wS hSw; (try dsimp only at hSw); go_simp; try with_reducible rfl
        try simp only [Act.put, qds19a, qds19b, qds19c]
        refine wpAnyH_take (i := 19) (oi := ⟨some 24, .move (.tmp 23), 4, "route.go:60", #[⟨18, .data⟩, ⟨12, .chain⟩], none⟩) (v := ?_) rfl (by kernel_rfl) (by kernel_rfl) (by kernel_rfl) (fun _ _ _ h => h) (Or.inl ⟨by rfl, ?_⟩) (by assumption) ?_
        rotate_left 1
        · intro wS hSw; (try dsimp only at hSw); go_simp; try with_reducible rfl
        try simp only [Act.put, qds19a, qds19b, qds19c]
        refine wpAnyH_take (i := 20) (oi := ⟨some 25, .load 48 (.tmp 2), 48, "route.go:60", #[⟨19, .guard⟩], some (19, true)⟩) (v := undef) rfl (by kernel_rfl) (by kernel_rfl) (by kernel_rfl) (fun _ _ _ h => h) (Or.inr ⟨by rfl, rfl⟩) (by assumption) ?_
        try simp only [Act.put, qds19a, qds19b, qds19c]
        refine wpAnyH_take (i := 21) (oi := ⟨some 26, .call { callee := .value (.func 130), args := #[.tmp 25, .const (.int .u8 0)], argTypes := #[48, 5] }, 172, "route.go:61", #[⟨20, .data⟩, ⟨19, .chain⟩, ⟨19, .guard⟩], some (19, true)⟩) (v := undef) rfl (by kernel_rfl) (by kernel_rfl) (by kernel_rfl) (fun _ _ _ h => h) (Or.inr ⟨by rfl, rfl⟩) (by assumption) ?_
        try simp only [Act.put, qds19a, qds19b, qds19c]
        refine wpAnyH_take (i := 22) (oi := ⟨some 27, .load 48 (.tmp 3), 48, "route.go:60", #[⟨19, .guard⟩], some (19, true)⟩) (v := undef) rfl (by kernel_rfl) (by kernel_rfl) (by kernel_rfl) (fun _ _ _ h => h) (Or.inr ⟨by rfl, rfl⟩) (by assumption) ?_
        try simp only [Act.put, qds19a, qds19b, qds19c]
        refine wpAnyH_take (i := 23) (oi := ⟨some 28, .call { callee := .value (.func 130), args := #[.tmp 27, .const (.int .u8 0)], argTypes := #[48, 5] }, 172, "route.go:61", #[⟨22, .data⟩, ⟨21, .chain⟩, ⟨19, .guard⟩], some (19, true)⟩) (v := undef) rfl (by kernel_rfl) (by kernel_rfl) (by kernel_rfl) (fun _ _ _ h => h) (Or.inr ⟨by rfl, rfl⟩) (by assumption) ?_
        try simp only [Act.put, qds19a, qds19b, qds19c]
        refine wpAnyH_take (i := 24) (oi := ⟨some 29, .call { callee := .value (.func 141), args := #[.tmp 26, .tmp 28], argTypes := #[172, 172] }, 4, "route.go:61", #[⟨21, .data⟩, ⟨23, .data⟩, ⟨23, .chain⟩, ⟨19, .guard⟩], some (19, true)⟩) (v := undef) rfl (by kernel_rfl) (by kernel_rfl) (by kernel_rfl) (fun _ _ _ h => h) (Or.inr ⟨by rfl, rfl⟩) (by assumption) ?_
        try simp only [Act.put, qds19a, qds19b, qds19c]
        refine wpAnyH_take (i := 25) (oi := ⟨some 30, .pick (.tmp 24) (.tmp 29) (.const (.bool false)), 4, "route.go:60", #[⟨19, .data⟩, ⟨24, .data⟩], none⟩) (v := ?_) rfl (by kernel_rfl) (by kernel_rfl) (by kernel_rfl) (fun _ _ _ h => h) (Or.inl ⟨by rfl, ?_⟩) (by assumption) ?_
        rotate_left 1
        · intro wS hSw; (try dsimp only at hSw); go_simp; try with_reducible rfl
        try simp only [Act.put, qds19a, qds19b, qds19c]
        refine wpAnyH_take (i := 26) (oi := ⟨some 4, .assign (.tmp 30), 4, "route.go:60", #[⟨25, .data⟩, ⟨24, .chain⟩, ⟨0, .phase⟩, ⟨1, .phase⟩, ⟨2, .phase⟩, ⟨3, .phase⟩, ⟨4, .phase⟩, ⟨5, .phase⟩, ⟨6, .phase⟩, ⟨7, .phase⟩, ⟨8, .phase⟩, ⟨9, .phase⟩, ⟨10, .phase⟩, ⟨11, .phase⟩, ⟨12, .phase⟩, ⟨13, .phase⟩, ⟨14, .phase⟩, ⟨15, .phase⟩, ⟨16, .phase⟩, ⟨17, .phase⟩, ⟨18, .phase⟩, ⟨19, .phase⟩, ⟨20, .phase⟩, ⟨21, .phase⟩, ⟨22, .phase⟩, ⟨23, .phase⟩, ⟨24, .phase⟩, ⟨25, .phase⟩], none⟩) (v := ?_) rfl (by kernel_rfl) (by kernel_rfl) (by kernel_rfl) (fun _ _ _ h => h) (Or.inl ⟨by rfl, ?_⟩) (by assumption) ?_
        rotate_left 1
        · intro wS hSw; (try dsimp only at hSw); go_simp; try with_reducible rfl
        try simp only [Act.put, qds19a, qds19b, qds19c]
        refine wpAnyH_done (by kernel_rfl) ?_ _
        have hZ := hHeld
        clear hHeld
        have HBZ := Lib.hid (bthen HB0.out (show Below w2.heap.size w2 _ from hZ) (Nat.le_refl _))
        clear hZ x0 x1 x2 x3 x4 x5 y0 y1 y2 y3 y4 y5
        go_wp2_with fail
        go_ret
        exact ⟨ret_bool HC.out.symm, HBZ.out⟩
      | true =>
        have HC := Lib.hid (show bdEq x y = M by rw [HX.out, e_shop, e_to, e_up]; simp)
        clear e_shop e_to
        go_enter Tryz.func129, Tryz.ntmps129
        go_upto_region 1 with fail
        generalize (w.alloc (.cells #[.string (ofL x.shop), .string (ofL x.to), .bool x.up, .string (ofL x.key), .slice A x.want.length c, .bool x.all] 48)).alloc (.cells #[.string (ofL y.shop), .string (ofL y.to), .bool y.up, .string (ofL y.key), .slice B y.want.length d, .bool y.all] 48) = w2 at *
        have x0 := HBX.out.cs 0 _ rfl
        have x1 := HBX.out.cs 1 _ rfl
        have x2 := HBX.out.cs 2 _ rfl
        have x3 := HBX.out.cs 3 _ rfl
        have x4 := HBX.out.cs 4 _ rfl
        have x5 := HBX.out.cs 5 _ rfl
        have y0 := HBY.out.cs 0 _ rfl
        have y1 := HBY.out.cs 1 _ rfl
        have y2 := HBY.out.cs 2 _ rfl
        have y3 := HBY.out.cs 3 _ rfl
        have y4 := HBY.out.cs 4 _ rfl
        have y5 := HBY.out.cs 5 _ rfl
        refine wp_region_held_drew (S := fun a => Below (w2.heap.size) w2 a) (by kernel_rfl) (by (try dsimp only); exact (Below.refl _ _).drew) (fun hHeld => ?_)
        refine wpAnyH_take (i := 0) (oi := ⟨some 5, .fieldAddr 48 (.tmp 2) 0, 0, "route.go:60", #[], none⟩) (v := ?_) rfl (by kernel_rfl) (by kernel_rfl) (by kernel_rfl) (fun _ _ _ h => h) (Or.inl ⟨by rfl, ?_⟩) (by assumption) ?_
        rotate_left 1
        · intro wS hSw; (try dsimp only at hSw); go_simp; try with_reducible rfl
        try simp only [Act.put, qds19a, qds19b, qds19c]
        refine wpAnyH_take (i := 1) (oi := ⟨some 6, .load 9 (.tmp 5), 9, "route.go:60", #[⟨0, .data⟩], none⟩) (v := ?_) rfl (by kernel_rfl) (by kernel_rfl) (by kernel_rfl) (fun _ _ _ h => h) (Or.inl ⟨by rfl, ?_⟩) (by assumption) ?_
        rotate_left 1
        · intro wS hSw; (try dsimp only at hSw); have x0 := cell_on hSw x0; have x1 := cell_on hSw x1; have x2 := cell_on hSw x2; have x3 := cell_on hSw x3; have x4 := cell_on hSw x4; have x5 := cell_on hSw x5; have y0 := cell_on hSw y0; have y1 := cell_on hSw y1; have y2 := cell_on hSw y2; have y3 := cell_on hSw y3; have y4 := cell_on hSw y4; have y5 := cell_on hSw y5; go_simp; try with_reducible rfl
        try simp only [Act.put, qds19a, qds19b, qds19c]
        refine wpAnyH_take (i := 2) (oi := ⟨some 7, .fieldAddr 48 (.tmp 3) 0, 0, "route.go:60", #[], none⟩) (v := ?_) rfl (by kernel_rfl) (by kernel_rfl) (by kernel_rfl) (fun _ _ _ h => h) (Or.inl ⟨by rfl, ?_⟩) (by assumption) ?_
        rotate_left 1
        · intro wS hSw; (try dsimp only at hSw); go_simp; try with_reducible rfl
        try simp only [Act.put, qds19a, qds19b, qds19c]
        refine wpAnyH_take (i := 3) (oi := ⟨some 8, .load 9 (.tmp 7), 9, "route.go:60", #[⟨2, .data⟩], none⟩) (v := ?_) rfl (by kernel_rfl) (by kernel_rfl) (by kernel_rfl) (fun _ _ _ h => h) (Or.inl ⟨by rfl, ?_⟩) (by assumption) ?_
        rotate_left 1
        · intro wS hSw; (try dsimp only at hSw); have x0 := cell_on hSw x0; have x1 := cell_on hSw x1; have x2 := cell_on hSw x2; have x3 := cell_on hSw x3; have x4 := cell_on hSw x4; have x5 := cell_on hSw x5; have y0 := cell_on hSw y0; have y1 := cell_on hSw y1; have y2 := cell_on hSw y2; have y3 := cell_on hSw y3; have y4 := cell_on hSw y4; have y5 := cell_on hSw y5; go_simp; try with_reducible rfl
        try simp only [Act.put, qds19a, qds19b, qds19c]
        refine wpAnyH_take (i := 4) (oi := ⟨some 9, .binOp .eql 9 (.tmp 6) (.tmp 8) 9, 4, "route.go:60", #[⟨1, .data⟩, ⟨3, .data⟩], none⟩) (v := ?_) rfl (by kernel_rfl) (by kernel_rfl) (by kernel_rfl) (fun _ _ _ h => h) (Or.inl ⟨by rfl, ?_⟩) (by assumption) ?_
        rotate_left 1
        · intro wS hSw; (try dsimp only at hSw); go_simp; try with_reducible rfl
        try simp only [Act.put, qds19a, qds19b, qds19c]
        refine wpAnyH_take (i := 5) (oi := ⟨some 10, .move (.tmp 9), 4, "route.go:60", #[⟨4, .data⟩], none⟩) (v := ?_) rfl (by kernel_rfl) (by kernel_rfl) (by kernel_rfl) (fun _ _ _ h => h) (Or.inl ⟨by rfl, ?_⟩) (by assumption) ?_
        rotate_left 1
        · intro wS hSw; (try dsimp only at hSw); go_simp; try with_reducible rfl
        try simp only [Act.put, qds19a, qds19b, qds19c]
        refine wpAnyH_take (i := 6) (oi := ⟨some 11, .fieldAddr 48 (.tmp 2) 1, 0, "route.go:60", #[⟨5, .guard⟩], some (5, true)⟩) (v := ?_) rfl (by kernel_rfl) (by kernel_rfl) (by kernel_rfl) (fun _ _ _ h => h) (Or.inl ⟨by rfl, ?_⟩) (by assumption) ?_
        rotate_left 1
        · intro wS hSw; (try dsimp only at hSw); go_simp; try with_reducible rfl
        try simp only [Act.put, qds19a, qds19b, qds19c]
        refine wpAnyH_take (i := 7) (oi := ⟨some 12, .load 9 (.tmp 11), 9, "route.go:60", #[⟨6, .data⟩, ⟨5, .guard⟩], some (5, true)⟩) (v := ?_) rfl (by kernel_rfl) (by kernel_rfl) (by kernel_rfl) (fun _ _ _ h => h) (Or.inl ⟨by rfl, ?_⟩) (by assumption) ?_
        rotate_left 1
        · intro wS hSw; (try dsimp only at hSw); have x0 := cell_on hSw x0; have x1 := cell_on hSw x1; have x2 := cell_on hSw x2; have x3 := cell_on hSw x3; have x4 := cell_on hSw x4; have x5 := cell_on hSw x5; have y0 := cell_on hSw y0; have y1 := cell_on hSw y1; have y2 := cell_on hSw y2; have y3 := cell_on hSw y3; have y4 := cell_on hSw y4; have y5 := cell_on hSw y5; go_simp; try with_reducible rfl
        try simp only [Act.put, qds19a, qds19b, qds19c]
        refine wpAnyH_take (i := 8) (oi := ⟨some 13, .fieldAddr 48 (.tmp 3) 1, 0, "route.go:60", #[⟨5, .guard⟩], some (5, true)⟩) (v := ?_) rfl (by kernel_rfl) (by kernel_rfl) (by kernel_rfl) (fun _ _ _ h => h) (Or.inl ⟨by rfl, ?_⟩) (by assumption) ?_
        rotate_left 1
        · intro wS hSw; (try dsimp only at hSw); go_simp; try with_reducible rfl
        try simp only [Act.put, qds19a, qds19b, qds19c]
        refine wpAnyH_take (i := 9) (oi := ⟨some 14, .load 9 (.tmp 13), 9, "route.go:60", #[⟨8, .data⟩, ⟨5, .guard⟩], some (5, true)⟩) (v := ?_) rfl (by kernel_rfl) (by kernel_rfl) (by kernel_rfl) (fun _ _ _ h => h) (Or.inl ⟨by rfl, ?_⟩) (by assumption) ?_
        rotate_left 1
        · intro wS hSw; (try dsimp only at hSw); have x0 := cell_on hSw x0; have x1 := cell_on hSw x1; have x2 := cell_on hSw x2; have x3 := cell_on hSw x3; have x4 := cell_on hSw x4; have x5 := cell_on hSw x5; have y0 := cell_on hSw y0; have y1 := cell_on hSw y1; have y2 := cell_on hSw y2; have y3 := cell_on hSw y3; have y4 := cell_on hSw y4; have y5 := cell_on hSw y5; go_simp; try with_reducible rfl
        try simp only [Act.put, qds19a, qds19b, qds19c]
        refine wpAnyH_take (i := 10) (oi := ⟨some 15, .binOp .eql 9 (.tmp 12) (.tmp 14) 9, 4, "route.go:60", #[⟨7, .data⟩, ⟨9, .data⟩, ⟨5, .guard⟩], some (5, true)⟩) (v := ?_) rfl (by kernel_rfl) (by kernel_rfl) (by kernel_rfl) (fun _ _ _ h => h) (Or.inl ⟨by rfl, ?_⟩) (by assumption) ?_
        rotate_left 1
        · intro wS hSw; (try dsimp only at hSw); go_simp; try with_reducible rfl
        try simp only [Act.put, qds19a, qds19b, qds19c]
        refine wpAnyH_take (i := 11) (oi := ⟨some 16, .pick (.tmp 10) (.tmp 15) (.const (.bool false)), 4, "route.go:60", #[⟨5, .data⟩, ⟨10, .data⟩], none⟩) (v := ?_) rfl (by kernel_rfl) (by kernel_rfl) (by kernel_rfl) (fun _ _ _ h => h) (Or.inl ⟨by rfl, ?_⟩) (by assumption) ?_
        rotate_left 1
        · intro wS hSw; (try dsimp only at hSw); go_simp; try with_reducible rfl
        try simp only [Act.put, qds19a, qds19b, qds19c]
        refine wpAnyH_take (i := 12) (oi := ⟨some 17, .move (.tmp 16), 4, "route.go:60", #[⟨11, .data⟩, ⟨5, .chain⟩], none⟩) (v := ?_) rfl (by kernel_rfl) (by kernel_rfl) (by kernel_rfl) (fun _ _ _ h => h) (Or.inl ⟨by rfl, ?_⟩) (by assumption) ?_
        rotate_left 1
        · intro wS hSw; (try dsimp only at hSw); go_simp; try with_reducible rfl
        try simp only [Act.put, qds19a, qds19b, qds19c]
        refine wpAnyH_take (i := 13) (oi := ⟨some 18, .fieldAddr 48 (.tmp 2) 2, 0, "route.go:60", #[⟨12, .guard⟩], some (12, true)⟩) (v := ?_) rfl (by kernel_rfl) (by kernel_rfl) (by kernel_rfl) (fun _ _ _ h => h) (Or.inl ⟨by rfl, ?_⟩) (by assumption) ?_
        rotate_left 1
        · intro wS hSw; (try dsimp only at hSw); go_simp; try with_reducible rfl
        try simp only [Act.put, qds19a, qds19b, qds19c]
        refine wpAnyH_take (i := 14) (oi := ⟨some 19, .load 4 (.tmp 18), 4, "route.go:60", #[⟨13, .data⟩, ⟨12, .guard⟩], some (12, true)⟩) (v := ?_) rfl (by kernel_rfl) (by kernel_rfl) (by kernel_rfl) (fun _ _ _ h => h) (Or.inl ⟨by rfl, ?_⟩) (by assumption) ?_
        rotate_left 1
        · intro wS hSw; (try dsimp only at hSw); have x0 := cell_on hSw x0; have x1 := cell_on hSw x1; have x2 := cell_on hSw x2; have x3 := cell_on hSw x3; have x4 := cell_on hSw x4; have x5 := cell_on hSw x5; have y0 := cell_on hSw y0; have y1 := cell_on hSw y1; have y2 := cell_on hSw y2; have y3 := cell_on hSw y3; have y4 := cell_on hSw y4; have y5 := cell_on hSw y5; go_simp; try with_reducible rfl
        try simp only [Act.put, qds19a, qds19b, qds19c]
        refine wpAnyH_take (i := 15) (oi := ⟨some 20, .fieldAddr 48 (.tmp 3) 2, 0, "route.go:60", #[⟨12, .guard⟩], some (12, true)⟩) (v := ?_) rfl (by kernel_rfl) (by kernel_rfl) (by kernel_rfl) (fun _ _ _ h => h) (Or.inl ⟨by rfl, ?_⟩) (by assumption) ?_
        rotate_left 1
        · intro wS hSw; (try dsimp only at hSw); go_simp; try with_reducible rfl
        try simp only [Act.put, qds19a, qds19b, qds19c]
        refine wpAnyH_take (i := 16) (oi := ⟨some 21, .load 4 (.tmp 20), 4, "route.go:60", #[⟨15, .data⟩, ⟨12, .guard⟩], some (12, true)⟩) (v := ?_) rfl (by kernel_rfl) (by kernel_rfl) (by kernel_rfl) (fun _ _ _ h => h) (Or.inl ⟨by rfl, ?_⟩) (by assumption) ?_
        rotate_left 1
        · intro wS hSw; (try dsimp only at hSw); have x0 := cell_on hSw x0; have x1 := cell_on hSw x1; have x2 := cell_on hSw x2; have x3 := cell_on hSw x3; have x4 := cell_on hSw x4; have x5 := cell_on hSw x5; have y0 := cell_on hSw y0; have y1 := cell_on hSw y1; have y2 := cell_on hSw y2; have y3 := cell_on hSw y3; have y4 := cell_on hSw y4; have y5 := cell_on hSw y5; go_simp; try with_reducible rfl
        try simp only [Act.put, qds19a, qds19b, qds19c]
        refine wpAnyH_take (i := 17) (oi := ⟨some 22, .binOp .eql 4 (.tmp 19) (.tmp 21) 4, 4, "route.go:60", #[⟨14, .data⟩, ⟨16, .data⟩, ⟨12, .guard⟩], some (12, true)⟩) (v := ?_) rfl (by kernel_rfl) (by kernel_rfl) (by kernel_rfl) (fun _ _ _ h => h) (Or.inl ⟨by rfl, ?_⟩) (by assumption) ?_
        rotate_left 1
        · intro wS hSw; (try dsimp only at hSw); go_simp; try with_reducible rfl
        try simp only [Act.put, qds19a, qds19b, qds19c]
        refine wpAnyH_take (i := 18) (oi := ⟨some 23, .pick (.tmp 17) (.tmp 22) (.const (.bool false)), 4, "route.go:60", #[⟨12, .data⟩, ⟨17, .data⟩], none⟩) (v := ?_) rfl (by kernel_rfl) (by kernel_rfl) (by kernel_rfl) (fun _ _ _ h => h) (Or.inl ⟨by rfl, ?_⟩) (by assumption) ?_
        rotate_left 1
        · intro wS hSw; (try dsimp only at hSw); go_simp; try with_reducible rfl
        try simp only [Act.put, qds19a, qds19b, qds19c]
        refine wpAnyH_take (i := 19) (oi := ⟨some 24, .move (.tmp 23), 4, "route.go:60", #[⟨18, .data⟩, ⟨12, .chain⟩], none⟩) (v := ?_) rfl (by kernel_rfl) (by kernel_rfl) (by kernel_rfl) (fun _ _ _ h => h) (Or.inl ⟨by rfl, ?_⟩) (by assumption) ?_
        rotate_left 1
        · intro wS hSw; (try dsimp only at hSw); go_simp; try with_reducible rfl
        try simp only [Act.put, qds19a, qds19b, qds19c]
        refine wpAnyH_take (i := 20) (oi := ⟨some 25, .load 48 (.tmp 2), 48, "route.go:60", #[⟨19, .guard⟩], some (19, true)⟩) (v := ?_) rfl (by kernel_rfl) (by kernel_rfl) (by kernel_rfl) (fun _ _ _ h => h) (Or.inl ⟨by rfl, ?_⟩) (by assumption) ?_
        rotate_left 1
        · intro wS hSw; (try dsimp only at hSw); have x0 := cell_on hSw x0; have x1 := cell_on hSw x1; have x2 := cell_on hSw x2; have x3 := cell_on hSw x3; have x4 := cell_on hSw x4; have x5 := cell_on hSw x5; have y0 := cell_on hSw y0; have y1 := cell_on hSw y1; have y2 := cell_on hSw y2; have y3 := cell_on hSw y3; have y4 := cell_on hSw y4; have y5 := cell_on hSw y5; go_simp; try with_reducible rfl
        try simp only [Act.put, qds19a, qds19b, qds19c]
        refine wpAnyH_take (i := 22) (oi := ⟨some 27, .load 48 (.tmp 3), 48, "route.go:60", #[⟨19, .guard⟩], some (19, true)⟩) (v := ?_) rfl (by kernel_rfl) (by kernel_rfl) (by kernel_rfl) (fun _ _ _ h => h) (Or.inl ⟨by rfl, ?_⟩) (by assumption) ?_
        rotate_left 1
        · intro wS hSw; (try dsimp only at hSw); have x0 := cell_on hSw x0; have x1 := cell_on hSw x1; have x2 := cell_on hSw x2; have x3 := cell_on hSw x3; have x4 := cell_on hSw x4; have x5 := cell_on hSw x5; have y0 := cell_on hSw y0; have y1 := cell_on hSw y1; have y2 := cell_on hSw y2; have y3 := cell_on hSw y3; have y4 := cell_on hSw y4; have y5 := cell_on hSw y5; go_simp; try with_reducible rfl
        try simp only [Act.put, qds19a, qds19b, qds19c]
        refine wpAnyH_ready (rs := [21]) (by kernel_rfl) (by simp) ?_
        refine AllReadyH.cons (o := ⟨some 26, .call { callee := .value (.func 130), args := #[.tmp 25, .const (.int .u8 0)], argTypes := #[48, 5] }, 172, "route.go:61", #[⟨20, .data⟩, ⟨19, .chain⟩, ⟨19, .guard⟩], some (19, true)⟩) rfl (fun K hK => ?_) (AllReadyH.nil)
        go_simp
        go_at_call 130
        refine (HR1.out _).mono ?_
        rintro e wx ⟨rfl, hb2⟩
        refine hK.out _ _ (bthen hHeld hb2 (Nat.le_refl _)) (fun hHeld2 => ?_)
        clear hK K hHeld hb2
        have hHeld := hHeld2
        clear hHeld2
        try simp only [Act.put, qds19a, qds19b, qds19c]
        refine wpAnyH_ready (rs := [23]) (by kernel_rfl) (by simp) ?_
        refine AllReadyH.cons (o := ⟨some 28, .call { callee := .value (.func 130), args := #[.tmp 27, .const (.int .u8 0)], argTypes := #[48, 5] }, 172, "route.go:61", #[⟨22, .data⟩, ⟨21, .chain⟩, ⟨19, .guard⟩], some (19, true)⟩) rfl (fun K hK => ?_) (AllReadyH.nil)
        go_simp
        go_at_call 130
        refine (HR2.out _).mono ?_
        rintro e wx ⟨rfl, hb2⟩
        refine hK.out _ _ (bthen hHeld hb2 (Nat.le_refl _)) (fun hHeld2 => ?_)
        clear hK K hHeld hb2
        have hHeld := hHeld2
        clear hHeld2
        try simp only [Act.put, qds19a, qds19b, qds19c]
        refine wpAnyH_ready (rs := [24]) (by kernel_rfl) (by simp) ?_
        refine AllReadyH.cons (o := ⟨some 29, .call { callee := .value (.func 141), args := #[.tmp 26, .tmp 28], argTypes := #[172, 172] }, 4, "route.go:61", #[⟨21, .data⟩, ⟨23, .data⟩, ⟨23, .chain⟩, ⟨19, .guard⟩], some (19, true)⟩) rfl (fun K hK => ?_) (AllReadyH.nil)
        go_simp
        go_at_call 141
        refine (HS.out _ (HPA.out.on (show Below w2.heap.size w2 _ from hHeld)) (HPB.out.on (show Below w2.heap.size w2 _ from hHeld))).mono ?_
        rintro e wx ⟨rfl, hb2⟩
        refine hK.out _ _ (bthen hHeld hb2 (Nat.le_refl _)) (fun hHeld2 => ?_)
        clear hK K hHeld hb2
        have hHeld := hHeld2
        clear hHeld2
        try simp only [Act.put, qds19a, qds19b, qds19c]
        refine wpAnyH_take (i := 25) (oi := ⟨some 30, .pick (.tmp 24) (.tmp 29) (.const (.bool false)), 4, "route.go:60", #[⟨19, .data⟩, ⟨24, .data⟩], none⟩) (v := ?_) rfl (by kernel_rfl) (by kernel_rfl) (by kernel_rfl) (fun _ _ _ h => h) (Or.inl ⟨by rfl, ?_⟩) (by assumption) ?_
        rotate_left 1
        · intro wS hSw; (try dsimp only at hSw); go_simp; try with_reducible rfl
        try simp only [Act.put, qds19a, qds19b, qds19c]
        refine wpAnyH_take (i := 26) (oi := ⟨some 4, .assign (.tmp 30), 4, "route.go:60", #[⟨25, .data⟩, ⟨24, .chain⟩, ⟨0, .phase⟩, ⟨1, .phase⟩, ⟨2, .phase⟩, ⟨3, .phase⟩, ⟨4, .phase⟩, ⟨5, .phase⟩, ⟨6, .phase⟩, ⟨7, .phase⟩, ⟨8, .phase⟩, ⟨9, .phase⟩, ⟨10, .phase⟩, ⟨11, .phase⟩, ⟨12, .phase⟩, ⟨13, .phase⟩, ⟨14, .phase⟩, ⟨15, .phase⟩, ⟨16, .phase⟩, ⟨17, .phase⟩, ⟨18, .phase⟩, ⟨19, .phase⟩, ⟨20, .phase⟩, ⟨21, .phase⟩, ⟨22, .phase⟩, ⟨23, .phase⟩, ⟨24, .phase⟩, ⟨25, .phase⟩], none⟩) (v := ?_) rfl (by kernel_rfl) (by kernel_rfl) (by kernel_rfl) (fun _ _ _ h => h) (Or.inl ⟨by rfl, ?_⟩) (by assumption) ?_
        rotate_left 1
        · intro wS hSw; (try dsimp only at hSw); go_simp; try with_reducible rfl
        try simp only [Act.put, qds19a, qds19b, qds19c]
        refine wpAnyH_done (by kernel_rfl) ?_ _
        have hZ := hHeld
        clear hHeld
        have HBZ := Lib.hid (bthen HB0.out (show Below w2.heap.size w2 _ from hZ) (Nat.le_refl _))
        clear hZ x0 x1 x2 x3 x4 x5 y0 y1 y2 y3 y4 y5
        go_wp2_with fail
        go_ret
        exact ⟨ret_bool HC.out.symm, HBZ.out⟩
end Go.Proofs.YtaikigponkjkgaaGreatDoor
end
