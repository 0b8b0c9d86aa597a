/-
 A part of the proof.
-/
import Derived.Test.YtaikigponkjkgaaGreatDoorXr15
import Derived.Test.YtaikigponkjkgaaGreatDoorXr16
import Derived.Deep.RegionHeld3
import Derived.Deep.DeepCutAuto
section
namespace Go.Proofs.YtaikigponkjkgaaGreatDoor
open Go.ChangeShapes Go.WideShapes Go.ChangeAt Go.RowKit
open Go.Lib (hid)
theorem qxr17a (l : List Value) (i : Nat) (v : Value) : l.toArray.setIfInBounds i v = (l.set i v).toArray := by simp
theorem qxr17b (v u : Value) (l : List Value) : (v :: l).set 0 u = u :: l := rfl
theorem qxr17c (v u : Value) (n : Nat) (l : List Value) : (v :: l).set (n + 1) u = v :: l.set n u := rfl
theorem bdRule_any (x : Bd) (A : Option Addr) (c sort : Nat) (w : World) : Calls Tryz.prog 130 #[bdV x A c, .int .u8 (sort : Int)] w fun e w' => e = .returned (ruV (bdRu sort x) A c) ∧ Below w.heap.size w w' := by
 simp only [bdV, ruV, bdRu]
 go_enter Tryz.func130, Tryz.ntmps130
 go_wp2_with fail
 exact bodyPost_ret (v := .agg #[.int .u8 (sort : Int), .string (ofL x.key), .slice A x.want.length c, .bool x.all]) (by simp [results, Tryz.results130, go_sem]) rfl ⟨by simp, rtTwo w _ _⟩
def bdEq (x y : Bd) : Bool := (x.shop == y.shop) && ((x.to == y.to) && ((x.up == y.up) && ((x.key == y.key) && ((x.all == y.all) && decide (x.want = y.want)))))
theorem bdEq_dec (x y : Bd) : bdEq x y = decide (x = y) := by
 unfold bdEq
 cases x; cases y
 rw [Bool.eq_iff_iff]
 simp only [Bool.and_eq_true, beq_iff_eq, decide_eq_true_eq, Bd.mk.injEq]
 constructor
 ·rintro ⟨h1, h2, h3, h4, h5, h6⟩; exact ⟨h1, h2, h3, h4, h6, h5⟩
 ·rintro ⟨h1, h2, h3, h4, h6, h5⟩; exact ⟨h1, h2, h3, h4, h5, h6⟩
theorem bdEq_ru (x y : Bd) : bdEq x y = ((x.shop == y.shop) && ((x.to == y.to) && ((x.up == y.up) && ruSame (bdRu 0 x) (bdRu 0 y)))) := by
 unfold bdEq ruSame bdRu
 simp [Bool.and_assoc]
set_option maxRecDepth 100000 in
set_option maxHeartbeats 4000000 in
theorem r14SameBind_any (x y : Bd) (A : Option Addr) (c : Nat) (B : Option Addr) (d : Nat) (w : World) (hl : x.want.length ≤ 100000) (hm : y.want.length ≤ 100000) (hA : Prs w A x.want) (hB : Prs w B y.want) :
  Calls Tryz.prog 65 #[bdV x A c, bdV y B d] w fun e w' => e = .returned (.bool (bdEq x y)) ∧ Below w.heap.size w w' := by
 have HB0 := hid (rtTwo w (.cells #[.string (ofL x.shop), .string (ofL x.to), .bool x.up, .string (ofL x.key), .slice A x.want.length c, .bool x.all] 57) (.cells #[.string (ofL y.shop), .string (ofL y.to), .bool y.up, .string (ofL y.key), .slice B y.want.length d, .bool y.all] 57))
 have HPA := hid (hA.on HB0.out)
 have HPB := hid (hB.on HB0.out)
 have HW := hid (fun W h1 h2 => rsame9_any x.want y.want A c B d W hl hm h1 h2)
 have HX : Hid (bdEq x y = ((x.shop == y.shop) && ((x.to == y.to) && ((x.up == y.up) && ((x.key == y.key) && ((x.all == y.all) && decide (x.want = y.want))))))) := rfl
 clear hA hB
 generalize decide (x.want = y.want) = M at *
 have q_shop := str_same x.shop y.shop
 have q_to := str_same x.to y.to
 have q_key := str_same x.key y.key
 simp only [bdV]
 cases e_shop : x.shop == y.shop with
 | false =>
  rw [e_shop] at q_shop
  have HC := hid (show bdEq x y = false by rw [HX.out, e_shop]; simp)
  clear e_shop
  go_enter Tryz.func65, Tryz.ntmps65
  go_wp2_with fail
  go_ret
  exact ⟨ret_bool HC.out.symm, HB0.out⟩
 | true =>
  rw [e_shop] at q_shop
  cases e_to : x.to == y.to with
  | false =>
   rw [e_to] at q_to
   have HC := hid (show bdEq x y = false by rw [HX.out, e_shop, e_to]; simp)
   clear e_shop
   clear e_to
   go_enter Tryz.func65, Tryz.ntmps65
   go_wp2_with fail
   go_ret
   exact ⟨ret_bool HC.out.symm, HB0.out⟩
  | true =>
   rw [e_to] at q_to
   cases e_up : x.up == y.up with
   | false =>
    have HC := hid (show bdEq x y = false by rw [HX.out, e_shop, e_to, e_up]; simp)
    clear e_shop e_to
    go_enter Tryz.func65, Tryz.ntmps65
    go_wp2_with fail
    go_ret
    exact ⟨ret_bool HC.out.symm, HB0.out⟩
   | true =>
    cases e_key : x.key == y.key with
    | false =>
     rw [e_key] at q_key
     have HC := hid (show bdEq x y = false by rw [HX.out, e_shop, e_to, e_up, e_key]; simp)
     clear e_shop e_to
     clear e_key
     go_enter Tryz.func65, Tryz.ntmps65
     go_wp2_with fail
     go_ret
     exact ⟨ret_bool HC.out.symm, HB0.out⟩
    | true =>
     rw [e_key] at q_key
     cases e_all : x.all == y.all with
     | false =>
      have HC := hid (show bdEq x y = false by rw [HX.out, e_shop, e_to, e_up, e_key, e_all]; simp)
      clear e_shop e_to e_key
      go_enter Tryz.func65, Tryz.ntmps65
      go_wp2_with fail
      go_ret
      exact ⟨ret_bool HC.out.symm, HB0.out⟩
     | true =>
      have HC := hid (show bdEq x y = M by rw [HX.out, e_shop, e_to, e_up, e_key, e_all]; simp)
      clear e_shop e_to e_key
      go_enter Tryz.func65, Tryz.ntmps65
      go_wp2_with fail
      refine (HW.out _ HPA.out HPB.out).mono ?_
      rintro e w1 ⟨rfl, b1⟩
      have HB1 := hid (bthen HB0.out b1 (Nat.le_refl _))
      clear b1
      go_wp2_with fail
      go_ret
      exact ⟨ret_bool HC.out.symm, HB1.out⟩
set_option maxRecDepth 100000 in
set_option maxHeartbeats 4000000 in
theorem bdSame_any (x y : Bd) (A : Option Addr) (c : Nat) (B : Option Addr) (d : Nat) (w : World) (hl : x.want.length ≤ 100000) (hm : y.want.length ≤ 100000) (hA : Prs w A x.want) (hB : Prs w B y.want) :
  Calls Tryz.prog 129 #[bdV x A c, bdV y B d] w fun e w' => e = .returned (.bool (bdEq x y)) ∧ Below w.heap.size w w' := by
 have HB0 := hid (rtTwo w (.cells #[.string (ofL x.shop), .string (ofL x.to), .bool x.up, .string (ofL x.key), .slice A x.want.length c, .bool x.all] 48) (.cells #[.string (ofL y.shop), .string (ofL y.to), .bool y.up, .string (ofL y.key), .slice B y.want.length d, .bool y.all] 48))
 have HPA := hid (hA.on HB0.out)
 have HPB := hid (hB.on HB0.out)
 have HR1 := hid (fun W => bdRule_any x A c 0 W)
 have HR2 := hid (fun W => bdRule_any y B d 0 W)
 have HS := hid (fun W h1 h2 => mSame_any (bdRu 0 x) (bdRu 0 y) A c B d W hl hm h1 h2)
 have HX := hid (bdEq_ru x y)
 have HBX := hid (rtNext (rtAt0 w #[.string (ofL x.shop), .string (ofL x.to), .bool x.up, .string (ofL x.key), .slice A x.want.length c, .bool x.all] 48) (.cells #[.string (ofL y.shop), .string (ofL y.to), .bool y.up, .string (ofL y.key), .slice B y.want.length d, .bool y.all] 48))
 have HBY := hid (rtAt1 w (.cells #[.string (ofL x.shop), .string (ofL x.to), .bool x.up, .string (ofL x.key), .slice A x.want.length c, .bool x.all] 48) #[.string (ofL y.shop), .string (ofL y.to), .bool y.up, .string (ofL y.key), .slice B y.want.length d, .bool y.all] 48)
 clear hA hB
 generalize ruSame (bdRu 0 x) (bdRu 0 y) = M at *
 have q_shop := str_same x.shop y.shop
 have q_to := str_same x.to y.to
 simp only [bdV] at HR1 HR2 ⊢
 simp only [ruV, bdRu] at HR1 HR2 HS
 cases e_shop : x.shop == y.shop with
 | false =>
  rw [e_shop] at q_shop
  have HC := hid (show bdEq x y = false by rw [HX.out, e_shop]; simp)
  clear e_shop
  go_enter Tryz.func129, Tryz.ntmps129
  go_upto_region 1 with fail
  generalize (w.alloc (.cells #[.string (ofL x.shop), .string (ofL x.to), .bool x.up, .string (ofL x.key), .slice A x.want.length c, .bool x.all] 48)).alloc (.cells #[.string (ofL y.shop), .string (ofL y.to), .bool y.up, .string (ofL y.key), .slice B y.want.length d, .bool y.all] 48) = w2 at *
  have x0 := HBX.out.cs 0 _ rfl
  have x1 := HBX.out.cs 1 _ rfl
  have x2 := HBX.out.cs 2 _ rfl
  have x3 := HBX.out.cs 3 _ rfl
  have x4 := HBX.out.cs 4 _ rfl
  have x5 := HBX.out.cs 5 _ rfl
  have y0 := HBY.out.cs 0 _ rfl
  have y1 := HBY.out.cs 1 _ rfl
  have y2 := HBY.out.cs 2 _ rfl
  have y3 := HBY.out.cs 3 _ rfl
  have y4 := HBY.out.cs 4 _ rfl
  have y5 := HBY.out.cs 5 _ rfl
  refine wp_region_held_drew (S := fun a => Below (w2.heap.size) w2 a) (by kernel_rfl) (by (try dsimp only); exact (Below.refl _ _).drew) (fun hHeld => ?_)
  refine wpAnyH_take (i := 0) (oi := ⟨some 5, _, _, _, _, _⟩) (v := ?_) rfl (by kernel_rfl) (by kernel_rfl) (by kernel_rfl) (fun _ _ _ h => h) (Or.inl ⟨by rfl, ?_⟩) (by assumption) ?_
  rotate_left 1
  ·intro wS hSw; (try dsimp only at hSw); go_simp; try with_reducible rfl
  try simp only [Act.put, qxr17a, qxr17b, qxr17c]
  refine wpAnyH_take (i := 1) (oi := ⟨some 6, _, _, _, _, _⟩) (v := ?_) rfl (by kernel_rfl) (by kernel_rfl) (by kernel_rfl) (fun _ _ _ h => h) (Or.inl ⟨by rfl, ?_⟩) (by assumption) ?_
  rotate_left 1
  ·intro wS hSw; (try dsimp only at hSw); have x0 := cell_on hSw x0; have x1 := cell_on hSw x1; have x2 := cell_on hSw x2; have x3 := cell_on hSw x3; have x4 := cell_on hSw x4; have x5 := cell_on hSw x5; have y0 := cell_on hSw y0; have y1 := cell_on hSw y1; have y2 := cell_on hSw y2; have y3 := cell_on hSw y3; have y4 := cell_on hSw y4; have y5 := cell_on hSw y5; go_simp; try with_reducible rfl
  try simp only [Act.put, qxr17a, qxr17b, qxr17c]
  refine wpAnyH_take (i := 2) (oi := ⟨some 7, _, _, _, _, _⟩) (v := ?_) rfl (by kernel_rfl) (by kernel_rfl) (by kernel_rfl) (fun _ _ _ h => h) (Or.inl ⟨by rfl, ?_⟩) (by assumption) ?_
  rotate_left 1
  ·intro wS hSw; (try dsimp only at hSw); go_simp; try with_reducible rfl
  try simp only [Act.put, qxr17a, qxr17b, qxr17c]
  refine wpAnyH_take (i := 3) (oi := ⟨some 8, _, _, _, _, _⟩) (v := ?_) rfl (by kernel_rfl) (by kernel_rfl) (by kernel_rfl) (fun _ _ _ h => h) (Or.inl ⟨by rfl, ?_⟩) (by assumption) ?_
  rotate_left 1
  ·intro wS hSw; (try dsimp only at hSw); have x0 := cell_on hSw x0; have x1 := cell_on hSw x1; have x2 := cell_on hSw x2; have x3 := cell_on hSw x3; have x4 := cell_on hSw x4; have x5 := cell_on hSw x5; have y0 := cell_on hSw y0; have y1 := cell_on hSw y1; have y2 := cell_on hSw y2; have y3 := cell_on hSw y3; have y4 := cell_on hSw y4; have y5 := cell_on hSw y5; go_simp; try with_reducible rfl
  try simp only [Act.put, qxr17a, qxr17b, qxr17c]
  refine wpAnyH_take (i := 4) (oi := ⟨some 9, _, _, _, _, _⟩) (v := ?_) rfl (by kernel_rfl) (by kernel_rfl) (by kernel_rfl) (fun _ _ _ h => h) (Or.inl ⟨by rfl, ?_⟩) (by assumption) ?_
  rotate_left 1
  ·intro wS hSw; (try dsimp only at hSw); go_simp; try with_reducible rfl
  try simp only [Act.put, qxr17a, qxr17b, qxr17c]
  refine wpAnyH_take (i := 5) (oi := ⟨some 10, _, _, _, _, _⟩) (v := ?_) rfl (by kernel_rfl) (by kernel_rfl) (by kernel_rfl) (fun _ _ _ h => h) (Or.inl ⟨by rfl, ?_⟩) (by assumption) ?_
  rotate_left 1
  ·intro wS hSw; (try dsimp only at hSw); go_simp; try with_reducible rfl
  try simp only [Act.put, qxr17a, qxr17b, qxr17c]
  refine wpAnyH_take (i := 6) (oi := ⟨some 11, _, _, _, _, _⟩) (v := undef) rfl (by kernel_rfl) (by kernel_rfl) (by kernel_rfl) (fun _ _ _ h => h) (Or.inr ⟨by rfl, rfl⟩) (by assumption) ?_
  try simp only [Act.put, qxr17a, qxr17b, qxr17c]
  refine wpAnyH_take (i := 7) (oi := ⟨some 12, _, _, _, _, _⟩) (v := undef) rfl (by kernel_rfl) (by kernel_rfl) (by kernel_rfl) (fun _ _ _ h => h) (Or.inr ⟨by rfl, rfl⟩) (by assumption) ?_
  try simp only [Act.put, qxr17a, qxr17b, qxr17c]
  refine wpAnyH_take (i := 8) (oi := ⟨some 13, _, _, _, _, _⟩) (v := undef) rfl (by kernel_rfl) (by kernel_rfl) (by kernel_rfl) (fun _ _ _ h => h) (Or.inr ⟨by rfl, rfl⟩) (by assumption) ?_
  try simp only [Act.put, qxr17a, qxr17b, qxr17c]
  refine wpAnyH_take (i := 9) (oi := ⟨some 14, _, _, _, _, _⟩) (v := undef) rfl (by kernel_rfl) (by kernel_rfl) (by kernel_rfl) (fun _ _ _ h => h) (Or.inr ⟨by rfl, rfl⟩) (by assumption) ?_
  try simp only [Act.put, qxr17a, qxr17b, qxr17c]
  refine wpAnyH_take (i := 10) (oi := ⟨some 15, _, _, _, _, _⟩) (v := undef) rfl (by kernel_rfl) (by kernel_rfl) (by kernel_rfl) (fun _ _ _ h => h) (Or.inr ⟨by rfl, rfl⟩) (by assumption) ?_
  try simp only [Act.put, qxr17a, qxr17b, qxr17c]
  refine wpAnyH_take (i := 11) (oi := ⟨some 16, _, _, _, _, _⟩) (v := ?_) rfl (by kernel_rfl) (by kernel_rfl) (by kernel_rfl) (fun _ _ _ h => h) (Or.inl ⟨by rfl, ?_⟩) (by assumption) ?_
  rotate_left 1
  ·intro wS hSw; (try dsimp only at hSw); go_simp; try with_reducible rfl
  try simp only [Act.put, qxr17a, qxr17b, qxr17c]
  refine wpAnyH_take (i := 12) (oi := ⟨some 17, _, _, _, _, _⟩) (v := ?_) rfl (by kernel_rfl) (by kernel_rfl) (by kernel_rfl) (fun _ _ _ h => h) (Or.inl ⟨by rfl, ?_⟩) (by assumption) ?_
  rotate_left 1
  ·intro wS hSw; (try dsimp only at hSw); go_simp; try with_reducible rfl
  try simp only [Act.put, qxr17a, qxr17b, qxr17c]
  refine wpAnyH_take (i := 13) (oi := ⟨some 18, _, _, _, _, _⟩) (v := undef) rfl (by kernel_rfl) (by kernel_rfl) (by kernel_rfl) (fun _ _ _ h => h) (Or.inr ⟨by rfl, rfl⟩) (by assumption) ?_
  try simp only [Act.put, qxr17a, qxr17b, qxr17c]
  refine wpAnyH_take (i := 14) (oi := ⟨some 19, _, _, _, _, _⟩) (v := undef) rfl (by kernel_rfl) (by kernel_rfl) (by kernel_rfl) (fun _ _ _ h => h) (Or.inr ⟨by rfl, rfl⟩) (by assumption) ?_
  try simp only [Act.put, qxr17a, qxr17b, qxr17c]
  refine wpAnyH_take (i := 15) (oi := ⟨some 20, _, _, _, _, _⟩) (v := undef) rfl (by kernel_rfl) (by kernel_rfl) (by kernel_rfl) (fun _ _ _ h => h) (Or.inr ⟨by rfl, rfl⟩) (by assumption) ?_
  try simp only [Act.put, qxr17a, qxr17b, qxr17c]
  refine wpAnyH_take (i := 16) (oi := ⟨some 21, _, _, _, _, _⟩) (v := undef) rfl (by kernel_rfl) (by kernel_rfl) (by kernel_rfl) (fun _ _ _ h => h) (Or.inr ⟨by rfl, rfl⟩) (by assumption) ?_
  try simp only [Act.put, qxr17a, qxr17b, qxr17c]
  refine wpAnyH_take (i := 17) (oi := ⟨some 22, _, _, _, _, _⟩) (v := undef) rfl (by kernel_rfl) (by kernel_rfl) (by kernel_rfl) (fun _ _ _ h => h) (Or.inr ⟨by rfl, rfl⟩) (by assumption) ?_
  try simp only [Act.put, qxr17a, qxr17b, qxr17c]
  refine wpAnyH_take (i := 18) (oi := ⟨some 23, _, _, _, _, _⟩) (v := ?_) rfl (by kernel_rfl) (by kernel_rfl) (by kernel_rfl) (fun _ _ _ h => h) (Or.inl ⟨by rfl, ?_⟩) (by assumption) ?_
  rotate_left 1
  ·intro wS hSw; (try dsimp only at hSw); go_simp; try with_reducible rfl
  try simp only [Act.put, qxr17a, qxr17b, qxr17c]
  refine wpAnyH_take (i := 19) (oi := ⟨some 24, _, _, _, _, _⟩) (v := ?_) rfl (by kernel_rfl) (by kernel_rfl) (by kernel_rfl) (fun _ _ _ h => h) (Or.inl ⟨by rfl, ?_⟩) (by assumption) ?_
  rotate_left 1
  ·intro wS hSw; (try dsimp only at hSw); go_simp; try with_reducible rfl
  try simp only [Act.put, qxr17a, qxr17b, qxr17c]
  refine wpAnyH_take (i := 20) (oi := ⟨some 25, _, _, _, _, _⟩) (v := undef) rfl (by kernel_rfl) (by kernel_rfl) (by kernel_rfl) (fun _ _ _ h => h) (Or.inr ⟨by rfl, rfl⟩) (by assumption) ?_
  try simp only [Act.put, qxr17a, qxr17b, qxr17c]
  refine wpAnyH_take (i := 21) (oi := ⟨some 26, _, _, _, _, _⟩) (v := undef) rfl (by kernel_rfl) (by kernel_rfl) (by kernel_rfl) (fun _ _ _ h => h) (Or.inr ⟨by rfl, rfl⟩) (by assumption) ?_
  try simp only [Act.put, qxr17a, qxr17b, qxr17c]
  refine wpAnyH_take (i := 22) (oi := ⟨some 27, _, _, _, _, _⟩) (v := undef) rfl (by kernel_rfl) (by kernel_rfl) (by kernel_rfl) (fun _ _ _ h => h) (Or.inr ⟨by rfl, rfl⟩) (by assumption) ?_
  try simp only [Act.put, qxr17a, qxr17b, qxr17c]
  refine wpAnyH_take (i := 23) (oi := ⟨some 28, _, _, _, _, _⟩) (v := undef) rfl (by kernel_rfl) (by kernel_rfl) (by kernel_rfl) (fun _ _ _ h => h) (Or.inr ⟨by rfl, rfl⟩) (by assumption) ?_
  try simp only [Act.put, qxr17a, qxr17b, qxr17c]
  refine wpAnyH_take (i := 24) (oi := ⟨some 29, _, _, _, _, _⟩) (v := undef) rfl (by kernel_rfl) (by kernel_rfl) (by kernel_rfl) (fun _ _ _ h => h) (Or.inr ⟨by rfl, rfl⟩) (by assumption) ?_
  try simp only [Act.put, qxr17a, qxr17b, qxr17c]
  refine wpAnyH_take (i := 25) (oi := ⟨some 30, _, _, _, _, _⟩) (v := ?_) rfl (by kernel_rfl) (by kernel_rfl) (by kernel_rfl) (fun _ _ _ h => h) (Or.inl ⟨by rfl, ?_⟩) (by assumption) ?_
  rotate_left 1
  ·intro wS hSw; (try dsimp only at hSw); go_simp; try with_reducible rfl
  try simp only [Act.put, qxr17a, qxr17b, qxr17c]
  refine wpAnyH_take (i := 26) (oi := ⟨some 4, _, _, _, _, _⟩) (v := ?_) rfl (by kernel_rfl) (by kernel_rfl) (by kernel_rfl) (fun _ _ _ h => h) (Or.inl ⟨by rfl, ?_⟩) (by assumption) ?_
  rotate_left 1
  ·intro wS hSw; (try dsimp only at hSw); go_simp; try with_reducible rfl
  try simp only [Act.put, qxr17a, qxr17b, qxr17c]
  refine wpAnyH_done (by kernel_rfl) ?_ _
  have hZ := hHeld
  clear hHeld
  have HBZ := hid (bthen HB0.out (show Below w2.heap.size w2 _ from hZ) (Nat.le_refl _))
  clear hZ x0 x1 x2 x3 x4 x5 y0 y1 y2 y3 y4 y5
  go_wp2_with fail
  go_ret
  exact ⟨ret_bool HC.out.symm, HBZ.out⟩
 | true =>
  rw [e_shop] at q_shop
  cases e_to : x.to == y.to with
  | false =>
   rw [e_to] at q_to
   have HC := hid (show bdEq x y = false by rw [HX.out, e_shop, e_to]; simp)
   clear e_shop e_to
   go_enter Tryz.func129, Tryz.ntmps129
   go_upto_region 1 with fail
   generalize (w.alloc (.cells #[.string (ofL x.shop), .string (ofL x.to), .bool x.up, .string (ofL x.key), .slice A x.want.length c, .bool x.all] 48)).alloc (.cells #[.string (ofL y.shop), .string (ofL y.to), .bool y.up, .string (ofL y.key), .slice B y.want.length d, .bool y.all] 48) = w2 at *
   have x0 := HBX.out.cs 0 _ rfl
   have x1 := HBX.out.cs 1 _ rfl
   have x2 := HBX.out.cs 2 _ rfl
   have x3 := HBX.out.cs 3 _ rfl
   have x4 := HBX.out.cs 4 _ rfl
   have x5 := HBX.out.cs 5 _ rfl
   have y0 := HBY.out.cs 0 _ rfl
   have y1 := HBY.out.cs 1 _ rfl
   have y2 := HBY.out.cs 2 _ rfl
   have y3 := HBY.out.cs 3 _ rfl
   have y4 := HBY.out.cs 4 _ rfl
   have y5 := HBY.out.cs 5 _ rfl
   refine wp_region_held_drew (S := fun a => Below (w2.heap.size) w2 a) (by kernel_rfl) (by (try dsimp only); exact (Below.refl _ _).drew) (fun hHeld => ?_)
   refine wpAnyH_take (i := 0) (oi := ⟨some 5, _, _, _, _, _⟩) (v := ?_) rfl (by kernel_rfl) (by kernel_rfl) (by kernel_rfl) (fun _ _ _ h => h) (Or.inl ⟨by rfl, ?_⟩) (by assumption) ?_
   rotate_left 1
   ·intro wS hSw; (try dsimp only at hSw); go_simp; try with_reducible rfl
   try simp only [Act.put, qxr17a, qxr17b, qxr17c]
   refine wpAnyH_take (i := 1) (oi := ⟨some 6, _, _, _, _, _⟩) (v := ?_) rfl (by kernel_rfl) (by kernel_rfl) (by kernel_rfl) (fun _ _ _ h => h) (Or.inl ⟨by rfl, ?_⟩) (by assumption) ?_
   rotate_left 1
   ·intro wS hSw; (try dsimp only at hSw); have x0 := cell_on hSw x0; have x1 := cell_on hSw x1; have x2 := cell_on hSw x2; have x3 := cell_on hSw x3; have x4 := cell_on hSw x4; have x5 := cell_on hSw x5; have y0 := cell_on hSw y0; have y1 := cell_on hSw y1; have y2 := cell_on hSw y2; have y3 := cell_on hSw y3; have y4 := cell_on hSw y4; have y5 := cell_on hSw y5; go_simp; try with_reducible rfl
   try simp only [Act.put, qxr17a, qxr17b, qxr17c]
   refine wpAnyH_take (i := 2) (oi := ⟨some 7, _, _, _, _, _⟩) (v := ?_) rfl (by kernel_rfl) (by kernel_rfl) (by kernel_rfl) (fun _ _ _ h => h) (Or.inl ⟨by rfl, ?_⟩) (by assumption) ?_
   rotate_left 1
   ·intro wS hSw; (try dsimp only at hSw); go_simp; try with_reducible rfl
   try simp only [Act.put, qxr17a, qxr17b, qxr17c]
   refine wpAnyH_take (i := 3) (oi := ⟨some 8, _, _, _, _, _⟩) (v := ?_) rfl (by kernel_rfl) (by kernel_rfl) (by kernel_rfl) (fun _ _ _ h => h) (Or.inl ⟨by rfl, ?_⟩) (by assumption) ?_
   rotate_left 1
   ·intro wS hSw; (try dsimp only at hSw); have x0 := cell_on hSw x0; have x1 := cell_on hSw x1; have x2 := cell_on hSw x2; have x3 := cell_on hSw x3; have x4 := cell_on hSw x4; have x5 := cell_on hSw x5; have y0 := cell_on hSw y0; have y1 := cell_on hSw y1; have y2 := cell_on hSw y2; have y3 := cell_on hSw y3; have y4 := cell_on hSw y4; have y5 := cell_on hSw y5; go_simp; try with_reducible rfl
   try simp only [Act.put, qxr17a, qxr17b, qxr17c]
   refine wpAnyH_take (i := 4) (oi := ⟨some 9, _, _, _, _, _⟩) (v := ?_) rfl (by kernel_rfl) (by kernel_rfl) (by kernel_rfl) (fun _ _ _ h => h) (Or.inl ⟨by rfl, ?_⟩) (by assumption) ?_
   rotate_left 1
   ·intro wS hSw; (try dsimp only at hSw); go_simp; try with_reducible rfl
   try simp only [Act.put, qxr17a, qxr17b, qxr17c]
   refine wpAnyH_take (i := 5) (oi := ⟨some 10, _, _, _, _, _⟩) (v := ?_) rfl (by kernel_rfl) (by kernel_rfl) (by kernel_rfl) (fun _ _ _ h => h) (Or.inl ⟨by rfl, ?_⟩) (by assumption) ?_
   rotate_left 1
   ·intro wS hSw; (try dsimp only at hSw); go_simp; try with_reducible rfl
   try simp only [Act.put, qxr17a, qxr17b, qxr17c]
   refine wpAnyH_take (i := 6) (oi := ⟨some 11, _, _, _, _, _⟩) (v := ?_) rfl (by kernel_rfl) (by kernel_rfl) (by kernel_rfl) (fun _ _ _ h => h) (Or.inl ⟨by rfl, ?_⟩) (by assumption) ?_
   rotate_left 1
   ·intro wS hSw; (try dsimp only at hSw); go_simp; try with_reducible rfl
   try simp only [Act.put, qxr17a, qxr17b, qxr17c]
   refine wpAnyH_take (i := 7) (oi := ⟨some 12, _, _, _, _, _⟩) (v := ?_) rfl (by kernel_rfl) (by kernel_rfl) (by kernel_rfl) (fun _ _ _ h => h) (Or.inl ⟨by rfl, ?_⟩) (by assumption) ?_
   rotate_left 1
   ·intro wS hSw; (try dsimp only at hSw); have x0 := cell_on hSw x0; have x1 := cell_on hSw x1; have x2 := cell_on hSw x2; have x3 := cell_on hSw x3; have x4 := cell_on hSw x4; have x5 := cell_on hSw x5; have y0 := cell_on hSw y0; have y1 := cell_on hSw y1; have y2 := cell_on hSw y2; have y3 := cell_on hSw y3; have y4 := cell_on hSw y4; have y5 := cell_on hSw y5; go_simp; try with_reducible rfl
   try simp only [Act.put, qxr17a, qxr17b, qxr17c]
   refine wpAnyH_take (i := 8) (oi := ⟨some 13, _, _, _, _, _⟩) (v := ?_) rfl (by kernel_rfl) (by kernel_rfl) (by kernel_rfl) (fun _ _ _ h => h) (Or.inl ⟨by rfl, ?_⟩) (by assumption) ?_
   rotate_left 1
   ·intro wS hSw; (try dsimp only at hSw); go_simp; try with_reducible rfl
   try simp only [Act.put, qxr17a, qxr17b, qxr17c]
   refine wpAnyH_take (i := 9) (oi := ⟨some 14, _, _, _, _, _⟩) (v := ?_) rfl (by kernel_rfl) (by kernel_rfl) (by kernel_rfl) (fun _ _ _ h => h) (Or.inl ⟨by rfl, ?_⟩) (by assumption) ?_
   rotate_left 1
   ·intro wS hSw; (try dsimp only at hSw); have x0 := cell_on hSw x0; have x1 := cell_on hSw x1; have x2 := cell_on hSw x2; have x3 := cell_on hSw x3; have x4 := cell_on hSw x4; have x5 := cell_on hSw x5; have y0 := cell_on hSw y0; have y1 := cell_on hSw y1; have y2 := cell_on hSw y2; have y3 := cell_on hSw y3; have y4 := cell_on hSw y4; have y5 := cell_on hSw y5; go_simp; try with_reducible rfl
   try simp only [Act.put, qxr17a, qxr17b, qxr17c]
   refine wpAnyH_take (i := 10) (oi := ⟨some 15, _, _, _, _, _⟩) (v := ?_) rfl (by kernel_rfl) (by kernel_rfl) (by kernel_rfl) (fun _ _ _ h => h) (Or.inl ⟨by rfl, ?_⟩) (by assumption) ?_
   rotate_left 1
   ·intro wS hSw; (try dsimp only at hSw); go_simp; try with_reducible rfl
   try simp only [Act.put, qxr17a, qxr17b, qxr17c]
   refine wpAnyH_take (i := 11) (oi := ⟨some 16, _, _, _, _, _⟩) (v := ?_) rfl (by kernel_rfl) (by kernel_rfl) (by kernel_rfl) (fun _ _ _ h => h) (Or.inl ⟨by rfl, ?_⟩) (by assumption) ?_
   rotate_left 1
   ·intro wS hSw; (try dsimp only at hSw); go_simp; try with_reducible rfl
   try simp only [Act.put, qxr17a, qxr17b, qxr17c]
   refine wpAnyH_take (i := 12) (oi := ⟨some 17, _, _, _, _, _⟩) (v := ?_) rfl (by kernel_rfl) (by kernel_rfl) (by kernel_rfl) (fun _ _ _ h => h) (Or.inl ⟨by rfl, ?_⟩) (by assumption) ?_
   rotate_left 1
   ·intro wS hSw; (try dsimp only at hSw); go_simp; try with_reducible rfl
   try simp only [Act.put, qxr17a, qxr17b, qxr17c]
   refine wpAnyH_take (i := 13) (oi := ⟨some 18, _, _, _, _, _⟩) (v := undef) rfl (by kernel_rfl) (by kernel_rfl) (by kernel_rfl) (fun _ _ _ h => h) (Or.inr ⟨by rfl, rfl⟩) (by assumption) ?_
   try simp only [Act.put, qxr17a, qxr17b, qxr17c]
   refine wpAnyH_take (i := 14) (oi := ⟨some 19, _, _, _, _, _⟩) (v := undef) rfl (by kernel_rfl) (by kernel_rfl) (by kernel_rfl) (fun _ _ _ h => h) (Or.inr ⟨by rfl, rfl⟩) (by assumption) ?_
   try simp only [Act.put, qxr17a, qxr17b, qxr17c]
   refine wpAnyH_take (i := 15) (oi := ⟨some 20, _, _, _, _, _⟩) (v := undef) rfl (by kernel_rfl) (by kernel_rfl) (by kernel_rfl) (fun _ _ _ h => h) (Or.inr ⟨by rfl, rfl⟩) (by assumption) ?_
   try simp only [Act.put, qxr17a, qxr17b, qxr17c]
   refine wpAnyH_take (i := 16) (oi := ⟨some 21, _, _, _, _, _⟩) (v := undef) rfl (by kernel_rfl) (by kernel_rfl) (by kernel_rfl) (fun _ _ _ h => h) (Or.inr ⟨by rfl, rfl⟩) (by assumption) ?_
   try simp only [Act.put, qxr17a, qxr17b, qxr17c]
   refine wpAnyH_take (i := 17) (oi := ⟨some 22, _, _, _, _, _⟩) (v := undef) rfl (by kernel_rfl) (by kernel_rfl) (by kernel_rfl) (fun _ _ _ h => h) (Or.inr ⟨by rfl, rfl⟩) (by assumption) ?_
   try simp only [Act.put, qxr17a, qxr17b, qxr17c]
   refine wpAnyH_take (i := 18) (oi := ⟨some 23, _, _, _, _, _⟩) (v := ?_) rfl (by kernel_rfl) (by kernel_rfl) (by kernel_rfl) (fun _ _ _ h => h) (Or.inl ⟨by rfl, ?_⟩) (by assumption) ?_
   rotate_left 1
   ·intro wS hSw; (try dsimp only at hSw); go_simp; try with_reducible rfl
   try simp only [Act.put, qxr17a, qxr17b, qxr17c]
   refine wpAnyH_take (i := 19) (oi := ⟨some 24, _, _, _, _, _⟩) (v := ?_) rfl (by kernel_rfl) (by kernel_rfl) (by kernel_rfl) (fun _ _ _ h => h) (Or.inl ⟨by rfl, ?_⟩) (by assumption) ?_
   rotate_left 1
   ·intro wS hSw; (try dsimp only at hSw); go_simp; try with_reducible rfl
   try simp only [Act.put, qxr17a, qxr17b, qxr17c]
   refine wpAnyH_take (i := 20) (oi := ⟨some 25, _, _, _, _, _⟩) (v := undef) rfl (by kernel_rfl) (by kernel_rfl) (by kernel_rfl) (fun _ _ _ h => h) (Or.inr ⟨by rfl, rfl⟩) (by assumption) ?_
   try simp only [Act.put, qxr17a, qxr17b, qxr17c]
   refine wpAnyH_take (i := 21) (oi := ⟨some 26, _, _, _, _, _⟩) (v := undef) rfl (by kernel_rfl) (by kernel_rfl) (by kernel_rfl) (fun _ _ _ h => h) (Or.inr ⟨by rfl, rfl⟩) (by assumption) ?_
   try simp only [Act.put, qxr17a, qxr17b, qxr17c]
   refine wpAnyH_take (i := 22) (oi := ⟨some 27, _, _, _, _, _⟩) (v := undef) rfl (by kernel_rfl) (by kernel_rfl) (by kernel_rfl) (fun _ _ _ h => h) (Or.inr ⟨by rfl, rfl⟩) (by assumption) ?_
   try simp only [Act.put, qxr17a, qxr17b, qxr17c]
   refine wpAnyH_take (i := 23) (oi := ⟨some 28, _, _, _, _, _⟩) (v := undef) rfl (by kernel_rfl) (by kernel_rfl) (by kernel_rfl) (fun _ _ _ h => h) (Or.inr ⟨by rfl, rfl⟩) (by assumption) ?_
   try simp only [Act.put, qxr17a, qxr17b, qxr17c]
   refine wpAnyH_take (i := 24) (oi := ⟨some 29, _, _, _, _, _⟩) (v := undef) rfl (by kernel_rfl) (by kernel_rfl) (by kernel_rfl) (fun _ _ _ h => h) (Or.inr ⟨by rfl, rfl⟩) (by assumption) ?_
   try simp only [Act.put, qxr17a, qxr17b, qxr17c]
   refine wpAnyH_take (i := 25) (oi := ⟨some 30, _, _, _, _, _⟩) (v := ?_) rfl (by kernel_rfl) (by kernel_rfl) (by kernel_rfl) (fun _ _ _ h => h) (Or.inl ⟨by rfl, ?_⟩) (by assumption) ?_
   rotate_left 1
   ·intro wS hSw; (try dsimp only at hSw); go_simp; try with_reducible rfl
   try simp only [Act.put, qxr17a, qxr17b, qxr17c]
   refine wpAnyH_take (i := 26) (oi := ⟨some 4, _, _, _, _, _⟩) (v := ?_) rfl (by kernel_rfl) (by kernel_rfl) (by kernel_rfl) (fun _ _ _ h => h) (Or.inl ⟨by rfl, ?_⟩) (by assumption) ?_
   rotate_left 1
   ·intro wS hSw; (try dsimp only at hSw); go_simp; try with_reducible rfl
   try simp only [Act.put, qxr17a, qxr17b, qxr17c]
   refine wpAnyH_done (by kernel_rfl) ?_ _
   have hZ := hHeld
   clear hHeld
   have HBZ := hid (bthen HB0.out (show Below w2.heap.size w2 _ from hZ) (Nat.le_refl _))
   clear hZ x0 x1 x2 x3 x4 x5 y0 y1 y2 y3 y4 y5
   go_wp2_with fail
   go_ret
   exact ⟨ret_bool HC.out.symm, HBZ.out⟩
  | true =>
   rw [e_to] at q_to
   cases e_up : x.up == y.up with
   | false =>
    have HC := hid (show bdEq x y = false by rw [HX.out, e_shop, e_to, e_up]; simp)
    clear e_shop e_to
    go_enter Tryz.func129, Tryz.ntmps129
    go_upto_region 1 with fail
    generalize (w.alloc (.cells #[.string (ofL x.shop), .string (ofL x.to), .bool x.up, .string (ofL x.key), .slice A x.want.length c, .bool x.all] 48)).alloc (.cells #[.string (ofL y.shop), .string (ofL y.to), .bool y.up, .string (ofL y.key), .slice B y.want.length d, .bool y.all] 48) = w2 at *
    have x0 := HBX.out.cs 0 _ rfl
    have x1 := HBX.out.cs 1 _ rfl
    have x2 := HBX.out.cs 2 _ rfl
    have x3 := HBX.out.cs 3 _ rfl
    have x4 := HBX.out.cs 4 _ rfl
    have x5 := HBX.out.cs 5 _ rfl
    have y0 := HBY.out.cs 0 _ rfl
    have y1 := HBY.out.cs 1 _ rfl
    have y2 := HBY.out.cs 2 _ rfl
    have y3 := HBY.out.cs 3 _ rfl
    have y4 := HBY.out.cs 4 _ rfl
    have y5 := HBY.out.cs 5 _ rfl
    refine wp_region_held_drew (S := fun a => Below (w2.heap.size) w2 a) (by kernel_rfl) (by (try dsimp only); exact (Below.refl _ _).drew) (fun hHeld => ?_)
    refine wpAnyH_take (i := 0) (oi := ⟨some 5, _, _, _, _, _⟩) (v := ?_) rfl (by kernel_rfl) (by kernel_rfl) (by kernel_rfl) (fun _ _ _ h => h) (Or.inl ⟨by rfl, ?_⟩) (by assumption) ?_
    rotate_left 1
    ·intro wS hSw; (try dsimp only at hSw); go_simp; try with_reducible rfl
    try simp only [Act.put, qxr17a, qxr17b, qxr17c]
    refine wpAnyH_take (i := 1) (oi := ⟨some 6, _, _, _, _, _⟩) (v := ?_) rfl (by kernel_rfl) (by kernel_rfl) (by kernel_rfl) (fun _ _ _ h => h) (Or.inl ⟨by rfl, ?_⟩) (by assumption) ?_
    rotate_left 1
    ·intro wS hSw; (try dsimp only at hSw); have x0 := cell_on hSw x0; have x1 := cell_on hSw x1; have x2 := cell_on hSw x2; have x3 := cell_on hSw x3; have x4 := cell_on hSw x4; have x5 := cell_on hSw x5; have y0 := cell_on hSw y0; have y1 := cell_on hSw y1; have y2 := cell_on hSw y2; have y3 := cell_on hSw y3; have y4 := cell_on hSw y4; have y5 := cell_on hSw y5; go_simp; try with_reducible rfl
    try simp only [Act.put, qxr17a, qxr17b, qxr17c]
    refine wpAnyH_take (i := 2) (oi := ⟨some 7, _, _, _, _, _⟩) (v := ?_) rfl (by kernel_rfl) (by kernel_rfl) (by kernel_rfl) (fun _ _ _ h => h) (Or.inl ⟨by rfl, ?_⟩) (by assumption) ?_
    rotate_left 1
    ·intro wS hSw; (try dsimp only at hSw); go_simp; try with_reducible rfl
    try simp only [Act.put, qxr17a, qxr17b, qxr17c]
    refine wpAnyH_take (i := 3) (oi := ⟨some 8, _, _, _, _, _⟩) (v := ?_) rfl (by kernel_rfl) (by kernel_rfl) (by kernel_rfl) (fun _ _ _ h => h) (Or.inl ⟨by rfl, ?_⟩) (by assumption) ?_
    rotate_left 1
    ·intro wS hSw; (try dsimp only at hSw); have x0 := cell_on hSw x0; have x1 := cell_on hSw x1; have x2 := cell_on hSw x2; have x3 := cell_on hSw x3; have x4 := cell_on hSw x4; have x5 := cell_on hSw x5; have y0 := cell_on hSw y0; have y1 := cell_on hSw y1; have y2 := cell_on hSw y2; have y3 := cell_on hSw y3; have y4 := cell_on hSw y4; have y5 := cell_on hSw y5; go_simp; try with_reducible rfl
    try simp only [Act.put, qxr17a, qxr17b, qxr17c]
    refine wpAnyH_take (i := 4) (oi := ⟨some 9, _, _, _, _, _⟩) (v := ?_) rfl (by kernel_rfl) (by kernel_rfl) (by kernel_rfl) (fun _ _ _ h => h) (Or.inl ⟨by rfl, ?_⟩) (by assumption) ?_
    rotate_left 1
    ·intro wS hSw; (try dsimp only at hSw); go_simp; try with_reducible rfl
    try simp only [Act.put, qxr17a, qxr17b, qxr17c]
    refine wpAnyH_take (i := 5) (oi := ⟨some 10, _, _, _, _, _⟩) (v := ?_) rfl (by kernel_rfl) (by kernel_rfl) (by kernel_rfl) (fun _ _ _ h => h) (Or.inl ⟨by rfl, ?_⟩) (by assumption) ?_
    rotate_left 1
    ·intro wS hSw; (try dsimp only at hSw); go_simp; try with_reducible rfl
    try simp only [Act.put, qxr17a, qxr17b, qxr17c]
    refine wpAnyH_take (i := 6) (oi := ⟨some 11, _, _, _, _, _⟩) (v := ?_) rfl (by kernel_rfl) (by kernel_rfl) (by kernel_rfl) (fun _ _ _ h => h) (Or.inl ⟨by rfl, ?_⟩) (by assumption) ?_
    rotate_left 1
    ·intro wS hSw; (try dsimp only at hSw); go_simp; try with_reducible rfl
    try simp only [Act.put, qxr17a, qxr17b, qxr17c]
    refine wpAnyH_take (i := 7) (oi := ⟨some 12, _, _, _, _, _⟩) (v := ?_) rfl (by kernel_rfl) (by kernel_rfl) (by kernel_rfl) (fun _ _ _ h => h) (Or.inl ⟨by rfl, ?_⟩) (by assumption) ?_
    rotate_left 1
    ·intro wS hSw; (try dsimp only at hSw); have x0 := cell_on hSw x0; have x1 := cell_on hSw x1; have x2 := cell_on hSw x2; have x3 := cell_on hSw x3; have x4 := cell_on hSw x4; have x5 := cell_on hSw x5; have y0 := cell_on hSw y0; have y1 := cell_on hSw y1; have y2 := cell_on hSw y2; have y3 := cell_on hSw y3; have y4 := cell_on hSw y4; have y5 := cell_on hSw y5; go_simp; try with_reducible rfl
    try simp only [Act.put, qxr17a, qxr17b, qxr17c]
    refine wpAnyH_take (i := 8) (oi := ⟨some 13, _, _, _, _, _⟩) (v := ?_) rfl (by kernel_rfl) (by kernel_rfl) (by kernel_rfl) (fun _ _ _ h => h) (Or.inl ⟨by rfl, ?_⟩) (by assumption) ?_
    rotate_left 1
    ·intro wS hSw; (try dsimp only at hSw); go_simp; try with_reducible rfl
    try simp only [Act.put, qxr17a, qxr17b, qxr17c]
    refine wpAnyH_take (i := 9) (oi := ⟨some 14, _, _, _, _, _⟩) (v := ?_) rfl (by kernel_rfl) (by kernel_rfl) (by kernel_rfl) (fun _ _ _ h => h) (Or.inl ⟨by rfl, ?_⟩) (by assumption) ?_
    rotate_left 1
    ·intro wS hSw; (try dsimp only at hSw); have x0 := cell_on hSw x0; have x1 := cell_on hSw x1; have x2 := cell_on hSw x2; have x3 := cell_on hSw x3; have x4 := cell_on hSw x4; have x5 := cell_on hSw x5; have y0 := cell_on hSw y0; have y1 := cell_on hSw y1; have y2 := cell_on hSw y2; have y3 := cell_on hSw y3; have y4 := cell_on hSw y4; have y5 := cell_on hSw y5; go_simp; try with_reducible rfl
    try simp only [Act.put, qxr17a, qxr17b, qxr17c]
    refine wpAnyH_take (i := 10) (oi := ⟨some 15, _, _, _, _, _⟩) (v := ?_) rfl (by kernel_rfl) (by kernel_rfl) (by kernel_rfl) (fun _ _ _ h => h) (Or.inl ⟨by rfl, ?_⟩) (by assumption) ?_
    rotate_left 1
    ·intro wS hSw; (try dsimp only at hSw); go_simp; try with_reducible rfl
    try simp only [Act.put, qxr17a, qxr17b, qxr17c]
    refine wpAnyH_take (i := 11) (oi := ⟨some 16, _, _, _, _, _⟩) (v := ?_) rfl (by kernel_rfl) (by kernel_rfl) (by kernel_rfl) (fun _ _ _ h => h) (Or.inl ⟨by rfl, ?_⟩) (by assumption) ?_
    rotate_left 1
    ·intro wS hSw; (try dsimp only at hSw); go_simp; try with_reducible rfl
    try simp only [Act.put, qxr17a, qxr17b, qxr17c]
    refine wpAnyH_take (i := 12) (oi := ⟨some 17, _, _, _, _, _⟩) (v := ?_) rfl (by kernel_rfl) (by kernel_rfl) (by kernel_rfl) (fun _ _ _ h => h) (Or.inl ⟨by rfl, ?_⟩) (by assumption) ?_
    rotate_left 1
    ·intro wS hSw; (try dsimp only at hSw); go_simp; try with_reducible rfl
    try simp only [Act.put, qxr17a, qxr17b, qxr17c]
    refine wpAnyH_take (i := 13) (oi := ⟨some 18, _, _, _, _, _⟩) (v := ?_) rfl (by kernel_rfl) (by kernel_rfl) (by kernel_rfl) (fun _ _ _ h => h) (Or.inl ⟨by rfl, ?_⟩) (by assumption) ?_
    rotate_left 1
    ·intro wS hSw; (try dsimp only at hSw); go_simp; try with_reducible rfl
    try simp only [Act.put, qxr17a, qxr17b, qxr17c]
    refine wpAnyH_take (i := 14) (oi := ⟨some 19, _, _, _, _, _⟩) (v := ?_) rfl (by kernel_rfl) (by kernel_rfl) (by kernel_rfl) (fun _ _ _ h => h) (Or.inl ⟨by rfl, ?_⟩) (by assumption) ?_
    rotate_left 1
    ·intro wS hSw; (try dsimp only at hSw); have x0 := cell_on hSw x0; have x1 := cell_on hSw x1; have x2 := cell_on hSw x2; have x3 := cell_on hSw x3; have x4 := cell_on hSw x4; have x5 := cell_on hSw x5; have y0 := cell_on hSw y0; have y1 := cell_on hSw y1; have y2 := cell_on hSw y2; have y3 := cell_on hSw y3; have y4 := cell_on hSw y4; have y5 := cell_on hSw y5; go_simp; try with_reducible rfl
    try simp only [Act.put, qxr17a, qxr17b, qxr17c]
    refine wpAnyH_take (i := 15) (oi := ⟨some 20, _, _, _, _, _⟩) (v := ?_) rfl (by kernel_rfl) (by kernel_rfl) (by kernel_rfl) (fun _ _ _ h => h) (Or.inl ⟨by rfl, ?_⟩) (by assumption) ?_
    rotate_left 1
    ·intro wS hSw; (try dsimp only at hSw); go_simp; try with_reducible rfl
    try simp only [Act.put, qxr17a, qxr17b, qxr17c]
    refine wpAnyH_take (i := 16) (oi := ⟨some 21, _, _, _, _, _⟩) (v := ?_) rfl (by kernel_rfl) (by kernel_rfl) (by kernel_rfl) (fun _ _ _ h => h) (Or.inl ⟨by rfl, ?_⟩) (by assumption) ?_
    rotate_left 1
    ·intro wS hSw; (try dsimp only at hSw); have x0 := cell_on hSw x0; have x1 := cell_on hSw x1; have x2 := cell_on hSw x2; have x3 := cell_on hSw x3; have x4 := cell_on hSw x4; have x5 := cell_on hSw x5; have y0 := cell_on hSw y0; have y1 := cell_on hSw y1; have y2 := cell_on hSw y2; have y3 := cell_on hSw y3; have y4 := cell_on hSw y4; have y5 := cell_on hSw y5; go_simp; try with_reducible rfl
    try simp only [Act.put, qxr17a, qxr17b, qxr17c]
    refine wpAnyH_take (i := 17) (oi := ⟨some 22, _, _, _, _, _⟩) (v := ?_) rfl (by kernel_rfl) (by kernel_rfl) (by kernel_rfl) (fun _ _ _ h => h) (Or.inl ⟨by rfl, ?_⟩) (by assumption) ?_
    rotate_left 1
    ·intro wS hSw; (try dsimp only at hSw); go_simp; try with_reducible rfl
    try simp only [Act.put, qxr17a, qxr17b, qxr17c]
    refine wpAnyH_take (i := 18) (oi := ⟨some 23, _, _, _, _, _⟩) (v := ?_) rfl (by kernel_rfl) (by kernel_rfl) (by kernel_rfl) (fun _ _ _ h => h) (Or.inl ⟨by rfl, ?_⟩) (by assumption) ?_
    rotate_left 1
    ·intro wS hSw; (try dsimp only at hSw); go_simp; try with_reducible rfl
    try simp only [Act.put, qxr17a, qxr17b, qxr17c]
    refine wpAnyH_take (i := 19) (oi := ⟨some 24, _, _, _, _, _⟩) (v := ?_) rfl (by kernel_rfl) (by kernel_rfl) (by kernel_rfl) (fun _ _ _ h => h) (Or.inl ⟨by rfl, ?_⟩) (by assumption) ?_
    rotate_left 1
    ·intro wS hSw; (try dsimp only at hSw); go_simp; try with_reducible rfl
    try simp only [Act.put, qxr17a, qxr17b, qxr17c]
    refine wpAnyH_take (i := 20) (oi := ⟨some 25, _, _, _, _, _⟩) (v := undef) rfl (by kernel_rfl) (by kernel_rfl) (by kernel_rfl) (fun _ _ _ h => h) (Or.inr ⟨by rfl, rfl⟩) (by assumption) ?_
    try simp only [Act.put, qxr17a, qxr17b, qxr17c]
    refine wpAnyH_take (i := 21) (oi := ⟨some 26, _, _, _, _, _⟩) (v := undef) rfl (by kernel_rfl) (by kernel_rfl) (by kernel_rfl) (fun _ _ _ h => h) (Or.inr ⟨by rfl, rfl⟩) (by assumption) ?_
    try simp only [Act.put, qxr17a, qxr17b, qxr17c]
    refine wpAnyH_take (i := 22) (oi := ⟨some 27, _, _, _, _, _⟩) (v := undef) rfl (by kernel_rfl) (by kernel_rfl) (by kernel_rfl) (fun _ _ _ h => h) (Or.inr ⟨by rfl, rfl⟩) (by assumption) ?_
    try simp only [Act.put, qxr17a, qxr17b, qxr17c]
    refine wpAnyH_take (i := 23) (oi := ⟨some 28, _, _, _, _, _⟩) (v := undef) rfl (by kernel_rfl) (by kernel_rfl) (by kernel_rfl) (fun _ _ _ h => h) (Or.inr ⟨by rfl, rfl⟩) (by assumption) ?_
    try simp only [Act.put, qxr17a, qxr17b, qxr17c]
    refine wpAnyH_take (i := 24) (oi := ⟨some 29, _, _, _, _, _⟩) (v := undef) rfl (by kernel_rfl) (by kernel_rfl) (by kernel_rfl) (fun _ _ _ h => h) (Or.inr ⟨by rfl, rfl⟩) (by assumption) ?_
    try simp only [Act.put, qxr17a, qxr17b, qxr17c]
    refine wpAnyH_take (i := 25) (oi := ⟨some 30, _, _, _, _, _⟩) (v := ?_) rfl (by kernel_rfl) (by kernel_rfl) (by kernel_rfl) (fun _ _ _ h => h) (Or.inl ⟨by rfl, ?_⟩) (by assumption) ?_
    rotate_left 1
    ·intro wS hSw; (try dsimp only at hSw); go_simp; try with_reducible rfl
    try simp only [Act.put, qxr17a, qxr17b, qxr17c]
    refine wpAnyH_take (i := 26) (oi := ⟨some 4, _, _, _, _, _⟩) (v := ?_) rfl (by kernel_rfl) (by kernel_rfl) (by kernel_rfl) (fun _ _ _ h => h) (Or.inl ⟨by rfl, ?_⟩) (by assumption) ?_
    rotate_left 1
    ·intro wS hSw; (try dsimp only at hSw); go_simp; try with_reducible rfl
    try simp only [Act.put, qxr17a, qxr17b, qxr17c]
    refine wpAnyH_done (by kernel_rfl) ?_ _
    have hZ := hHeld
    clear hHeld
    have HBZ := hid (bthen HB0.out (show Below w2.heap.size w2 _ from hZ) (Nat.le_refl _))
    clear hZ x0 x1 x2 x3 x4 x5 y0 y1 y2 y3 y4 y5
    go_wp2_with fail
    go_ret
    exact ⟨ret_bool HC.out.symm, HBZ.out⟩
   | true =>
    have HC := hid (show bdEq x y = M by rw [HX.out, e_shop, e_to, e_up]; simp)
    clear e_shop e_to
    go_enter Tryz.func129, Tryz.ntmps129
    go_upto_region 1 with fail
    generalize (w.alloc (.cells #[.string (ofL x.shop), .string (ofL x.to), .bool x.up, .string (ofL x.key), .slice A x.want.length c, .bool x.all] 48)).alloc (.cells #[.string (ofL y.shop), .string (ofL y.to), .bool y.up, .string (ofL y.key), .slice B y.want.length d, .bool y.all] 48) = w2 at *
    have x0 := HBX.out.cs 0 _ rfl
    have x1 := HBX.out.cs 1 _ rfl
    have x2 := HBX.out.cs 2 _ rfl
    have x3 := HBX.out.cs 3 _ rfl
    have x4 := HBX.out.cs 4 _ rfl
    have x5 := HBX.out.cs 5 _ rfl
    have y0 := HBY.out.cs 0 _ rfl
    have y1 := HBY.out.cs 1 _ rfl
    have y2 := HBY.out.cs 2 _ rfl
    have y3 := HBY.out.cs 3 _ rfl
    have y4 := HBY.out.cs 4 _ rfl
    have y5 := HBY.out.cs 5 _ rfl
    refine wp_region_held_drew (S := fun a => Below (w2.heap.size) w2 a) (by kernel_rfl) (by (try dsimp only); exact (Below.refl _ _).drew) (fun hHeld => ?_)
    refine wpAnyH_take (i := 0) (oi := ⟨some 5, _, _, _, _, _⟩) (v := ?_) rfl (by kernel_rfl) (by kernel_rfl) (by kernel_rfl) (fun _ _ _ h => h) (Or.inl ⟨by rfl, ?_⟩) (by assumption) ?_
    rotate_left 1
    ·intro wS hSw; (try dsimp only at hSw); go_simp; try with_reducible rfl
    try simp only [Act.put, qxr17a, qxr17b, qxr17c]
    refine wpAnyH_take (i := 1) (oi := ⟨some 6, _, _, _, _, _⟩) (v := ?_) rfl (by kernel_rfl) (by kernel_rfl) (by kernel_rfl) (fun _ _ _ h => h) (Or.inl ⟨by rfl, ?_⟩) (by assumption) ?_
    rotate_left 1
    ·intro wS hSw; (try dsimp only at hSw); have x0 := cell_on hSw x0; have x1 := cell_on hSw x1; have x2 := cell_on hSw x2; have x3 := cell_on hSw x3; have x4 := cell_on hSw x4; have x5 := cell_on hSw x5; have y0 := cell_on hSw y0; have y1 := cell_on hSw y1; have y2 := cell_on hSw y2; have y3 := cell_on hSw y3; have y4 := cell_on hSw y4; have y5 := cell_on hSw y5; go_simp; try with_reducible rfl
    try simp only [Act.put, qxr17a, qxr17b, qxr17c]
    refine wpAnyH_take (i := 2) (oi := ⟨some 7, _, _, _, _, _⟩) (v := ?_) rfl (by kernel_rfl) (by kernel_rfl) (by kernel_rfl) (fun _ _ _ h => h) (Or.inl ⟨by rfl, ?_⟩) (by assumption) ?_
    rotate_left 1
    ·intro wS hSw; (try dsimp only at hSw); go_simp; try with_reducible rfl
    try simp only [Act.put, qxr17a, qxr17b, qxr17c]
    refine wpAnyH_take (i := 3) (oi := ⟨some 8, _, _, _, _, _⟩) (v := ?_) rfl (by kernel_rfl) (by kernel_rfl) (by kernel_rfl) (fun _ _ _ h => h) (Or.inl ⟨by rfl, ?_⟩) (by assumption) ?_
    rotate_left 1
    ·intro wS hSw; (try dsimp only at hSw); have x0 := cell_on hSw x0; have x1 := cell_on hSw x1; have x2 := cell_on hSw x2; have x3 := cell_on hSw x3; have x4 := cell_on hSw x4; have x5 := cell_on hSw x5; have y0 := cell_on hSw y0; have y1 := cell_on hSw y1; have y2 := cell_on hSw y2; have y3 := cell_on hSw y3; have y4 := cell_on hSw y4; have y5 := cell_on hSw y5; go_simp; try with_reducible rfl
    try simp only [Act.put, qxr17a, qxr17b, qxr17c]
    refine wpAnyH_take (i := 4) (oi := ⟨some 9, _, _, _, _, _⟩) (v := ?_) rfl (by kernel_rfl) (by kernel_rfl) (by kernel_rfl) (fun _ _ _ h => h) (Or.inl ⟨by rfl, ?_⟩) (by assumption) ?_
    rotate_left 1
    ·intro wS hSw; (try dsimp only at hSw); go_simp; try with_reducible rfl
    try simp only [Act.put, qxr17a, qxr17b, qxr17c]
    refine wpAnyH_take (i := 5) (oi := ⟨some 10, _, _, _, _, _⟩) (v := ?_) rfl (by kernel_rfl) (by kernel_rfl) (by kernel_rfl) (fun _ _ _ h => h) (Or.inl ⟨by rfl, ?_⟩) (by assumption) ?_
    rotate_left 1
    ·intro wS hSw; (try dsimp only at hSw); go_simp; try with_reducible rfl
    try simp only [Act.put, qxr17a, qxr17b, qxr17c]
    refine wpAnyH_take (i := 6) (oi := ⟨some 11, _, _, _, _, _⟩) (v := ?_) rfl (by kernel_rfl) (by kernel_rfl) (by kernel_rfl) (fun _ _ _ h => h) (Or.inl ⟨by rfl, ?_⟩) (by assumption) ?_
    rotate_left 1
    ·intro wS hSw; (try dsimp only at hSw); go_simp; try with_reducible rfl
    try simp only [Act.put, qxr17a, qxr17b, qxr17c]
    refine wpAnyH_take (i := 7) (oi := ⟨some 12, _, _, _, _, _⟩) (v := ?_) rfl (by kernel_rfl) (by kernel_rfl) (by kernel_rfl) (fun _ _ _ h => h) (Or.inl ⟨by rfl, ?_⟩) (by assumption) ?_
    rotate_left 1
    ·intro wS hSw; (try dsimp only at hSw); have x0 := cell_on hSw x0; have x1 := cell_on hSw x1; have x2 := cell_on hSw x2; have x3 := cell_on hSw x3; have x4 := cell_on hSw x4; have x5 := cell_on hSw x5; have y0 := cell_on hSw y0; have y1 := cell_on hSw y1; have y2 := cell_on hSw y2; have y3 := cell_on hSw y3; have y4 := cell_on hSw y4; have y5 := cell_on hSw y5; go_simp; try with_reducible rfl
    try simp only [Act.put, qxr17a, qxr17b, qxr17c]
    refine wpAnyH_take (i := 8) (oi := ⟨some 13, _, _, _, _, _⟩) (v := ?_) rfl (by kernel_rfl) (by kernel_rfl) (by kernel_rfl) (fun _ _ _ h => h) (Or.inl ⟨by rfl, ?_⟩) (by assumption) ?_
    rotate_left 1
    ·intro wS hSw; (try dsimp only at hSw); go_simp; try with_reducible rfl
    try simp only [Act.put, qxr17a, qxr17b, qxr17c]
    refine wpAnyH_take (i := 9) (oi := ⟨some 14, _, _, _, _, _⟩) (v := ?_) rfl (by kernel_rfl) (by kernel_rfl) (by kernel_rfl) (fun _ _ _ h => h) (Or.inl ⟨by rfl, ?_⟩) (by assumption) ?_
    rotate_left 1
    ·intro wS hSw; (try dsimp only at hSw); have x0 := cell_on hSw x0; have x1 := cell_on hSw x1; have x2 := cell_on hSw x2; have x3 := cell_on hSw x3; have x4 := cell_on hSw x4; have x5 := cell_on hSw x5; have y0 := cell_on hSw y0; have y1 := cell_on hSw y1; have y2 := cell_on hSw y2; have y3 := cell_on hSw y3; have y4 := cell_on hSw y4; have y5 := cell_on hSw y5; go_simp; try with_reducible rfl
    try simp only [Act.put, qxr17a, qxr17b, qxr17c]
    refine wpAnyH_take (i := 10) (oi := ⟨some 15, _, _, _, _, _⟩) (v := ?_) rfl (by kernel_rfl) (by kernel_rfl) (by kernel_rfl) (fun _ _ _ h => h) (Or.inl ⟨by rfl, ?_⟩) (by assumption) ?_
    rotate_left 1
    ·intro wS hSw; (try dsimp only at hSw); go_simp; try with_reducible rfl
    try simp only [Act.put, qxr17a, qxr17b, qxr17c]
    refine wpAnyH_take (i := 11) (oi := ⟨some 16, _, _, _, _, _⟩) (v := ?_) rfl (by kernel_rfl) (by kernel_rfl) (by kernel_rfl) (fun _ _ _ h => h) (Or.inl ⟨by rfl, ?_⟩) (by assumption) ?_
    rotate_left 1
    ·intro wS hSw; (try dsimp only at hSw); go_simp; try with_reducible rfl
    try simp only [Act.put, qxr17a, qxr17b, qxr17c]
    refine wpAnyH_take (i := 12) (oi := ⟨some 17, _, _, _, _, _⟩) (v := ?_) rfl (by kernel_rfl) (by kernel_rfl) (by kernel_rfl) (fun _ _ _ h => h) (Or.inl ⟨by rfl, ?_⟩) (by assumption) ?_
    rotate_left 1
    ·intro wS hSw; (try dsimp only at hSw); go_simp; try with_reducible rfl
    try simp only [Act.put, qxr17a, qxr17b, qxr17c]
    refine wpAnyH_take (i := 13) (oi := ⟨some 18, _, _, _, _, _⟩) (v := ?_) rfl (by kernel_rfl) (by kernel_rfl) (by kernel_rfl) (fun _ _ _ h => h) (Or.inl ⟨by rfl, ?_⟩) (by assumption) ?_
    rotate_left 1
    ·intro wS hSw; (try dsimp only at hSw); go_simp; try with_reducible rfl
    try simp only [Act.put, qxr17a, qxr17b, qxr17c]
    refine wpAnyH_take (i := 14) (oi := ⟨some 19, _, _, _, _, _⟩) (v := ?_) rfl (by kernel_rfl) (by kernel_rfl) (by kernel_rfl) (fun _ _ _ h => h) (Or.inl ⟨by rfl, ?_⟩) (by assumption) ?_
    rotate_left 1
    ·intro wS hSw; (try dsimp only at hSw); have x0 := cell_on hSw x0; have x1 := cell_on hSw x1; have x2 := cell_on hSw x2; have x3 := cell_on hSw x3; have x4 := cell_on hSw x4; have x5 := cell_on hSw x5; have y0 := cell_on hSw y0; have y1 := cell_on hSw y1; have y2 := cell_on hSw y2; have y3 := cell_on hSw y3; have y4 := cell_on hSw y4; have y5 := cell_on hSw y5; go_simp; try with_reducible rfl
    try simp only [Act.put, qxr17a, qxr17b, qxr17c]
    refine wpAnyH_take (i := 15) (oi := ⟨some 20, _, _, _, _, _⟩) (v := ?_) rfl (by kernel_rfl) (by kernel_rfl) (by kernel_rfl) (fun _ _ _ h => h) (Or.inl ⟨by rfl, ?_⟩) (by assumption) ?_
    rotate_left 1
    ·intro wS hSw; (try dsimp only at hSw); go_simp; try with_reducible rfl
    try simp only [Act.put, qxr17a, qxr17b, qxr17c]
    refine wpAnyH_take (i := 16) (oi := ⟨some 21, _, _, _, _, _⟩) (v := ?_) rfl (by kernel_rfl) (by kernel_rfl) (by kernel_rfl) (fun _ _ _ h => h) (Or.inl ⟨by rfl, ?_⟩) (by assumption) ?_
    rotate_left 1
    ·intro wS hSw; (try dsimp only at hSw); have x0 := cell_on hSw x0; have x1 := cell_on hSw x1; have x2 := cell_on hSw x2; have x3 := cell_on hSw x3; have x4 := cell_on hSw x4; have x5 := cell_on hSw x5; have y0 := cell_on hSw y0; have y1 := cell_on hSw y1; have y2 := cell_on hSw y2; have y3 := cell_on hSw y3; have y4 := cell_on hSw y4; have y5 := cell_on hSw y5; go_simp; try with_reducible rfl
    try simp only [Act.put, qxr17a, qxr17b, qxr17c]
    refine wpAnyH_take (i := 17) (oi := ⟨some 22, _, _, _, _, _⟩) (v := ?_) rfl (by kernel_rfl) (by kernel_rfl) (by kernel_rfl) (fun _ _ _ h => h) (Or.inl ⟨by rfl, ?_⟩) (by assumption) ?_
    rotate_left 1
    ·intro wS hSw; (try dsimp only at hSw); go_simp; try with_reducible rfl
    try simp only [Act.put, qxr17a, qxr17b, qxr17c]
    refine wpAnyH_take (i := 18) (oi := ⟨some 23, _, _, _, _, _⟩) (v := ?_) rfl (by kernel_rfl) (by kernel_rfl) (by kernel_rfl) (fun _ _ _ h => h) (Or.inl ⟨by rfl, ?_⟩) (by assumption) ?_
    rotate_left 1
    ·intro wS hSw; (try dsimp only at hSw); go_simp; try with_reducible rfl
    try simp only [Act.put, qxr17a, qxr17b, qxr17c]
    refine wpAnyH_take (i := 19) (oi := ⟨some 24, _, _, _, _, _⟩) (v := ?_) rfl (by kernel_rfl) (by kernel_rfl) (by kernel_rfl) (fun _ _ _ h => h) (Or.inl ⟨by rfl, ?_⟩) (by assumption) ?_
    rotate_left 1
    ·intro wS hSw; (try dsimp only at hSw); go_simp; try with_reducible rfl
    try simp only [Act.put, qxr17a, qxr17b, qxr17c]
    refine wpAnyH_take (i := 20) (oi := ⟨some 25, _, _, _, _, _⟩) (v := ?_) rfl (by kernel_rfl) (by kernel_rfl) (by kernel_rfl) (fun _ _ _ h => h) (Or.inl ⟨by rfl, ?_⟩) (by assumption) ?_
    rotate_left 1
    ·intro wS hSw; (try dsimp only at hSw); have x0 := cell_on hSw x0; have x1 := cell_on hSw x1; have x2 := cell_on hSw x2; have x3 := cell_on hSw x3; have x4 := cell_on hSw x4; have x5 := cell_on hSw x5; have y0 := cell_on hSw y0; have y1 := cell_on hSw y1; have y2 := cell_on hSw y2; have y3 := cell_on hSw y3; have y4 := cell_on hSw y4; have y5 := cell_on hSw y5; go_simp; try with_reducible rfl
    try simp only [Act.put, qxr17a, qxr17b, qxr17c]
    refine wpAnyH_take (i := 22) (oi := ⟨some 27, _, _, _, _, _⟩) (v := ?_) rfl (by kernel_rfl) (by kernel_rfl) (by kernel_rfl) (fun _ _ _ h => h) (Or.inl ⟨by rfl, ?_⟩) (by assumption) ?_
    rotate_left 1
    ·intro wS hSw; (try dsimp only at hSw); have x0 := cell_on hSw x0; have x1 := cell_on hSw x1; have x2 := cell_on hSw x2; have x3 := cell_on hSw x3; have x4 := cell_on hSw x4; have x5 := cell_on hSw x5; have y0 := cell_on hSw y0; have y1 := cell_on hSw y1; have y2 := cell_on hSw y2; have y3 := cell_on hSw y3; have y4 := cell_on hSw y4; have y5 := cell_on hSw y5; go_simp; try with_reducible rfl
    try simp only [Act.put, qxr17a, qxr17b, qxr17c]
    refine wpAnyH_ready (rs := [21]) (by kernel_rfl) (by simp) ?_
    refine AllReadyH.cons (o := ⟨some 26, _, _, _, _, _⟩) rfl (fun K hK => ?_) (AllReadyH.nil)
    go_simp
    go_at_call 130
    refine (HR1.out _).mono ?_
    rintro e wx ⟨rfl, hb2⟩
    refine hK.out _ _ (bthen hHeld hb2 (Nat.le_refl _)) (fun hHeld2 => ?_)
    clear hK K hHeld hb2
    have hHeld := hHeld2
    clear hHeld2
    try simp only [Act.put, qxr17a, qxr17b, qxr17c]
    refine wpAnyH_ready (rs := [23]) (by kernel_rfl) (by simp) ?_
    refine AllReadyH.cons (o := ⟨some 28, _, _, _, _, _⟩) rfl (fun K hK => ?_) (AllReadyH.nil)
    go_simp
    go_at_call 130
    refine (HR2.out _).mono ?_
    rintro e wx ⟨rfl, hb2⟩
    refine hK.out _ _ (bthen hHeld hb2 (Nat.le_refl _)) (fun hHeld2 => ?_)
    clear hK K hHeld hb2
    have hHeld := hHeld2
    clear hHeld2
    try simp only [Act.put, qxr17a, qxr17b, qxr17c]
    refine wpAnyH_ready (rs := [24]) (by kernel_rfl) (by simp) ?_
    refine AllReadyH.cons (o := ⟨some 29, _, _, _, _, _⟩) rfl (fun K hK => ?_) (AllReadyH.nil)
    go_simp
    go_at_call 141
    refine (HS.out _ (HPA.out.on (show Below w2.heap.size w2 _ from hHeld)) (HPB.out.on (show Below w2.heap.size w2 _ from hHeld))).mono ?_
    rintro e wx ⟨rfl, hb2⟩
    refine hK.out _ _ (bthen hHeld hb2 (Nat.le_refl _)) (fun hHeld2 => ?_)
    clear hK K hHeld hb2
    have hHeld := hHeld2
    clear hHeld2
    try simp only [Act.put, qxr17a, qxr17b, qxr17c]
    refine wpAnyH_take (i := 25) (oi := ⟨some 30, _, _, _, _, _⟩) (v := ?_) rfl (by kernel_rfl) (by kernel_rfl) (by kernel_rfl) (fun _ _ _ h => h) (Or.inl ⟨by rfl, ?_⟩) (by assumption) ?_
    rotate_left 1
    ·intro wS hSw; (try dsimp only at hSw); go_simp; try with_reducible rfl
    try simp only [Act.put, qxr17a, qxr17b, qxr17c]
    refine wpAnyH_take (i := 26) (oi := ⟨some 4, _, _, _, _, _⟩) (v := ?_) rfl (by kernel_rfl) (by kernel_rfl) (by kernel_rfl) (fun _ _ _ h => h) (Or.inl ⟨by rfl, ?_⟩) (by assumption) ?_
    rotate_left 1
    ·intro wS hSw; (try dsimp only at hSw); go_simp; try with_reducible rfl
    try simp only [Act.put, qxr17a, qxr17b, qxr17c]
    refine wpAnyH_done (by kernel_rfl) ?_ _
    have hZ := hHeld
    clear hHeld
    have HBZ := hid (bthen HB0.out (show Below w2.heap.size w2 _ from hZ) (Nat.le_refl _))
    clear hZ x0 x1 x2 x3 x4 x5 y0 y1 y2 y3 y4 y5
    go_wp2_with fail
    go_ret
    exact ⟨ret_bool HC.out.symm, HBZ.out⟩
end Go.Proofs.YtaikigponkjkgaaGreatDoor
end
