/-
 A part of the proof.
-/
import Derived.Test.YtaikigponkjkgaaGreatDoorXr22
import Derived.Test.YtaikigponkjkgaaGreatDoorXr33
import Derived.Deep.RegionHeld3
import Derived.Deep.DeepCutAuto
import Derived.Great.BuildSlice
section
namespace Go.Proofs.YtaikigponkjkgaaGreatDoor
open Go.ChangeShapes Go.WideShapes Go.ChangeAt Go.RowKit
open Go.Lib (hid)
theorem qxr42a (l : List Value) (i : Nat) (v : Value) : l.toArray.setIfInBounds i v = (l.set i v).toArray := by simp
theorem qxr42b (v u : Value) (l : List Value) : (v :: l).set 0 u = u :: l := rfl
theorem qxr42c (v u : Value) (n : Nat) (l : List Value) : (v :: l).set (n + 1) u = v :: l.set n u := rfl
theorem yieldsIf_build {P : Program} {ops : Array Oper} {S : World → Prop} {op : Oper} {a : Act} (hw : Region.wanted op (yielded ops a.tmps) = true) (t : TypeId) (parts : Array (Nat × Operand)) (ho : op.op = .build t parts) (cells : Array Value)
  (hf : P.built t (parts.map fun (i, x) => (i, a.eval x)).toList = some cells) : YieldsIf P ops S op (.agg cells) a :=
 .inl ⟨hw, fun w _ => by
  unfold execOp
  simp only [ho, Sem.run_bind, run_build w t _ cells hf, Result.andThen_ok]
  rfl⟩
theorem rde_res (x : De) (A : Option Addr) (c : Nat) (B : Option Addr) (d : Nat) (W : World) (g : Nat) (h : Cels W g (deL x A c B d)) : (loadVar 59 ⟨g, 0, none⟩).run Tryz.prog W = .ok (deV x A c B d) W :=
 run_loadVar_mid W g 0 59 (deL x A c B d) _ h.range Tryz.underlying59 rfl (by rw [rde_size, deL_len])
def ToDeOwn (x : De) (B : Option Addr) (d : Nat) (w : World) (e : Ending) (w' : World) : Prop := ∃ A' c', e = .returned (deV x A' c' B d) ∧ OwnPrs w.heap.size w' A' c' x.bind.want ∧ Below w.heap.size w w'
theorem ownPrs_mono3 {C C' : Nat} {W : World} {A : Option Addr} {c : Nat} {l : List Hd.Pr} (h : OwnPrs C W A c l) (hc : C' ≤ C) : OwnPrs C' W A c l := World.ownsRow.mono h hc
theorem ownPrs_setCells3 {C : Nat} {W : World} {A : Option Addr} {c : Nat} {l : List Hd.Pr} (h : OwnPrs C W A c l) {g : Nat} (hg : ∀ a, A = some a → g ≠ a.block) (vs : List Value) (j : Nat) : OwnPrs C (W.setCells g j vs) A c l := by
 induction vs generalizing j W with
 | nil => exact h
 | cons v vs ih => exact ih (h.aside hg j v) (j + 1)
theorem below_setCells3 {B : Nat} {w W : World} (h : Below B w W) {g : Nat} (hg : B ≤ g) (vs : List Value) (j : Nat) : Below B w (W.setCells g j vs) := by
 induction vs generalizing j W with
 | nil => exact h
 | cons v vs ih => exact ih (h.setCell (p := ⟨g, j, none⟩) hg v) (j + 1)
set_option maxRecDepth 100000 in
set_option maxHeartbeats 16000000 in
theorem to22o_any (x : De) (A : Option Addr) (c : Nat) (B : Option Addr) (d : Nat) (w : World) (hl : x.bind.want.length ≤ 100000) (hc : x.bind.want.length ≤ c) (hp : Prs w A x.bind.want) :
  Calls Tryz.prog 17 #[deV x A c B d] w (ToDeOwn x B d w) := by
 have HB2 := hid (rtTwo w (.cells #[.int .u8 (x.kd : Int), .int .u64 (x.tick : Int), .string (ofL x.shop.name), .int .u8 (x.shop.sort : Int), .string (ofL x.shop.to), .string (ofL x.q.name), .int .u64 (x.q.most : Int), .int .u64 (x.q.life : Int), .string (ofL x.q.dead), .string (ofL x.bind.shop), .string (ofL x.bind.to), .bool x.bind.up, .string (ofL x.bind.key), .slice A x.bind.want.length c, .bool x.bind.all, .string (ofL x.name), .int .u64 (x.id : Int), .int .u8 (x.how : Int), .int .u8 (x.frm : Int), .int .u8 (x.cd : Int), .int .u64 (x.num : Int), .int .u64 (x.mail.id : Int), .string (ofL x.mail.shop), .string (ofL x.mail.key), .slice B x.mail.head.length d, .string (ofL x.mail.body), .int .u64 (x.mail.due : Int), .int .u8 (x.mail.hops : Int), .string (ofL x.text)] 52) (.cells #[.int .u8 0, .int .u64 0, .string ⟨#[]⟩, .int .u8 0, .string ⟨#[]⟩, .string ⟨#[]⟩, .int .u64 0, .int .u64 0, .string ⟨#[]⟩, .string ⟨#[]⟩, .string ⟨#[]⟩, .bool false, .string ⟨#[]⟩, .slice none 0 0, .bool false, .string ⟨#[]⟩, .int .u64 0, .int .u8 0, .int .u8 0, .int .u8 0, .int .u64 0, .int .u64 0, .string ⟨#[]⟩, .string ⟨#[]⟩, .slice none 0 0, .string ⟨#[]⟩, .int .u64 0, .int .u8 0, .string ⟨#[]⟩] 59))
 have HX2 := hid (rtNext (rtAt0 w #[.int .u8 (x.kd : Int), .int .u64 (x.tick : Int), .string (ofL x.shop.name), .int .u8 (x.shop.sort : Int), .string (ofL x.shop.to), .string (ofL x.q.name), .int .u64 (x.q.most : Int), .int .u64 (x.q.life : Int), .string (ofL x.q.dead), .string (ofL x.bind.shop), .string (ofL x.bind.to), .bool x.bind.up, .string (ofL x.bind.key), .slice A x.bind.want.length c, .bool x.bind.all, .string (ofL x.name), .int .u64 (x.id : Int), .int .u8 (x.how : Int), .int .u8 (x.frm : Int), .int .u8 (x.cd : Int), .int .u64 (x.num : Int), .int .u64 (x.mail.id : Int), .string (ofL x.mail.shop), .string (ofL x.mail.key), .slice B x.mail.head.length d, .string (ofL x.mail.body), .int .u64 (x.mail.due : Int), .int .u8 (x.mail.hops : Int), .string (ofL x.text)] 52) (.cells #[.int .u8 0, .int .u64 0, .string ⟨#[]⟩, .int .u8 0, .string ⟨#[]⟩, .string ⟨#[]⟩, .int .u64 0, .int .u64 0, .string ⟨#[]⟩, .string ⟨#[]⟩, .string ⟨#[]⟩, .bool false, .string ⟨#[]⟩, .slice none 0 0, .bool false, .string ⟨#[]⟩, .int .u64 0, .int .u8 0, .int .u8 0, .int .u8 0, .int .u64 0, .int .u64 0, .string ⟨#[]⟩, .string ⟨#[]⟩, .slice none 0 0, .string ⟨#[]⟩, .int .u64 0, .int .u8 0, .string ⟨#[]⟩] 59))
 have HZ := hid (rtAt1 w (.cells #[.int .u8 (x.kd : Int), .int .u64 (x.tick : Int), .string (ofL x.shop.name), .int .u8 (x.shop.sort : Int), .string (ofL x.shop.to), .string (ofL x.q.name), .int .u64 (x.q.most : Int), .int .u64 (x.q.life : Int), .string (ofL x.q.dead), .string (ofL x.bind.shop), .string (ofL x.bind.to), .bool x.bind.up, .string (ofL x.bind.key), .slice A x.bind.want.length c, .bool x.bind.all, .string (ofL x.name), .int .u64 (x.id : Int), .int .u8 (x.how : Int), .int .u8 (x.frm : Int), .int .u8 (x.cd : Int), .int .u64 (x.num : Int), .int .u64 (x.mail.id : Int), .string (ofL x.mail.shop), .string (ofL x.mail.key), .slice B x.mail.head.length d, .string (ofL x.mail.body), .int .u64 (x.mail.due : Int), .int .u8 (x.mail.hops : Int), .string (ofL x.text)] 52) #[.int .u8 0, .int .u64 0, .string ⟨#[]⟩, .int .u8 0, .string ⟨#[]⟩, .string ⟨#[]⟩, .int .u64 0, .int .u64 0, .string ⟨#[]⟩, .string ⟨#[]⟩, .string ⟨#[]⟩, .bool false, .string ⟨#[]⟩, .slice none 0 0, .bool false, .string ⟨#[]⟩, .int .u64 0, .int .u8 0, .int .u8 0, .int .u8 0, .int .u64 0, .int .u64 0, .string ⟨#[]⟩, .string ⟨#[]⟩, .slice none 0 0, .string ⟨#[]⟩, .int .u64 0, .int .u8 0, .string ⟨#[]⟩] 59)
 have HTO := hid (fun W g => to14_any x.bind A c W hl hc g)
 have HRA := hid hp
 have HBW := hid (show w.heap.size + 1 ≤ ((w.alloc (.cells #[.int .u8 (x.kd : Int), .int .u64 (x.tick : Int), .string (ofL x.shop.name), .int .u8 (x.shop.sort : Int), .string (ofL x.shop.to), .string (ofL x.q.name), .int .u64 (x.q.most : Int), .int .u64 (x.q.life : Int), .string (ofL x.q.dead), .string (ofL x.bind.shop), .string (ofL x.bind.to), .bool x.bind.up, .string (ofL x.bind.key), .slice A x.bind.want.length c, .bool x.bind.all, .string (ofL x.name), .int .u64 (x.id : Int), .int .u8 (x.how : Int), .int .u8 (x.frm : Int), .int .u8 (x.cd : Int), .int .u64 (x.num : Int), .int .u64 (x.mail.id : Int), .string (ofL x.mail.shop), .string (ofL x.mail.key), .slice B x.mail.head.length d, .string (ofL x.mail.body), .int .u64 (x.mail.due : Int), .int .u8 (x.mail.hops : Int), .string (ofL x.text)] 52)).alloc (.cells #[.int .u8 0, .int .u64 0, .string ⟨#[]⟩, .int .u8 0, .string ⟨#[]⟩, .string ⟨#[]⟩, .int .u64 0, .int .u64 0, .string ⟨#[]⟩, .string ⟨#[]⟩, .string ⟨#[]⟩, .bool false, .string ⟨#[]⟩, .slice none 0 0, .bool false, .string ⟨#[]⟩, .int .u64 0, .int .u8 0, .int .u8 0, .int .u8 0, .int .u64 0, .int .u64 0, .string ⟨#[]⟩, .string ⟨#[]⟩, .slice none 0 0, .string ⟨#[]⟩, .int .u64 0, .int .u8 0, .string ⟨#[]⟩] 59)).heap.size by simp)
 have HSZ := hid (show ((w.alloc (.cells #[.int .u8 (x.kd : Int), .int .u64 (x.tick : Int), .string (ofL x.shop.name), .int .u8 (x.shop.sort : Int), .string (ofL x.shop.to), .string (ofL x.q.name), .int .u64 (x.q.most : Int), .int .u64 (x.q.life : Int), .string (ofL x.q.dead), .string (ofL x.bind.shop), .string (ofL x.bind.to), .bool x.bind.up, .string (ofL x.bind.key), .slice A x.bind.want.length c, .bool x.bind.all, .string (ofL x.name), .int .u64 (x.id : Int), .int .u8 (x.how : Int), .int .u8 (x.frm : Int), .int .u8 (x.cd : Int), .int .u64 (x.num : Int), .int .u64 (x.mail.id : Int), .string (ofL x.mail.shop), .string (ofL x.mail.key), .slice B x.mail.head.length d, .string (ofL x.mail.body), .int .u64 (x.mail.due : Int), .int .u8 (x.mail.hops : Int), .string (ofL x.text)] 52)).alloc (.cells #[.int .u8 0, .int .u64 0, .string ⟨#[]⟩, .int .u8 0, .string ⟨#[]⟩, .string ⟨#[]⟩, .int .u64 0, .int .u64 0, .string ⟨#[]⟩, .string ⟨#[]⟩, .string ⟨#[]⟩, .bool false, .string ⟨#[]⟩, .slice none 0 0, .bool false, .string ⟨#[]⟩, .int .u64 0, .int .u8 0, .int .u8 0, .int .u8 0, .int .u64 0, .int .u64 0, .string ⟨#[]⟩, .string ⟨#[]⟩, .slice none 0 0, .string ⟨#[]⟩, .int .u64 0, .int .u8 0, .string ⟨#[]⟩] 59)).heap.size = w.heap.size + 2 by simp)
 clear hl hc hp
 simp only [deV]
 go_enter Tryz.func17, Tryz.ntmps17
 go_upto_region 1 with fail
 generalize (w.alloc (.cells #[.int .u8 (x.kd : Int), .int .u64 (x.tick : Int), .string (ofL x.shop.name), .int .u8 (x.shop.sort : Int), .string (ofL x.shop.to), .string (ofL x.q.name), .int .u64 (x.q.most : Int), .int .u64 (x.q.life : Int), .string (ofL x.q.dead), .string (ofL x.bind.shop), .string (ofL x.bind.to), .bool x.bind.up, .string (ofL x.bind.key), .slice A x.bind.want.length c, .bool x.bind.all, .string (ofL x.name), .int .u64 (x.id : Int), .int .u8 (x.how : Int), .int .u8 (x.frm : Int), .int .u8 (x.cd : Int), .int .u64 (x.num : Int), .int .u64 (x.mail.id : Int), .string (ofL x.mail.shop), .string (ofL x.mail.key), .slice B x.mail.head.length d, .string (ofL x.mail.body), .int .u64 (x.mail.due : Int), .int .u8 (x.mail.hops : Int), .string (ofL x.text)] 52)).alloc (.cells #[.int .u8 0, .int .u64 0, .string ⟨#[]⟩, .int .u8 0, .string ⟨#[]⟩, .string ⟨#[]⟩, .int .u64 0, .int .u64 0, .string ⟨#[]⟩, .string ⟨#[]⟩, .string ⟨#[]⟩, .bool false, .string ⟨#[]⟩, .slice none 0 0, .bool false, .string ⟨#[]⟩, .int .u64 0, .int .u8 0, .int .u8 0, .int .u8 0, .int .u64 0, .int .u64 0, .string ⟨#[]⟩, .string ⟨#[]⟩, .slice none 0 0, .string ⟨#[]⟩, .int .u64 0, .int .u8 0, .string ⟨#[]⟩] 59) = W2 at *
 have c0 := HX2.out.cs 0 _ rfl
 have c1 := HX2.out.cs 1 _ rfl
 have c2 := HX2.out.cs 2 _ rfl
 have c3 := HX2.out.cs 3 _ rfl
 have c4 := HX2.out.cs 4 _ rfl
 have c5 := HX2.out.cs 5 _ rfl
 have c6 := HX2.out.cs 6 _ rfl
 have c7 := HX2.out.cs 7 _ rfl
 have c8 := HX2.out.cs 8 _ rfl
 have c9 := HX2.out.cs 9 _ rfl
 have c10 := HX2.out.cs 10 _ rfl
 have c11 := HX2.out.cs 11 _ rfl
 have c12 := HX2.out.cs 12 _ rfl
 have c13 := HX2.out.cs 13 _ rfl
 have c14 := HX2.out.cs 14 _ rfl
 have c15 := HX2.out.cs 15 _ rfl
 have c16 := HX2.out.cs 16 _ rfl
 have c17 := HX2.out.cs 17 _ rfl
 have c18 := HX2.out.cs 18 _ rfl
 have c19 := HX2.out.cs 19 _ rfl
 have c20 := HX2.out.cs 20 _ rfl
 have c21 := HX2.out.cs 21 _ rfl
 have c22 := HX2.out.cs 22 _ rfl
 have c23 := HX2.out.cs 23 _ rfl
 have c24 := HX2.out.cs 24 _ rfl
 have c25 := HX2.out.cs 25 _ rfl
 have c26 := HX2.out.cs 26 _ rfl
 have c27 := HX2.out.cs 27 _ rfl
 have c28 := HX2.out.cs 28 _ rfl
 have cl := HX2.out.lt
 replace HZ := hid (rtDrew HZ.out)
 refine wp_region_held_drew (S := fun a => Below ((w.heap.size + 1)) W2 a) (by kernel_rfl) (by (try dsimp only); exact (Below.refl _ _).drew) (fun hHeld => ?_)
 refine wpAnyH_take (i := 0) (oi := ⟨some 3, _, _, _, _, _⟩) (v := ?_) rfl (by kernel_rfl) (by kernel_rfl) (by kernel_rfl) (fun _ _ _ h => h) (Or.inl ⟨by rfl, ?_⟩) (by assumption) ?_
 rotate_left 1
 ·intro wS hSw; (try dsimp only at hSw); go_simp; try with_reducible rfl
 try simp only [Act.put, qxr42a, qxr42b, qxr42c]
 refine wpAnyH_take (i := 1) (oi := ⟨some 4, _, _, _, _, _⟩) (v := ?_) rfl (by kernel_rfl) (by kernel_rfl) (by kernel_rfl) (fun _ _ _ h => h) (Or.inl ⟨by rfl, ?_⟩) (by assumption) ?_
 rotate_left 1
 ·intro wS hSw; (try dsimp only at hSw); have c0 := (hSw.cell (p := ⟨w.heap.size, 0, none⟩) (by show _ < _; simp)).trans c0; go_simp; try with_reducible rfl
 try simp only [Act.put, qxr42a, qxr42b, qxr42c]
 refine wpAnyH_take (i := 2) (oi := ⟨some 5, _, _, _, _, _⟩) (v := ?_) rfl (by kernel_rfl) (by kernel_rfl) (by kernel_rfl) (fun _ _ _ h => h) (Or.inl ⟨by rfl, ?_⟩) (by assumption) ?_
 rotate_left 1
 ·intro wS hSw; (try dsimp only at hSw); go_simp; try with_reducible rfl
 try simp only [Act.put, qxr42a, qxr42b, qxr42c]
 refine wpAnyH_take (i := 3) (oi := ⟨some 6, _, _, _, _, _⟩) (v := ?_) rfl (by kernel_rfl) (by kernel_rfl) (by kernel_rfl) (fun _ _ _ h => h) (Or.inl ⟨by rfl, ?_⟩) (by assumption) ?_
 rotate_left 1
 ·intro wS hSw; (try dsimp only at hSw); have c1 := (hSw.cell (p := ⟨w.heap.size, 1, none⟩) (by show _ < _; simp)).trans c1; go_simp; try with_reducible rfl
 try simp only [Act.put, qxr42a, qxr42b, qxr42c]
 refine wpAnyH_take (i := 4) (oi := ⟨some 7, _, _, _, _, _⟩) (v := ?_) rfl (by kernel_rfl) (by kernel_rfl) (by kernel_rfl) (fun _ _ _ h => h) (Or.inl ⟨by rfl, ?_⟩) (by assumption) ?_
 rotate_left 1
 ·intro wS hSw; (try dsimp only at hSw); go_simp; try with_reducible rfl
 try simp only [Act.put, qxr42a, qxr42b, qxr42c]
 refine wpAnyH_take (i := 5) (oi := ⟨some 8, _, _, _, _, _⟩) (v := ?_) rfl (by kernel_rfl) (by kernel_rfl) (by kernel_rfl) (fun _ _ _ h => h) (Or.inl ⟨by rfl, ?_⟩) (by assumption) ?_
 rotate_left 1
 ·intro wS hSw; (try dsimp only at hSw); have c2 := (hSw.cell (p := ⟨w.heap.size, 2, none⟩) (by show _ < _; simp)).trans c2; have c3 := (hSw.cell (p := ⟨w.heap.size, 3, none⟩) (by show _ < _; simp)).trans c3; have c4 := (hSw.cell (p := ⟨w.heap.size, 4, none⟩) (by show _ < _; simp)).trans c4; go_simp; try with_reducible rfl
 try simp only [Act.put, qxr42a, qxr42b, qxr42c]
 refine wpAnyH_take (i := 6) (oi := ⟨some 9, _, _, _, _, _⟩) (v := ?_) rfl (by kernel_rfl) (by kernel_rfl) (by kernel_rfl) (fun _ _ _ h => h) (Or.inl ⟨by rfl, ?_⟩) (by assumption) ?_
 rotate_left 1
 ·intro wS hSw; (try dsimp only at hSw); go_simp; try with_reducible rfl
 try simp only [Act.put, qxr42a, qxr42b, qxr42c]
 refine wpAnyH_take (i := 7) (oi := ⟨some 10, _, _, _, _, _⟩) (v := ?_) rfl (by kernel_rfl) (by kernel_rfl) (by kernel_rfl) (fun _ _ _ h => h) (Or.inl ⟨by rfl, ?_⟩) (by assumption) ?_
 rotate_left 1
 ·intro wS hSw; (try dsimp only at hSw); have c5 := (hSw.cell (p := ⟨w.heap.size, 5, none⟩) (by show _ < _; simp)).trans c5; have c6 := (hSw.cell (p := ⟨w.heap.size, 6, none⟩) (by show _ < _; simp)).trans c6; have c7 := (hSw.cell (p := ⟨w.heap.size, 7, none⟩) (by show _ < _; simp)).trans c7; have c8 := (hSw.cell (p := ⟨w.heap.size, 8, none⟩) (by show _ < _; simp)).trans c8; go_simp; try with_reducible rfl
 try simp only [Act.put, qxr42a, qxr42b, qxr42c]
 refine wpAnyH_take (i := 8) (oi := ⟨some 11, _, _, _, _, _⟩) (v := ?_) rfl (by kernel_rfl) (by kernel_rfl) (by kernel_rfl) (fun _ _ _ h => h) (Or.inl ⟨by rfl, ?_⟩) (by assumption) ?_
 rotate_left 1
 ·intro wS hSw; (try dsimp only at hSw); go_simp; try with_reducible rfl
 try simp only [Act.put, qxr42a, qxr42b, qxr42c]
 refine wpAnyH_take (i := 9) (oi := ⟨some 12, _, _, _, _, _⟩) (v := ?_) rfl (by kernel_rfl) (by kernel_rfl) (by kernel_rfl) (fun _ _ _ h => h) (Or.inl ⟨by rfl, ?_⟩) (by assumption) ?_
 rotate_left 1
 ·intro wS hSw; (try dsimp only at hSw); have c9 := (hSw.cell (p := ⟨w.heap.size, 9, none⟩) (by show _ < _; simp)).trans c9; have c10 := (hSw.cell (p := ⟨w.heap.size, 10, none⟩) (by show _ < _; simp)).trans c10; have c11 := (hSw.cell (p := ⟨w.heap.size, 11, none⟩) (by show _ < _; simp)).trans c11; have c12 := (hSw.cell (p := ⟨w.heap.size, 12, none⟩) (by show _ < _; simp)).trans c12; have c13 := (hSw.cell (p := ⟨w.heap.size, 13, none⟩) (by show _ < _; simp)).trans c13; have c14 := (hSw.cell (p := ⟨w.heap.size, 14, none⟩) (by show _ < _; simp)).trans c14; go_simp; try with_reducible rfl
 try simp only [Act.put, qxr42a, qxr42b, qxr42c]
 refine wpAnyH_take (i := 11) (oi := ⟨some 14, _, _, _, _, _⟩) (v := ?_) rfl (by kernel_rfl) (by kernel_rfl) (by kernel_rfl) (fun _ _ _ h => h) (Or.inl ⟨by rfl, ?_⟩) (by assumption) ?_
 rotate_left 1
 ·intro wS hSw; (try dsimp only at hSw); go_simp; try with_reducible rfl
 try simp only [Act.put, qxr42a, qxr42b, qxr42c]
 refine wpAnyH_take (i := 12) (oi := ⟨some 15, _, _, _, _, _⟩) (v := ?_) rfl (by kernel_rfl) (by kernel_rfl) (by kernel_rfl) (fun _ _ _ h => h) (Or.inl ⟨by rfl, ?_⟩) (by assumption) ?_
 rotate_left 1
 ·intro wS hSw; (try dsimp only at hSw); have c15 := (hSw.cell (p := ⟨w.heap.size, 15, none⟩) (by show _ < _; simp)).trans c15; go_simp; try with_reducible rfl
 try simp only [Act.put, qxr42a, qxr42b, qxr42c]
 refine wpAnyH_take (i := 13) (oi := ⟨some 16, _, _, _, _, _⟩) (v := ?_) rfl (by kernel_rfl) (by kernel_rfl) (by kernel_rfl) (fun _ _ _ h => h) (Or.inl ⟨by rfl, ?_⟩) (by assumption) ?_
 rotate_left 1
 ·intro wS hSw; (try dsimp only at hSw); go_simp; try with_reducible rfl
 try simp only [Act.put, qxr42a, qxr42b, qxr42c]
 refine wpAnyH_take (i := 14) (oi := ⟨some 17, _, _, _, _, _⟩) (v := ?_) rfl (by kernel_rfl) (by kernel_rfl) (by kernel_rfl) (fun _ _ _ h => h) (Or.inl ⟨by rfl, ?_⟩) (by assumption) ?_
 rotate_left 1
 ·intro wS hSw; (try dsimp only at hSw); have c16 := (hSw.cell (p := ⟨w.heap.size, 16, none⟩) (by show _ < _; simp)).trans c16; go_simp; try with_reducible rfl
 try simp only [Act.put, qxr42a, qxr42b, qxr42c]
 refine wpAnyH_take (i := 15) (oi := ⟨some 18, _, _, _, _, _⟩) (v := ?_) rfl (by kernel_rfl) (by kernel_rfl) (by kernel_rfl) (fun _ _ _ h => h) (Or.inl ⟨by rfl, ?_⟩) (by assumption) ?_
 rotate_left 1
 ·intro wS hSw; (try dsimp only at hSw); go_simp; try with_reducible rfl
 try simp only [Act.put, qxr42a, qxr42b, qxr42c]
 refine wpAnyH_take (i := 16) (oi := ⟨some 19, _, _, _, _, _⟩) (v := ?_) rfl (by kernel_rfl) (by kernel_rfl) (by kernel_rfl) (fun _ _ _ h => h) (Or.inl ⟨by rfl, ?_⟩) (by assumption) ?_
 rotate_left 1
 ·intro wS hSw; (try dsimp only at hSw); have c17 := (hSw.cell (p := ⟨w.heap.size, 17, none⟩) (by show _ < _; simp)).trans c17; go_simp; try with_reducible rfl
 try simp only [Act.put, qxr42a, qxr42b, qxr42c]
 refine wpAnyH_take (i := 17) (oi := ⟨some 20, _, _, _, _, _⟩) (v := ?_) rfl (by kernel_rfl) (by kernel_rfl) (by kernel_rfl) (fun _ _ _ h => h) (Or.inl ⟨by rfl, ?_⟩) (by assumption) ?_
 rotate_left 1
 ·intro wS hSw; (try dsimp only at hSw); go_simp; try with_reducible rfl
 try simp only [Act.put, qxr42a, qxr42b, qxr42c]
 refine wpAnyH_take (i := 18) (oi := ⟨some 21, _, _, _, _, _⟩) (v := ?_) rfl (by kernel_rfl) (by kernel_rfl) (by kernel_rfl) (fun _ _ _ h => h) (Or.inl ⟨by rfl, ?_⟩) (by assumption) ?_
 rotate_left 1
 ·intro wS hSw; (try dsimp only at hSw); have c18 := (hSw.cell (p := ⟨w.heap.size, 18, none⟩) (by show _ < _; simp)).trans c18; go_simp; try with_reducible rfl
 try simp only [Act.put, qxr42a, qxr42b, qxr42c]
 refine wpAnyH_take (i := 19) (oi := ⟨some 22, _, _, _, _, _⟩) (v := ?_) rfl (by kernel_rfl) (by kernel_rfl) (by kernel_rfl) (fun _ _ _ h => h) (Or.inl ⟨by rfl, ?_⟩) (by assumption) ?_
 rotate_left 1
 ·intro wS hSw; (try dsimp only at hSw); go_simp; try with_reducible rfl
 try simp only [Act.put, qxr42a, qxr42b, qxr42c]
 refine wpAnyH_take (i := 20) (oi := ⟨some 23, _, _, _, _, _⟩) (v := ?_) rfl (by kernel_rfl) (by kernel_rfl) (by kernel_rfl) (fun _ _ _ h => h) (Or.inl ⟨by rfl, ?_⟩) (by assumption) ?_
 rotate_left 1
 ·intro wS hSw; (try dsimp only at hSw); have c19 := (hSw.cell (p := ⟨w.heap.size, 19, none⟩) (by show _ < _; simp)).trans c19; go_simp; try with_reducible rfl
 try simp only [Act.put, qxr42a, qxr42b, qxr42c]
 refine wpAnyH_take (i := 21) (oi := ⟨some 24, _, _, _, _, _⟩) (v := ?_) rfl (by kernel_rfl) (by kernel_rfl) (by kernel_rfl) (fun _ _ _ h => h) (Or.inl ⟨by rfl, ?_⟩) (by assumption) ?_
 rotate_left 1
 ·intro wS hSw; (try dsimp only at hSw); go_simp; try with_reducible rfl
 try simp only [Act.put, qxr42a, qxr42b, qxr42c]
 refine wpAnyH_take (i := 22) (oi := ⟨some 25, _, _, _, _, _⟩) (v := ?_) rfl (by kernel_rfl) (by kernel_rfl) (by kernel_rfl) (fun _ _ _ h => h) (Or.inl ⟨by rfl, ?_⟩) (by assumption) ?_
 rotate_left 1
 ·intro wS hSw; (try dsimp only at hSw); have c20 := (hSw.cell (p := ⟨w.heap.size, 20, none⟩) (by show _ < _; simp)).trans c20; go_simp; try with_reducible rfl
 try simp only [Act.put, qxr42a, qxr42b, qxr42c]
 refine wpAnyH_take (i := 23) (oi := ⟨some 26, _, _, _, _, _⟩) (v := ?_) rfl (by kernel_rfl) (by kernel_rfl) (by kernel_rfl) (fun _ _ _ h => h) (Or.inl ⟨by rfl, ?_⟩) (by assumption) ?_
 rotate_left 1
 ·intro wS hSw; (try dsimp only at hSw); go_simp; try with_reducible rfl
 try simp only [Act.put, qxr42a, qxr42b, qxr42c]
 refine wpAnyH_take (i := 24) (oi := ⟨some 27, _, _, _, _, _⟩) (v := ?_) rfl (by kernel_rfl) (by kernel_rfl) (by kernel_rfl) (fun _ _ _ h => h) (Or.inl ⟨by rfl, ?_⟩) (by assumption) ?_
 rotate_left 1
 ·intro wS hSw; (try dsimp only at hSw); have c21 := (hSw.cell (p := ⟨w.heap.size, 21, none⟩) (by show _ < _; simp)).trans c21; have c22 := (hSw.cell (p := ⟨w.heap.size, 22, none⟩) (by show _ < _; simp)).trans c22; have c23 := (hSw.cell (p := ⟨w.heap.size, 23, none⟩) (by show _ < _; simp)).trans c23; have c24 := (hSw.cell (p := ⟨w.heap.size, 24, none⟩) (by show _ < _; simp)).trans c24; have c25 := (hSw.cell (p := ⟨w.heap.size, 25, none⟩) (by show _ < _; simp)).trans c25; have c26 := (hSw.cell (p := ⟨w.heap.size, 26, none⟩) (by show _ < _; simp)).trans c26; have c27 := (hSw.cell (p := ⟨w.heap.size, 27, none⟩) (by show _ < _; simp)).trans c27; go_simp; try with_reducible rfl
 try simp only [Act.put, qxr42a, qxr42b, qxr42c]
 refine wpAnyH_take (i := 25) (oi := ⟨some 28, _, _, _, _, _⟩) (v := ?_) rfl (by kernel_rfl) (by kernel_rfl) (by kernel_rfl) (fun _ _ _ h => h) (Or.inl ⟨by rfl, ?_⟩) (by assumption) ?_
 rotate_left 1
 ·intro wS hSw; (try dsimp only at hSw); go_simp; try with_reducible rfl
 try simp only [Act.put, qxr42a, qxr42b, qxr42c]
 refine wpAnyH_take (i := 26) (oi := ⟨some 29, _, _, _, _, _⟩) (v := ?_) rfl (by kernel_rfl) (by kernel_rfl) (by kernel_rfl) (fun _ _ _ h => h) (Or.inl ⟨by rfl, ?_⟩) (by assumption) ?_
 rotate_left 1
 ·intro wS hSw; (try dsimp only at hSw); have c28 := (hSw.cell (p := ⟨w.heap.size, 28, none⟩) (by show _ < _; simp)).trans c28; go_simp; try with_reducible rfl
 try simp only [Act.put, qxr42a, qxr42b, qxr42c]
 refine wpAnyH_ready (rs := [10]) (by kernel_rfl) (by simp) ?_
 refine AllReadyH.cons (o := ⟨some 13, _, _, _, _, _⟩) rfl (fun K hK => ?_) (AllReadyH.nil)
 go_simp
 go_at_call 42
 refine (HTO.out _ (HRA.out.on (HB2.out.trans (hHeld.mono (Nat.le_succ _))))).mono ?_
 rintro e wx ⟨A5, c5, rfl, ho5, hb2⟩
 have hrw5 := OwnPrs.row ho5
 have HRW := hid hrw5
 have HOW := hid ho5
 clear hrw5 ho5
 have HSZ5 := hid hHeld.size
 replace HZ := hid (HZ.out.on hb2)
 refine hK.out _ _ (hHeld.trans (hb2.mono (Nat.le_trans HBW.out hHeld.size))) (fun hHeld2 => ?_)
 clear hK K hHeld hb2
 have hHeld := hHeld2
 clear hHeld2
 try simp only [Act.put, qxr42a, qxr42b, qxr42c]
 refine wpAnyH_take (i := 27) (oi := ⟨some 30, _, _, _, _, _⟩) (v := .agg (deL x A5 c5 B d).toArray) rfl (by kernel_rfl) (by kernel_rfl) (by kernel_rfl) (fun _ _ _ h => h) (yieldsIf_build (by rfl) 59 _ (by rfl) (deL x A5 c5 B d).toArray (by kernel_rfl)) (by assumption) ?_
 try simp only [Act.put, qxr42a, qxr42b, qxr42c]
 refine wpAnyH_ready (rs := [28]) (by kernel_rfl) (by simp) ?_
 refine AllReadyH.cons (o := ⟨none, _, _, _, _, _⟩) rfl (fun K hK => ?_) (AllReadyH.nil)
 rw [if_pos (by rfl)]
 refine wp_store_mid 59 _ _ (by rfl) (w.heap.size + 1) 0 (deL x A5 c5 B d).toArray (by rfl) (by rfl) HZ.out.there (by rw [rde_size]; rfl) (de_all _ _ _ _ _) ?_
 refine hK.out _ _ ?_ (fun hHeld2 => ?_)
 ·(try dsimp only); exact below_setCells3 hHeld (Nat.le_refl _) _ _
 clear hK K hHeld
 have hHeld := hHeld2
 clear hHeld2
 try simp only [Act.put]
 refine wpAnyH_done (by kernel_rfl) ?_ _
 have hZ := hHeld
 clear hHeld
 have HBW2 := hid (HB2.out.trans (hZ.mono (Nat.le_succ _)))
 clear hZ
 go_wp2_with fail
 have HR := HZ.out.over (deL x A5 c5 B d) rfl
 exact bodyPost_ret (v := deV x A5 c5 B d) (by simp [results, Tryz.results17, asAddr]; exact rde_res _ _ _ _ _ _ _ HR.cs) rfl ⟨A5, c5, rfl, ownPrs_setCells3 (ownPrs_mono3 HOW.out (by have q2 := HSZ5.out; have q3 := HSZ.out; have q4 : W2.drew.heap.size = W2.heap.size := rfl; omega)) (fun a ha e => by have q1 := (HRW.out.2.2 a ha).1; have q2 := HSZ5.out; have q3 := HSZ.out; have q4 : W2.drew.heap.size = W2.heap.size := rfl; omega) _ _, HBW2.out⟩
end Go.Proofs.YtaikigponkjkgaaGreatDoor
end
