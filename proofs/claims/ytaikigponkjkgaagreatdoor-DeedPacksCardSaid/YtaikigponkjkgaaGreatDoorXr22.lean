/-
 A part of the proof.
-/
import Derived.Test.YtaikigponkjkgaaGreatDoorXr21
import Derived.Deep.MidRow
import Derived.Deep.WholeRow
import Derived.Lib.BufferRead
section
namespace Go.Proofs.YtaikigponkjkgaaGreatDoor
open Go.ChangeShapes Go.WideShapes Go.ChangeAt Go.RowKit
open Go.Lib (hid)
theorem qxr22a (l : List Value) (i : Nat) (v : Value) : l.toArray.setIfInBounds i v = (l.set i v).toArray := by simp
theorem qxr22b (v u : Value) (l : List Value) : (v :: l).set 0 u = u :: l := rfl
theorem qxr22c (v u : Value) (n : Nat) (l : List Value) : (v :: l).set (n + 1) u = v :: l.set n u := rfl
structure WbS (w : World) (x : Bd) (A : Option Addr) (c : Nat) (s t : ByteArray) (W : World) : Prop where
 o : BoxC w w.heap.size [.string s, .int .i64 0] W
 p : BoxC w (w.heap.size + 1) [.string (ofL x.shop), .string (ofL x.to), .bool x.up, .string (ofL x.key), .slice A x.want.length c, .bool x.all] W
 r : BoxC w (w.heap.size + 2) [.string t, .int .i64 0] W
 B : Below w.heap.size w W
theorem WbS.on {w : World} {x : Bd} {A : Option Addr} {c : Nat} {s t : ByteArray} {W W' : World} (h : WbS w x A c s t W) (hb : Below W.heap.size W W') : WbS w x A c s t W' := ⟨h.o.on hb, h.p.on hb, h.r.on hb, bthen h.B hb (Nat.le_refl _)⟩
def WbE (w : World) (x : Bd) (A : Option Addr) (c : Nat) (W : World) : Prop := ∃ s t, WbS w x A c s t W
theorem WbE.on {w : World} {x : Bd} {A : Option Addr} {c : Nat} {W W' : World} (h : WbE w x A c W) (hb : Below W.heap.size W W') : WbE w x A c W' := by
 obtain ⟨s, t, h⟩ := h
 exact ⟨s, t, h.on hb⟩
theorem WbS.puto {w : World} {x : Bd} {A : Option Addr} {c : Nat} {s t : ByteArray} {W : World} (h : WbS w x A c s t W) (y : ByteArray) : WbS w x A c y t ((W.setCell ⟨w.heap.size, 0, none⟩ (.string y)).setCell ⟨w.heap.size, 1, none⟩ (.int .i64 0)) :=
 ⟨(h.o.put 0 (.string y) (by simp)).put 1 (.int .i64 0) (by simp), (h.p.aside (by omega) 0 _).aside (by omega) 1 _, (h.r.aside (by omega) 0 _).aside (by omega) 1 _, (h.B.setCell (p := ⟨w.heap.size, 0, none⟩) (Nat.le_refl _) _).setCell (p := ⟨w.heap.size, 1, none⟩) (Nat.le_refl _) _⟩
theorem WbS.putr {w : World} {x : Bd} {A : Option Addr} {c : Nat} {s t : ByteArray} {W : World} (h : WbS w x A c s t W) (y : ByteArray) : WbS w x A c s y ((W.setCell ⟨w.heap.size + 2, 0, none⟩ (.string y)).setCell ⟨w.heap.size + 2, 1, none⟩ (.int .i64 0)) :=
 ⟨(h.o.aside (by omega) 0 _).aside (by omega) 1 _, (h.p.aside (by omega) 0 _).aside (by omega) 1 _, (h.r.put 0 (.string y) (by simp)).put 1 (.int .i64 0) (by simp), (h.B.setCell (p := ⟨w.heap.size + 2, 0, none⟩) (by show w.heap.size ≤ w.heap.size + 2; omega) _).setCell (p := ⟨w.heap.size + 2, 1, none⟩) (by show w.heap.size ≤ w.heap.size + 2; omega) _⟩
def bdE (x : Bd) (y : List UInt8) : List UInt8 := y ++ (Oct.be 2 x.shop.length ++ x.shop) ++ (Oct.be 2 x.to.length ++ x.to) ++ Oct.be 1 (bitN x.up) ++ (Oct.be 2 x.key.length ++ x.key) ++ Hd.henc x.want ++ Oct.be 1 (bitN x.all)
set_option maxRecDepth 100000 in
set_option maxHeartbeats 8000000 in
theorem ddwBind_any (y : List UInt8) (x : Bd) (A : Option Addr) (c : Nat) (w : World) (h : BdOk w x A c) (h1 : x.shop.length ≤ 16) (h2 : x.to.length ≤ 16) (h3 : x.key.length ≤ 64) (h4 : Hd.hcode x.want = 0) (hy : y.length ≤ 100) : Calls Tryz.prog 36 #[.agg #[.string (ofL y), .int .i64 0], bdV x A c] w fun e w' => e = .returned (.agg #[.string (ofL (bdE x y)), .int .i64 0]) ∧ Below w.heap.size w w' := by
 have l3 : (Hd.henc x.want).length ≤ 1000 := by have := (hfine_of h4).pre x.want.length; rw [hpre_all (Nat.le_refl _)] at this; exact this
 have HHB := hid (fun W (g : Prs W A x.want) => hbytes_any x.want A c W h.len h.cap h.lite g)
 rw [show hbytesV x.want = .tuple #[.string (ofL (Hd.henc x.want)), .int .i64 0] by unfold hbytesV; rw [if_pos h4]] at HHB
 have HE : Hid (bdE x y = y ++ (Oct.be 2 x.shop.length ++ x.shop) ++ (Oct.be 2 x.to.length ++ x.to) ++ Oct.be 1 (bitN x.up) ++ (Oct.be 2 x.key.length ++ x.key) ++ Hd.henc x.want ++ Oct.be 1 (bitN x.all)) := rfl
 obtain ⟨y1, hy1⟩ : ∃ z, y ++ (Oct.be 2 x.shop.length ++ x.shop) = z := ⟨_, rfl⟩
 obtain ⟨y2, hy2⟩ : ∃ z, y1 ++ (Oct.be 2 x.to.length ++ x.to) = z := ⟨_, rfl⟩
 obtain ⟨y3, hy3⟩ : ∃ z, y2 ++ Oct.be 1 (bitN x.up) = z := ⟨_, rfl⟩
 obtain ⟨y4, hy4⟩ : ∃ z, y3 ++ (Oct.be 2 x.key.length ++ x.key) = z := ⟨_, rfl⟩
 obtain ⟨y5, hy5⟩ : ∃ z, y4 ++ Hd.henc x.want = z := ⟨_, rfl⟩
 obtain ⟨y6, hy6⟩ : ∃ z, y5 ++ Oct.be 1 (bitN x.all) = z := ⟨_, rfl⟩
 have z1 : y1.length ≤ 200 := by rw [← hy1]; simp only [List.length_append, Oct.length_be]; omega
 have z2 : y2.length ≤ 300 := by rw [← hy2]; simp only [List.length_append, Oct.length_be]; omega
 have z3 : y3.length ≤ 400 := by rw [← hy3]; simp only [List.length_append, Oct.length_be]; omega
 have z4 : y4.length ≤ 600 := by rw [← hy4]; simp only [List.length_append, Oct.length_be]; omega
 have z5 : y5.length ≤ 2000 := by rw [← hy5]; simp only [List.length_append]; omega
 rw [hy1, hy2, hy3, hy4, hy5, hy6] at HE
 have HT1 := hid (fun W => text_l y x.shop W (by omega) (by omega))
 rw [hy1] at HT1
 have HT2 := hid (fun W => text_l y1 x.to W (by omega) (by omega))
 rw [hy2] at HT2
 have HT3 := hid (fun W => ddYes_any y2 x.up W (by omega))
 rw [hy3] at HT3
 have HT4 := hid (fun W => text_l y3 x.key W (by omega) (by omega))
 rw [hy4] at HT4
 have HT5 := hid (fun W => raw_l y4 (Hd.henc x.want) W (by omega) (by omega))
 rw [hy5] at HT5
 have HT6 := hid (fun W => ddYes_any y5 x.all W (by omega))
 rw [hy6] at HT6
 have hD3 : WbS w x A c (ofL y) ⟨#[]⟩ (((w.alloc (.cells #[.string (ofL y), .int .i64 0] 70)).alloc (.cells #[.string (ofL x.shop), .string (ofL x.to), .bool x.up, .string (ofL x.key), .slice A x.want.length c, .bool x.all] 48)).alloc (.cells #[.string ⟨#[]⟩, .int .i64 0] 70)) := ⟨rtNext (rtNext (rtAt0 w #[.string (ofL y), .int .i64 0] 70) _) _, rtNext (rtAt1 w _ #[.string (ofL x.shop), .string (ofL x.to), .bool x.up, .string (ofL x.key), .slice A x.want.length c, .bool x.all] 48) _, rtAt2 w _ _ #[.string ⟨#[]⟩, .int .i64 0] 70, rtThree w _ _ _⟩
 have HD3 := hid hD3
 have HROW := hid (h.row.on hD3.B)
 clear hD3 h hy h1 h2 h3 h4 hy1 hy2 hy3 hy4 hy5 hy6 z1 z2 z3 z4 z5 l3
 generalize Hd.henc x.want = EH at *
 generalize bdE x y = YY at *
 simp only [bdV]
 go_enter Tryz.func36, Tryz.ntmps36
 go_upto_region 1 with fail
 generalize ((w.alloc (.cells #[.string (ofL y), .int .i64 0] 70)).alloc (.cells #[.string (ofL x.shop), .string (ofL x.to), .bool x.up, .string (ofL x.key), .slice A x.want.length c, .bool x.all] 48)).alloc (.cells #[.string ⟨#[]⟩, .int .i64 0] 70) = W3 at *
 have c4 := HD3.out.p.cs 4 _ rfl
 have cl := HD3.out.p.lt
 go_wp2_with fail
 refine (HHB.out _ HROW.out).mono ?_
 rintro e w4 ⟨rfl, b4⟩
 have HD4 := hid (HD3.out.on b4)
 clear b4 c4 cl HD3
 go_upto_region 2 with fail
 refine wp_region_held_drew (S := WbE w x A c) (by kernel_rfl) (by (try dsimp only); exact ⟨_, _, HD4.out.on (Below.refl _ _).drew⟩) (fun hHeld => ?_)
 have HDc := hid (HD4.out.on (Below.refl _ _).drew)
 refine wpAnyH_take (i := 1) (oi := ⟨some 14, _, _, _, _, _⟩) (v := ?_) rfl (by kernel_rfl) (by kernel_rfl) (by kernel_rfl) (fun _ _ _ h => h) (Or.inl ⟨by rfl, ?_⟩) (by assumption) ?_
 rotate_left 1
 ·intro wS hSw; (try dsimp only at hSw); go_simp; try with_reducible rfl
 try simp only [Act.put, qxr22a, qxr22b, qxr22c]
 refine wpAnyH_take (i := 2) (oi := ⟨some 15, _, _, _, _, _⟩) (v := ?_) rfl (by kernel_rfl) (by kernel_rfl) (by kernel_rfl) (fun _ _ _ h => h) (Or.inl ⟨by rfl, ?_⟩) (by assumption) ?_
 rotate_left 1
 ·intro wS hSw; (try dsimp only at hSw); obtain ⟨s9, t9, hS9⟩ := hSw; have c0 := hS9.p.cs 0 _ rfl; have cl := hS9.p.lt; go_simp; try with_reducible rfl
 try simp only [Act.put, qxr22a, qxr22b, qxr22c]
 refine wpAnyH_take (i := 4) (oi := ⟨some 17, _, _, _, _, _⟩) (v := ?_) rfl (by kernel_rfl) (by kernel_rfl) (by kernel_rfl) (fun _ _ _ h => h) (Or.inl ⟨by rfl, ?_⟩) (by assumption) ?_
 rotate_left 1
 ·intro wS hSw; (try dsimp only at hSw); go_simp; try with_reducible rfl
 try simp only [Act.put, qxr22a, qxr22b, qxr22c]
 refine wpAnyH_take (i := 5) (oi := ⟨some 18, _, _, _, _, _⟩) (v := ?_) rfl (by kernel_rfl) (by kernel_rfl) (by kernel_rfl) (fun _ _ _ h => h) (Or.inl ⟨by rfl, ?_⟩) (by assumption) ?_
 rotate_left 1
 ·intro wS hSw; (try dsimp only at hSw); obtain ⟨s9, t9, hS9⟩ := hSw; have c1 := hS9.p.cs 1 _ rfl; have cl := hS9.p.lt; go_simp; try with_reducible rfl
 try simp only [Act.put, qxr22a, qxr22b, qxr22c]
 refine wpAnyH_take (i := 7) (oi := ⟨some 20, _, _, _, _, _⟩) (v := ?_) rfl (by kernel_rfl) (by kernel_rfl) (by kernel_rfl) (fun _ _ _ h => h) (Or.inl ⟨by rfl, ?_⟩) (by assumption) ?_
 rotate_left 1
 ·intro wS hSw; (try dsimp only at hSw); go_simp; try with_reducible rfl
 try simp only [Act.put, qxr22a, qxr22b, qxr22c]
 refine wpAnyH_take (i := 8) (oi := ⟨some 21, _, _, _, _, _⟩) (v := ?_) rfl (by kernel_rfl) (by kernel_rfl) (by kernel_rfl) (fun _ _ _ h => h) (Or.inl ⟨by rfl, ?_⟩) (by assumption) ?_
 rotate_left 1
 ·intro wS hSw; (try dsimp only at hSw); obtain ⟨s9, t9, hS9⟩ := hSw; have c2 := hS9.p.cs 2 _ rfl; have cl := hS9.p.lt; go_simp; try with_reducible rfl
 try simp only [Act.put, qxr22a, qxr22b, qxr22c]
 refine wpAnyH_ready (rs := [0]) (by kernel_rfl) (by simp) ?_
 refine AllReadyH.cons (o := ⟨some 13, _, _, _, _, _⟩) rfl (fun K hK => ?_) (AllReadyH.nil)
 have d0 := HDc.out.o.cs 0 _ rfl
 have d1 := HDc.out.o.cs 1 _ rfl
 go_simp
 refine hK.out _ _ (by (try dsimp only); exact hHeld) (fun hHeld2 => ?_)
 clear d0 d1
 clear hK K hHeld
 have hHeld := hHeld2
 clear hHeld2
 try simp only [Act.put, qxr22a, qxr22b, qxr22c]
 refine wpAnyH_ready (rs := [3]) (by kernel_rfl) (by simp) ?_
 refine AllReadyH.cons (o := ⟨some 16, _, _, _, _, _⟩) rfl (fun K hK => ?_) (AllReadyH.nil)
 go_simp
 go_at_call 35
 refine (HT1.out _).mono ?_
 rintro e wx ⟨rfl, hb2⟩
 replace HDc := hid (HDc.out.on hb2)
 refine hK.out _ _ (WbE.on hHeld hb2) (fun hHeld2 => ?_)
 clear hb2
 clear hK K hHeld
 have hHeld := hHeld2
 clear hHeld2
 try simp only [Act.put, qxr22a, qxr22b, qxr22c]
 refine wpAnyH_ready (rs := [6]) (by kernel_rfl) (by simp) ?_
 refine AllReadyH.cons (o := ⟨some 19, _, _, _, _, _⟩) rfl (fun K hK => ?_) (AllReadyH.nil)
 go_simp
 go_at_call 35
 refine (HT2.out _).mono ?_
 rintro e wx ⟨rfl, hb2⟩
 replace HDc := hid (HDc.out.on hb2)
 refine hK.out _ _ (WbE.on hHeld hb2) (fun hHeld2 => ?_)
 clear hb2
 clear hK K hHeld
 have hHeld := hHeld2
 clear hHeld2
 try simp only [Act.put, qxr22a, qxr22b, qxr22c]
 refine wpAnyH_ready (rs := [9]) (by kernel_rfl) (by simp) ?_
 refine AllReadyH.cons (o := ⟨some 22, _, _, _, _, _⟩) rfl (fun K hK => ?_) (AllReadyH.nil)
 go_simp
 go_at_call 81
 refine (HT3.out _).mono ?_
 rintro e wx ⟨rfl, hb2⟩
 replace HDc := hid (HDc.out.on hb2)
 refine hK.out _ _ (WbE.on hHeld hb2) (fun hHeld2 => ?_)
 clear hb2
 clear hK K hHeld
 have hHeld := hHeld2
 clear hHeld2
 try simp only [Act.put, qxr22a, qxr22b, qxr22c]
 refine wpAnyH_ready (rs := [10]) (by kernel_rfl) (by simp) ?_
 refine AllReadyH.cons (o := ⟨none, _, _, _, _, _⟩) rfl (fun K hK => ?_) (AllReadyH.nil)
 have n0 := HDc.out.o.cs 0 _ rfl
 have n1 := HDc.out.o.cs 1 _ rfl
 have nf := HDc.out.o.s
 have nl := HDc.out.o.lt
 unfold Soft at nf
 go_simp
 refine hK.out _ _ (by (try dsimp only); exact ⟨_, _, HDc.out.puto _⟩) (fun hHeld2 => ?_)
 clear n0 n1 nf nl
 clear hK K hHeld
 have hHeld := hHeld2
 clear hHeld2
 try simp only [Act.put, qxr22a, qxr22b, qxr22c]
 refine wpAnyH_done (by kernel_rfl) ?_ _
 clear hHeld
 have HD5 := hid (HDc.out.puto (ofL y3))
 clear HDc HD4
 generalize (wx.setCell ⟨w.heap.size, 0, none⟩ (.string (ofL y3))).setCell ⟨w.heap.size, 1, none⟩ (.int .i64 0) = W5 at *
 go_upto_region 3 with fail
 refine wp_region_held_drew (S := WbE w x A c) (by kernel_rfl) (by (try dsimp only); exact ⟨_, _, HD5.out.on (Below.refl _ _).drew⟩) (fun hHeld => ?_)
 have HDc := hid (HD5.out.on (Below.refl _ _).drew)
 refine wpAnyH_take (i := 1) (oi := ⟨some 24, _, _, _, _, _⟩) (v := ?_) rfl (by kernel_rfl) (by kernel_rfl) (by kernel_rfl) (fun _ _ _ h => h) (Or.inl ⟨by rfl, ?_⟩) (by assumption) ?_
 rotate_left 1
 ·intro wS hSw; (try dsimp only at hSw); go_simp; try with_reducible rfl
 try simp only [Act.put, qxr22a, qxr22b, qxr22c]
 refine wpAnyH_take (i := 2) (oi := ⟨some 25, _, _, _, _, _⟩) (v := ?_) rfl (by kernel_rfl) (by kernel_rfl) (by kernel_rfl) (fun _ _ _ h => h) (Or.inl ⟨by rfl, ?_⟩) (by assumption) ?_
 rotate_left 1
 ·intro wS hSw; (try dsimp only at hSw); obtain ⟨s9, t9, hS9⟩ := hSw; have c3 := hS9.p.cs 3 _ rfl; have cl := hS9.p.lt; go_simp; try with_reducible rfl
 try simp only [Act.put, qxr22a, qxr22b, qxr22c]
 refine wpAnyH_take (i := 4) (oi := ⟨some 27, _, _, _, _, _⟩) (v := ?_) rfl (by kernel_rfl) (by kernel_rfl) (by kernel_rfl) (fun _ _ _ h => h) (Or.inl ⟨by rfl, ?_⟩) (by assumption) ?_
 rotate_left 1
 ·intro wS hSw; (try dsimp only at hSw); go_simp; try with_reducible rfl
 try simp only [Act.put, qxr22a, qxr22b, qxr22c]
 refine wpAnyH_take (i := 6) (oi := ⟨some 29, _, _, _, _, _⟩) (v := ?_) rfl (by kernel_rfl) (by kernel_rfl) (by kernel_rfl) (fun _ _ _ h => h) (Or.inl ⟨by rfl, ?_⟩) (by assumption) ?_
 rotate_left 1
 ·intro wS hSw; (try dsimp only at hSw); go_simp; try with_reducible rfl
 try simp only [Act.put, qxr22a, qxr22b, qxr22c]
 refine wpAnyH_take (i := 7) (oi := ⟨some 30, _, _, _, _, _⟩) (v := ?_) rfl (by kernel_rfl) (by kernel_rfl) (by kernel_rfl) (fun _ _ _ h => h) (Or.inl ⟨by rfl, ?_⟩) (by assumption) ?_
 rotate_left 1
 ·intro wS hSw; (try dsimp only at hSw); obtain ⟨s9, t9, hS9⟩ := hSw; have c5 := hS9.p.cs 5 _ rfl; have cl := hS9.p.lt; go_simp; try with_reducible rfl
 try simp only [Act.put, qxr22a, qxr22b, qxr22c]
 refine wpAnyH_ready (rs := [0]) (by kernel_rfl) (by simp) ?_
 refine AllReadyH.cons (o := ⟨some 23, _, _, _, _, _⟩) rfl (fun K hK => ?_) (AllReadyH.nil)
 have d0 := HDc.out.o.cs 0 _ rfl
 have d1 := HDc.out.o.cs 1 _ rfl
 go_simp
 refine hK.out _ _ (by (try dsimp only); exact hHeld) (fun hHeld2 => ?_)
 clear d0 d1
 clear hK K hHeld
 have hHeld := hHeld2
 clear hHeld2
 try simp only [Act.put, qxr22a, qxr22b, qxr22c]
 refine wpAnyH_ready (rs := [3]) (by kernel_rfl) (by simp) ?_
 refine AllReadyH.cons (o := ⟨some 26, _, _, _, _, _⟩) rfl (fun K hK => ?_) (AllReadyH.nil)
 go_simp
 go_at_call 35
 refine (HT4.out _).mono ?_
 rintro e wx ⟨rfl, hb2⟩
 replace HDc := hid (HDc.out.on hb2)
 refine hK.out _ _ (WbE.on hHeld hb2) (fun hHeld2 => ?_)
 clear hb2
 clear hK K hHeld
 have hHeld := hHeld2
 clear hHeld2
 try simp only [Act.put, qxr22a, qxr22b, qxr22c]
 refine wpAnyH_ready (rs := [5]) (by kernel_rfl) (by simp) ?_
 refine AllReadyH.cons (o := ⟨some 28, _, _, _, _, _⟩) rfl (fun K hK => ?_) (AllReadyH.nil)
 go_simp
 go_at_call 44
 refine (HT5.out _).mono ?_
 rintro e wx ⟨rfl, hb2⟩
 replace HDc := hid (HDc.out.on hb2)
 refine hK.out _ _ (WbE.on hHeld hb2) (fun hHeld2 => ?_)
 clear hb2
 clear hK K hHeld
 have hHeld := hHeld2
 clear hHeld2
 try simp only [Act.put, qxr22a, qxr22b, qxr22c]
 refine wpAnyH_ready (rs := [8]) (by kernel_rfl) (by simp) ?_
 refine AllReadyH.cons (o := ⟨some 31, _, _, _, _, _⟩) rfl (fun K hK => ?_) (AllReadyH.nil)
 go_simp
 go_at_call 81
 refine (HT6.out _).mono ?_
 rintro e wx ⟨rfl, hb2⟩
 replace HDc := hid (HDc.out.on hb2)
 refine hK.out _ _ (WbE.on hHeld hb2) (fun hHeld2 => ?_)
 clear hb2
 clear hK K hHeld
 have hHeld := hHeld2
 clear hHeld2
 try simp only [Act.put, qxr22a, qxr22b, qxr22c]
 refine wpAnyH_ready (rs := [9]) (by kernel_rfl) (by simp) ?_
 refine AllReadyH.cons (o := ⟨none, _, _, _, _, _⟩) rfl (fun K hK => ?_) (AllReadyH.nil)
 have n0 := HDc.out.r.cs 0 _ rfl
 have n1 := HDc.out.r.cs 1 _ rfl
 have nf := HDc.out.r.s
 have nl := HDc.out.r.lt
 unfold Soft at nf
 go_simp
 refine hK.out _ _ (by (try dsimp only); exact ⟨_, _, HDc.out.putr _⟩) (fun hHeld2 => ?_)
 clear n0 n1 nf nl
 clear hK K hHeld
 have hHeld := hHeld2
 clear hHeld2
 try simp only [Act.put, qxr22a, qxr22b, qxr22c]
 refine wpAnyH_done (by kernel_rfl) ?_ _
 clear hHeld
 have HD6 := hid (HDc.out.putr (ofL y6))
 clear HDc HD5
 generalize (wx.setCell ⟨w.heap.size + 2, 0, none⟩ (.string (ofL y6))).setCell ⟨w.heap.size + 2, 1, none⟩ (.int .i64 0) = W6 at *
 go_wp2_with fail
 have g0 := HD6.out.r.cs 0 _ rfl
 have g1 := HD6.out.r.cs 1 _ rfl
 exact bodyPost_ret (v := .agg #[.string (ofL y6), .int .i64 0]) (by simp [results, Tryz.results36, go_sem, g0, g1]) rfl ⟨by rw [HE.out], HD6.out.B⟩
theorem setCells_pa (b : Nat) : ∀ (vs : List Value) (o : Nat) (W : World), W.setCells b o vs = putAll b o vs W
 | [], _, _ => rfl
 | v :: vs, o, W => by
  unfold World.setCells putAll
  exact setCells_pa b vs (o + 1) _
theorem Cels.range {W : World} {q : Nat} {xs : List Value} (h : Cels W q xs) : W.rangeAt q 0 xs := fun j v hj => by rw [Nat.zero_add]; exact h j v hj
theorem Cels.mid {W : World} {q : Nat} {bs xs es : List Value} (h : Cels W q (bs ++ (xs ++ es))) : W.rangeAt q bs.length xs := fun j v hj => by
 refine h (bs.length + j) v ?_
 rw [List.getElem?_append_right (Nat.le_add_right _ _), Nat.add_sub_cancel_left, List.getElem?_append_left (List.getElem?_eq_some_iff.1 hj).1]
 exact hj
theorem BoxC.there {w W : World} {c : Nat} {xs : List Value} (h : BoxC w c xs W) : W.there c 0 xs.length := fun j hj => by
 rw [Nat.zero_add]
 exact ⟨by rw [h.cs j xs[j] (List.getElem?_eq_getElem hj)]; rfl, h.s j⟩
theorem BoxC.over {w W : World} {c : Nat} {xs : List Value} (h : BoxC w c xs W) (ys : List Value) (hl : ys.length = xs.length) : BoxC w c ys (W.setCells c 0 ys) := by
 rw [setCells_pa]; exact h.fill ys hl
theorem below_setCells {w : World} {g : Nat} (hg : w.heap.size ≤ g) (vs : List Value) (j : Nat) {W : World} (h : Below w.heap.size w W) : Below w.heap.size w (W.setCells g j vs) := by
 rw [setCells_pa]; exact below_putAll hg vs j h
theorem de_one (x : De) (A : Option Addr) (c : Nat) (B : Option Addr) (d : Nat) : ∀ v ∈ deL x A c B d, v.oneCell' = true := by
 unfold deL
 intro v hv
 simp only [List.mem_cons, List.not_mem_nil, or_false] at hv
 rcases hv with rfl | rfl | rfl | rfl | rfl | rfl | rfl | rfl | rfl | rfl | rfl | rfl | rfl | rfl | rfl | rfl | rfl | rfl | rfl | rfl | rfl | rfl | rfl | rfl | rfl | rfl | rfl | rfl | rfl <;> rfl
theorem de_all (x : De) (A : Option Addr) (c : Nat) (B : Option Addr) (d : Nat) : (deL x A c B d).toArray.all (·.oneCell') = true := all_oneCell_toArray (de_one x A c B d)
theorem deL_len (x : De) (A : Option Addr) (c : Nat) (B : Option Addr) (d : Nat) : (deL x A c B d).length = 29 := rfl
theorem de_size : (Tryz.prog.info? 52).map (·.size) = some 29 := by kernel_rfl
theorem rde_size : (Tryz.prog.info? 59).map (·.size) = some 29 := by kernel_rfl
theorem de_res (x : De) (A : Option Addr) (c : Nat) (B : Option Addr) (d : Nat) (W : World) (g : Nat) (h : Cels W g (deL x A c B d)) : (loadVar 52 ⟨g, 0, none⟩).run Tryz.prog W = .ok (deV x A c B d) W :=
 run_loadVar_mid W g 0 52 (deL x A c B d) _ h.range Tryz.underlying52 rfl (by rw [de_size, deL_len])
theorem wpList_store_new2 {P : Program} {ops : Array Oper} {rest : List Oper} {op : Oper} {a : Act} {w : World} {Q : Exit → Act → World → Prop} (hgd : op.guard = none) (ty : TypeId) (x y : Operand) (ho : op.op = .store ty x y)
  (c c' : Array Value) (hx : a.eval x = .pointer (some ⟨w.heap.size, 0, none⟩)) (hy : a.eval y = .agg c') (hi : (P.info? ty).map (·.size) = some c'.size) (hcc : c.size = c'.size) (h1 : c'.all (·.oneCell') = true)
  (h : wpList P ops Q rest (a.put op.dst undef) (w.alloc (.cells c' ty))) : wpList P ops Q (op :: rest) a (w.alloc (.cells c ty)) :=
 wpList_plain hgd fun _ hK => by
  unfold Oper.wp execOp
  simp only [ho, hx, hy, Sem.run_bind, Sem.run_pure, Result.andThen_ok, run_storeAt_new w ty c c' hi hcc h1]
  exact hK _ _ h
end Go.Proofs.YtaikigponkjkgaaGreatDoor
end
