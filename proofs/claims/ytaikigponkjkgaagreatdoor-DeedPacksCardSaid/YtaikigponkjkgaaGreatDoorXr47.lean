/-
 A part of the proof.
-/
import Derived.Test.YtaikigponkjkgaaGreatDoorXr45
import Derived.Test.YtaikigponkjkgaaGreatDoorXr46
import Derived.Deep.RegionHeld3
import Derived.Deep.DeepCutAuto
section
namespace Go.Proofs.YtaikigponkjkgaaGreatDoor
open Go.ChangeShapes Go.WideShapes Go.ChangeAt Go.RowKit
open Go.Lib (hid)
theorem qxr47a (l : List Value) (i : Nat) (v : Value) : l.toArray.setIfInBounds i v = (l.set i v).toArray := by simp
theorem qxr47b (v u : Value) (l : List Value) : (v :: l).set 0 u = u :: l := rfl
theorem qxr47c (v u : Value) (n : Nat) (l : List Value) : (v :: l).set (n + 1) u = v :: l.set n u := rfl
theorem r22bit_any (b : Bool) (w : World) : Calls Tryz.prog 53 #[.bool b] w fun e w' => e = .returned (.string (ofL (Oct.be 1 (bitN b)))) ∧ Below w.heap.size w w' := by
 cases b
 ·go_enter Tryz.func53, Tryz.ntmps53
  go_wp2_with fail
  go_ret
  exact ⟨rfl, Below.refl _ _⟩
 ·go_enter Tryz.func53, Tryz.ntmps53
  go_wp2_with fail
  go_ret
  exact ⟨rfl, Below.refl _ _⟩
set_option maxRecDepth 100000 in
set_option maxHeartbeats 16000000 in
theorem r22Bytes_any (x : De) (A : Option Addr) (c : Nat) (B : Option Addr) (d : Nat) (w : World) (hA : Prs w A x.bind.want) (hB : Prs w B x.mail.head) (hf : De.Fits x) (h0 : x.code = 0) :
  Calls Tryz.prog 24 #[deV x A c B d] w fun e w' => e = .returned (.string (ofL x.enc)) ∧ Below w.heap.size w w' := by
 have HB1 := hid (rtOne w (.cells #[.int .u8 (x.kd : Int), .int .u64 (x.tick : Int), .string (ofL x.shop.name), .int .u8 (x.shop.sort : Int), .string (ofL x.shop.to), .string (ofL x.q.name), .int .u64 (x.q.most : Int), .int .u64 (x.q.life : Int), .string (ofL x.q.dead), .string (ofL x.bind.shop), .string (ofL x.bind.to), .bool x.bind.up, .string (ofL x.bind.key), .slice A x.bind.want.length c, .bool x.bind.all, .string (ofL x.name), .int .u64 (x.id : Int), .int .u8 (x.how : Int), .int .u8 (x.frm : Int), .int .u8 (x.cd : Int), .int .u64 (x.num : Int), .int .u64 (x.mail.id : Int), .string (ofL x.mail.shop), .string (ofL x.mail.key), .slice B x.mail.head.length d, .string (ofL x.mail.body), .int .u64 (x.mail.due : Int), .int .u8 (x.mail.hops : Int), .string (ofL x.text)] 59))
 have HX1 := hid (DeX.start w x A c B d hA hB 59)
 have HF := hid hf
 have HC0 := hid (De.code_zero h0)
 have HQ0 := hid (fun W => hrnum_l x.kd 1 1 W (by have := hf.kd; omega) (by omega) rfl)
 have HQ1 := hid (fun W => hrnum_l x.tick 8 8 W hf.tick (by omega) rfl)
 have hwk : IntKind.u64.wrap (x.kd : Int) = (x.kd : Int) := by rw [IntKind.wrap_u64]; have := hf.kd; omega
 have HSM1 := hid (show ofL (Oct.be 1 x.kd) ++ ofL (Oct.be 8 x.tick) = ofL (De.E1 x) by unfold De.E1; rw [ofL_app])
 have u0 : (ofL (Oct.be 1 x.kd)).size ≤ 100 := by rw [ofL_size, Oct.length_be]; omega
 have u1 : (ofL (Oct.be 8 x.tick)).size ≤ 100 := by rw [ofL_size, Oct.length_be]; omega
 clear hA hB hf h0
 generalize ofL (Oct.be 1 x.kd) = Q0 at *
 generalize ofL (Oct.be 8 x.tick) = Q1 at *
 simp only [deV]
 go_enter Tryz.func24, Tryz.ntmps24
 go_upto_region 1 with fail
 generalize w.alloc (.cells #[.int .u8 (x.kd : Int), .int .u64 (x.tick : Int), .string (ofL x.shop.name), .int .u8 (x.shop.sort : Int), .string (ofL x.shop.to), .string (ofL x.q.name), .int .u64 (x.q.most : Int), .int .u64 (x.q.life : Int), .string (ofL x.q.dead), .string (ofL x.bind.shop), .string (ofL x.bind.to), .bool x.bind.up, .string (ofL x.bind.key), .slice A x.bind.want.length c, .bool x.bind.all, .string (ofL x.name), .int .u64 (x.id : Int), .int .u8 (x.how : Int), .int .u8 (x.frm : Int), .int .u8 (x.cd : Int), .int .u64 (x.num : Int), .int .u64 (x.mail.id : Int), .string (ofL x.mail.shop), .string (ofL x.mail.key), .slice B x.mail.head.length d, .string (ofL x.mail.body), .int .u64 (x.mail.due : Int), .int .u8 (x.mail.hops : Int), .string (ofL x.text)] 59) = W1 at *
 go_cut [3] (fun s3 wx => s3 = .string (ofL (De.E1 x)) ∧ DeX w x A c B d w.heap.size wx ∧ Below w.heap.size w wx)
 case first =>
  have c0 := HX1.out.p.cs 0 _ rfl
  have c1 := HX1.out.p.cs 1 _ rfl
  have cl := HX1.out.p.lt
  refine wp_region_held_drew (S := fun a => Below (W1.heap.size) W1 a) (by kernel_rfl) (by (try dsimp only); exact (Below.refl _ _).drew) (fun hHeld => ?_)
  refine wpAnyH_take (i := 0) (oi := ⟨some 5, _, _, _, _, _⟩) (v := ?_) rfl (by kernel_rfl) (by kernel_rfl) (by kernel_rfl) (fun _ _ _ h => h) (Or.inl ⟨by rfl, ?_⟩) (by assumption) ?_
  rotate_left 1
  ·intro wS hSw; (try dsimp only at hSw); go_simp; (try rw [if_neg (by first | omega | (simp [ByteArray.size_append]; omega))]); try with_reducible rfl
  try simp only [Act.put, qxr47a, qxr47b, qxr47c]
  refine wpAnyH_take (i := 1) (oi := ⟨some 6, _, _, _, _, _⟩) (v := ?_) rfl (by kernel_rfl) (by kernel_rfl) (by kernel_rfl) (fun _ _ _ h => h) (Or.inl ⟨by rfl, ?_⟩) (by assumption) ?_
  rotate_left 1
  ·intro wS hSw; (try dsimp only at hSw); have c0 := cell_on hSw c0; have c1 := cell_on hSw c1; go_simp; (try rw [if_neg (by first | omega | (simp [ByteArray.size_append]; omega))]); try with_reducible rfl
  try simp only [Act.put, qxr47a, qxr47b, qxr47c]
  refine wpAnyH_take (i := 2) (oi := ⟨some 7, _, _, _, _, _⟩) (v := ?_) rfl (by kernel_rfl) (by kernel_rfl) (by kernel_rfl) (fun _ _ _ h => h) (Or.inl ⟨by rfl, ?_⟩) (by assumption) ?_
  rotate_left 1
  ·intro wS hSw; (try dsimp only at hSw); go_simp; (try rw [if_neg (by first | omega | (simp [ByteArray.size_append]; omega))]); try with_reducible rfl
  try simp only [Act.put, qxr47a, qxr47b, qxr47c]
  refine wpAnyH_take (i := 4) (oi := ⟨some 9, _, _, _, _, _⟩) (v := ?_) rfl (by kernel_rfl) (by kernel_rfl) (by kernel_rfl) (fun _ _ _ h => h) (Or.inl ⟨by rfl, ?_⟩) (by assumption) ?_
  rotate_left 1
  ·intro wS hSw; (try dsimp only at hSw); go_simp; (try rw [if_neg (by first | omega | (simp [ByteArray.size_append]; omega))]); try with_reducible rfl
  try simp only [Act.put, qxr47a, qxr47b, qxr47c]
  refine wpAnyH_take (i := 5) (oi := ⟨some 10, _, _, _, _, _⟩) (v := ?_) rfl (by kernel_rfl) (by kernel_rfl) (by kernel_rfl) (fun _ _ _ h => h) (Or.inl ⟨by rfl, ?_⟩) (by assumption) ?_
  rotate_left 1
  ·intro wS hSw; (try dsimp only at hSw); have c0 := cell_on hSw c0; have c1 := cell_on hSw c1; go_simp; (try rw [if_neg (by first | omega | (simp [ByteArray.size_append]; omega))]); try with_reducible rfl
  try simp only [Act.put, qxr47a, qxr47b, qxr47c]
  refine wpAnyH_ready (rs := [3]) (by kernel_rfl) (by simp) ?_
  refine AllReadyH.cons (o := ⟨some 8, _, _, _, _, _⟩) rfl (fun K hK => ?_) (AllReadyH.nil)
  go_simp
  go_at_call 22
  refine (HQ0.out _).mono ?_
  rintro e wx ⟨rfl, hb2⟩
  refine hK.out _ _ (bthen hHeld hb2 (Nat.le_refl _)) (fun hHeld2 => ?_)
  clear hK K hHeld hb2
  have hHeld := hHeld2
  clear hHeld2
  try simp only [Act.put, qxr47a, qxr47b, qxr47c]
  refine wpAnyH_ready (rs := [6]) (by kernel_rfl) (by simp) ?_
  refine AllReadyH.cons (o := ⟨some 11, _, _, _, _, _⟩) rfl (fun K hK => ?_) (AllReadyH.nil)
  go_simp
  go_at_call 22
  refine (HQ1.out _).mono ?_
  rintro e wx ⟨rfl, hb2⟩
  refine hK.out _ _ (bthen hHeld hb2 (Nat.le_refl _)) (fun hHeld2 => ?_)
  clear hK K hHeld hb2
  have hHeld := hHeld2
  clear hHeld2
  try simp only [Act.put, qxr47a, qxr47b, qxr47c]
  refine wpAnyH_take (i := 7) (oi := ⟨some 12, _, _, _, _, _⟩) (v := ?_) rfl (by kernel_rfl) (by kernel_rfl) (by kernel_rfl) (fun _ _ _ h => h) (Or.inl ⟨by rfl, ?_⟩) (by assumption) ?_
  rotate_left 1
  ·intro wS hSw; (try dsimp only at hSw); go_simp; (try rw [if_neg (by first | omega | (simp [ByteArray.size_append]; omega))]); try with_reducible rfl
  try simp only [Act.put, qxr47a, qxr47b, qxr47c]
  refine wpAnyH_take (i := 8) (oi := ⟨some 3, _, _, _, _, _⟩) (v := ?_) rfl (by kernel_rfl) (by kernel_rfl) (by kernel_rfl) (fun _ _ _ h => h) (Or.inl ⟨by rfl, ?_⟩) (by assumption) ?_
  rotate_left 1
  ·intro wS hSw; (try dsimp only at hSw); go_simp; (try rw [if_neg (by first | omega | (simp [ByteArray.size_append]; omega))]); try with_reducible rfl
  try simp only [Act.put, qxr47a, qxr47b, qxr47c]
  refine wpAnyH_done (by kernel_rfl) ?_ _
  have hZ := hHeld
  clear hHeld
  have HBZ := hid (bthen HB1.out hZ (Nat.le_refl _))
  have HXZ := hid (HX1.out.on hZ)
  clear hZ c0 c1 cl
  rw [HSM1.out]
  go_wp2_with fail
  go_meet
  exact ⟨rfl, HXZ.out, HBZ.out⟩
 case rest =>
  obtain ⟨rfl, hX, hB⟩ := hcut
  have HX := hid hX
  have HB := hid hB
  clear hX hB HX1 HB1 HQ0 HQ1 hwk HSM1 u0 u1
  have h13 : x.kd = 0 ∨ x.kd = 1 ∨ x.kd = 2 ∨ x.kd = 3 ∨ x.kd = 4 ∨ x.kd = 5 ∨ x.kd = 6 ∨ x.kd = 7 ∨ x.kd = 8 ∨ x.kd = 9 ∨ x.kd = 10 ∨ x.kd = 11 ∨ x.kd = 12 := by have := HC0.out.1; omega
  rcases h13 with hk | hk | hk | hk | hk | hk | hk | hk | hk | hk | hk | hk | hk
  ·have HEV := hid (De.enc_0 hk)
   have hl := De.shc_len (x := x.shop) (by rw [← De.body_0 hk]; exact HC0.out.2.2)
   have c0 : wc.cell? ⟨w.heap.size, 0, none⟩ = some (.int .u8 0) := by have q := HX.out.p.cs 0 _ rfl; rw [hk] at q; exact q
   have cl := HX.out.p.lt
   have e0 : (ofL (De.E1 x)).size ≤ 100 := by rw [ofL_size]; unfold De.E1; rw [List.length_append, Oct.length_be, Oct.length_be]; omega
   have HP0 := hid (fun W => hrtext_l x.shop.name W (by omega))
   have t0 : (ofL (Oct.text x.shop.name)).size ≤ 300 := by rw [ofL_size]; unfold Oct.text; rw [List.length_append, Oct.length_be]; omega
   have HP1 := hid (fun W => hrnum_l x.shop.sort 1 1 W (by have := HF.out.sort; omega) (by omega) rfl)
   have t1 : (ofL (Oct.be 1 x.shop.sort)).size ≤ 300 := by rw [ofL_size, Oct.length_be]; omega
   have HP2 := hid (fun W => hrtext_l x.shop.to W (by omega))
   have t2 : (ofL (Oct.text x.shop.to)).size ≤ 300 := by rw [ofL_size]; unfold Oct.text; rw [List.length_append, Oct.length_be]; omega
   have hw9 : IntKind.u64.wrap (x.shop.sort : Int) = (x.shop.sort : Int) := by rw [IntKind.wrap_u64]; have := HF.out.sort; omega
   have HSM := hid (show ofL (De.E1 x) ++ ofL (Oct.text x.shop.name) ++ ofL (Oct.be 1 x.shop.sort) ++ ofL (Oct.text x.shop.to) = ofL x.enc by rw [HEV.out]; rw [ofL_app, ofL_app, ofL_app]; all_goals rfl)
   clear hk hl
   generalize ofL (De.E1 x) = E0 at *
   generalize ofL (Oct.text x.shop.name) = P0 at *
   generalize ofL (Oct.be 1 x.shop.sort) = P1 at *
   generalize ofL (Oct.text x.shop.to) = P2 at *
   have c2 := HX.out.p.cs 2 _ rfl
   have c3 := HX.out.p.cs 3 _ rfl
   have c4 := HX.out.p.cs 4 _ rfl
   go_upto_region 4 with fail
   refine wp_region_held_drew (S := fun a => Below (wc.heap.size) wc a) (by kernel_rfl) (by (try dsimp only); exact (Below.refl _ _).drew) (fun hHeld => ?_)
   refine wpAnyH_take (i := 0) (oi := ⟨some 17, _, _, _, _, _⟩) (v := ?_) rfl (by kernel_rfl) (by kernel_rfl) (by kernel_rfl) (fun _ _ _ h => h) (Or.inl ⟨by rfl, ?_⟩) (by assumption) ?_
   rotate_left 1
   ·intro wS hSw; (try dsimp only at hSw); go_simp; (try rw [if_neg (by first | omega | (simp [ByteArray.size_append]; omega))]); try with_reducible rfl
   try simp only [Act.put, qxr47a, qxr47b, qxr47c]
   refine wpAnyH_take (i := 1) (oi := ⟨some 18, _, _, _, _, _⟩) (v := ?_) rfl (by kernel_rfl) (by kernel_rfl) (by kernel_rfl) (fun _ _ _ h => h) (Or.inl ⟨by rfl, ?_⟩) (by assumption) ?_
   rotate_left 1
   ·intro wS hSw; (try dsimp only at hSw); go_simp; (try rw [if_neg (by first | omega | (simp [ByteArray.size_append]; omega))]); try with_reducible rfl
   try simp only [Act.put, qxr47a, qxr47b, qxr47c]
   refine wpAnyH_take (i := 2) (oi := ⟨some 19, _, _, _, _, _⟩) (v := ?_) rfl (by kernel_rfl) (by kernel_rfl) (by kernel_rfl) (fun _ _ _ h => h) (Or.inl ⟨by rfl, ?_⟩) (by assumption) ?_
   rotate_left 1
   ·intro wS hSw; (try dsimp only at hSw); go_simp; (try rw [if_neg (by first | omega | (simp [ByteArray.size_append]; omega))]); try with_reducible rfl
   try simp only [Act.put, qxr47a, qxr47b, qxr47c]
   refine wpAnyH_take (i := 3) (oi := ⟨some 20, _, _, _, _, _⟩) (v := ?_) rfl (by kernel_rfl) (by kernel_rfl) (by kernel_rfl) (fun _ _ _ h => h) (Or.inl ⟨by rfl, ?_⟩) (by assumption) ?_
   rotate_left 1
   ·intro wS hSw; (try dsimp only at hSw); have c2 := cell_on hSw c2; have c3 := cell_on hSw c3; have c4 := cell_on hSw c4; go_simp; (try rw [if_neg (by first | omega | (simp [ByteArray.size_append]; omega))]); try with_reducible rfl
   try simp only [Act.put, qxr47a, qxr47b, qxr47c]
   refine wpAnyH_take (i := 6) (oi := ⟨some 23, _, _, _, _, _⟩) (v := ?_) rfl (by kernel_rfl) (by kernel_rfl) (by kernel_rfl) (fun _ _ _ h => h) (Or.inl ⟨by rfl, ?_⟩) (by assumption) ?_
   rotate_left 1
   ·intro wS hSw; (try dsimp only at hSw); go_simp; (try rw [if_neg (by first | omega | (simp [ByteArray.size_append]; omega))]); try with_reducible rfl
   try simp only [Act.put, qxr47a, qxr47b, qxr47c]
   refine wpAnyH_take (i := 7) (oi := ⟨some 24, _, _, _, _, _⟩) (v := ?_) rfl (by kernel_rfl) (by kernel_rfl) (by kernel_rfl) (fun _ _ _ h => h) (Or.inl ⟨by rfl, ?_⟩) (by assumption) ?_
   rotate_left 1
   ·intro wS hSw; (try dsimp only at hSw); go_simp; (try rw [if_neg (by first | omega | (simp [ByteArray.size_append]; omega))]); try with_reducible rfl
   try simp only [Act.put, qxr47a, qxr47b, qxr47c]
   refine wpAnyH_take (i := 8) (oi := ⟨some 25, _, _, _, _, _⟩) (v := ?_) rfl (by kernel_rfl) (by kernel_rfl) (by kernel_rfl) (fun _ _ _ h => h) (Or.inl ⟨by rfl, ?_⟩) (by assumption) ?_
   rotate_left 1
   ·intro wS hSw; (try dsimp only at hSw); have c2 := cell_on hSw c2; have c3 := cell_on hSw c3; have c4 := cell_on hSw c4; go_simp; (try rw [if_neg (by first | omega | (simp [ByteArray.size_append]; omega))]); try with_reducible rfl
   try simp only [Act.put, qxr47a, qxr47b, qxr47c]
   refine wpAnyH_take (i := 9) (oi := ⟨some 26, _, _, _, _, _⟩) (v := ?_) rfl (by kernel_rfl) (by kernel_rfl) (by kernel_rfl) (fun _ _ _ h => h) (Or.inl ⟨by rfl, ?_⟩) (by assumption) ?_
   rotate_left 1
   ·intro wS hSw; (try dsimp only at hSw); go_simp; (try rw [if_neg (by first | omega | (simp [ByteArray.size_append]; omega))]); try with_reducible rfl
   try simp only [Act.put, qxr47a, qxr47b, qxr47c]
   refine wpAnyH_take (i := 12) (oi := ⟨some 29, _, _, _, _, _⟩) (v := ?_) rfl (by kernel_rfl) (by kernel_rfl) (by kernel_rfl) (fun _ _ _ h => h) (Or.inl ⟨by rfl, ?_⟩) (by assumption) ?_
   rotate_left 1
   ·intro wS hSw; (try dsimp only at hSw); go_simp; (try rw [if_neg (by first | omega | (simp [ByteArray.size_append]; omega))]); try with_reducible rfl
   try simp only [Act.put, qxr47a, qxr47b, qxr47c]
   refine wpAnyH_take (i := 13) (oi := ⟨some 30, _, _, _, _, _⟩) (v := ?_) rfl (by kernel_rfl) (by kernel_rfl) (by kernel_rfl) (fun _ _ _ h => h) (Or.inl ⟨by rfl, ?_⟩) (by assumption) ?_
   rotate_left 1
   ·intro wS hSw; (try dsimp only at hSw); go_simp; (try rw [if_neg (by first | omega | (simp [ByteArray.size_append]; omega))]); try with_reducible rfl
   try simp only [Act.put, qxr47a, qxr47b, qxr47c]
   refine wpAnyH_take (i := 14) (oi := ⟨some 31, _, _, _, _, _⟩) (v := ?_) rfl (by kernel_rfl) (by kernel_rfl) (by kernel_rfl) (fun _ _ _ h => h) (Or.inl ⟨by rfl, ?_⟩) (by assumption) ?_
   rotate_left 1
   ·intro wS hSw; (try dsimp only at hSw); have c2 := cell_on hSw c2; have c3 := cell_on hSw c3; have c4 := cell_on hSw c4; go_simp; (try rw [if_neg (by first | omega | (simp [ByteArray.size_append]; omega))]); try with_reducible rfl
   try simp only [Act.put, qxr47a, qxr47b, qxr47c]
   refine wpAnyH_ready (rs := [4]) (by kernel_rfl) (by simp) ?_
   refine AllReadyH.cons (o := ⟨some 21, _, _, _, _, _⟩) rfl (fun K hK => ?_) (AllReadyH.nil)
   go_simp
   go_at_call 52
   refine (HP0.out _).mono ?_
   rintro e wx ⟨rfl, hb2⟩
   refine hK.out _ _ (bthen hHeld hb2 (Nat.le_refl _)) (fun hHeld2 => ?_)
   clear hK K hHeld hb2
   have hHeld := hHeld2
   clear hHeld2
   try simp only [Act.put, qxr47a, qxr47b, qxr47c]
   refine wpAnyH_take (i := 5) (oi := ⟨some 22, _, _, _, _, _⟩) (v := ?_) rfl (by kernel_rfl) (by kernel_rfl) (by kernel_rfl) (fun _ _ _ h => h) (Or.inl ⟨by rfl, ?_⟩) (by assumption) ?_
   rotate_left 1
   ·intro wS hSw; (try dsimp only at hSw); go_simp; (try rw [if_neg (by first | omega | (simp [ByteArray.size_append]; omega))]); try with_reducible rfl
   try simp only [Act.put, qxr47a, qxr47b, qxr47c]
   refine wpAnyH_ready (rs := [10]) (by kernel_rfl) (by simp) ?_
   refine AllReadyH.cons (o := ⟨some 27, _, _, _, _, _⟩) rfl (fun K hK => ?_) (AllReadyH.nil)
   go_simp
   go_at_call 22
   refine (HP1.out _).mono ?_
   rintro e wx ⟨rfl, hb2⟩
   refine hK.out _ _ (bthen hHeld hb2 (Nat.le_refl _)) (fun hHeld2 => ?_)
   clear hK K hHeld hb2
   have hHeld := hHeld2
   clear hHeld2
   try simp only [Act.put, qxr47a, qxr47b, qxr47c]
   refine wpAnyH_take (i := 11) (oi := ⟨some 28, _, _, _, _, _⟩) (v := ?_) rfl (by kernel_rfl) (by kernel_rfl) (by kernel_rfl) (fun _ _ _ h => h) (Or.inl ⟨by rfl, ?_⟩) (by assumption) ?_
   rotate_left 1
   ·intro wS hSw; (try dsimp only at hSw); go_simp; (try rw [if_neg (by first | omega | (simp [ByteArray.size_append]; omega))]); try with_reducible rfl
   try simp only [Act.put, qxr47a, qxr47b, qxr47c]
   refine wpAnyH_ready (rs := [15]) (by kernel_rfl) (by simp) ?_
   refine AllReadyH.cons (o := ⟨some 32, _, _, _, _, _⟩) rfl (fun K hK => ?_) (AllReadyH.nil)
   go_simp
   go_at_call 52
   refine (HP2.out _).mono ?_
   rintro e wx ⟨rfl, hb2⟩
   refine hK.out _ _ (bthen hHeld hb2 (Nat.le_refl _)) (fun hHeld2 => ?_)
   clear hK K hHeld hb2
   have hHeld := hHeld2
   clear hHeld2
   try simp only [Act.put, qxr47a, qxr47b, qxr47c]
   refine wpAnyH_take (i := 16) (oi := ⟨some 33, _, _, _, _, _⟩) (v := ?_) rfl (by kernel_rfl) (by kernel_rfl) (by kernel_rfl) (fun _ _ _ h => h) (Or.inl ⟨by rfl, ?_⟩) (by assumption) ?_
   rotate_left 1
   ·intro wS hSw; (try dsimp only at hSw); go_simp; (try rw [if_neg (by first | omega | (simp [ByteArray.size_append]; omega))]); try with_reducible rfl
   try simp only [Act.put, qxr47a, qxr47b, qxr47c]
   refine wpAnyH_take (i := 17) (oi := ⟨some 2, _, _, _, _, _⟩) (v := ?_) rfl (by kernel_rfl) (by kernel_rfl) (by kernel_rfl) (fun _ _ _ h => h) (Or.inl ⟨by rfl, ?_⟩) (by assumption) ?_
   rotate_left 1
   ·intro wS hSw; (try dsimp only at hSw); go_simp; (try rw [if_neg (by first | omega | (simp [ByteArray.size_append]; omega))]); try with_reducible rfl
   try simp only [Act.put, qxr47a, qxr47b, qxr47c]
   refine wpAnyH_done (by kernel_rfl) ?_ _
   have hZ := hHeld
   clear hHeld
   have HB9 := hid (bthen HB.out hZ (Nat.le_refl _))
   clear hZ
   rw [HSM.out]
   go_wp2_with fail
   go_ret
   exact ⟨rfl, HB9.out⟩
  ·have HEV := hid (De.enc_1 hk)
   have hl : x.name.length ≤ 16 := (Hd.name_ok_len (by rw [← De.body_1 hk]; exact HC0.out.2.2)).1
   have c0 : wc.cell? ⟨w.heap.size, 0, none⟩ = some (.int .u8 1) := by have q := HX.out.p.cs 0 _ rfl; rw [hk] at q; exact q
   have cl := HX.out.p.lt
   have e0 : (ofL (De.E1 x)).size ≤ 100 := by rw [ofL_size]; unfold De.E1; rw [List.length_append, Oct.length_be, Oct.length_be]; omega
   have HP0 := hid (fun W => hrtext_l x.name W (by omega))
   have t0 : (ofL (Oct.text x.name)).size ≤ 300 := by rw [ofL_size]; unfold Oct.text; rw [List.length_append, Oct.length_be]; omega
   have HSM := hid (show ofL (De.E1 x) ++ ofL (Oct.text x.name) = ofL x.enc by rw [HEV.out]; rw [ofL_app]; all_goals rfl)
   clear hk hl
   generalize ofL (De.E1 x) = E0 at *
   generalize ofL (Oct.text x.name) = P0 at *
   have c15 := HX.out.p.cs 15 _ rfl
   have hcat : ¬ (9223372036854775807 < E0.size + P0.size) := by omega
   go_wp2_with fail
   refine (HP0.out _).mono ?_
   rintro e w5 ⟨rfl, b5⟩
   have HB5 := hid (bthen HB.out b5 (Nat.le_refl _))
   clear b5
   go_wp2_with fail
   go_ret
   exact ⟨by rw [HSM.out]; rfl, HB5.out⟩
  ·have HEV := hid (De.enc_2 hk)
   have hl := De.quc_len (x := x.q) (by rw [← De.body_2 hk]; exact HC0.out.2.2)
   have c0 : wc.cell? ⟨w.heap.size, 0, none⟩ = some (.int .u8 2) := by have q := HX.out.p.cs 0 _ rfl; rw [hk] at q; exact q
   have cl := HX.out.p.lt
   have e0 : (ofL (De.E1 x)).size ≤ 100 := by rw [ofL_size]; unfold De.E1; rw [List.length_append, Oct.length_be, Oct.length_be]; omega
   have HP0 := hid (fun W => hrtext_l x.q.name W (by omega))
   have t0 : (ofL (Oct.text x.q.name)).size ≤ 300 := by rw [ofL_size]; unfold Oct.text; rw [List.length_append, Oct.length_be]; omega
   have HP1 := hid (fun W => hrnum_l x.q.most 8 8 W HF.out.most (by omega) rfl)
   have t1 : (ofL (Oct.be 8 x.q.most)).size ≤ 300 := by rw [ofL_size, Oct.length_be]; omega
   have HP2 := hid (fun W => hrnum_l x.q.life 8 8 W HF.out.life (by omega) rfl)
   have t2 : (ofL (Oct.be 8 x.q.life)).size ≤ 300 := by rw [ofL_size, Oct.length_be]; omega
   have HP3 := hid (fun W => hrtext_l x.q.dead W (by omega))
   have t3 : (ofL (Oct.text x.q.dead)).size ≤ 300 := by rw [ofL_size]; unfold Oct.text; rw [List.length_append, Oct.length_be]; omega
   have HSM := hid (show ofL (De.E1 x) ++ ofL (Oct.text x.q.name) ++ ofL (Oct.be 8 x.q.most) ++ ofL (Oct.be 8 x.q.life) ++ ofL (Oct.text x.q.dead) = ofL x.enc by rw [HEV.out]; rw [ofL_app, ofL_app, ofL_app, ofL_app]; all_goals rfl)
   clear hk hl
   generalize ofL (De.E1 x) = E0 at *
   generalize ofL (Oct.text x.q.name) = P0 at *
   generalize ofL (Oct.be 8 x.q.most) = P1 at *
   generalize ofL (Oct.be 8 x.q.life) = P2 at *
   generalize ofL (Oct.text x.q.dead) = P3 at *
   have c5 := HX.out.p.cs 5 _ rfl
   have c6 := HX.out.p.cs 6 _ rfl
   have c7 := HX.out.p.cs 7 _ rfl
   have c8 := HX.out.p.cs 8 _ rfl
   go_upto_region 6 with fail
   refine wp_region_held_drew (S := fun a => Below (wc.heap.size) wc a) (by kernel_rfl) (by (try dsimp only); exact (Below.refl _ _).drew) (fun hHeld => ?_)
   refine wpAnyH_take (i := 0) (oi := ⟨some 36, _, _, _, _, _⟩) (v := ?_) rfl (by kernel_rfl) (by kernel_rfl) (by kernel_rfl) (fun _ _ _ h => h) (Or.inl ⟨by rfl, ?_⟩) (by assumption) ?_
   rotate_left 1
   ·intro wS hSw; (try dsimp only at hSw); go_simp; (try rw [if_neg (by first | omega | (simp [ByteArray.size_append]; omega))]); try with_reducible rfl
   try simp only [Act.put, qxr47a, qxr47b, qxr47c]
   refine wpAnyH_take (i := 1) (oi := ⟨some 37, _, _, _, _, _⟩) (v := ?_) rfl (by kernel_rfl) (by kernel_rfl) (by kernel_rfl) (fun _ _ _ h => h) (Or.inl ⟨by rfl, ?_⟩) (by assumption) ?_
   rotate_left 1
   ·intro wS hSw; (try dsimp only at hSw); go_simp; (try rw [if_neg (by first | omega | (simp [ByteArray.size_append]; omega))]); try with_reducible rfl
   try simp only [Act.put, qxr47a, qxr47b, qxr47c]
   refine wpAnyH_take (i := 2) (oi := ⟨some 38, _, _, _, _, _⟩) (v := ?_) rfl (by kernel_rfl) (by kernel_rfl) (by kernel_rfl) (fun _ _ _ h => h) (Or.inl ⟨by rfl, ?_⟩) (by assumption) ?_
   rotate_left 1
   ·intro wS hSw; (try dsimp only at hSw); go_simp; (try rw [if_neg (by first | omega | (simp [ByteArray.size_append]; omega))]); try with_reducible rfl
   try simp only [Act.put, qxr47a, qxr47b, qxr47c]
   refine wpAnyH_take (i := 3) (oi := ⟨some 39, _, _, _, _, _⟩) (v := ?_) rfl (by kernel_rfl) (by kernel_rfl) (by kernel_rfl) (fun _ _ _ h => h) (Or.inl ⟨by rfl, ?_⟩) (by assumption) ?_
   rotate_left 1
   ·intro wS hSw; (try dsimp only at hSw); have c5 := cell_on hSw c5; have c6 := cell_on hSw c6; have c7 := cell_on hSw c7; have c8 := cell_on hSw c8; go_simp; (try rw [if_neg (by first | omega | (simp [ByteArray.size_append]; omega))]); try with_reducible rfl
   try simp only [Act.put, qxr47a, qxr47b, qxr47c]
   refine wpAnyH_take (i := 6) (oi := ⟨some 42, _, _, _, _, _⟩) (v := ?_) rfl (by kernel_rfl) (by kernel_rfl) (by kernel_rfl) (fun _ _ _ h => h) (Or.inl ⟨by rfl, ?_⟩) (by assumption) ?_
   rotate_left 1
   ·intro wS hSw; (try dsimp only at hSw); go_simp; (try rw [if_neg (by first | omega | (simp [ByteArray.size_append]; omega))]); try with_reducible rfl
   try simp only [Act.put, qxr47a, qxr47b, qxr47c]
   refine wpAnyH_take (i := 7) (oi := ⟨some 43, _, _, _, _, _⟩) (v := ?_) rfl (by kernel_rfl) (by kernel_rfl) (by kernel_rfl) (fun _ _ _ h => h) (Or.inl ⟨by rfl, ?_⟩) (by assumption) ?_
   rotate_left 1
   ·intro wS hSw; (try dsimp only at hSw); go_simp; (try rw [if_neg (by first | omega | (simp [ByteArray.size_append]; omega))]); try with_reducible rfl
   try simp only [Act.put, qxr47a, qxr47b, qxr47c]
   refine wpAnyH_take (i := 8) (oi := ⟨some 44, _, _, _, _, _⟩) (v := ?_) rfl (by kernel_rfl) (by kernel_rfl) (by kernel_rfl) (fun _ _ _ h => h) (Or.inl ⟨by rfl, ?_⟩) (by assumption) ?_
   rotate_left 1
   ·intro wS hSw; (try dsimp only at hSw); have c5 := cell_on hSw c5; have c6 := cell_on hSw c6; have c7 := cell_on hSw c7; have c8 := cell_on hSw c8; go_simp; (try rw [if_neg (by first | omega | (simp [ByteArray.size_append]; omega))]); try with_reducible rfl
   try simp only [Act.put, qxr47a, qxr47b, qxr47c]
   refine wpAnyH_take (i := 11) (oi := ⟨some 47, _, _, _, _, _⟩) (v := ?_) rfl (by kernel_rfl) (by kernel_rfl) (by kernel_rfl) (fun _ _ _ h => h) (Or.inl ⟨by rfl, ?_⟩) (by assumption) ?_
   rotate_left 1
   ·intro wS hSw; (try dsimp only at hSw); go_simp; (try rw [if_neg (by first | omega | (simp [ByteArray.size_append]; omega))]); try with_reducible rfl
   try simp only [Act.put, qxr47a, qxr47b, qxr47c]
   refine wpAnyH_take (i := 12) (oi := ⟨some 48, _, _, _, _, _⟩) (v := ?_) rfl (by kernel_rfl) (by kernel_rfl) (by kernel_rfl) (fun _ _ _ h => h) (Or.inl ⟨by rfl, ?_⟩) (by assumption) ?_
   rotate_left 1
   ·intro wS hSw; (try dsimp only at hSw); go_simp; (try rw [if_neg (by first | omega | (simp [ByteArray.size_append]; omega))]); try with_reducible rfl
   try simp only [Act.put, qxr47a, qxr47b, qxr47c]
   refine wpAnyH_take (i := 13) (oi := ⟨some 49, _, _, _, _, _⟩) (v := ?_) rfl (by kernel_rfl) (by kernel_rfl) (by kernel_rfl) (fun _ _ _ h => h) (Or.inl ⟨by rfl, ?_⟩) (by assumption) ?_
   rotate_left 1
   ·intro wS hSw; (try dsimp only at hSw); have c5 := cell_on hSw c5; have c6 := cell_on hSw c6; have c7 := cell_on hSw c7; have c8 := cell_on hSw c8; go_simp; (try rw [if_neg (by first | omega | (simp [ByteArray.size_append]; omega))]); try with_reducible rfl
   try simp only [Act.put, qxr47a, qxr47b, qxr47c]
   refine wpAnyH_take (i := 16) (oi := ⟨some 52, _, _, _, _, _⟩) (v := ?_) rfl (by kernel_rfl) (by kernel_rfl) (by kernel_rfl) (fun _ _ _ h => h) (Or.inl ⟨by rfl, ?_⟩) (by assumption) ?_
   rotate_left 1
   ·intro wS hSw; (try dsimp only at hSw); go_simp; (try rw [if_neg (by first | omega | (simp [ByteArray.size_append]; omega))]); try with_reducible rfl
   try simp only [Act.put, qxr47a, qxr47b, qxr47c]
   refine wpAnyH_take (i := 17) (oi := ⟨some 53, _, _, _, _, _⟩) (v := ?_) rfl (by kernel_rfl) (by kernel_rfl) (by kernel_rfl) (fun _ _ _ h => h) (Or.inl ⟨by rfl, ?_⟩) (by assumption) ?_
   rotate_left 1
   ·intro wS hSw; (try dsimp only at hSw); go_simp; (try rw [if_neg (by first | omega | (simp [ByteArray.size_append]; omega))]); try with_reducible rfl
   try simp only [Act.put, qxr47a, qxr47b, qxr47c]
   refine wpAnyH_take (i := 18) (oi := ⟨some 54, _, _, _, _, _⟩) (v := ?_) rfl (by kernel_rfl) (by kernel_rfl) (by kernel_rfl) (fun _ _ _ h => h) (Or.inl ⟨by rfl, ?_⟩) (by assumption) ?_
   rotate_left 1
   ·intro wS hSw; (try dsimp only at hSw); have c5 := cell_on hSw c5; have c6 := cell_on hSw c6; have c7 := cell_on hSw c7; have c8 := cell_on hSw c8; go_simp; (try rw [if_neg (by first | omega | (simp [ByteArray.size_append]; omega))]); try with_reducible rfl
   try simp only [Act.put, qxr47a, qxr47b, qxr47c]
   refine wpAnyH_ready (rs := [4]) (by kernel_rfl) (by simp) ?_
   refine AllReadyH.cons (o := ⟨some 40, _, _, _, _, _⟩) rfl (fun K hK => ?_) (AllReadyH.nil)
   go_simp
   go_at_call 52
   refine (HP0.out _).mono ?_
   rintro e wx ⟨rfl, hb2⟩
   refine hK.out _ _ (bthen hHeld hb2 (Nat.le_refl _)) (fun hHeld2 => ?_)
   clear hK K hHeld hb2
   have hHeld := hHeld2
   clear hHeld2
   try simp only [Act.put, qxr47a, qxr47b, qxr47c]
   refine wpAnyH_take (i := 5) (oi := ⟨some 41, _, _, _, _, _⟩) (v := ?_) rfl (by kernel_rfl) (by kernel_rfl) (by kernel_rfl) (fun _ _ _ h => h) (Or.inl ⟨by rfl, ?_⟩) (by assumption) ?_
   rotate_left 1
   ·intro wS hSw; (try dsimp only at hSw); go_simp; (try rw [if_neg (by first | omega | (simp [ByteArray.size_append]; omega))]); try with_reducible rfl
   try simp only [Act.put, qxr47a, qxr47b, qxr47c]
   refine wpAnyH_ready (rs := [9]) (by kernel_rfl) (by simp) ?_
   refine AllReadyH.cons (o := ⟨some 45, _, _, _, _, _⟩) rfl (fun K hK => ?_) (AllReadyH.nil)
   go_simp
   go_at_call 22
   refine (HP1.out _).mono ?_
   rintro e wx ⟨rfl, hb2⟩
   refine hK.out _ _ (bthen hHeld hb2 (Nat.le_refl _)) (fun hHeld2 => ?_)
   clear hK K hHeld hb2
   have hHeld := hHeld2
   clear hHeld2
   try simp only [Act.put, qxr47a, qxr47b, qxr47c]
   refine wpAnyH_take (i := 10) (oi := ⟨some 46, _, _, _, _, _⟩) (v := ?_) rfl (by kernel_rfl) (by kernel_rfl) (by kernel_rfl) (fun _ _ _ h => h) (Or.inl ⟨by rfl, ?_⟩) (by assumption) ?_
   rotate_left 1
   ·intro wS hSw; (try dsimp only at hSw); go_simp; (try rw [if_neg (by first | omega | (simp [ByteArray.size_append]; omega))]); try with_reducible rfl
   try simp only [Act.put, qxr47a, qxr47b, qxr47c]
   refine wpAnyH_ready (rs := [14]) (by kernel_rfl) (by simp) ?_
   refine AllReadyH.cons (o := ⟨some 50, _, _, _, _, _⟩) rfl (fun K hK => ?_) (AllReadyH.nil)
   go_simp
   go_at_call 22
   refine (HP2.out _).mono ?_
   rintro e wx ⟨rfl, hb2⟩
   refine hK.out _ _ (bthen hHeld hb2 (Nat.le_refl _)) (fun hHeld2 => ?_)
   clear hK K hHeld hb2
   have hHeld := hHeld2
   clear hHeld2
   try simp only [Act.put, qxr47a, qxr47b, qxr47c]
   refine wpAnyH_take (i := 15) (oi := ⟨some 51, _, _, _, _, _⟩) (v := ?_) rfl (by kernel_rfl) (by kernel_rfl) (by kernel_rfl) (fun _ _ _ h => h) (Or.inl ⟨by rfl, ?_⟩) (by assumption) ?_
   rotate_left 1
   ·intro wS hSw; (try dsimp only at hSw); go_simp; (try rw [if_neg (by first | omega | (simp [ByteArray.size_append]; omega))]); try with_reducible rfl
   try simp only [Act.put, qxr47a, qxr47b, qxr47c]
   refine wpAnyH_ready (rs := [19]) (by kernel_rfl) (by simp) ?_
   refine AllReadyH.cons (o := ⟨some 55, _, _, _, _, _⟩) rfl (fun K hK => ?_) (AllReadyH.nil)
   go_simp
   go_at_call 52
   refine (HP3.out _).mono ?_
   rintro e wx ⟨rfl, hb2⟩
   refine hK.out _ _ (bthen hHeld hb2 (Nat.le_refl _)) (fun hHeld2 => ?_)
   clear hK K hHeld hb2
   have hHeld := hHeld2
   clear hHeld2
   try simp only [Act.put, qxr47a, qxr47b, qxr47c]
   refine wpAnyH_take (i := 20) (oi := ⟨some 56, _, _, _, _, _⟩) (v := ?_) rfl (by kernel_rfl) (by kernel_rfl) (by kernel_rfl) (fun _ _ _ h => h) (Or.inl ⟨by rfl, ?_⟩) (by assumption) ?_
   rotate_left 1
   ·intro wS hSw; (try dsimp only at hSw); go_simp; (try rw [if_neg (by first | omega | (simp [ByteArray.size_append]; omega))]); try with_reducible rfl
   try simp only [Act.put, qxr47a, qxr47b, qxr47c]
   refine wpAnyH_take (i := 21) (oi := ⟨some 2, _, _, _, _, _⟩) (v := ?_) rfl (by kernel_rfl) (by kernel_rfl) (by kernel_rfl) (fun _ _ _ h => h) (Or.inl ⟨by rfl, ?_⟩) (by assumption) ?_
   rotate_left 1
   ·intro wS hSw; (try dsimp only at hSw); go_simp; (try rw [if_neg (by first | omega | (simp [ByteArray.size_append]; omega))]); try with_reducible rfl
   try simp only [Act.put, qxr47a, qxr47b, qxr47c]
   refine wpAnyH_done (by kernel_rfl) ?_ _
   have hZ := hHeld
   clear hHeld
   have HB9 := hid (bthen HB.out hZ (Nat.le_refl _))
   clear hZ
   rw [HSM.out]
   go_wp2_with fail
   go_ret
   exact ⟨rfl, HB9.out⟩
  ·have HEV := hid (De.enc_3 hk)
   have hl : x.name.length ≤ 16 := (Hd.name_ok_len (by rw [← De.body_3 hk]; exact HC0.out.2.2)).1
   have c0 : wc.cell? ⟨w.heap.size, 0, none⟩ = some (.int .u8 3) := by have q := HX.out.p.cs 0 _ rfl; rw [hk] at q; exact q
   have cl := HX.out.p.lt
   have e0 : (ofL (De.E1 x)).size ≤ 100 := by rw [ofL_size]; unfold De.E1; rw [List.length_append, Oct.length_be, Oct.length_be]; omega
   have HP0 := hid (fun W => hrtext_l x.name W (by omega))
   have t0 : (ofL (Oct.text x.name)).size ≤ 300 := by rw [ofL_size]; unfold Oct.text; rw [List.length_append, Oct.length_be]; omega
   have HSM := hid (show ofL (De.E1 x) ++ ofL (Oct.text x.name) = ofL x.enc by rw [HEV.out]; rw [ofL_app]; all_goals rfl)
   clear hk hl
   generalize ofL (De.E1 x) = E0 at *
   generalize ofL (Oct.text x.name) = P0 at *
   have c15 := HX.out.p.cs 15 _ rfl
   have hcat : ¬ (9223372036854775807 < E0.size + P0.size) := by omega
   go_wp2_with fail
   refine (HP0.out _).mono ?_
   rintro e w5 ⟨rfl, b5⟩
   have HB5 := hid (bthen HB.out b5 (Nat.le_refl _))
   clear b5
   go_wp2_with fail
   go_ret
   exact ⟨by rw [HSM.out]; rfl, HB5.out⟩
  ·have HEV := hid (De.enc_4 hk)
   have hl := De.bdc_len (x := x.bind) (by rw [← De.body_4 hk]; exact HC0.out.2.2)
   have c0 : wc.cell? ⟨w.heap.size, 0, none⟩ = some (.int .u8 4) := by have q := HX.out.p.cs 0 _ rfl; rw [hk] at q; exact q
   have cl := HX.out.p.lt
   have e0 : (ofL (De.E1 x)).size ≤ 100 := by rw [ofL_size]; unfold De.E1; rw [List.length_append, Oct.length_be, Oct.length_be]; omega
   have l3 : (Hd.henc x.bind.want).length ≤ 1000 := by have := (hfine_of hl.2.2.2).pre x.bind.want.length; rw [hpre_all (Nat.le_refl _)] at this; exact this
   have HP0 := hid (fun W => hrtext_l x.bind.shop W (by have := hl.1; omega))
   have t0 : (ofL (Oct.text x.bind.shop)).size ≤ 1000 := by rw [ofL_size]; unfold Oct.text; rw [List.length_append, Oct.length_be]; have := hl.1; omega
   have HP1 := hid (fun W => hrtext_l x.bind.to W (by have := hl.2.1; omega))
   have t1 : (ofL (Oct.text x.bind.to)).size ≤ 1000 := by rw [ofL_size]; unfold Oct.text; rw [List.length_append, Oct.length_be]; have := hl.2.1; omega
   have HP2 := hid (fun W => r22bit_any x.bind.up W)
   have t2 : (ofL (Oct.be 1 (bitN x.bind.up))).size ≤ 1000 := by rw [ofL_size]; rw [Oct.length_be]; omega
   have HP3 := hid (fun W => hrtext_l x.bind.key W (by have := hl.2.2.1; omega))
   have t3 : (ofL (Oct.text x.bind.key)).size ≤ 1000 := by rw [ofL_size]; unfold Oct.text; rw [List.length_append, Oct.length_be]; have := hl.2.2.1; omega
   have HP4 := hid (fun W (q1 : Prs W A x.bind.want) => rbytes9_any x.bind.want A c W hl.2.2.2 q1)
   have t4 : (ofL (Hd.henc x.bind.want)).size ≤ 1000 := by rw [ofL_size]; omega
   have HP5 := hid (fun W => r22bit_any x.bind.all W)
   have t5 : (ofL (Oct.be 1 (bitN x.bind.all))).size ≤ 1000 := by rw [ofL_size]; rw [Oct.length_be]; omega
   have HSM := hid (show ofL (De.E1 x) ++ ofL (Oct.text x.bind.shop) ++ ofL (Oct.text x.bind.to) ++ ofL (Oct.be 1 (bitN x.bind.up)) ++ ofL (Oct.text x.bind.key) ++ ofL (Hd.henc x.bind.want) ++ ofL (Oct.be 1 (bitN x.bind.all)) = ofL x.enc by rw [HEV.out]; unfold bdE; rw [ofL_app, ofL_app, ofL_app, ofL_app, ofL_app, ofL_app]; rfl)
   clear hk hl l3
   generalize ofL (De.E1 x) = E0 at *
   generalize ofL (Oct.text x.bind.shop) = P0 at *
   generalize ofL (Oct.text x.bind.to) = P1 at *
   generalize ofL (Oct.be 1 (bitN x.bind.up)) = P2 at *
   generalize ofL (Oct.text x.bind.key) = P3 at *
   generalize ofL (Hd.henc x.bind.want) = P4 at *
   generalize ofL (Oct.be 1 (bitN x.bind.all)) = P5 at *
   have HXB := hid (BoxC.new (w := w) (W := wc) HB.out.size #[.string (ofL x.bind.shop), .string (ofL x.bind.to), .bool x.bind.up, .string (ofL x.bind.key), .slice A x.bind.want.length c, .bool x.bind.all] 57)
   have HBN := hid (bthen HB.out (rtOne wc (.cells #[.string (ofL x.bind.shop), .string (ofL x.bind.to), .bool x.bind.up, .string (ofL x.bind.key), .slice A x.bind.want.length c, .bool x.bind.all] 57)) (Nat.le_refl _))
   have HRN := hid (HX.out.ra.on (rtOne wc (.cells #[.string (ofL x.bind.shop), .string (ofL x.bind.to), .bool x.bind.up, .string (ofL x.bind.key), .slice A x.bind.want.length c, .bool x.bind.all] 57)))
   have c9 := HX.out.p.cs 9 _ rfl
   have c10 := HX.out.p.cs 10 _ rfl
   have c11 := HX.out.p.cs 11 _ rfl
   have c12 := HX.out.p.cs 12 _ rfl
   have c13 := HX.out.p.cs 13 _ rfl
   have c14 := HX.out.p.cs 14 _ rfl
   go_upto_region 10 with fail
   generalize wc.alloc (.cells #[.string (ofL x.bind.shop), .string (ofL x.bind.to), .bool x.bind.up, .string (ofL x.bind.key), .slice A x.bind.want.length c, .bool x.bind.all] 57) = wd at *
   clear c0 cl c9 c10 c11 c12 c13 c14
   have c0 := HXB.out.cs 0 _ rfl
   have c1 := HXB.out.cs 1 _ rfl
   have c2 := HXB.out.cs 2 _ rfl
   have c3 := HXB.out.cs 3 _ rfl
   have c4 := HXB.out.cs 4 _ rfl
   have c5 := HXB.out.cs 5 _ rfl
   have cl := HXB.out.lt
   refine wp_region_held_drew (S := fun a => Below (wd.heap.size) wd a) (by kernel_rfl) (by (try dsimp only); exact (Below.refl _ _).drew) (fun hHeld => ?_)
   refine wpAnyH_take (i := 0) (oi := ⟨some 62, _, _, _, _, _⟩) (v := ?_) rfl (by kernel_rfl) (by kernel_rfl) (by kernel_rfl) (fun _ _ _ h => h) (Or.inl ⟨by rfl, ?_⟩) (by assumption) ?_
   rotate_left 1
   ·intro wS hSw; (try dsimp only at hSw); go_simp; (try rw [if_neg (by first | omega | (simp [ByteArray.size_append]; omega))]); try with_reducible rfl
   try simp only [Act.put, qxr47a, qxr47b, qxr47c]
   refine wpAnyH_take (i := 1) (oi := ⟨some 63, _, _, _, _, _⟩) (v := ?_) rfl (by kernel_rfl) (by kernel_rfl) (by kernel_rfl) (fun _ _ _ h => h) (Or.inl ⟨by rfl, ?_⟩) (by assumption) ?_
   rotate_left 1
   ·intro wS hSw; (try dsimp only at hSw); go_simp; (try rw [if_neg (by first | omega | (simp [ByteArray.size_append]; omega))]); try with_reducible rfl
   try simp only [Act.put, qxr47a, qxr47b, qxr47c]
   refine wpAnyH_take (i := 2) (oi := ⟨some 64, _, _, _, _, _⟩) (v := ?_) rfl (by kernel_rfl) (by kernel_rfl) (by kernel_rfl) (fun _ _ _ h => h) (Or.inl ⟨by rfl, ?_⟩) (by assumption) ?_
   rotate_left 1
   ·intro wS hSw; (try dsimp only at hSw); have c0 := cell_on hSw c0; have c1 := cell_on hSw c1; have c2 := cell_on hSw c2; have c3 := cell_on hSw c3; have c4 := cell_on hSw c4; have c5 := cell_on hSw c5; go_simp; (try rw [if_neg (by first | omega | (simp [ByteArray.size_append]; omega))]); try with_reducible rfl
   try simp only [Act.put, qxr47a, qxr47b, qxr47c]
   refine wpAnyH_take (i := 5) (oi := ⟨some 67, _, _, _, _, _⟩) (v := ?_) rfl (by kernel_rfl) (by kernel_rfl) (by kernel_rfl) (fun _ _ _ h => h) (Or.inl ⟨by rfl, ?_⟩) (by assumption) ?_
   rotate_left 1
   ·intro wS hSw; (try dsimp only at hSw); go_simp; (try rw [if_neg (by first | omega | (simp [ByteArray.size_append]; omega))]); try with_reducible rfl
   try simp only [Act.put, qxr47a, qxr47b, qxr47c]
   refine wpAnyH_take (i := 6) (oi := ⟨some 68, _, _, _, _, _⟩) (v := ?_) rfl (by kernel_rfl) (by kernel_rfl) (by kernel_rfl) (fun _ _ _ h => h) (Or.inl ⟨by rfl, ?_⟩) (by assumption) ?_
   rotate_left 1
   ·intro wS hSw; (try dsimp only at hSw); have c0 := cell_on hSw c0; have c1 := cell_on hSw c1; have c2 := cell_on hSw c2; have c3 := cell_on hSw c3; have c4 := cell_on hSw c4; have c5 := cell_on hSw c5; go_simp; (try rw [if_neg (by first | omega | (simp [ByteArray.size_append]; omega))]); try with_reducible rfl
   try simp only [Act.put, qxr47a, qxr47b, qxr47c]
   refine wpAnyH_take (i := 9) (oi := ⟨some 71, _, _, _, _, _⟩) (v := ?_) rfl (by kernel_rfl) (by kernel_rfl) (by kernel_rfl) (fun _ _ _ h => h) (Or.inl ⟨by rfl, ?_⟩) (by assumption) ?_
   rotate_left 1
   ·intro wS hSw; (try dsimp only at hSw); go_simp; (try rw [if_neg (by first | omega | (simp [ByteArray.size_append]; omega))]); try with_reducible rfl
   try simp only [Act.put, qxr47a, qxr47b, qxr47c]
   refine wpAnyH_take (i := 10) (oi := ⟨some 72, _, _, _, _, _⟩) (v := ?_) rfl (by kernel_rfl) (by kernel_rfl) (by kernel_rfl) (fun _ _ _ h => h) (Or.inl ⟨by rfl, ?_⟩) (by assumption) ?_
   rotate_left 1
   ·intro wS hSw; (try dsimp only at hSw); have c0 := cell_on hSw c0; have c1 := cell_on hSw c1; have c2 := cell_on hSw c2; have c3 := cell_on hSw c3; have c4 := cell_on hSw c4; have c5 := cell_on hSw c5; go_simp; (try rw [if_neg (by first | omega | (simp [ByteArray.size_append]; omega))]); try with_reducible rfl
   try simp only [Act.put, qxr47a, qxr47b, qxr47c]
   refine wpAnyH_take (i := 13) (oi := ⟨some 75, _, _, _, _, _⟩) (v := ?_) rfl (by kernel_rfl) (by kernel_rfl) (by kernel_rfl) (fun _ _ _ h => h) (Or.inl ⟨by rfl, ?_⟩) (by assumption) ?_
   rotate_left 1
   ·intro wS hSw; (try dsimp only at hSw); go_simp; (try rw [if_neg (by first | omega | (simp [ByteArray.size_append]; omega))]); try with_reducible rfl
   try simp only [Act.put, qxr47a, qxr47b, qxr47c]
   refine wpAnyH_take (i := 14) (oi := ⟨some 76, _, _, _, _, _⟩) (v := ?_) rfl (by kernel_rfl) (by kernel_rfl) (by kernel_rfl) (fun _ _ _ h => h) (Or.inl ⟨by rfl, ?_⟩) (by assumption) ?_
   rotate_left 1
   ·intro wS hSw; (try dsimp only at hSw); have c0 := cell_on hSw c0; have c1 := cell_on hSw c1; have c2 := cell_on hSw c2; have c3 := cell_on hSw c3; have c4 := cell_on hSw c4; have c5 := cell_on hSw c5; go_simp; (try rw [if_neg (by first | omega | (simp [ByteArray.size_append]; omega))]); try with_reducible rfl
   try simp only [Act.put, qxr47a, qxr47b, qxr47c]
   refine wpAnyH_take (i := 17) (oi := ⟨some 79, _, _, _, _, _⟩) (v := ?_) rfl (by kernel_rfl) (by kernel_rfl) (by kernel_rfl) (fun _ _ _ h => h) (Or.inl ⟨by rfl, ?_⟩) (by assumption) ?_
   rotate_left 1
   ·intro wS hSw; (try dsimp only at hSw); go_simp; (try rw [if_neg (by first | omega | (simp [ByteArray.size_append]; omega))]); try with_reducible rfl
   try simp only [Act.put, qxr47a, qxr47b, qxr47c]
   refine wpAnyH_take (i := 18) (oi := ⟨some 80, _, _, _, _, _⟩) (v := ?_) rfl (by kernel_rfl) (by kernel_rfl) (by kernel_rfl) (fun _ _ _ h => h) (Or.inl ⟨by rfl, ?_⟩) (by assumption) ?_
   rotate_left 1
   ·intro wS hSw; (try dsimp only at hSw); have c0 := cell_on hSw c0; have c1 := cell_on hSw c1; have c2 := cell_on hSw c2; have c3 := cell_on hSw c3; have c4 := cell_on hSw c4; have c5 := cell_on hSw c5; go_simp; (try rw [if_neg (by first | omega | (simp [ByteArray.size_append]; omega))]); try with_reducible rfl
   try simp only [Act.put, qxr47a, qxr47b, qxr47c]
   refine wpAnyH_take (i := 21) (oi := ⟨some 83, _, _, _, _, _⟩) (v := ?_) rfl (by kernel_rfl) (by kernel_rfl) (by kernel_rfl) (fun _ _ _ h => h) (Or.inl ⟨by rfl, ?_⟩) (by assumption) ?_
   rotate_left 1
   ·intro wS hSw; (try dsimp only at hSw); go_simp; (try rw [if_neg (by first | omega | (simp [ByteArray.size_append]; omega))]); try with_reducible rfl
   try simp only [Act.put, qxr47a, qxr47b, qxr47c]
   refine wpAnyH_take (i := 22) (oi := ⟨some 84, _, _, _, _, _⟩) (v := ?_) rfl (by kernel_rfl) (by kernel_rfl) (by kernel_rfl) (fun _ _ _ h => h) (Or.inl ⟨by rfl, ?_⟩) (by assumption) ?_
   rotate_left 1
   ·intro wS hSw; (try dsimp only at hSw); have c0 := cell_on hSw c0; have c1 := cell_on hSw c1; have c2 := cell_on hSw c2; have c3 := cell_on hSw c3; have c4 := cell_on hSw c4; have c5 := cell_on hSw c5; go_simp; (try rw [if_neg (by first | omega | (simp [ByteArray.size_append]; omega))]); try with_reducible rfl
   try simp only [Act.put, qxr47a, qxr47b, qxr47c]
   refine wpAnyH_ready (rs := [3]) (by kernel_rfl) (by simp) ?_
   refine AllReadyH.cons (o := ⟨some 65, _, _, _, _, _⟩) rfl (fun K hK => ?_) (AllReadyH.nil)
   go_simp
   go_at_call 52
   refine (HP0.out _).mono ?_
   rintro e wx ⟨rfl, hb2⟩
   refine hK.out _ _ (bthen hHeld hb2 (Nat.le_refl _)) (fun hHeld2 => ?_)
   clear hK K hHeld hb2
   have hHeld := hHeld2
   clear hHeld2
   try simp only [Act.put, qxr47a, qxr47b, qxr47c]
   refine wpAnyH_take (i := 4) (oi := ⟨some 66, _, _, _, _, _⟩) (v := ?_) rfl (by kernel_rfl) (by kernel_rfl) (by kernel_rfl) (fun _ _ _ h => h) (Or.inl ⟨by rfl, ?_⟩) (by assumption) ?_
   rotate_left 1
   ·intro wS hSw; (try dsimp only at hSw); go_simp; (try rw [if_neg (by first | omega | (simp [ByteArray.size_append]; omega))]); try with_reducible rfl
   try simp only [Act.put, qxr47a, qxr47b, qxr47c]
   refine wpAnyH_ready (rs := [7]) (by kernel_rfl) (by simp) ?_
   refine AllReadyH.cons (o := ⟨some 69, _, _, _, _, _⟩) rfl (fun K hK => ?_) (AllReadyH.nil)
   go_simp
   go_at_call 52
   refine (HP1.out _).mono ?_
   rintro e wx ⟨rfl, hb2⟩
   refine hK.out _ _ (bthen hHeld hb2 (Nat.le_refl _)) (fun hHeld2 => ?_)
   clear hK K hHeld hb2
   have hHeld := hHeld2
   clear hHeld2
   try simp only [Act.put, qxr47a, qxr47b, qxr47c]
   refine wpAnyH_take (i := 8) (oi := ⟨some 70, _, _, _, _, _⟩) (v := ?_) rfl (by kernel_rfl) (by kernel_rfl) (by kernel_rfl) (fun _ _ _ h => h) (Or.inl ⟨by rfl, ?_⟩) (by assumption) ?_
   rotate_left 1
   ·intro wS hSw; (try dsimp only at hSw); go_simp; (try rw [if_neg (by first | omega | (simp [ByteArray.size_append]; omega))]); try with_reducible rfl
   try simp only [Act.put, qxr47a, qxr47b, qxr47c]
   refine wpAnyH_ready (rs := [11]) (by kernel_rfl) (by simp) ?_
   refine AllReadyH.cons (o := ⟨some 73, _, _, _, _, _⟩) rfl (fun K hK => ?_) (AllReadyH.nil)
   go_simp
   go_at_call 53
   refine (HP2.out _).mono ?_
   rintro e wx ⟨rfl, hb2⟩
   refine hK.out _ _ (bthen hHeld hb2 (Nat.le_refl _)) (fun hHeld2 => ?_)
   clear hK K hHeld hb2
   have hHeld := hHeld2
   clear hHeld2
   try simp only [Act.put, qxr47a, qxr47b, qxr47c]
   refine wpAnyH_take (i := 12) (oi := ⟨some 74, _, _, _, _, _⟩) (v := ?_) rfl (by kernel_rfl) (by kernel_rfl) (by kernel_rfl) (fun _ _ _ h => h) (Or.inl ⟨by rfl, ?_⟩) (by assumption) ?_
   rotate_left 1
   ·intro wS hSw; (try dsimp only at hSw); go_simp; (try rw [if_neg (by first | omega | (simp [ByteArray.size_append]; omega))]); try with_reducible rfl
   try simp only [Act.put, qxr47a, qxr47b, qxr47c]
   refine wpAnyH_ready (rs := [15]) (by kernel_rfl) (by simp) ?_
   refine AllReadyH.cons (o := ⟨some 77, _, _, _, _, _⟩) rfl (fun K hK => ?_) (AllReadyH.nil)
   go_simp
   go_at_call 52
   refine (HP3.out _).mono ?_
   rintro e wx ⟨rfl, hb2⟩
   refine hK.out _ _ (bthen hHeld hb2 (Nat.le_refl _)) (fun hHeld2 => ?_)
   clear hK K hHeld hb2
   have hHeld := hHeld2
   clear hHeld2
   try simp only [Act.put, qxr47a, qxr47b, qxr47c]
   refine wpAnyH_take (i := 16) (oi := ⟨some 78, _, _, _, _, _⟩) (v := ?_) rfl (by kernel_rfl) (by kernel_rfl) (by kernel_rfl) (fun _ _ _ h => h) (Or.inl ⟨by rfl, ?_⟩) (by assumption) ?_
   rotate_left 1
   ·intro wS hSw; (try dsimp only at hSw); go_simp; (try rw [if_neg (by first | omega | (simp [ByteArray.size_append]; omega))]); try with_reducible rfl
   try simp only [Act.put, qxr47a, qxr47b, qxr47c]
   refine wpAnyH_ready (rs := [19]) (by kernel_rfl) (by simp) ?_
   refine AllReadyH.cons (o := ⟨some 81, _, _, _, _, _⟩) rfl (fun K hK => ?_) (AllReadyH.nil)
   go_simp
   go_at_call 54
   refine (HP4.out _ (HRN.out.on hHeld)).mono ?_
   rintro e wx ⟨rfl, hb2⟩
   refine hK.out _ _ (bthen hHeld hb2 (Nat.le_refl _)) (fun hHeld2 => ?_)
   clear hK K hHeld hb2
   have hHeld := hHeld2
   clear hHeld2
   try simp only [Act.put, qxr47a, qxr47b, qxr47c]
   refine wpAnyH_take (i := 20) (oi := ⟨some 82, _, _, _, _, _⟩) (v := ?_) rfl (by kernel_rfl) (by kernel_rfl) (by kernel_rfl) (fun _ _ _ h => h) (Or.inl ⟨by rfl, ?_⟩) (by assumption) ?_
   rotate_left 1
   ·intro wS hSw; (try dsimp only at hSw); go_simp; (try rw [if_neg (by first | omega | (simp [ByteArray.size_append]; omega))]); try with_reducible rfl
   try simp only [Act.put, qxr47a, qxr47b, qxr47c]
   refine wpAnyH_ready (rs := [23]) (by kernel_rfl) (by simp) ?_
   refine AllReadyH.cons (o := ⟨some 85, _, _, _, _, _⟩) rfl (fun K hK => ?_) (AllReadyH.nil)
   go_simp
   go_at_call 53
   refine (HP5.out _).mono ?_
   rintro e wx ⟨rfl, hb2⟩
   refine hK.out _ _ (bthen hHeld hb2 (Nat.le_refl _)) (fun hHeld2 => ?_)
   clear hK K hHeld hb2
   have hHeld := hHeld2
   clear hHeld2
   try simp only [Act.put, qxr47a, qxr47b, qxr47c]
   refine wpAnyH_take (i := 24) (oi := ⟨some 86, _, _, _, _, _⟩) (v := ?_) rfl (by kernel_rfl) (by kernel_rfl) (by kernel_rfl) (fun _ _ _ h => h) (Or.inl ⟨by rfl, ?_⟩) (by assumption) ?_
   rotate_left 1
   ·intro wS hSw; (try dsimp only at hSw); go_simp; (try rw [if_neg (by first | omega | (simp [ByteArray.size_append]; omega))]); try with_reducible rfl
   try simp only [Act.put, qxr47a, qxr47b, qxr47c]
   refine wpAnyH_take (i := 25) (oi := ⟨some 2, _, _, _, _, _⟩) (v := ?_) rfl (by kernel_rfl) (by kernel_rfl) (by kernel_rfl) (fun _ _ _ h => h) (Or.inl ⟨by rfl, ?_⟩) (by assumption) ?_
   rotate_left 1
   ·intro wS hSw; (try dsimp only at hSw); go_simp; (try rw [if_neg (by first | omega | (simp [ByteArray.size_append]; omega))]); try with_reducible rfl
   try simp only [Act.put, qxr47a, qxr47b, qxr47c]
   refine wpAnyH_done (by kernel_rfl) ?_ _
   have hZ := hHeld
   clear hHeld
   have HB9 := hid (bthen HBN.out hZ (Nat.le_refl _))
   clear hZ
   rw [HSM.out]
   go_wp2_with fail
   go_ret
   exact ⟨rfl, HB9.out⟩
  ·have HEV := hid (De.enc_5 hk)
   have hl := De.bdc_len (x := x.bind) (by rw [← De.body_5 hk]; exact HC0.out.2.2)
   have c0 : wc.cell? ⟨w.heap.size, 0, none⟩ = some (.int .u8 5) := by have q := HX.out.p.cs 0 _ rfl; rw [hk] at q; exact q
   have cl := HX.out.p.lt
   have e0 : (ofL (De.E1 x)).size ≤ 100 := by rw [ofL_size]; unfold De.E1; rw [List.length_append, Oct.length_be, Oct.length_be]; omega
   have l3 : (Hd.henc x.bind.want).length ≤ 1000 := by have := (hfine_of hl.2.2.2).pre x.bind.want.length; rw [hpre_all (Nat.le_refl _)] at this; exact this
   have HP0 := hid (fun W => hrtext_l x.bind.shop W (by have := hl.1; omega))
   have t0 : (ofL (Oct.text x.bind.shop)).size ≤ 1000 := by rw [ofL_size]; unfold Oct.text; rw [List.length_append, Oct.length_be]; have := hl.1; omega
   have HP1 := hid (fun W => hrtext_l x.bind.to W (by have := hl.2.1; omega))
   have t1 : (ofL (Oct.text x.bind.to)).size ≤ 1000 := by rw [ofL_size]; unfold Oct.text; rw [List.length_append, Oct.length_be]; have := hl.2.1; omega
   have HP2 := hid (fun W => r22bit_any x.bind.up W)
   have t2 : (ofL (Oct.be 1 (bitN x.bind.up))).size ≤ 1000 := by rw [ofL_size]; rw [Oct.length_be]; omega
   have HP3 := hid (fun W => hrtext_l x.bind.key W (by have := hl.2.2.1; omega))
   have t3 : (ofL (Oct.text x.bind.key)).size ≤ 1000 := by rw [ofL_size]; unfold Oct.text; rw [List.length_append, Oct.length_be]; have := hl.2.2.1; omega
   have HP4 := hid (fun W (q1 : Prs W A x.bind.want) => rbytes9_any x.bind.want A c W hl.2.2.2 q1)
   have t4 : (ofL (Hd.henc x.bind.want)).size ≤ 1000 := by rw [ofL_size]; omega
   have HP5 := hid (fun W => r22bit_any x.bind.all W)
   have t5 : (ofL (Oct.be 1 (bitN x.bind.all))).size ≤ 1000 := by rw [ofL_size]; rw [Oct.length_be]; omega
   have HSM := hid (show ofL (De.E1 x) ++ ofL (Oct.text x.bind.shop) ++ ofL (Oct.text x.bind.to) ++ ofL (Oct.be 1 (bitN x.bind.up)) ++ ofL (Oct.text x.bind.key) ++ ofL (Hd.henc x.bind.want) ++ ofL (Oct.be 1 (bitN x.bind.all)) = ofL x.enc by rw [HEV.out]; unfold bdE; rw [ofL_app, ofL_app, ofL_app, ofL_app, ofL_app, ofL_app]; rfl)
   clear hk hl l3
   generalize ofL (De.E1 x) = E0 at *
   generalize ofL (Oct.text x.bind.shop) = P0 at *
   generalize ofL (Oct.text x.bind.to) = P1 at *
   generalize ofL (Oct.be 1 (bitN x.bind.up)) = P2 at *
   generalize ofL (Oct.text x.bind.key) = P3 at *
   generalize ofL (Hd.henc x.bind.want) = P4 at *
   generalize ofL (Oct.be 1 (bitN x.bind.all)) = P5 at *
   have HXB := hid (BoxC.new (w := w) (W := wc) HB.out.size #[.string (ofL x.bind.shop), .string (ofL x.bind.to), .bool x.bind.up, .string (ofL x.bind.key), .slice A x.bind.want.length c, .bool x.bind.all] 57)
   have HBN := hid (bthen HB.out (rtOne wc (.cells #[.string (ofL x.bind.shop), .string (ofL x.bind.to), .bool x.bind.up, .string (ofL x.bind.key), .slice A x.bind.want.length c, .bool x.bind.all] 57)) (Nat.le_refl _))
   have HRN := hid (HX.out.ra.on (rtOne wc (.cells #[.string (ofL x.bind.shop), .string (ofL x.bind.to), .bool x.bind.up, .string (ofL x.bind.key), .slice A x.bind.want.length c, .bool x.bind.all] 57)))
   have c9 := HX.out.p.cs 9 _ rfl
   have c10 := HX.out.p.cs 10 _ rfl
   have c11 := HX.out.p.cs 11 _ rfl
   have c12 := HX.out.p.cs 12 _ rfl
   have c13 := HX.out.p.cs 13 _ rfl
   have c14 := HX.out.p.cs 14 _ rfl
   go_upto_region 10 with fail
   generalize wc.alloc (.cells #[.string (ofL x.bind.shop), .string (ofL x.bind.to), .bool x.bind.up, .string (ofL x.bind.key), .slice A x.bind.want.length c, .bool x.bind.all] 57) = wd at *
   clear c0 cl c9 c10 c11 c12 c13 c14
   have c0 := HXB.out.cs 0 _ rfl
   have c1 := HXB.out.cs 1 _ rfl
   have c2 := HXB.out.cs 2 _ rfl
   have c3 := HXB.out.cs 3 _ rfl
   have c4 := HXB.out.cs 4 _ rfl
   have c5 := HXB.out.cs 5 _ rfl
   have cl := HXB.out.lt
   refine wp_region_held_drew (S := fun a => Below (wd.heap.size) wd a) (by kernel_rfl) (by (try dsimp only); exact (Below.refl _ _).drew) (fun hHeld => ?_)
   refine wpAnyH_take (i := 0) (oi := ⟨some 62, _, _, _, _, _⟩) (v := ?_) rfl (by kernel_rfl) (by kernel_rfl) (by kernel_rfl) (fun _ _ _ h => h) (Or.inl ⟨by rfl, ?_⟩) (by assumption) ?_
   rotate_left 1
   ·intro wS hSw; (try dsimp only at hSw); go_simp; (try rw [if_neg (by first | omega | (simp [ByteArray.size_append]; omega))]); try with_reducible rfl
   try simp only [Act.put, qxr47a, qxr47b, qxr47c]
   refine wpAnyH_take (i := 1) (oi := ⟨some 63, _, _, _, _, _⟩) (v := ?_) rfl (by kernel_rfl) (by kernel_rfl) (by kernel_rfl) (fun _ _ _ h => h) (Or.inl ⟨by rfl, ?_⟩) (by assumption) ?_
   rotate_left 1
   ·intro wS hSw; (try dsimp only at hSw); go_simp; (try rw [if_neg (by first | omega | (simp [ByteArray.size_append]; omega))]); try with_reducible rfl
   try simp only [Act.put, qxr47a, qxr47b, qxr47c]
   refine wpAnyH_take (i := 2) (oi := ⟨some 64, _, _, _, _, _⟩) (v := ?_) rfl (by kernel_rfl) (by kernel_rfl) (by kernel_rfl) (fun _ _ _ h => h) (Or.inl ⟨by rfl, ?_⟩) (by assumption) ?_
   rotate_left 1
   ·intro wS hSw; (try dsimp only at hSw); have c0 := cell_on hSw c0; have c1 := cell_on hSw c1; have c2 := cell_on hSw c2; have c3 := cell_on hSw c3; have c4 := cell_on hSw c4; have c5 := cell_on hSw c5; go_simp; (try rw [if_neg (by first | omega | (simp [ByteArray.size_append]; omega))]); try with_reducible rfl
   try simp only [Act.put, qxr47a, qxr47b, qxr47c]
   refine wpAnyH_take (i := 5) (oi := ⟨some 67, _, _, _, _, _⟩) (v := ?_) rfl (by kernel_rfl) (by kernel_rfl) (by kernel_rfl) (fun _ _ _ h => h) (Or.inl ⟨by rfl, ?_⟩) (by assumption) ?_
   rotate_left 1
   ·intro wS hSw; (try dsimp only at hSw); go_simp; (try rw [if_neg (by first | omega | (simp [ByteArray.size_append]; omega))]); try with_reducible rfl
   try simp only [Act.put, qxr47a, qxr47b, qxr47c]
   refine wpAnyH_take (i := 6) (oi := ⟨some 68, _, _, _, _, _⟩) (v := ?_) rfl (by kernel_rfl) (by kernel_rfl) (by kernel_rfl) (fun _ _ _ h => h) (Or.inl ⟨by rfl, ?_⟩) (by assumption) ?_
   rotate_left 1
   ·intro wS hSw; (try dsimp only at hSw); have c0 := cell_on hSw c0; have c1 := cell_on hSw c1; have c2 := cell_on hSw c2; have c3 := cell_on hSw c3; have c4 := cell_on hSw c4; have c5 := cell_on hSw c5; go_simp; (try rw [if_neg (by first | omega | (simp [ByteArray.size_append]; omega))]); try with_reducible rfl
   try simp only [Act.put, qxr47a, qxr47b, qxr47c]
   refine wpAnyH_take (i := 9) (oi := ⟨some 71, _, _, _, _, _⟩) (v := ?_) rfl (by kernel_rfl) (by kernel_rfl) (by kernel_rfl) (fun _ _ _ h => h) (Or.inl ⟨by rfl, ?_⟩) (by assumption) ?_
   rotate_left 1
   ·intro wS hSw; (try dsimp only at hSw); go_simp; (try rw [if_neg (by first | omega | (simp [ByteArray.size_append]; omega))]); try with_reducible rfl
   try simp only [Act.put, qxr47a, qxr47b, qxr47c]
   refine wpAnyH_take (i := 10) (oi := ⟨some 72, _, _, _, _, _⟩) (v := ?_) rfl (by kernel_rfl) (by kernel_rfl) (by kernel_rfl) (fun _ _ _ h => h) (Or.inl ⟨by rfl, ?_⟩) (by assumption) ?_
   rotate_left 1
   ·intro wS hSw; (try dsimp only at hSw); have c0 := cell_on hSw c0; have c1 := cell_on hSw c1; have c2 := cell_on hSw c2; have c3 := cell_on hSw c3; have c4 := cell_on hSw c4; have c5 := cell_on hSw c5; go_simp; (try rw [if_neg (by first | omega | (simp [ByteArray.size_append]; omega))]); try with_reducible rfl
   try simp only [Act.put, qxr47a, qxr47b, qxr47c]
   refine wpAnyH_take (i := 13) (oi := ⟨some 75, _, _, _, _, _⟩) (v := ?_) rfl (by kernel_rfl) (by kernel_rfl) (by kernel_rfl) (fun _ _ _ h => h) (Or.inl ⟨by rfl, ?_⟩) (by assumption) ?_
   rotate_left 1
   ·intro wS hSw; (try dsimp only at hSw); go_simp; (try rw [if_neg (by first | omega | (simp [ByteArray.size_append]; omega))]); try with_reducible rfl
   try simp only [Act.put, qxr47a, qxr47b, qxr47c]
   refine wpAnyH_take (i := 14) (oi := ⟨some 76, _, _, _, _, _⟩) (v := ?_) rfl (by kernel_rfl) (by kernel_rfl) (by kernel_rfl) (fun _ _ _ h => h) (Or.inl ⟨by rfl, ?_⟩) (by assumption) ?_
   rotate_left 1
   ·intro wS hSw; (try dsimp only at hSw); have c0 := cell_on hSw c0; have c1 := cell_on hSw c1; have c2 := cell_on hSw c2; have c3 := cell_on hSw c3; have c4 := cell_on hSw c4; have c5 := cell_on hSw c5; go_simp; (try rw [if_neg (by first | omega | (simp [ByteArray.size_append]; omega))]); try with_reducible rfl
   try simp only [Act.put, qxr47a, qxr47b, qxr47c]
   refine wpAnyH_take (i := 17) (oi := ⟨some 79, _, _, _, _, _⟩) (v := ?_) rfl (by kernel_rfl) (by kernel_rfl) (by kernel_rfl) (fun _ _ _ h => h) (Or.inl ⟨by rfl, ?_⟩) (by assumption) ?_
   rotate_left 1
   ·intro wS hSw; (try dsimp only at hSw); go_simp; (try rw [if_neg (by first | omega | (simp [ByteArray.size_append]; omega))]); try with_reducible rfl
   try simp only [Act.put, qxr47a, qxr47b, qxr47c]
   refine wpAnyH_take (i := 18) (oi := ⟨some 80, _, _, _, _, _⟩) (v := ?_) rfl (by kernel_rfl) (by kernel_rfl) (by kernel_rfl) (fun _ _ _ h => h) (Or.inl ⟨by rfl, ?_⟩) (by assumption) ?_
   rotate_left 1
   ·intro wS hSw; (try dsimp only at hSw); have c0 := cell_on hSw c0; have c1 := cell_on hSw c1; have c2 := cell_on hSw c2; have c3 := cell_on hSw c3; have c4 := cell_on hSw c4; have c5 := cell_on hSw c5; go_simp; (try rw [if_neg (by first | omega | (simp [ByteArray.size_append]; omega))]); try with_reducible rfl
   try simp only [Act.put, qxr47a, qxr47b, qxr47c]
   refine wpAnyH_take (i := 21) (oi := ⟨some 83, _, _, _, _, _⟩) (v := ?_) rfl (by kernel_rfl) (by kernel_rfl) (by kernel_rfl) (fun _ _ _ h => h) (Or.inl ⟨by rfl, ?_⟩) (by assumption) ?_
   rotate_left 1
   ·intro wS hSw; (try dsimp only at hSw); go_simp; (try rw [if_neg (by first | omega | (simp [ByteArray.size_append]; omega))]); try with_reducible rfl
   try simp only [Act.put, qxr47a, qxr47b, qxr47c]
   refine wpAnyH_take (i := 22) (oi := ⟨some 84, _, _, _, _, _⟩) (v := ?_) rfl (by kernel_rfl) (by kernel_rfl) (by kernel_rfl) (fun _ _ _ h => h) (Or.inl ⟨by rfl, ?_⟩) (by assumption) ?_
   rotate_left 1
   ·intro wS hSw; (try dsimp only at hSw); have c0 := cell_on hSw c0; have c1 := cell_on hSw c1; have c2 := cell_on hSw c2; have c3 := cell_on hSw c3; have c4 := cell_on hSw c4; have c5 := cell_on hSw c5; go_simp; (try rw [if_neg (by first | omega | (simp [ByteArray.size_append]; omega))]); try with_reducible rfl
   try simp only [Act.put, qxr47a, qxr47b, qxr47c]
   refine wpAnyH_ready (rs := [3]) (by kernel_rfl) (by simp) ?_
   refine AllReadyH.cons (o := ⟨some 65, _, _, _, _, _⟩) rfl (fun K hK => ?_) (AllReadyH.nil)
   go_simp
   go_at_call 52
   refine (HP0.out _).mono ?_
   rintro e wx ⟨rfl, hb2⟩
   refine hK.out _ _ (bthen hHeld hb2 (Nat.le_refl _)) (fun hHeld2 => ?_)
   clear hK K hHeld hb2
   have hHeld := hHeld2
   clear hHeld2
   try simp only [Act.put, qxr47a, qxr47b, qxr47c]
   refine wpAnyH_take (i := 4) (oi := ⟨some 66, _, _, _, _, _⟩) (v := ?_) rfl (by kernel_rfl) (by kernel_rfl) (by kernel_rfl) (fun _ _ _ h => h) (Or.inl ⟨by rfl, ?_⟩) (by assumption) ?_
   rotate_left 1
   ·intro wS hSw; (try dsimp only at hSw); go_simp; (try rw [if_neg (by first | omega | (simp [ByteArray.size_append]; omega))]); try with_reducible rfl
   try simp only [Act.put, qxr47a, qxr47b, qxr47c]
   refine wpAnyH_ready (rs := [7]) (by kernel_rfl) (by simp) ?_
   refine AllReadyH.cons (o := ⟨some 69, _, _, _, _, _⟩) rfl (fun K hK => ?_) (AllReadyH.nil)
   go_simp
   go_at_call 52
   refine (HP1.out _).mono ?_
   rintro e wx ⟨rfl, hb2⟩
   refine hK.out _ _ (bthen hHeld hb2 (Nat.le_refl _)) (fun hHeld2 => ?_)
   clear hK K hHeld hb2
   have hHeld := hHeld2
   clear hHeld2
   try simp only [Act.put, qxr47a, qxr47b, qxr47c]
   refine wpAnyH_take (i := 8) (oi := ⟨some 70, _, _, _, _, _⟩) (v := ?_) rfl (by kernel_rfl) (by kernel_rfl) (by kernel_rfl) (fun _ _ _ h => h) (Or.inl ⟨by rfl, ?_⟩) (by assumption) ?_
   rotate_left 1
   ·intro wS hSw; (try dsimp only at hSw); go_simp; (try rw [if_neg (by first | omega | (simp [ByteArray.size_append]; omega))]); try with_reducible rfl
   try simp only [Act.put, qxr47a, qxr47b, qxr47c]
   refine wpAnyH_ready (rs := [11]) (by kernel_rfl) (by simp) ?_
   refine AllReadyH.cons (o := ⟨some 73, _, _, _, _, _⟩) rfl (fun K hK => ?_) (AllReadyH.nil)
   go_simp
   go_at_call 53
   refine (HP2.out _).mono ?_
   rintro e wx ⟨rfl, hb2⟩
   refine hK.out _ _ (bthen hHeld hb2 (Nat.le_refl _)) (fun hHeld2 => ?_)
   clear hK K hHeld hb2
   have hHeld := hHeld2
   clear hHeld2
   try simp only [Act.put, qxr47a, qxr47b, qxr47c]
   refine wpAnyH_take (i := 12) (oi := ⟨some 74, _, _, _, _, _⟩) (v := ?_) rfl (by kernel_rfl) (by kernel_rfl) (by kernel_rfl) (fun _ _ _ h => h) (Or.inl ⟨by rfl, ?_⟩) (by assumption) ?_
   rotate_left 1
   ·intro wS hSw; (try dsimp only at hSw); go_simp; (try rw [if_neg (by first | omega | (simp [ByteArray.size_append]; omega))]); try with_reducible rfl
   try simp only [Act.put, qxr47a, qxr47b, qxr47c]
   refine wpAnyH_ready (rs := [15]) (by kernel_rfl) (by simp) ?_
   refine AllReadyH.cons (o := ⟨some 77, _, _, _, _, _⟩) rfl (fun K hK => ?_) (AllReadyH.nil)
   go_simp
   go_at_call 52
   refine (HP3.out _).mono ?_
   rintro e wx ⟨rfl, hb2⟩
   refine hK.out _ _ (bthen hHeld hb2 (Nat.le_refl _)) (fun hHeld2 => ?_)
   clear hK K hHeld hb2
   have hHeld := hHeld2
   clear hHeld2
   try simp only [Act.put, qxr47a, qxr47b, qxr47c]
   refine wpAnyH_take (i := 16) (oi := ⟨some 78, _, _, _, _, _⟩) (v := ?_) rfl (by kernel_rfl) (by kernel_rfl) (by kernel_rfl) (fun _ _ _ h => h) (Or.inl ⟨by rfl, ?_⟩) (by assumption) ?_
   rotate_left 1
   ·intro wS hSw; (try dsimp only at hSw); go_simp; (try rw [if_neg (by first | omega | (simp [ByteArray.size_append]; omega))]); try with_reducible rfl
   try simp only [Act.put, qxr47a, qxr47b, qxr47c]
   refine wpAnyH_ready (rs := [19]) (by kernel_rfl) (by simp) ?_
   refine AllReadyH.cons (o := ⟨some 81, _, _, _, _, _⟩) rfl (fun K hK => ?_) (AllReadyH.nil)
   go_simp
   go_at_call 54
   refine (HP4.out _ (HRN.out.on hHeld)).mono ?_
   rintro e wx ⟨rfl, hb2⟩
   refine hK.out _ _ (bthen hHeld hb2 (Nat.le_refl _)) (fun hHeld2 => ?_)
   clear hK K hHeld hb2
   have hHeld := hHeld2
   clear hHeld2
   try simp only [Act.put, qxr47a, qxr47b, qxr47c]
   refine wpAnyH_take (i := 20) (oi := ⟨some 82, _, _, _, _, _⟩) (v := ?_) rfl (by kernel_rfl) (by kernel_rfl) (by kernel_rfl) (fun _ _ _ h => h) (Or.inl ⟨by rfl, ?_⟩) (by assumption) ?_
   rotate_left 1
   ·intro wS hSw; (try dsimp only at hSw); go_simp; (try rw [if_neg (by first | omega | (simp [ByteArray.size_append]; omega))]); try with_reducible rfl
   try simp only [Act.put, qxr47a, qxr47b, qxr47c]
   refine wpAnyH_ready (rs := [23]) (by kernel_rfl) (by simp) ?_
   refine AllReadyH.cons (o := ⟨some 85, _, _, _, _, _⟩) rfl (fun K hK => ?_) (AllReadyH.nil)
   go_simp
   go_at_call 53
   refine (HP5.out _).mono ?_
   rintro e wx ⟨rfl, hb2⟩
   refine hK.out _ _ (bthen hHeld hb2 (Nat.le_refl _)) (fun hHeld2 => ?_)
   clear hK K hHeld hb2
   have hHeld := hHeld2
   clear hHeld2
   try simp only [Act.put, qxr47a, qxr47b, qxr47c]
   refine wpAnyH_take (i := 24) (oi := ⟨some 86, _, _, _, _, _⟩) (v := ?_) rfl (by kernel_rfl) (by kernel_rfl) (by kernel_rfl) (fun _ _ _ h => h) (Or.inl ⟨by rfl, ?_⟩) (by assumption) ?_
   rotate_left 1
   ·intro wS hSw; (try dsimp only at hSw); go_simp; (try rw [if_neg (by first | omega | (simp [ByteArray.size_append]; omega))]); try with_reducible rfl
   try simp only [Act.put, qxr47a, qxr47b, qxr47c]
   refine wpAnyH_take (i := 25) (oi := ⟨some 2, _, _, _, _, _⟩) (v := ?_) rfl (by kernel_rfl) (by kernel_rfl) (by kernel_rfl) (fun _ _ _ h => h) (Or.inl ⟨by rfl, ?_⟩) (by assumption) ?_
   rotate_left 1
   ·intro wS hSw; (try dsimp only at hSw); go_simp; (try rw [if_neg (by first | omega | (simp [ByteArray.size_append]; omega))]); try with_reducible rfl
   try simp only [Act.put, qxr47a, qxr47b, qxr47c]
   refine wpAnyH_done (by kernel_rfl) ?_ _
   have hZ := hHeld
   clear hHeld
   have HB9 := hid (bthen HBN.out hZ (Nat.le_refl _))
   clear hZ
   rw [HSM.out]
   go_wp2_with fail
   go_ret
   exact ⟨rfl, HB9.out⟩
  ·have HEV := hid (De.enc_6 hk)
   have hc : x.mail.code = 0 := by rw [← De.body_6 hk]; exact HC0.out.2.2
   have hl := De.mail_len hc
   have c0 : wc.cell? ⟨w.heap.size, 0, none⟩ = some (.int .u8 6) := by have q := HX.out.p.cs 0 _ rfl; rw [hk] at q; exact q
   have cl := HX.out.p.lt
   have e0 : (ofL (De.E1 x)).size ≤ 100 := by rw [ofL_size]; unfold De.E1; rw [List.length_append, Oct.length_be, Oct.length_be]; omega
   have HP0 := hid (fun W (q1 : Prs W B x.mail.head) => r13Bytes_any x.mail B d W q1 HF.out.mail hc)
   have t0 : (ofL x.mail.enc).size ≤ 3000 := by rw [ofL_size]; omega
   have HSM := hid (show ofL (De.E1 x) ++ ofL x.mail.enc = ofL x.enc by rw [HEV.out]; rw [ofL_app]; all_goals rfl)
   clear hk hl hc
   generalize ofL (De.E1 x) = E0 at *
   generalize ofL x.mail.enc = P0 at *
   simp only [maV] at *
   have c21 := HX.out.p.cs 21 _ rfl
   have c22 := HX.out.p.cs 22 _ rfl
   have c23 := HX.out.p.cs 23 _ rfl
   have c24 := HX.out.p.cs 24 _ rfl
   have c25 := HX.out.p.cs 25 _ rfl
   have c26 := HX.out.p.cs 26 _ rfl
   have c27 := HX.out.p.cs 27 _ rfl
   have hcat : ¬ (9223372036854775807 < E0.size + P0.size) := by omega
   go_wp2_with fail
   refine (HP0.out _ HX.out.rb).mono ?_
   rintro e w5 ⟨rfl, b5⟩
   have HB5 := hid (bthen HB.out b5 (Nat.le_refl _))
   clear b5
   go_wp2_with fail
   go_ret
   exact ⟨by rw [HSM.out]; rfl, HB5.out⟩
  ·have HEV := hid (De.enc_7 hk)
   have hl : x.name.length ≤ 16 := (Hd.name_ok_len (by rw [← De.body_7 hk]; exact HC0.out.2.2)).1
   have c0 : wc.cell? ⟨w.heap.size, 0, none⟩ = some (.int .u8 7) := by have q := HX.out.p.cs 0 _ rfl; rw [hk] at q; exact q
   have cl := HX.out.p.lt
   have e0 : (ofL (De.E1 x)).size ≤ 100 := by rw [ofL_size]; unfold De.E1; rw [List.length_append, Oct.length_be, Oct.length_be]; omega
   have HP0 := hid (fun W => hrtext_l x.name W (by omega))
   have t0 : (ofL (Oct.text x.name)).size ≤ 300 := by rw [ofL_size]; unfold Oct.text; rw [List.length_append, Oct.length_be]; omega
   have HSM := hid (show ofL (De.E1 x) ++ ofL (Oct.text x.name) = ofL x.enc by rw [HEV.out]; rw [ofL_app]; all_goals rfl)
   clear hk hl
   generalize ofL (De.E1 x) = E0 at *
   generalize ofL (Oct.text x.name) = P0 at *
   have c15 := HX.out.p.cs 15 _ rfl
   have hcat : ¬ (9223372036854775807 < E0.size + P0.size) := by omega
   go_wp2_with fail
   refine (HP0.out _).mono ?_
   rintro e w5 ⟨rfl, b5⟩
   have HB5 := hid (bthen HB.out b5 (Nat.le_refl _))
   clear b5
   go_wp2_with fail
   go_ret
   exact ⟨by rw [HSM.out]; rfl, HB5.out⟩
  ·have HEV := hid (De.enc_8 hk)
   have hl := De.stc_len (x := x) (by rw [← De.body_8 hk]; exact HC0.out.2.2)
   have c0 : wc.cell? ⟨w.heap.size, 0, none⟩ = some (.int .u8 8) := by have q := HX.out.p.cs 0 _ rfl; rw [hk] at q; exact q
   have cl := HX.out.p.lt
   have e0 : (ofL (De.E1 x)).size ≤ 100 := by rw [ofL_size]; unfold De.E1; rw [List.length_append, Oct.length_be, Oct.length_be]; omega
   have HP0 := hid (fun W => hrtext_l x.name W (by omega))
   have t0 : (ofL (Oct.text x.name)).size ≤ 300 := by rw [ofL_size]; unfold Oct.text; rw [List.length_append, Oct.length_be]; omega
   have HP1 := hid (fun W => hrnum_l x.id 8 8 W HF.out.id (by omega) rfl)
   have t1 : (ofL (Oct.be 8 x.id)).size ≤ 300 := by rw [ofL_size, Oct.length_be]; omega
   have HP2 := hid (fun W => hrnum_l x.how 1 1 W (by have := HF.out.how; omega) (by omega) rfl)
   have t2 : (ofL (Oct.be 1 x.how)).size ≤ 300 := by rw [ofL_size, Oct.length_be]; omega
   have hw11 : IntKind.u64.wrap (x.how : Int) = (x.how : Int) := by rw [IntKind.wrap_u64]; have := HF.out.how; omega
   have HSM := hid (show ofL (De.E1 x) ++ ofL (Oct.text x.name) ++ ofL (Oct.be 8 x.id) ++ ofL (Oct.be 1 x.how) = ofL x.enc by rw [HEV.out]; rw [ofL_app, ofL_app, ofL_app]; all_goals rfl)
   clear hk hl
   generalize ofL (De.E1 x) = E0 at *
   generalize ofL (Oct.text x.name) = P0 at *
   generalize ofL (Oct.be 8 x.id) = P1 at *
   generalize ofL (Oct.be 1 x.how) = P2 at *
   have c15 := HX.out.p.cs 15 _ rfl
   have c16 := HX.out.p.cs 16 _ rfl
   have c17 := HX.out.p.cs 17 _ rfl
   go_upto_region 14 with fail
   refine wp_region_held_drew (S := fun a => Below (wc.heap.size) wc a) (by kernel_rfl) (by (try dsimp only); exact (Below.refl _ _).drew) (fun hHeld => ?_)
   refine wpAnyH_take (i := 0) (oi := ⟨some 96, _, _, _, _, _⟩) (v := ?_) rfl (by kernel_rfl) (by kernel_rfl) (by kernel_rfl) (fun _ _ _ h => h) (Or.inl ⟨by rfl, ?_⟩) (by assumption) ?_
   rotate_left 1
   ·intro wS hSw; (try dsimp only at hSw); go_simp; (try rw [if_neg (by first | omega | (simp [ByteArray.size_append]; omega))]); try with_reducible rfl
   try simp only [Act.put, qxr47a, qxr47b, qxr47c]
   refine wpAnyH_take (i := 1) (oi := ⟨some 97, _, _, _, _, _⟩) (v := ?_) rfl (by kernel_rfl) (by kernel_rfl) (by kernel_rfl) (fun _ _ _ h => h) (Or.inl ⟨by rfl, ?_⟩) (by assumption) ?_
   rotate_left 1
   ·intro wS hSw; (try dsimp only at hSw); go_simp; (try rw [if_neg (by first | omega | (simp [ByteArray.size_append]; omega))]); try with_reducible rfl
   try simp only [Act.put, qxr47a, qxr47b, qxr47c]
   refine wpAnyH_take (i := 2) (oi := ⟨some 98, _, _, _, _, _⟩) (v := ?_) rfl (by kernel_rfl) (by kernel_rfl) (by kernel_rfl) (fun _ _ _ h => h) (Or.inl ⟨by rfl, ?_⟩) (by assumption) ?_
   rotate_left 1
   ·intro wS hSw; (try dsimp only at hSw); have c15 := cell_on hSw c15; have c16 := cell_on hSw c16; have c17 := cell_on hSw c17; go_simp; (try rw [if_neg (by first | omega | (simp [ByteArray.size_append]; omega))]); try with_reducible rfl
   try simp only [Act.put, qxr47a, qxr47b, qxr47c]
   refine wpAnyH_take (i := 5) (oi := ⟨some 101, _, _, _, _, _⟩) (v := ?_) rfl (by kernel_rfl) (by kernel_rfl) (by kernel_rfl) (fun _ _ _ h => h) (Or.inl ⟨by rfl, ?_⟩) (by assumption) ?_
   rotate_left 1
   ·intro wS hSw; (try dsimp only at hSw); go_simp; (try rw [if_neg (by first | omega | (simp [ByteArray.size_append]; omega))]); try with_reducible rfl
   try simp only [Act.put, qxr47a, qxr47b, qxr47c]
   refine wpAnyH_take (i := 6) (oi := ⟨some 102, _, _, _, _, _⟩) (v := ?_) rfl (by kernel_rfl) (by kernel_rfl) (by kernel_rfl) (fun _ _ _ h => h) (Or.inl ⟨by rfl, ?_⟩) (by assumption) ?_
   rotate_left 1
   ·intro wS hSw; (try dsimp only at hSw); have c15 := cell_on hSw c15; have c16 := cell_on hSw c16; have c17 := cell_on hSw c17; go_simp; (try rw [if_neg (by first | omega | (simp [ByteArray.size_append]; omega))]); try with_reducible rfl
   try simp only [Act.put, qxr47a, qxr47b, qxr47c]
   refine wpAnyH_take (i := 9) (oi := ⟨some 105, _, _, _, _, _⟩) (v := ?_) rfl (by kernel_rfl) (by kernel_rfl) (by kernel_rfl) (fun _ _ _ h => h) (Or.inl ⟨by rfl, ?_⟩) (by assumption) ?_
   rotate_left 1
   ·intro wS hSw; (try dsimp only at hSw); go_simp; (try rw [if_neg (by first | omega | (simp [ByteArray.size_append]; omega))]); try with_reducible rfl
   try simp only [Act.put, qxr47a, qxr47b, qxr47c]
   refine wpAnyH_take (i := 10) (oi := ⟨some 106, _, _, _, _, _⟩) (v := ?_) rfl (by kernel_rfl) (by kernel_rfl) (by kernel_rfl) (fun _ _ _ h => h) (Or.inl ⟨by rfl, ?_⟩) (by assumption) ?_
   rotate_left 1
   ·intro wS hSw; (try dsimp only at hSw); have c15 := cell_on hSw c15; have c16 := cell_on hSw c16; have c17 := cell_on hSw c17; go_simp; (try rw [if_neg (by first | omega | (simp [ByteArray.size_append]; omega))]); try with_reducible rfl
   try simp only [Act.put, qxr47a, qxr47b, qxr47c]
   refine wpAnyH_take (i := 11) (oi := ⟨some 107, _, _, _, _, _⟩) (v := ?_) rfl (by kernel_rfl) (by kernel_rfl) (by kernel_rfl) (fun _ _ _ h => h) (Or.inl ⟨by rfl, ?_⟩) (by assumption) ?_
   rotate_left 1
   ·intro wS hSw; (try dsimp only at hSw); go_simp; (try rw [if_neg (by first | omega | (simp [ByteArray.size_append]; omega))]); try with_reducible rfl
   try simp only [Act.put, qxr47a, qxr47b, qxr47c]
   refine wpAnyH_ready (rs := [3]) (by kernel_rfl) (by simp) ?_
   refine AllReadyH.cons (o := ⟨some 99, _, _, _, _, _⟩) rfl (fun K hK => ?_) (AllReadyH.nil)
   go_simp
   go_at_call 52
   refine (HP0.out _).mono ?_
   rintro e wx ⟨rfl, hb2⟩
   refine hK.out _ _ (bthen hHeld hb2 (Nat.le_refl _)) (fun hHeld2 => ?_)
   clear hK K hHeld hb2
   have hHeld := hHeld2
   clear hHeld2
   try simp only [Act.put, qxr47a, qxr47b, qxr47c]
   refine wpAnyH_take (i := 4) (oi := ⟨some 100, _, _, _, _, _⟩) (v := ?_) rfl (by kernel_rfl) (by kernel_rfl) (by kernel_rfl) (fun _ _ _ h => h) (Or.inl ⟨by rfl, ?_⟩) (by assumption) ?_
   rotate_left 1
   ·intro wS hSw; (try dsimp only at hSw); go_simp; (try rw [if_neg (by first | omega | (simp [ByteArray.size_append]; omega))]); try with_reducible rfl
   try simp only [Act.put, qxr47a, qxr47b, qxr47c]
   refine wpAnyH_ready (rs := [7]) (by kernel_rfl) (by simp) ?_
   refine AllReadyH.cons (o := ⟨some 103, _, _, _, _, _⟩) rfl (fun K hK => ?_) (AllReadyH.nil)
   go_simp
   go_at_call 22
   refine (HP1.out _).mono ?_
   rintro e wx ⟨rfl, hb2⟩
   refine hK.out _ _ (bthen hHeld hb2 (Nat.le_refl _)) (fun hHeld2 => ?_)
   clear hK K hHeld hb2
   have hHeld := hHeld2
   clear hHeld2
   try simp only [Act.put, qxr47a, qxr47b, qxr47c]
   refine wpAnyH_take (i := 8) (oi := ⟨some 104, _, _, _, _, _⟩) (v := ?_) rfl (by kernel_rfl) (by kernel_rfl) (by kernel_rfl) (fun _ _ _ h => h) (Or.inl ⟨by rfl, ?_⟩) (by assumption) ?_
   rotate_left 1
   ·intro wS hSw; (try dsimp only at hSw); go_simp; (try rw [if_neg (by first | omega | (simp [ByteArray.size_append]; omega))]); try with_reducible rfl
   try simp only [Act.put, qxr47a, qxr47b, qxr47c]
   refine wpAnyH_ready (rs := [12]) (by kernel_rfl) (by simp) ?_
   refine AllReadyH.cons (o := ⟨some 108, _, _, _, _, _⟩) rfl (fun K hK => ?_) (AllReadyH.nil)
   go_simp
   go_at_call 22
   refine (HP2.out _).mono ?_
   rintro e wx ⟨rfl, hb2⟩
   refine hK.out _ _ (bthen hHeld hb2 (Nat.le_refl _)) (fun hHeld2 => ?_)
   clear hK K hHeld hb2
   have hHeld := hHeld2
   clear hHeld2
   try simp only [Act.put, qxr47a, qxr47b, qxr47c]
   refine wpAnyH_take (i := 13) (oi := ⟨some 109, _, _, _, _, _⟩) (v := ?_) rfl (by kernel_rfl) (by kernel_rfl) (by kernel_rfl) (fun _ _ _ h => h) (Or.inl ⟨by rfl, ?_⟩) (by assumption) ?_
   rotate_left 1
   ·intro wS hSw; (try dsimp only at hSw); go_simp; (try rw [if_neg (by first | omega | (simp [ByteArray.size_append]; omega))]); try with_reducible rfl
   try simp only [Act.put, qxr47a, qxr47b, qxr47c]
   refine wpAnyH_take (i := 14) (oi := ⟨some 2, _, _, _, _, _⟩) (v := ?_) rfl (by kernel_rfl) (by kernel_rfl) (by kernel_rfl) (fun _ _ _ h => h) (Or.inl ⟨by rfl, ?_⟩) (by assumption) ?_
   rotate_left 1
   ·intro wS hSw; (try dsimp only at hSw); go_simp; (try rw [if_neg (by first | omega | (simp [ByteArray.size_append]; omega))]); try with_reducible rfl
   try simp only [Act.put, qxr47a, qxr47b, qxr47c]
   refine wpAnyH_done (by kernel_rfl) ?_ _
   have hZ := hHeld
   clear hHeld
   have HB9 := hid (bthen HB.out hZ (Nat.le_refl _))
   clear hZ
   rw [HSM.out]
   go_wp2_with fail
   go_ret
   exact ⟨rfl, HB9.out⟩
  ·have HEV := hid (De.enc_9 hk)
   have c0 : wc.cell? ⟨w.heap.size, 0, none⟩ = some (.int .u8 9) := by have q := HX.out.p.cs 0 _ rfl; rw [hk] at q; exact q
   have cl := HX.out.p.lt
   have HSM := hid (show ofL (De.E1 x) = ofL x.enc by rw [HEV.out])
   clear hk
   generalize ofL (De.E1 x) = E0 at *
   go_wp2_with fail
   go_ret
   exact ⟨by rw [HSM.out]; rfl, HB.out⟩
  ·have HEV := hid (De.enc_10 hk)
   have hc : x.mail.code = 0 := by rw [← De.body_10 hk]; exact HC0.out.2.2
   have hl := De.mail_len hc
   have c0 : wc.cell? ⟨w.heap.size, 0, none⟩ = some (.int .u8 10) := by have q := HX.out.p.cs 0 _ rfl; rw [hk] at q; exact q
   have cl := HX.out.p.lt
   have e0 : (ofL (De.E1 x)).size ≤ 100 := by rw [ofL_size]; unfold De.E1; rw [List.length_append, Oct.length_be, Oct.length_be]; omega
   have HP0 := hid (fun W => hrnum_l x.frm 1 1 W (by have := HF.out.frm; omega) (by omega) rfl)
   have t0 : (ofL (Oct.be 1 x.frm)).size ≤ 300 := by rw [ofL_size, Oct.length_be]; omega
   have HP1 := hid (fun W => hrnum_l x.num 8 8 W HF.out.num (by omega) rfl)
   have t1 : (ofL (Oct.be 8 x.num)).size ≤ 300 := by rw [ofL_size, Oct.length_be]; omega
   have HP2 := hid (fun W (q1 : Prs W B x.mail.head) => r13Bytes_any x.mail B d W q1 HF.out.mail hc)
   have t2 : (ofL x.mail.enc).size ≤ 3000 := by rw [ofL_size]; omega
   have hw3 : IntKind.u64.wrap (x.frm : Int) = (x.frm : Int) := by rw [IntKind.wrap_u64]; have := HF.out.frm; omega
   have HSM := hid (show ofL (De.E1 x) ++ ofL (Oct.be 1 x.frm) ++ ofL (Oct.be 8 x.num) ++ ofL x.mail.enc = ofL x.enc by rw [HEV.out]; rw [ofL_app, ofL_app, ofL_app]; all_goals rfl)
   clear hk hl hc
   generalize ofL (De.E1 x) = E0 at *
   generalize ofL (Oct.be 1 x.frm) = P0 at *
   generalize ofL (Oct.be 8 x.num) = P1 at *
   generalize ofL x.mail.enc = P2 at *
   simp only [maV] at *
   have c18 := HX.out.p.cs 18 _ rfl
   have c20 := HX.out.p.cs 20 _ rfl
   have c21 := HX.out.p.cs 21 _ rfl
   have c22 := HX.out.p.cs 22 _ rfl
   have c23 := HX.out.p.cs 23 _ rfl
   have c24 := HX.out.p.cs 24 _ rfl
   have c25 := HX.out.p.cs 25 _ rfl
   have c26 := HX.out.p.cs 26 _ rfl
   have c27 := HX.out.p.cs 27 _ rfl
   go_upto_region 19 with fail
   refine wp_region_held_drew (S := fun a => Below (wc.heap.size) wc a) (by kernel_rfl) (by (try dsimp only); exact (Below.refl _ _).drew) (fun hHeld => ?_)
   refine wpAnyH_take (i := 0) (oi := ⟨some 116, _, _, _, _, _⟩) (v := ?_) rfl (by kernel_rfl) (by kernel_rfl) (by kernel_rfl) (fun _ _ _ h => h) (Or.inl ⟨by rfl, ?_⟩) (by assumption) ?_
   rotate_left 1
   ·intro wS hSw; (try dsimp only at hSw); go_simp; (try rw [if_neg (by first | omega | (simp [ByteArray.size_append]; omega))]); try with_reducible rfl
   try simp only [Act.put, qxr47a, qxr47b, qxr47c]
   refine wpAnyH_take (i := 1) (oi := ⟨some 117, _, _, _, _, _⟩) (v := ?_) rfl (by kernel_rfl) (by kernel_rfl) (by kernel_rfl) (fun _ _ _ h => h) (Or.inl ⟨by rfl, ?_⟩) (by assumption) ?_
   rotate_left 1
   ·intro wS hSw; (try dsimp only at hSw); go_simp; (try rw [if_neg (by first | omega | (simp [ByteArray.size_append]; omega))]); try with_reducible rfl
   try simp only [Act.put, qxr47a, qxr47b, qxr47c]
   refine wpAnyH_take (i := 2) (oi := ⟨some 118, _, _, _, _, _⟩) (v := ?_) rfl (by kernel_rfl) (by kernel_rfl) (by kernel_rfl) (fun _ _ _ h => h) (Or.inl ⟨by rfl, ?_⟩) (by assumption) ?_
   rotate_left 1
   ·intro wS hSw; (try dsimp only at hSw); have c18 := cell_on hSw c18; have c20 := cell_on hSw c20; have c21 := cell_on hSw c21; have c22 := cell_on hSw c22; have c23 := cell_on hSw c23; have c24 := cell_on hSw c24; have c25 := cell_on hSw c25; have c26 := cell_on hSw c26; have c27 := cell_on hSw c27; go_simp; (try rw [if_neg (by first | omega | (simp [ByteArray.size_append]; omega))]); try with_reducible rfl
   try simp only [Act.put, qxr47a, qxr47b, qxr47c]
   refine wpAnyH_take (i := 3) (oi := ⟨some 119, _, _, _, _, _⟩) (v := ?_) rfl (by kernel_rfl) (by kernel_rfl) (by kernel_rfl) (fun _ _ _ h => h) (Or.inl ⟨by rfl, ?_⟩) (by assumption) ?_
   rotate_left 1
   ·intro wS hSw; (try dsimp only at hSw); go_simp; (try rw [if_neg (by first | omega | (simp [ByteArray.size_append]; omega))]); try with_reducible rfl
   try simp only [Act.put, qxr47a, qxr47b, qxr47c]
   refine wpAnyH_take (i := 6) (oi := ⟨some 122, _, _, _, _, _⟩) (v := ?_) rfl (by kernel_rfl) (by kernel_rfl) (by kernel_rfl) (fun _ _ _ h => h) (Or.inl ⟨by rfl, ?_⟩) (by assumption) ?_
   rotate_left 1
   ·intro wS hSw; (try dsimp only at hSw); go_simp; (try rw [if_neg (by first | omega | (simp [ByteArray.size_append]; omega))]); try with_reducible rfl
   try simp only [Act.put, qxr47a, qxr47b, qxr47c]
   refine wpAnyH_take (i := 7) (oi := ⟨some 123, _, _, _, _, _⟩) (v := ?_) rfl (by kernel_rfl) (by kernel_rfl) (by kernel_rfl) (fun _ _ _ h => h) (Or.inl ⟨by rfl, ?_⟩) (by assumption) ?_
   rotate_left 1
   ·intro wS hSw; (try dsimp only at hSw); have c18 := cell_on hSw c18; have c20 := cell_on hSw c20; have c21 := cell_on hSw c21; have c22 := cell_on hSw c22; have c23 := cell_on hSw c23; have c24 := cell_on hSw c24; have c25 := cell_on hSw c25; have c26 := cell_on hSw c26; have c27 := cell_on hSw c27; go_simp; (try rw [if_neg (by first | omega | (simp [ByteArray.size_append]; omega))]); try with_reducible rfl
   try simp only [Act.put, qxr47a, qxr47b, qxr47c]
   refine wpAnyH_take (i := 10) (oi := ⟨some 126, _, _, _, _, _⟩) (v := ?_) rfl (by kernel_rfl) (by kernel_rfl) (by kernel_rfl) (fun _ _ _ h => h) (Or.inl ⟨by rfl, ?_⟩) (by assumption) ?_
   rotate_left 1
   ·intro wS hSw; (try dsimp only at hSw); go_simp; (try rw [if_neg (by first | omega | (simp [ByteArray.size_append]; omega))]); try with_reducible rfl
   try simp only [Act.put, qxr47a, qxr47b, qxr47c]
   refine wpAnyH_take (i := 11) (oi := ⟨some 127, _, _, _, _, _⟩) (v := ?_) rfl (by kernel_rfl) (by kernel_rfl) (by kernel_rfl) (fun _ _ _ h => h) (Or.inl ⟨by rfl, ?_⟩) (by assumption) ?_
   rotate_left 1
   ·intro wS hSw; (try dsimp only at hSw); have c18 := cell_on hSw c18; have c20 := cell_on hSw c20; have c21 := cell_on hSw c21; have c22 := cell_on hSw c22; have c23 := cell_on hSw c23; have c24 := cell_on hSw c24; have c25 := cell_on hSw c25; have c26 := cell_on hSw c26; have c27 := cell_on hSw c27; go_simp; (try rw [if_neg (by first | omega | (simp [ByteArray.size_append]; omega))]); try with_reducible rfl
   try simp only [Act.put, qxr47a, qxr47b, qxr47c]
   refine wpAnyH_ready (rs := [4]) (by kernel_rfl) (by simp) ?_
   refine AllReadyH.cons (o := ⟨some 120, _, _, _, _, _⟩) rfl (fun K hK => ?_) (AllReadyH.nil)
   go_simp
   go_at_call 22
   refine (HP0.out _).mono ?_
   rintro e wx ⟨rfl, hb2⟩
   refine hK.out _ _ (bthen hHeld hb2 (Nat.le_refl _)) (fun hHeld2 => ?_)
   clear hK K hHeld hb2
   have hHeld := hHeld2
   clear hHeld2
   try simp only [Act.put, qxr47a, qxr47b, qxr47c]
   refine wpAnyH_take (i := 5) (oi := ⟨some 121, _, _, _, _, _⟩) (v := ?_) rfl (by kernel_rfl) (by kernel_rfl) (by kernel_rfl) (fun _ _ _ h => h) (Or.inl ⟨by rfl, ?_⟩) (by assumption) ?_
   rotate_left 1
   ·intro wS hSw; (try dsimp only at hSw); go_simp; (try rw [if_neg (by first | omega | (simp [ByteArray.size_append]; omega))]); try with_reducible rfl
   try simp only [Act.put, qxr47a, qxr47b, qxr47c]
   refine wpAnyH_ready (rs := [8]) (by kernel_rfl) (by simp) ?_
   refine AllReadyH.cons (o := ⟨some 124, _, _, _, _, _⟩) rfl (fun K hK => ?_) (AllReadyH.nil)
   go_simp
   go_at_call 22
   refine (HP1.out _).mono ?_
   rintro e wx ⟨rfl, hb2⟩
   refine hK.out _ _ (bthen hHeld hb2 (Nat.le_refl _)) (fun hHeld2 => ?_)
   clear hK K hHeld hb2
   have hHeld := hHeld2
   clear hHeld2
   try simp only [Act.put, qxr47a, qxr47b, qxr47c]
   refine wpAnyH_take (i := 9) (oi := ⟨some 125, _, _, _, _, _⟩) (v := ?_) rfl (by kernel_rfl) (by kernel_rfl) (by kernel_rfl) (fun _ _ _ h => h) (Or.inl ⟨by rfl, ?_⟩) (by assumption) ?_
   rotate_left 1
   ·intro wS hSw; (try dsimp only at hSw); go_simp; (try rw [if_neg (by first | omega | (simp [ByteArray.size_append]; omega))]); try with_reducible rfl
   try simp only [Act.put, qxr47a, qxr47b, qxr47c]
   refine wpAnyH_ready (rs := [12]) (by kernel_rfl) (by simp) ?_
   refine AllReadyH.cons (o := ⟨some 128, _, _, _, _, _⟩) rfl (fun K hK => ?_) (AllReadyH.nil)
   go_simp
   go_at_call 55
   refine (HP2.out _ (HX.out.rb.on hHeld)).mono ?_
   rintro e wx ⟨rfl, hb2⟩
   refine hK.out _ _ (bthen hHeld hb2 (Nat.le_refl _)) (fun hHeld2 => ?_)
   clear hK K hHeld hb2
   have hHeld := hHeld2
   clear hHeld2
   try simp only [Act.put, qxr47a, qxr47b, qxr47c]
   refine wpAnyH_take (i := 13) (oi := ⟨some 129, _, _, _, _, _⟩) (v := ?_) rfl (by kernel_rfl) (by kernel_rfl) (by kernel_rfl) (fun _ _ _ h => h) (Or.inl ⟨by rfl, ?_⟩) (by assumption) ?_
   rotate_left 1
   ·intro wS hSw; (try dsimp only at hSw); go_simp; (try rw [if_neg (by first | omega | (simp [ByteArray.size_append]; omega))]); try with_reducible rfl
   try simp only [Act.put, qxr47a, qxr47b, qxr47c]
   refine wpAnyH_take (i := 14) (oi := ⟨some 2, _, _, _, _, _⟩) (v := ?_) rfl (by kernel_rfl) (by kernel_rfl) (by kernel_rfl) (fun _ _ _ h => h) (Or.inl ⟨by rfl, ?_⟩) (by assumption) ?_
   rotate_left 1
   ·intro wS hSw; (try dsimp only at hSw); go_simp; (try rw [if_neg (by first | omega | (simp [ByteArray.size_append]; omega))]); try with_reducible rfl
   try simp only [Act.put, qxr47a, qxr47b, qxr47c]
   refine wpAnyH_done (by kernel_rfl) ?_ _
   have hZ := hHeld
   clear hHeld
   have HB9 := hid (bthen HB.out hZ (Nat.le_refl _))
   clear hZ
   rw [HSM.out]
   go_wp2_with fail
   go_ret
   exact ⟨rfl, HB9.out⟩
  ·have HEV := hid (De.enc_11 hk)
   have c0 : wc.cell? ⟨w.heap.size, 0, none⟩ = some (.int .u8 11) := by have q := HX.out.p.cs 0 _ rfl; rw [hk] at q; exact q
   have cl := HX.out.p.lt
   have HSM := hid (show ofL (De.E1 x) = ofL x.enc by rw [HEV.out])
   clear hk
   generalize ofL (De.E1 x) = E0 at *
   go_wp2_with fail
   go_ret
   exact ⟨by rw [HSM.out]; rfl, HB.out⟩
  ·have HEV := hid (De.enc_12 hk)
   have hl : x.text.length ≤ 64 := by have g := HC0.out.2.2; rw [De.body_12 hk] at g; by_cases e : 64 < x.text.length; (rw [if_pos e] at g; omega); omega
   have c0 : wc.cell? ⟨w.heap.size, 0, none⟩ = some (.int .u8 12) := by have q := HX.out.p.cs 0 _ rfl; rw [hk] at q; exact q
   have cl := HX.out.p.lt
   have e0 : (ofL (De.E1 x)).size ≤ 100 := by rw [ofL_size]; unfold De.E1; rw [List.length_append, Oct.length_be, Oct.length_be]; omega
   have HP0 := hid (fun W => hrnum_l x.cd 1 1 W (by have := HF.out.cd; omega) (by omega) rfl)
   have t0 : (ofL (Oct.be 1 x.cd)).size ≤ 300 := by rw [ofL_size, Oct.length_be]; omega
   have HP1 := hid (fun W => hrtext_l x.text W (by omega))
   have t1 : (ofL (Oct.text x.text)).size ≤ 300 := by rw [ofL_size]; unfold Oct.text; rw [List.length_append, Oct.length_be]; omega
   have hw3 : IntKind.u64.wrap (x.cd : Int) = (x.cd : Int) := by rw [IntKind.wrap_u64]; have := HF.out.cd; omega
   have HSM := hid (show ofL (De.E1 x) ++ ofL (Oct.be 1 x.cd) ++ ofL (Oct.text x.text) = ofL x.enc by rw [HEV.out]; rw [ofL_app, ofL_app]; all_goals rfl)
   clear hk hl
   generalize ofL (De.E1 x) = E0 at *
   generalize ofL (Oct.be 1 x.cd) = P0 at *
   generalize ofL (Oct.text x.text) = P1 at *
   have c19 := HX.out.p.cs 19 _ rfl
   have c28 := HX.out.p.cs 28 _ rfl
   go_upto_region 21 with fail
   refine wp_region_held_drew (S := fun a => Below (wc.heap.size) wc a) (by kernel_rfl) (by (try dsimp only); exact (Below.refl _ _).drew) (fun hHeld => ?_)
   refine wpAnyH_take (i := 0) (oi := ⟨some 132, _, _, _, _, _⟩) (v := ?_) rfl (by kernel_rfl) (by kernel_rfl) (by kernel_rfl) (fun _ _ _ h => h) (Or.inl ⟨by rfl, ?_⟩) (by assumption) ?_
   rotate_left 1
   ·intro wS hSw; (try dsimp only at hSw); go_simp; (try rw [if_neg (by first | omega | (simp [ByteArray.size_append]; omega))]); try with_reducible rfl
   try simp only [Act.put, qxr47a, qxr47b, qxr47c]
   refine wpAnyH_take (i := 1) (oi := ⟨some 133, _, _, _, _, _⟩) (v := ?_) rfl (by kernel_rfl) (by kernel_rfl) (by kernel_rfl) (fun _ _ _ h => h) (Or.inl ⟨by rfl, ?_⟩) (by assumption) ?_
   rotate_left 1
   ·intro wS hSw; (try dsimp only at hSw); go_simp; (try rw [if_neg (by first | omega | (simp [ByteArray.size_append]; omega))]); try with_reducible rfl
   try simp only [Act.put, qxr47a, qxr47b, qxr47c]
   refine wpAnyH_take (i := 2) (oi := ⟨some 134, _, _, _, _, _⟩) (v := ?_) rfl (by kernel_rfl) (by kernel_rfl) (by kernel_rfl) (fun _ _ _ h => h) (Or.inl ⟨by rfl, ?_⟩) (by assumption) ?_
   rotate_left 1
   ·intro wS hSw; (try dsimp only at hSw); have c19 := cell_on hSw c19; have c28 := cell_on hSw c28; go_simp; (try rw [if_neg (by first | omega | (simp [ByteArray.size_append]; omega))]); try with_reducible rfl
   try simp only [Act.put, qxr47a, qxr47b, qxr47c]
   refine wpAnyH_take (i := 3) (oi := ⟨some 135, _, _, _, _, _⟩) (v := ?_) rfl (by kernel_rfl) (by kernel_rfl) (by kernel_rfl) (fun _ _ _ h => h) (Or.inl ⟨by rfl, ?_⟩) (by assumption) ?_
   rotate_left 1
   ·intro wS hSw; (try dsimp only at hSw); go_simp; (try rw [if_neg (by first | omega | (simp [ByteArray.size_append]; omega))]); try with_reducible rfl
   try simp only [Act.put, qxr47a, qxr47b, qxr47c]
   refine wpAnyH_take (i := 6) (oi := ⟨some 138, _, _, _, _, _⟩) (v := ?_) rfl (by kernel_rfl) (by kernel_rfl) (by kernel_rfl) (fun _ _ _ h => h) (Or.inl ⟨by rfl, ?_⟩) (by assumption) ?_
   rotate_left 1
   ·intro wS hSw; (try dsimp only at hSw); go_simp; (try rw [if_neg (by first | omega | (simp [ByteArray.size_append]; omega))]); try with_reducible rfl
   try simp only [Act.put, qxr47a, qxr47b, qxr47c]
   refine wpAnyH_take (i := 7) (oi := ⟨some 139, _, _, _, _, _⟩) (v := ?_) rfl (by kernel_rfl) (by kernel_rfl) (by kernel_rfl) (fun _ _ _ h => h) (Or.inl ⟨by rfl, ?_⟩) (by assumption) ?_
   rotate_left 1
   ·intro wS hSw; (try dsimp only at hSw); have c19 := cell_on hSw c19; have c28 := cell_on hSw c28; go_simp; (try rw [if_neg (by first | omega | (simp [ByteArray.size_append]; omega))]); try with_reducible rfl
   try simp only [Act.put, qxr47a, qxr47b, qxr47c]
   refine wpAnyH_ready (rs := [4]) (by kernel_rfl) (by simp) ?_
   refine AllReadyH.cons (o := ⟨some 136, _, _, _, _, _⟩) rfl (fun K hK => ?_) (AllReadyH.nil)
   go_simp
   go_at_call 22
   refine (HP0.out _).mono ?_
   rintro e wx ⟨rfl, hb2⟩
   refine hK.out _ _ (bthen hHeld hb2 (Nat.le_refl _)) (fun hHeld2 => ?_)
   clear hK K hHeld hb2
   have hHeld := hHeld2
   clear hHeld2
   try simp only [Act.put, qxr47a, qxr47b, qxr47c]
   refine wpAnyH_take (i := 5) (oi := ⟨some 137, _, _, _, _, _⟩) (v := ?_) rfl (by kernel_rfl) (by kernel_rfl) (by kernel_rfl) (fun _ _ _ h => h) (Or.inl ⟨by rfl, ?_⟩) (by assumption) ?_
   rotate_left 1
   ·intro wS hSw; (try dsimp only at hSw); go_simp; (try rw [if_neg (by first | omega | (simp [ByteArray.size_append]; omega))]); try with_reducible rfl
   try simp only [Act.put, qxr47a, qxr47b, qxr47c]
   refine wpAnyH_ready (rs := [8]) (by kernel_rfl) (by simp) ?_
   refine AllReadyH.cons (o := ⟨some 140, _, _, _, _, _⟩) rfl (fun K hK => ?_) (AllReadyH.nil)
   go_simp
   go_at_call 52
   refine (HP1.out _).mono ?_
   rintro e wx ⟨rfl, hb2⟩
   refine hK.out _ _ (bthen hHeld hb2 (Nat.le_refl _)) (fun hHeld2 => ?_)
   clear hK K hHeld hb2
   have hHeld := hHeld2
   clear hHeld2
   try simp only [Act.put, qxr47a, qxr47b, qxr47c]
   refine wpAnyH_take (i := 9) (oi := ⟨some 141, _, _, _, _, _⟩) (v := ?_) rfl (by kernel_rfl) (by kernel_rfl) (by kernel_rfl) (fun _ _ _ h => h) (Or.inl ⟨by rfl, ?_⟩) (by assumption) ?_
   rotate_left 1
   ·intro wS hSw; (try dsimp only at hSw); go_simp; (try rw [if_neg (by first | omega | (simp [ByteArray.size_append]; omega))]); try with_reducible rfl
   try simp only [Act.put, qxr47a, qxr47b, qxr47c]
   refine wpAnyH_take (i := 10) (oi := ⟨some 2, _, _, _, _, _⟩) (v := ?_) rfl (by kernel_rfl) (by kernel_rfl) (by kernel_rfl) (fun _ _ _ h => h) (Or.inl ⟨by rfl, ?_⟩) (by assumption) ?_
   rotate_left 1
   ·intro wS hSw; (try dsimp only at hSw); go_simp; (try rw [if_neg (by first | omega | (simp [ByteArray.size_append]; omega))]); try with_reducible rfl
   try simp only [Act.put, qxr47a, qxr47b, qxr47c]
   refine wpAnyH_done (by kernel_rfl) ?_ _
   have hZ := hHeld
   clear hHeld
   have HB9 := hid (bthen HB.out hZ (Nat.le_refl _))
   clear hZ
   rw [HSM.out]
   go_wp2_with fail
   go_ret
   exact ⟨rfl, HB9.out⟩
end Go.Proofs.YtaikigponkjkgaaGreatDoor
end
