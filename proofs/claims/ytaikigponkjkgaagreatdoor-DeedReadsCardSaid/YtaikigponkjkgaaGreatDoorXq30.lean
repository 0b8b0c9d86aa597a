/-
 A part of the proof.
-/
import Derived.Test.YtaikigponkjkgaaGreatDoorXq24
import Derived.Test.YtaikigponkjkgaaGreatDoorXq28
import Derived.Test.YtaikigponkjkgaaGreatDoorXq29
import Derived.Deep.RegionHeld3
import Derived.Deep.DeepCutAuto
section
namespace Go.Proofs.YtaikigponkjkgaaGreatDoor
open Go.ChangeShapes Go.WideShapes Go.ChangeAt Go.RowKit
open Go.Lib (hid)
theorem qxq30a (l : List Value) (i : Nat) (v : Value) : l.toArray.setIfInBounds i v = (l.set i v).toArray := by simp
theorem qxq30b (v u : Value) (l : List Value) : (v :: l).set 0 u = u :: l := rfl
theorem qxq30c (v u : Value) (n : Nat) (l : List Value) : (v :: l).set (n + 1) u = v :: l.set n u := rfl
def ToldPost (x : De) (A : Option Addr) (B : Option Addr) (w : World) (e : Ending) (w' : World) : Prop := ∃ A' c' B' d', e = .returned (deV x.told A' c' B' d') ∧ (∀ W, Prs W A x.bind.want → Prs W A' x.told.bind.want) ∧ (∀ W, Prs W B x.mail.head → Prs W B' x.told.mail.head) ∧ x.told.bind.want.length ≤ x.bind.want.length ∧ x.told.mail.head.length ≤ x.mail.head.length ∧ Below w.heap.size w w'
theorem ddTold_any (x : De) (A : Option Addr) (c : Nat) (B : Option Addr) (d : Nat) (w : World) (hk : ¬ 12 < x.kd) : Calls Tryz.prog 72 #[deV x A c B d] w (ToldPost x A B w) := by
 have h13 : x.kd = 0 ∨ x.kd = 1 ∨ x.kd = 2 ∨ x.kd = 3 ∨ x.kd = 4 ∨ x.kd = 5 ∨ x.kd = 6 ∨ x.kd = 7 ∨ x.kd = 8 ∨ x.kd = 9 ∨ x.kd = 10 ∨ x.kd = 11 ∨ x.kd = 12 := by omega
 rcases h13 with h | h | h | h | h | h | h | h | h | h | h | h | h
 ·refine (ddTold_0 x A c B d w h).mono ?_
  rintro e w' ⟨rfl, hb⟩
  refine ⟨none, 0, none, 0, rfl, ?_, ?_, ?_, ?_, hb⟩ <;> rw [De.told_0 h]
  ·exact fun W _ => Prs.nil W _
  ·exact fun W _ => Prs.nil W _
  ·exact Nat.zero_le _
  ·exact Nat.zero_le _
 ·refine (ddTold_1 x A c B d w h).mono ?_
  rintro e w' ⟨rfl, hb⟩
  refine ⟨none, 0, none, 0, rfl, ?_, ?_, ?_, ?_, hb⟩ <;> rw [De.told_1 h]
  ·exact fun W _ => Prs.nil W _
  ·exact fun W _ => Prs.nil W _
  ·exact Nat.zero_le _
  ·exact Nat.zero_le _
 ·refine (ddTold_2 x A c B d w h).mono ?_
  rintro e w' ⟨rfl, hb⟩
  refine ⟨none, 0, none, 0, rfl, ?_, ?_, ?_, ?_, hb⟩ <;> rw [De.told_2 h]
  ·exact fun W _ => Prs.nil W _
  ·exact fun W _ => Prs.nil W _
  ·exact Nat.zero_le _
  ·exact Nat.zero_le _
 ·refine (ddTold_3 x A c B d w h).mono ?_
  rintro e w' ⟨rfl, hb⟩
  refine ⟨none, 0, none, 0, rfl, ?_, ?_, ?_, ?_, hb⟩ <;> rw [De.told_3 h]
  ·exact fun W _ => Prs.nil W _
  ·exact fun W _ => Prs.nil W _
  ·exact Nat.zero_le _
  ·exact Nat.zero_le _
 ·refine (ddTold_4 x A c B d w h).mono ?_
  rintro e w' ⟨rfl, hb⟩
  refine ⟨A, c, none, 0, rfl, ?_, ?_, ?_, ?_, hb⟩ <;> rw [De.told_4 h]
  ·exact fun _ g => g
  ·exact fun W _ => Prs.nil W _
  ·exact Nat.le_refl _
  ·exact Nat.zero_le _
 ·refine (ddTold_5 x A c B d w h).mono ?_
  rintro e w' ⟨rfl, hb⟩
  refine ⟨A, c, none, 0, rfl, ?_, ?_, ?_, ?_, hb⟩ <;> rw [De.told_5 h]
  ·exact fun _ g => g
  ·exact fun W _ => Prs.nil W _
  ·exact Nat.le_refl _
  ·exact Nat.zero_le _
 ·refine (ddTold_6 x A c B d w h).mono ?_
  rintro e w' ⟨rfl, hb⟩
  refine ⟨none, 0, B, d, rfl, ?_, ?_, ?_, ?_, hb⟩ <;> rw [De.told_6 h]
  ·exact fun W _ => Prs.nil W _
  ·exact fun _ g => g
  ·exact Nat.zero_le _
  ·exact Nat.le_refl _
 ·refine (ddTold_7 x A c B d w h).mono ?_
  rintro e w' ⟨rfl, hb⟩
  refine ⟨none, 0, none, 0, rfl, ?_, ?_, ?_, ?_, hb⟩ <;> rw [De.told_7 h]
  ·exact fun W _ => Prs.nil W _
  ·exact fun W _ => Prs.nil W _
  ·exact Nat.zero_le _
  ·exact Nat.zero_le _
 ·refine (ddTold_8 x A c B d w h).mono ?_
  rintro e w' ⟨rfl, hb⟩
  refine ⟨none, 0, none, 0, rfl, ?_, ?_, ?_, ?_, hb⟩ <;> rw [De.told_8 h]
  ·exact fun W _ => Prs.nil W _
  ·exact fun W _ => Prs.nil W _
  ·exact Nat.zero_le _
  ·exact Nat.zero_le _
 ·refine (ddTold_9 x A c B d w h).mono ?_
  rintro e w' ⟨rfl, hb⟩
  refine ⟨none, 0, none, 0, rfl, ?_, ?_, ?_, ?_, hb⟩ <;> rw [De.told_9 h]
  ·exact fun W _ => Prs.nil W _
  ·exact fun W _ => Prs.nil W _
  ·exact Nat.zero_le _
  ·exact Nat.zero_le _
 ·refine (ddTold_10 x A c B d w h).mono ?_
  rintro e w' ⟨rfl, hb⟩
  refine ⟨none, 0, B, d, rfl, ?_, ?_, ?_, ?_, hb⟩ <;> rw [De.told_10 h]
  ·exact fun W _ => Prs.nil W _
  ·exact fun _ g => g
  ·exact Nat.zero_le _
  ·exact Nat.le_refl _
 ·refine (ddTold_11 x A c B d w h).mono ?_
  rintro e w' ⟨rfl, hb⟩
  refine ⟨none, 0, none, 0, rfl, ?_, ?_, ?_, ?_, hb⟩ <;> rw [De.told_11 h]
  ·exact fun W _ => Prs.nil W _
  ·exact fun W _ => Prs.nil W _
  ·exact Nat.zero_le _
  ·exact Nat.zero_le _
 ·refine (ddTold_12 x A c B d w h).mono ?_
  rintro e w' ⟨rfl, hb⟩
  refine ⟨none, 0, none, 0, rfl, ?_, ?_, ?_, ?_, hb⟩ <;> rw [De.told_12 h]
  ·exact fun W _ => Prs.nil W _
  ·exact fun W _ => Prs.nil W _
  ·exact Nat.zero_le _
  ·exact Nat.zero_le _
theorem De.body_0 {x : De} (hk : x.kd = 0) : x.body = De.shc x.shop := by unfold De.body; simp [hk]
theorem De.body_1 {x : De} (hk : x.kd = 1) : x.body = Wrd.nameCode x.name := by unfold De.body; simp [hk]
theorem De.body_2 {x : De} (hk : x.kd = 2) : x.body = De.quc x.q := by unfold De.body; simp [hk]
theorem De.body_3 {x : De} (hk : x.kd = 3) : x.body = Wrd.nameCode x.name := by unfold De.body; simp [hk]
theorem De.body_4 {x : De} (hk : x.kd = 4) : x.body = De.bdc x.bind := by unfold De.body; simp [hk]
theorem De.body_5 {x : De} (hk : x.kd = 5) : x.body = De.bdc x.bind := by unfold De.body; simp [hk]
theorem De.body_6 {x : De} (hk : x.kd = 6) : x.body = x.mail.code := by unfold De.body; simp [hk]
theorem De.body_7 {x : De} (hk : x.kd = 7) : x.body = Wrd.nameCode x.name := by unfold De.body; simp [hk]
theorem De.body_8 {x : De} (hk : x.kd = 8) : x.body = De.stc x := by unfold De.body; simp [hk]
theorem De.body_9 {x : De} (hk : x.kd = 9) : x.body = 0 := by unfold De.body; simp [hk]
theorem De.body_10 {x : De} (hk : x.kd = 10) : x.body = x.mail.code := by unfold De.body; simp [hk]
theorem De.body_11 {x : De} (hk : x.kd = 11) : x.body = 0 := by unfold De.body; simp [hk]
theorem De.body_12 {x : De} (hk : x.kd = 12) : x.body = (if 64 < x.text.length then 5 else 0) := by unfold De.body; simp [hk]
theorem De.code_big {x : De} (h : 12 < x.kd) : x.code = 8 := by unfold De.code; rw [if_pos h]
theorem De.code_form {x : De} (h : ¬ 12 < x.kd) (hs : ¬ x = x.told) : x.code = 4 := by unfold De.code; rw [if_neg h, if_pos hs]
theorem De.code_body {x : De} (h : ¬ 12 < x.kd) (hs : x = x.told) : x.code = x.body := by unfold De.code; rw [if_neg h, if_neg (fun g => g hs)]
set_option maxRecDepth 100000 in
set_option maxHeartbeats 16000000 in
theorem ddCheck_any (x : De) (A : Option Addr) (c : Nat) (B : Option Addr) (d : Nat) (w : World) (h : DeOk w x A c B d) (hL : Len w) :
  Calls Tryz.prog 33 #[deV x A c B d] w fun e w' => e = .returned (.int .i64 (x.code : Int)) ∧ Below w.heap.size w w' := by
 have HB1 := hid (rtOne w (.cells #[.int .u8 (x.kd : Int), .int .u64 (x.tick : Int), .string (ofL x.shop.name), .int .u8 (x.shop.sort : Int), .string (ofL x.shop.to), .string (ofL x.q.name), .int .u64 (x.q.most : Int), .int .u64 (x.q.life : Int), .string (ofL x.q.dead), .string (ofL x.bind.shop), .string (ofL x.bind.to), .bool x.bind.up, .string (ofL x.bind.key), .slice A x.bind.want.length c, .bool x.bind.all, .string (ofL x.name), .int .u64 (x.id : Int), .int .u8 (x.how : Int), .int .u8 (x.frm : Int), .int .u8 (x.cd : Int), .int .u64 (x.num : Int), .int .u64 (x.mail.id : Int), .string (ofL x.mail.shop), .string (ofL x.mail.key), .slice B x.mail.head.length d, .string (ofL x.mail.body), .int .u64 (x.mail.due : Int), .int .u8 (x.mail.hops : Int), .string (ofL x.text)] 52))
 have HX1 := hid (DeX.start w x A c B d h.bind.row h.mail.row 52)
 have HOK := hid h
 have HTO := hid (fun W (g : ¬ 12 < x.kd) => ddTold_any x A c B d W g)
 have HSM := hid (fun W A' c' B' d' g1 g2 => ddSame_any x x.told A c B d A' c' B' d' W h.bind.len g1 h.mail.len g2)
 have HL1 := hid (hL.on HB1.out)
 clear h hL
 simp only [deV]
 go_enter Tryz.func33, Tryz.ntmps33
 go_upto_region 1 with fail
 generalize w.alloc (.cells #[.int .u8 (x.kd : Int), .int .u64 (x.tick : Int), .string (ofL x.shop.name), .int .u8 (x.shop.sort : Int), .string (ofL x.shop.to), .string (ofL x.q.name), .int .u64 (x.q.most : Int), .int .u64 (x.q.life : Int), .string (ofL x.q.dead), .string (ofL x.bind.shop), .string (ofL x.bind.to), .bool x.bind.up, .string (ofL x.bind.key), .slice A x.bind.want.length c, .bool x.bind.all, .string (ofL x.name), .int .u64 (x.id : Int), .int .u8 (x.how : Int), .int .u8 (x.frm : Int), .int .u8 (x.cd : Int), .int .u64 (x.num : Int), .int .u64 (x.mail.id : Int), .string (ofL x.mail.shop), .string (ofL x.mail.key), .slice B x.mail.head.length d, .string (ofL x.mail.body), .int .u64 (x.mail.due : Int), .int .u8 (x.mail.hops : Int), .string (ofL x.text)] 52) = W1 at *
 have c0 := HX1.out.p.cs 0 _ rfl
 have cl := HX1.out.p.lt
 by_cases h12 : 12 < x.kd
 ·have hz : decide ((x.kd : Int) > 12) = true := decide_eq_true (by omega)
  have hz' : decide ((12 : Int) < (x.kd : Int)) = true := decide_eq_true (by omega)
  have HE := hid (De.code_big h12)
  clear h12
  go_wp2_with fail
  go_ret
  exact ⟨ret_nat (by rw [HE.out]; rfl), HB1.out⟩
 ·have hz : decide ((x.kd : Int) > 12) = false := decide_eq_false (by omega)
  have hz' : decide ((12 : Int) < (x.kd : Int)) = false := decide_eq_false (by omega)
  have HTO := hid (fun W => HTO.out W h12)
  have H12 := hid h12
  clear h12
  have HEF := hid (fun hs => De.code_form (x := x) H12.out hs)
  have HEB := hid (fun hs => De.code_body (x := x) H12.out hs)
  go_upto_region 3 with fail
  clear c0 cl hz hz'
  cases hs : decide (x = x.told) with
  | false =>
   have HE := hid (HEF.out (of_decide_eq_false hs))
   rw [hs] at HSM
   clear hs
   refine wp_region_held_drew (S := fun a => Below (W1.heap.size) W1 a) (by kernel_rfl) (by (try dsimp only); exact (Below.refl _ _).drew) (fun hHeld => ?_)
   refine wpAnyH_take (i := 0) (oi := ⟨some 8, _, _, _, _, _⟩) (v := .agg (deL x A c B d).toArray) rfl (by kernel_rfl) (by kernel_rfl) (by kernel_rfl) (fun _ _ _ h => h) (yieldsIf_load_mid (by rfl) 52 _ (by rfl) w.heap.size 0 (by rfl) (deL x A c B d) _ (fun W9 h9 => (HX1.out.p.cs.on h9 HX1.out.p.lt).range) Tryz.underlying52 rfl (by rw [de_size, deL_len])) (by assumption) ?_
   try simp only [Act.put, qxq30a, qxq30b, qxq30c]
   refine wpAnyH_take (i := 1) (oi := ⟨some 9, _, _, _, _, _⟩) (v := .agg (deL x A c B d).toArray) rfl (by kernel_rfl) (by kernel_rfl) (by kernel_rfl) (fun _ _ _ h => h) (yieldsIf_load_mid (by rfl) 52 _ (by rfl) w.heap.size 0 (by rfl) (deL x A c B d) _ (fun W9 h9 => (HX1.out.p.cs.on h9 HX1.out.p.lt).range) Tryz.underlying52 rfl (by rw [de_size, deL_len])) (by assumption) ?_
   try simp only [Act.put, qxq30a, qxq30b, qxq30c]
   refine wpAnyH_ready (rs := [2]) (by kernel_rfl) (by simp) ?_
   refine AllReadyH.cons (o := ⟨some 10, _, _, _, _, _⟩) rfl (fun K hK => ?_) (AllReadyH.nil)
   go_simp
   go_at_call 72
   refine (HTO.out _).mono ?_
   rintro e wx ⟨A5, c5, B5, d5, rfl, ha5, hb5, la5, lb5, hb2⟩
   have HA5 := hid ha5
   have HB5 := hid hb5
   have LA5 := hid la5
   have LB5 := hid lb5
   clear ha5 hb5 la5 lb5
   refine hK.out _ _ (bthen hHeld hb2 (Nat.le_refl _)) (fun hHeld2 => ?_)
   clear hK K hHeld hb2
   have hHeld := hHeld2
   clear hHeld2
   try simp only [Act.put, qxq30a, qxq30b, qxq30c]
   refine wpAnyH_ready (rs := [3]) (by kernel_rfl) (by simp) ?_
   refine AllReadyH.cons (o := ⟨some 11, _, _, _, _, _⟩) rfl (fun K hK => ?_) (AllReadyH.nil)
   go_simp
   go_at_call 71
   refine (HSM.out _ A5 c5 B5 d5 (Nat.le_trans LA5.out HOK.out.bind.len) (Nat.le_trans LB5.out HOK.out.mail.len) (HX1.out.ra.on hHeld) (HX1.out.rb.on hHeld) (HA5.out _ (HX1.out.ra.on hHeld)) (HB5.out _ (HX1.out.rb.on hHeld))).mono ?_
   rintro e wx ⟨rfl, hb2⟩
   refine hK.out _ _ (bthen hHeld hb2 (Nat.le_refl _)) (fun hHeld2 => ?_)
   clear hK K hHeld hb2
   have hHeld := hHeld2
   clear hHeld2
   try simp only [Act.put, qxq30a, qxq30b, qxq30c]
   refine wpAnyH_take (i := 4) (oi := ⟨some 12, _, _, _, _, _⟩) (v := ?_) rfl (by kernel_rfl) (by kernel_rfl) (by kernel_rfl) (fun _ _ _ h => h) (Or.inl ⟨by rfl, ?_⟩) (by assumption) ?_
   rotate_left 1
   ·intro wS hSw; (try dsimp only at hSw); go_simp; try with_reducible rfl
   try simp only [Act.put, qxq30a, qxq30b, qxq30c]
   refine wpAnyH_take (i := 5) (oi := ⟨some 7, _, _, _, _, _⟩) (v := ?_) rfl (by kernel_rfl) (by kernel_rfl) (by kernel_rfl) (fun _ _ _ h => h) (Or.inl ⟨by rfl, ?_⟩) (by assumption) ?_
   rotate_left 1
   ·intro wS hSw; (try dsimp only at hSw); go_simp; try with_reducible rfl
   try simp only [Act.put, qxq30a, qxq30b, qxq30c]
   refine wpAnyH_done (by kernel_rfl) ?_ _
   have hZ := hHeld
   clear hHeld
   skip
   have HB3 := hid (bthen HB1.out hZ (Nat.le_refl _))
   clear hZ
   go_wp2_with fail
   go_ret
   exact ⟨ret_nat (by rw [HE.out]; rfl), HB3.out⟩
  | true =>
   have HE := hid (HEB.out (of_decide_eq_true hs))
   rw [hs] at HSM
   clear hs
   refine wp_region_held_drew (S := fun a => Below (W1.heap.size) W1 a) (by kernel_rfl) (by (try dsimp only); exact (Below.refl _ _).drew) (fun hHeld => ?_)
   refine wpAnyH_take (i := 0) (oi := ⟨some 8, _, _, _, _, _⟩) (v := .agg (deL x A c B d).toArray) rfl (by kernel_rfl) (by kernel_rfl) (by kernel_rfl) (fun _ _ _ h => h) (yieldsIf_load_mid (by rfl) 52 _ (by rfl) w.heap.size 0 (by rfl) (deL x A c B d) _ (fun W9 h9 => (HX1.out.p.cs.on h9 HX1.out.p.lt).range) Tryz.underlying52 rfl (by rw [de_size, deL_len])) (by assumption) ?_
   try simp only [Act.put, qxq30a, qxq30b, qxq30c]
   refine wpAnyH_take (i := 1) (oi := ⟨some 9, _, _, _, _, _⟩) (v := .agg (deL x A c B d).toArray) rfl (by kernel_rfl) (by kernel_rfl) (by kernel_rfl) (fun _ _ _ h => h) (yieldsIf_load_mid (by rfl) 52 _ (by rfl) w.heap.size 0 (by rfl) (deL x A c B d) _ (fun W9 h9 => (HX1.out.p.cs.on h9 HX1.out.p.lt).range) Tryz.underlying52 rfl (by rw [de_size, deL_len])) (by assumption) ?_
   try simp only [Act.put, qxq30a, qxq30b, qxq30c]
   refine wpAnyH_ready (rs := [2]) (by kernel_rfl) (by simp) ?_
   refine AllReadyH.cons (o := ⟨some 10, _, _, _, _, _⟩) rfl (fun K hK => ?_) (AllReadyH.nil)
   go_simp
   go_at_call 72
   refine (HTO.out _).mono ?_
   rintro e wx ⟨A5, c5, B5, d5, rfl, ha5, hb5, la5, lb5, hb2⟩
   have HA5 := hid ha5
   have HB5 := hid hb5
   have LA5 := hid la5
   have LB5 := hid lb5
   clear ha5 hb5 la5 lb5
   refine hK.out _ _ (bthen hHeld hb2 (Nat.le_refl _)) (fun hHeld2 => ?_)
   clear hK K hHeld hb2
   have hHeld := hHeld2
   clear hHeld2
   try simp only [Act.put, qxq30a, qxq30b, qxq30c]
   refine wpAnyH_ready (rs := [3]) (by kernel_rfl) (by simp) ?_
   refine AllReadyH.cons (o := ⟨some 11, _, _, _, _, _⟩) rfl (fun K hK => ?_) (AllReadyH.nil)
   go_simp
   go_at_call 71
   refine (HSM.out _ A5 c5 B5 d5 (Nat.le_trans LA5.out HOK.out.bind.len) (Nat.le_trans LB5.out HOK.out.mail.len) (HX1.out.ra.on hHeld) (HX1.out.rb.on hHeld) (HA5.out _ (HX1.out.ra.on hHeld)) (HB5.out _ (HX1.out.rb.on hHeld))).mono ?_
   rintro e wx ⟨rfl, hb2⟩
   refine hK.out _ _ (bthen hHeld hb2 (Nat.le_refl _)) (fun hHeld2 => ?_)
   clear hK K hHeld hb2
   have hHeld := hHeld2
   clear hHeld2
   try simp only [Act.put, qxq30a, qxq30b, qxq30c]
   refine wpAnyH_take (i := 4) (oi := ⟨some 12, _, _, _, _, _⟩) (v := ?_) rfl (by kernel_rfl) (by kernel_rfl) (by kernel_rfl) (fun _ _ _ h => h) (Or.inl ⟨by rfl, ?_⟩) (by assumption) ?_
   rotate_left 1
   ·intro wS hSw; (try dsimp only at hSw); go_simp; try with_reducible rfl
   try simp only [Act.put, qxq30a, qxq30b, qxq30c]
   refine wpAnyH_take (i := 5) (oi := ⟨some 7, _, _, _, _, _⟩) (v := ?_) rfl (by kernel_rfl) (by kernel_rfl) (by kernel_rfl) (fun _ _ _ h => h) (Or.inl ⟨by rfl, ?_⟩) (by assumption) ?_
   rotate_left 1
   ·intro wS hSw; (try dsimp only at hSw); go_simp; try with_reducible rfl
   try simp only [Act.put, qxq30a, qxq30b, qxq30c]
   refine wpAnyH_done (by kernel_rfl) ?_ _
   have hZ := hHeld
   clear hHeld
   have HB4 := hid (bthen HB1.out hZ (Nat.le_refl _))
   have HB14 := hid hZ
   have HX4 := hid (HX1.out.on hZ)
   clear hZ HX1
   go_upto_region 5 with fail
   generalize hW4 : wx = W4 at *
   have h13 : x.kd = 0 ∨ x.kd = 1 ∨ x.kd = 2 ∨ x.kd = 3 ∨ x.kd = 4 ∨ x.kd = 5 ∨ x.kd = 6 ∨ x.kd = 7 ∨ x.kd = 8 ∨ x.kd = 9 ∨ x.kd = 10 ∨ x.kd = 11 ∨ x.kd = 12 := by have := H12.out; omega
   rcases h13 with hk | hk | hk | hk | hk | hk | hk | hk | hk | hk | hk | hk | hk
   ·have HK := hid (De.body_0 hk)
    have c0 : W4.cell? ⟨w.heap.size, 0, none⟩ = some (.int .u8 0) := by have g := HX4.out.p.cs 0 _ rfl; rw [hk] at g; exact g
    clear hk
    have cl := HX4.out.p.lt
    have c2 := HX4.out.p.cs 2 _ rfl
    have c3 := HX4.out.p.cs 3 _ rfl
    have c4 := HX4.out.p.cs 4 _ rfl
    try simp only [shV, bdV, maV]
    go_wp2_with fail
    refine (ddShop_any x.shop _ HOK.out.sn HOK.out.st).mono ?_
    rintro e w5 ⟨rfl, b5⟩
    have HB5 := hid (bthen HB4.out b5 (Nat.le_refl _))
    clear b5
    go_wp2_with fail
    go_ret
    exact ⟨ret_nat (by rw [HE.out, HK.out]), HB5.out⟩
   ·have HK := hid (De.body_1 hk)
    have c0 : W4.cell? ⟨w.heap.size, 0, none⟩ = some (.int .u8 1) := by have g := HX4.out.p.cs 0 _ rfl; rw [hk] at g; exact g
    clear hk
    have cl := HX4.out.p.lt
    have c15 := HX4.out.p.cs 15 _ rfl
    go_wp2_with fail
    refine (name_any x.name _ (by have := HOK.out.name; omega)).mono ?_
    rintro e w5 ⟨rfl, rfl⟩
    go_wp2_with fail
    go_ret
    exact ⟨ret_nat (by rw [HE.out, HK.out]), HB4.out⟩
   ·have HK := hid (De.body_2 hk)
    have c0 : W4.cell? ⟨w.heap.size, 0, none⟩ = some (.int .u8 2) := by have g := HX4.out.p.cs 0 _ rfl; rw [hk] at g; exact g
    clear hk
    have cl := HX4.out.p.lt
    have c5 := HX4.out.p.cs 5 _ rfl
    have c6 := HX4.out.p.cs 6 _ rfl
    have c7 := HX4.out.p.cs 7 _ rfl
    have c8 := HX4.out.p.cs 8 _ rfl
    try simp only [shV, bdV, maV]
    go_wp2_with fail
    refine (ddQueue_any x.q _ HOK.out.qn HOK.out.qd).mono ?_
    rintro e w5 ⟨rfl, b5⟩
    have HB5 := hid (bthen HB4.out b5 (Nat.le_refl _))
    clear b5
    go_wp2_with fail
    go_ret
    exact ⟨ret_nat (by rw [HE.out, HK.out]), HB5.out⟩
   ·have HK := hid (De.body_3 hk)
    have c0 : W4.cell? ⟨w.heap.size, 0, none⟩ = some (.int .u8 3) := by have g := HX4.out.p.cs 0 _ rfl; rw [hk] at g; exact g
    clear hk
    have cl := HX4.out.p.lt
    have c15 := HX4.out.p.cs 15 _ rfl
    go_wp2_with fail
    refine (name_any x.name _ (by have := HOK.out.name; omega)).mono ?_
    rintro e w5 ⟨rfl, rfl⟩
    go_wp2_with fail
    go_ret
    exact ⟨ret_nat (by rw [HE.out, HK.out]), HB4.out⟩
   ·have HK := hid (De.body_4 hk)
    have c0 : W4.cell? ⟨w.heap.size, 0, none⟩ = some (.int .u8 4) := by have g := HX4.out.p.cs 0 _ rfl; rw [hk] at g; exact g
    clear hk
    have cl := HX4.out.p.lt
    have c9 := HX4.out.p.cs 9 _ rfl
    have c10 := HX4.out.p.cs 10 _ rfl
    have c11 := HX4.out.p.cs 11 _ rfl
    have c12 := HX4.out.p.cs 12 _ rfl
    have c13 := HX4.out.p.cs 13 _ rfl
    have c14 := HX4.out.p.cs 14 _ rfl
    try simp only [shV, bdV, maV]
    go_wp2_with fail
    refine (ddBind_any x.bind A c _ (HOK.out.bind.on HB4.out)).mono ?_
    rintro e w5 ⟨rfl, b5⟩
    have HB5 := hid (bthen HB4.out b5 (Nat.le_refl _))
    clear b5
    go_wp2_with fail
    go_ret
    exact ⟨ret_nat (by rw [HE.out, HK.out]), HB5.out⟩
   ·have HK := hid (De.body_5 hk)
    have c0 : W4.cell? ⟨w.heap.size, 0, none⟩ = some (.int .u8 5) := by have g := HX4.out.p.cs 0 _ rfl; rw [hk] at g; exact g
    clear hk
    have cl := HX4.out.p.lt
    have c9 := HX4.out.p.cs 9 _ rfl
    have c10 := HX4.out.p.cs 10 _ rfl
    have c11 := HX4.out.p.cs 11 _ rfl
    have c12 := HX4.out.p.cs 12 _ rfl
    have c13 := HX4.out.p.cs 13 _ rfl
    have c14 := HX4.out.p.cs 14 _ rfl
    try simp only [shV, bdV, maV]
    go_wp2_with fail
    refine (ddBind_any x.bind A c _ (HOK.out.bind.on HB4.out)).mono ?_
    rintro e w5 ⟨rfl, b5⟩
    have HB5 := hid (bthen HB4.out b5 (Nat.le_refl _))
    clear b5
    go_wp2_with fail
    go_ret
    exact ⟨ret_nat (by rw [HE.out, HK.out]), HB5.out⟩
   ·have HK := hid (De.body_6 hk)
    have c0 : W4.cell? ⟨w.heap.size, 0, none⟩ = some (.int .u8 6) := by have g := HX4.out.p.cs 0 _ rfl; rw [hk] at g; exact g
    clear hk
    have cl := HX4.out.p.lt
    have c21 := HX4.out.p.cs 21 _ rfl
    have c22 := HX4.out.p.cs 22 _ rfl
    have c23 := HX4.out.p.cs 23 _ rfl
    have c24 := HX4.out.p.cs 24 _ rfl
    have c25 := HX4.out.p.cs 25 _ rfl
    have c26 := HX4.out.p.cs 26 _ rfl
    have c27 := HX4.out.p.cs 27 _ rfl
    try simp only [shV, bdV, maV]
    go_wp2_with fail
    refine (ml_Check_any x.mail B d _ (HOK.out.mail.on HB4.out) (HL1.out.on HB14.out)).mono ?_
    rintro e w5 ⟨rfl, b5⟩
    have HB5 := hid (bthen HB4.out b5 (Nat.le_refl _))
    clear b5
    go_wp2_with fail
    go_ret
    exact ⟨ret_nat (by rw [HE.out, HK.out]), HB5.out⟩
   ·have HK := hid (De.body_7 hk)
    have c0 : W4.cell? ⟨w.heap.size, 0, none⟩ = some (.int .u8 7) := by have g := HX4.out.p.cs 0 _ rfl; rw [hk] at g; exact g
    clear hk
    have cl := HX4.out.p.lt
    have c15 := HX4.out.p.cs 15 _ rfl
    go_wp2_with fail
    refine (name_any x.name _ (by have := HOK.out.name; omega)).mono ?_
    rintro e w5 ⟨rfl, rfl⟩
    go_wp2_with fail
    go_ret
    exact ⟨ret_nat (by rw [HE.out, HK.out]), HB4.out⟩
   ·have HK := hid (De.body_8 hk)
    have c0 : W4.cell? ⟨w.heap.size, 0, none⟩ = some (.int .u8 8) := by have g := HX4.out.p.cs 0 _ rfl; rw [hk] at g; exact g
    clear hk
    have cl := HX4.out.p.lt
    try simp only [shV, bdV, maV]
    go_wp2_with (refine wpList_load_mid (by rfl) 52 _ (by rfl) w.heap.size 0 (by rfl) (deL x A c B d) _ HX4.out.p.cs.range Tryz.underlying52 rfl (by rw [de_size, deL_len]) ?_)
    refine (ddSettle_any x A c B d _ HOK.out.name).mono ?_
    rintro e w5 ⟨rfl, b5⟩
    have HB5 := hid (bthen HB4.out b5 (Nat.le_refl _))
    clear b5
    go_wp2_with fail
    go_ret
    exact ⟨ret_nat (by rw [HE.out, HK.out]), HB5.out⟩
   ·have HK := hid (De.body_9 hk)
    have c0 : W4.cell? ⟨w.heap.size, 0, none⟩ = some (.int .u8 9) := by have g := HX4.out.p.cs 0 _ rfl; rw [hk] at g; exact g
    clear hk
    have cl := HX4.out.p.lt
    go_wp2_with fail
    go_ret
    exact ⟨ret_nat (by rw [HE.out, HK.out]; rfl), HB4.out⟩
   ·have HK := hid (De.body_10 hk)
    have c0 : W4.cell? ⟨w.heap.size, 0, none⟩ = some (.int .u8 10) := by have g := HX4.out.p.cs 0 _ rfl; rw [hk] at g; exact g
    clear hk
    have cl := HX4.out.p.lt
    have c21 := HX4.out.p.cs 21 _ rfl
    have c22 := HX4.out.p.cs 22 _ rfl
    have c23 := HX4.out.p.cs 23 _ rfl
    have c24 := HX4.out.p.cs 24 _ rfl
    have c25 := HX4.out.p.cs 25 _ rfl
    have c26 := HX4.out.p.cs 26 _ rfl
    have c27 := HX4.out.p.cs 27 _ rfl
    try simp only [shV, bdV, maV]
    go_wp2_with fail
    refine (ml_Check_any x.mail B d _ (HOK.out.mail.on HB4.out) (HL1.out.on HB14.out)).mono ?_
    rintro e w5 ⟨rfl, b5⟩
    have HB5 := hid (bthen HB4.out b5 (Nat.le_refl _))
    clear b5
    go_wp2_with fail
    go_ret
    exact ⟨ret_nat (by rw [HE.out, HK.out]), HB5.out⟩
   ·have HK := hid (De.body_11 hk)
    have c0 : W4.cell? ⟨w.heap.size, 0, none⟩ = some (.int .u8 11) := by have g := HX4.out.p.cs 0 _ rfl; rw [hk] at g; exact g
    clear hk
    have cl := HX4.out.p.lt
    go_wp2_with fail
    go_ret
    exact ⟨ret_nat (by rw [HE.out, HK.out]; rfl), HB4.out⟩
   ·have HK := hid (De.body_12 hk)
    have c0 : W4.cell? ⟨w.heap.size, 0, none⟩ = some (.int .u8 12) := by have g := HX4.out.p.cs 0 _ rfl; rw [hk] at g; exact g
    clear hk
    have cl := HX4.out.p.lt
    have c28 := HX4.out.p.cs 28 _ rfl
    have HLO := hid (fun W => ddLong_any x.text W)
    obtain ⟨n5, hn5⟩ : ∃ n : Nat, (if 64 < x.text.length then 5 else 0) = n := ⟨_, rfl⟩
    rw [hn5] at HLO HK
    clear hn5
    go_wp2_with fail
    refine (HLO.out _).mono ?_
    rintro e w5 ⟨rfl, rfl⟩
    go_wp2_with fail
    go_ret
    exact ⟨ret_nat (by rw [HE.out, HK.out]), HB4.out⟩
end Go.Proofs.YtaikigponkjkgaaGreatDoor
end
