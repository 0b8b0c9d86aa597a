/-
 A part of the proof.
-/
import Derived.Test.YtaikigponkjkgaaGreatDoorXr29

section
namespace Go.Proofs.YtaikigponkjkgaaGreatDoor
open Go.ChangeShapes Go.WideShapes Go.ChangeAt Go.RowKit
open Go.Lib (hid)
theorem qxr30a (l : List Value) (i : Nat) (v : Value) : l.toArray.setIfInBounds i v = (l.set i v).toArray := by simp
theorem qxr30b (v u : Value) (l : List Value) : (v :: l).set 0 u = u :: l := rfl
theorem qxr30c (v u : Value) (n : Nat) (l : List Value) : (v :: l).set (n + 1) u = v :: l.set n u := rfl
namespace De
def tx (s : List UInt8) : List UInt8 := Oct.be 2 s.length ++ s
def E1 (x : De) : List UInt8 := Oct.be 1 x.kd ++ Oct.be 8 x.tick
def enc (x : De) : List UInt8 :=
 if x.kd = 0 then E1 x ++ tx x.shop.name ++ Oct.be 1 x.shop.sort ++ tx x.shop.to else
 if x.kd = 2 then E1 x ++ tx x.q.name ++ Oct.be 8 x.q.most ++ Oct.be 8 x.q.life ++ tx x.q.dead else
 if x.kd = 4 ∨ x.kd = 5 then bdE x.bind (E1 x) else
 if x.kd = 1 ∨ x.kd = 3 ∨ x.kd = 7 then E1 x ++ tx x.name else
 if x.kd = 6 then E1 x ++ x.mail.enc else
 if x.kd = 8 then E1 x ++ tx x.name ++ Oct.be 8 x.id ++ Oct.be 1 x.how else
 if x.kd = 10 then E1 x ++ Oct.be 1 x.frm ++ Oct.be 8 x.num ++ x.mail.enc else
 if x.kd = 12 then E1 x ++ Oct.be 1 x.cd ++ tx x.text else
 E1 x
theorem enc_0 {x : De} (hk : x.kd = 0) : x.enc = E1 x ++ tx x.shop.name ++ Oct.be 1 x.shop.sort ++ tx x.shop.to := by unfold enc; simp [hk]
theorem enc_1 {x : De} (hk : x.kd = 1) : x.enc = E1 x ++ tx x.name := by unfold enc; simp [hk]
theorem enc_2 {x : De} (hk : x.kd = 2) : x.enc = E1 x ++ tx x.q.name ++ Oct.be 8 x.q.most ++ Oct.be 8 x.q.life ++ tx x.q.dead := by unfold enc; simp [hk]
theorem enc_3 {x : De} (hk : x.kd = 3) : x.enc = E1 x ++ tx x.name := by unfold enc; simp [hk]
theorem enc_4 {x : De} (hk : x.kd = 4) : x.enc = bdE x.bind (E1 x) := by unfold enc; simp [hk]
theorem enc_5 {x : De} (hk : x.kd = 5) : x.enc = bdE x.bind (E1 x) := by unfold enc; simp [hk]
theorem enc_6 {x : De} (hk : x.kd = 6) : x.enc = E1 x ++ x.mail.enc := by unfold enc; simp [hk]
theorem enc_7 {x : De} (hk : x.kd = 7) : x.enc = E1 x ++ tx x.name := by unfold enc; simp [hk]
theorem enc_8 {x : De} (hk : x.kd = 8) : x.enc = E1 x ++ tx x.name ++ Oct.be 8 x.id ++ Oct.be 1 x.how := by unfold enc; simp [hk]
theorem enc_9 {x : De} (hk : x.kd = 9) : x.enc = E1 x := by unfold enc; simp [hk]
theorem enc_10 {x : De} (hk : x.kd = 10) : x.enc = E1 x ++ Oct.be 1 x.frm ++ Oct.be 8 x.num ++ x.mail.enc := by unfold enc; simp [hk]
theorem enc_11 {x : De} (hk : x.kd = 11) : x.enc = E1 x := by unfold enc; simp [hk]
theorem enc_12 {x : De} (hk : x.kd = 12) : x.enc = E1 x ++ Oct.be 1 x.cd ++ tx x.text := by unfold enc; simp [hk]
theorem code_zero {x : De} (h : x.code = 0) : ¬ 12 < x.kd ∧ x = x.told ∧ x.body = 0 := by
 unfold code at h
 by_cases h1 : 12 < x.kd
 ·rw [if_pos h1] at h; omega
 ·rw [if_neg h1] at h
  by_cases h2 : x ≠ x.told
  ·rw [if_pos h2] at h; omega
  ·rw [if_neg h2] at h
   exact ⟨h1, Decidable.not_not.1 h2, h⟩
theorem maybe_len {s : List UInt8} (h : maybe s = 0) : s.length ≤ 16 := by
 unfold maybe at h
 by_cases e : s = []
 ·subst e; simp
 ·rw [if_neg e] at h; exact (Hd.name_ok_len h).1
theorem shc_len {x : Sh} (h : shc x = 0) : x.name.length ≤ 16 ∧ x.to.length ≤ 16 := by
 unfold shc at h
 by_cases h1 : Wrd.nameCode x.name = 0
 ·rw [if_neg (by omega)] at h
  by_cases h2 : 4 < x.sort
  ·rw [if_pos h2] at h; omega
  ·rw [if_neg h2] at h; exact ⟨(Hd.name_ok_len h1).1, maybe_len h⟩
 ·rw [if_pos h1] at h; exact absurd h h1
theorem quc_len {x : Qu} (h : quc x = 0) : x.name.length ≤ 16 ∧ x.dead.length ≤ 16 := by
 unfold quc at h
 by_cases h1 : Wrd.nameCode x.name = 0
 ·rw [if_neg (by omega)] at h; exact ⟨(Hd.name_ok_len h1).1, maybe_len h⟩
 ·rw [if_pos h1] at h; exact absurd h h1
theorem bdc_len {x : Bd} (h : bdc x = 0) : x.shop.length ≤ 16 ∧ x.to.length ≤ 16 ∧ x.key.length ≤ 64 ∧ Hd.hcode x.want = 0 := by
 unfold bdc at h
 by_cases h1 : Wrd.nameCode x.shop = 0
 ·rw [if_neg (by omega)] at h
  by_cases h2 : Wrd.nameCode x.to = 0
  ·rw [if_neg (by omega)] at h
   by_cases h3 : 64 < x.key.length
   ·rw [if_pos h3] at h; omega
   ·rw [if_neg h3] at h; exact ⟨(Hd.name_ok_len h1).1, (Hd.name_ok_len h2).1, by omega, h⟩
  ·rw [if_pos h2] at h; exact absurd h h2
 ·rw [if_pos h1] at h; exact absurd h h1
theorem stc_len {x : De} (h : stc x = 0) : x.name.length ≤ 16 := by
 unfold stc at h
 by_cases h1 : Wrd.nameCode x.name = 0
 ·exact (Hd.name_ok_len h1).1
 ·rw [if_pos h1] at h; exact absurd h h1
theorem mail_len {x : Ml} (h : x.code = 0) : x.enc.length ≤ 1500 := by
 obtain ⟨c1, c2, c3, c4, c5⟩ := Ml.code_ok h
 have l1 : x.shop.length ≤ 16 := (Hd.name_ok_len c1).1
 have l2 : x.key.length ≤ 64 := Ml.key_len c2
 have l3 : (Hd.henc x.head).length ≤ 1000 := by have := (hfine_of c3).pre x.head.length; rw [hpre_all (Nat.le_refl _)] at this; exact this
 unfold Ml.enc Oct.text
 simp only [List.length_append, Oct.length_be]
 omega
end De
def deBytesV (x : De) : Value := if x.code = 0 then .tuple #[.string (ofL x.enc), .int .i64 0] else .tuple #[.string ⟨#[]⟩, .int .i64 (x.code : Int)]
structure DbS (w : World) (x : De) (A : Option Addr) (c : Nat) (B : Option Addr) (d g : Nat) (s : ByteArray) (W : World) : Prop where
 o : BoxC w g [.string s, .int .i64 0] W
 p : DeX w x A c B d w.heap.size W
 gg : w.heap.size < g
 B : Below w.heap.size w W
theorem DbS.on {w : World} {x : De} {A : Option Addr} {c : Nat} {B : Option Addr} {d g : Nat} {s : ByteArray} {W W' : World} (h : DbS w x A c B d g s W) (hb : Below W.heap.size W W') : DbS w x A c B d g s W' := ⟨h.o.on hb, h.p.on hb, h.gg, bthen h.B hb (Nat.le_refl _)⟩
def DbE (w : World) (x : De) (A : Option Addr) (c : Nat) (B : Option Addr) (d g : Nat) (W : World) : Prop := ∃ s, DbS w x A c B d g s W
theorem DbE.on {w : World} {x : De} {A : Option Addr} {c : Nat} {B : Option Addr} {d g : Nat} {W W' : World} (h : DbE w x A c B d g W) (hb : Below W.heap.size W W') : DbE w x A c B d g W' := by
 obtain ⟨s, h⟩ := h
 exact ⟨s, h.on hb⟩
theorem DbS.put {w : World} {x : De} {A : Option Addr} {c : Nat} {B : Option Addr} {d g : Nat} {s : ByteArray} {W : World} (h : DbS w x A c B d g s W) (hA : Prs w A x.bind.want) (hB : Prs w B x.mail.head) (y : ByteArray) : DbS w x A c B d g y ((W.setCell ⟨g, 0, none⟩ (.string y)).setCell ⟨g, 1, none⟩ (.int .i64 0)) := by
 have hb : Below w.heap.size w ((W.setCell ⟨g, 0, none⟩ (.string y)).setCell ⟨g, 1, none⟩ (.int .i64 0)) := (h.B.setCell (p := ⟨g, 0, none⟩) (Nat.le_of_lt h.gg) _).setCell (p := ⟨g, 1, none⟩) (Nat.le_of_lt h.gg) _
 exact ⟨(h.o.put 0 (.string y) (by simp)).put 1 (.int .i64 0) (by simp), ⟨(h.p.p.aside (Nat.ne_of_gt h.gg) 0 _).aside (Nat.ne_of_gt h.gg) 1 _, hA.on hb, hB.on hb⟩, h.gg, hb⟩
theorem BoxC.wk {w w2 W : World} {g : Nat} {xs : List Value} (h : BoxC w2 g xs W) (hs : w.heap.size ≤ w2.heap.size) : BoxC w g xs W := ⟨h.cs, h.s, h.lt, Nat.le_trans hs h.ge⟩
set_option maxRecDepth 100000 in
set_option maxHeartbeats 16000000 in
theorem ddBytes_any (x : De) (A : Option Addr) (c : Nat) (B : Option Addr) (d : Nat) (w : World) (h : DeOk w x A c B d) (hf : De.Fits x) (hL : Len w) :
  Calls Tryz.prog 13 #[deV x A c B d] w fun e w' => e = .returned (deBytesV x) ∧ Below w.heap.size w w' := by
 have HB1 := hid (rtOne w (.cells #[.int .u8 (x.kd : Int), .int .u64 (x.tick : Int), .string (ofL x.shop.name), .int .u8 (x.shop.sort : Int), .string (ofL x.shop.to), .string (ofL x.q.name), .int .u64 (x.q.most : Int), .int .u64 (x.q.life : Int), .string (ofL x.q.dead), .string (ofL x.bind.shop), .string (ofL x.bind.to), .bool x.bind.up, .string (ofL x.bind.key), .slice A x.bind.want.length c, .bool x.bind.all, .string (ofL x.name), .int .u64 (x.id : Int), .int .u8 (x.how : Int), .int .u8 (x.frm : Int), .int .u8 (x.cd : Int), .int .u64 (x.num : Int), .int .u64 (x.mail.id : Int), .string (ofL x.mail.shop), .string (ofL x.mail.key), .slice B x.mail.head.length d, .string (ofL x.mail.body), .int .u64 (x.mail.due : Int), .int .u8 (x.mail.hops : Int), .string (ofL x.text)] 52))
 have HX1 := hid (DeX.start w x A c B d h.bind.row h.mail.row 52)
 have HOK := hid h
 have HF := hid hf
 have HL0 := hid hL
 have HCK := hid (fun W (g : DeOk W x A c B d) (l : Len W) => ddCheck_any x A c B d W g l)
 have HV : Hid (deBytesV x = if x.code = 0 then .tuple #[.string (ofL x.enc), .int .i64 0] else .tuple #[.string ⟨#[]⟩, .int .i64 (x.code : Int)]) := rfl
 have HRA := hid h.bind.row
 have HRB := hid h.mail.row
 clear h hf hL
 generalize deBytesV x = V at *
 simp only [deV]
 go_enter Tryz.func13, Tryz.ntmps13
 go_upto_region 1 with fail
 generalize w.alloc (.cells #[.int .u8 (x.kd : Int), .int .u64 (x.tick : Int), .string (ofL x.shop.name), .int .u8 (x.shop.sort : Int), .string (ofL x.shop.to), .string (ofL x.q.name), .int .u64 (x.q.most : Int), .int .u64 (x.q.life : Int), .string (ofL x.q.dead), .string (ofL x.bind.shop), .string (ofL x.bind.to), .bool x.bind.up, .string (ofL x.bind.key), .slice A x.bind.want.length c, .bool x.bind.all, .string (ofL x.name), .int .u64 (x.id : Int), .int .u8 (x.how : Int), .int .u8 (x.frm : Int), .int .u8 (x.cd : Int), .int .u64 (x.num : Int), .int .u64 (x.mail.id : Int), .string (ofL x.mail.shop), .string (ofL x.mail.key), .slice B x.mail.head.length d, .string (ofL x.mail.body), .int .u64 (x.mail.due : Int), .int .u8 (x.mail.hops : Int), .string (ofL x.text)] 52) = W1 at *
 by_cases h0 : x.code = 0
 ·have HVV := hid (show V = .tuple #[.string (ofL x.enc), .int .i64 0] by rw [HV.out, if_pos h0])
  have HC0 := hid (De.code_zero h0)
  rw [h0] at HCK
  clear h0 HV
  obtain ⟨y0, hy0⟩ : ∃ z, [] ++ Oct.be 1 x.kd = z := ⟨_, rfl⟩
  obtain ⟨E1, hE1⟩ : ∃ z, De.E1 x = z := ⟨_, rfl⟩
  have hE2 : y0 ++ Oct.be 8 x.tick = E1 := by rw [← hy0, ← hE1]; rfl
  have z0 : y0.length = 1 := by rw [← hy0]; simp [Oct.length_be]
  have z1 : E1.length = 9 := by rw [← hE2]; simp [Oct.length_be, z0]
  have HS0 := hid (fun W => ddSmall_any [] x.kd W HF.out.kd (by simp))
  rw [show ofL [] = ⟨#[]⟩ from rfl, hy0] at HS0
  have HS1 := hid (fun W => num_l y0 x.tick 8 8 W HF.out.tick (by omega) rfl (by omega))
  rw [hE2] at HS1
  have HE1 := hid hE1
  have HZ1 := hid z1
  clear hy0 hE2 z0 z1 hE1
  go_wp2_with (refine wpList_load_mid (by rfl) 52 _ (by rfl) w.heap.size 0 (by rfl) (deL x A c B d) _ HX1.out.p.cs.range Tryz.underlying52 rfl (by rw [de_size, deL_len]) ?_)
  refine (HCK.out _ (HOK.out.on HB1.out) (HL0.out.on HB1.out)).mono ?_
  rintro e w2 ⟨rfl, b2⟩
  have HB2 := hid (bthen HB1.out b2 (Nat.le_refl _))
  have HX2 := hid (HX1.out.on b2)
  clear b2 HX1 HB1 HCK
  go_upto_region 4 with fail
  go_cut [5] (fun s5 wx => ∃ g, s5 = .pointer (some ⟨g, 0, none⟩) ∧ DbS w x A c B d g (ofL E1) wx)
  case first =>
   have c0 := HX2.out.p.cs 0 _ rfl
   have c1 := HX2.out.p.cs 1 _ rfl
   have cl := HX2.out.p.lt
   refine wp_region_held_drew (S := fun a => Below (w2.heap.size) w2 a) (by kernel_rfl) (by (try dsimp only); exact (Below.refl _ _).drew) (fun hHeld => ?_)
   refine wpAnyH_take (i := 0) (oi := ⟨some 11, _, _, _, _, _⟩) (v := ?_) rfl (by kernel_rfl) (by kernel_rfl) (by kernel_rfl) (fun _ _ _ h => h) (Or.inl ⟨by rfl, ?_⟩) (by assumption) ?_
   rotate_left 1
   ·intro wS hSw; (try dsimp only at hSw); go_simp; try with_reducible rfl
   try simp only [Act.put, qxr30a, qxr30b, qxr30c]
   refine wpAnyH_take (i := 1) (oi := ⟨some 12, _, _, _, _, _⟩) (v := ?_) rfl (by kernel_rfl) (by kernel_rfl) (by kernel_rfl) (fun _ _ _ h => h) (Or.inl ⟨by rfl, ?_⟩) (by assumption) ?_
   rotate_left 1
   ·intro wS hSw; (try dsimp only at hSw); go_simp; try with_reducible rfl
   try simp only [Act.put, qxr30a, qxr30b, qxr30c]
   refine wpAnyH_take (i := 2) (oi := ⟨some 13, _, _, _, _, _⟩) (v := ?_) rfl (by kernel_rfl) (by kernel_rfl) (by kernel_rfl) (fun _ _ _ h => h) (Or.inl ⟨by rfl, ?_⟩) (by assumption) ?_
   rotate_left 1
   ·intro wS hSw; (try dsimp only at hSw); have c0 := cell_on hSw c0; have c1 := cell_on hSw c1; go_simp; try with_reducible rfl
   try simp only [Act.put, qxr30a, qxr30b, qxr30c]
   refine wpAnyH_take (i := 4) (oi := ⟨some 15, _, _, _, _, _⟩) (v := ?_) rfl (by kernel_rfl) (by kernel_rfl) (by kernel_rfl) (fun _ _ _ h => h) (Or.inl ⟨by rfl, ?_⟩) (by assumption) ?_
   rotate_left 1
   ·intro wS hSw; (try dsimp only at hSw); go_simp; try with_reducible rfl
   try simp only [Act.put, qxr30a, qxr30b, qxr30c]
   refine wpAnyH_take (i := 5) (oi := ⟨some 16, _, _, _, _, _⟩) (v := ?_) rfl (by kernel_rfl) (by kernel_rfl) (by kernel_rfl) (fun _ _ _ h => h) (Or.inl ⟨by rfl, ?_⟩) (by assumption) ?_
   rotate_left 1
   ·intro wS hSw; (try dsimp only at hSw); have c0 := cell_on hSw c0; have c1 := cell_on hSw c1; go_simp; try with_reducible rfl
   try simp only [Act.put, qxr30a, qxr30b, qxr30c]
   refine wpAnyH_ready (rs := [3, 7]) (by kernel_rfl) (by simp) ?_
   refine AllReadyH.cons (o := ⟨some 14, _, _, _, _, _⟩) rfl (fun K hK => ?_) (AllReadyH.cons (o := ⟨some 5, _, _, _, _, _⟩) rfl (fun K hK => ?_) (AllReadyH.nil))
   ·skip
    go_simp
    go_at_call 34
    refine (HS0.out _).mono ?_
    rintro e wx ⟨rfl, hb2⟩
    generalize wx = wa at *
    try replace HNB := hid (HNB.out.on hb2)
    refine hK.out _ _ (bthen hHeld hb2 (Nat.le_refl _)) (fun hHeld2 => ?_)
    clear hK K hHeld hb2
    have hHeld := hHeld2
    clear hHeld2
    try simp only [Act.put, qxr30a, qxr30b, qxr30c]
    refine wpAnyH_ready (rs := [6, 7]) (by kernel_rfl) (by simp) ?_
    refine AllReadyH.cons (o := ⟨some 17, _, _, _, _, _⟩) rfl (fun K hK => ?_) (AllReadyH.cons (o := ⟨some 5, _, _, _, _, _⟩) rfl (fun K hK => ?_) (AllReadyH.nil))
    ·skip
     go_simp
     go_at_call 19
     refine (HS1.out _).mono ?_
     rintro e wx ⟨rfl, hb2⟩
     generalize wx = wb at *
     try replace HNB := hid (HNB.out.on hb2)
     refine hK.out _ _ (bthen hHeld hb2 (Nat.le_refl _)) (fun hHeld2 => ?_)
     clear hK K hHeld hb2
     have hHeld := hHeld2
     clear hHeld2
     try simp only [Act.put, qxr30a, qxr30b, qxr30c]
     refine wpAnyH_ready (rs := [7]) (by kernel_rfl) (by simp) ?_
     refine AllReadyH.cons (o := ⟨some 5, _, _, _, _, _⟩) rfl (fun K hK => ?_) (AllReadyH.nil)
     go_simp
     have HNB := hid (BoxC.new (w := w2) (W := _) hHeld.size #[.string ⟨#[]⟩, .int .i64 0] 70)
     have HNA := hid (BoxC.new (w := w2) (W := _) hHeld.size #[.string (ofL E1), .int .i64 0] 70)
     have hPre := hHeld
     refine hK.out _ _ (hHeld.alloc hHeld.size _) (fun hHeld2 => ?_)
     clear hK K hHeld
     have hHeld := hHeld2
     clear hHeld2
     try simp only [Act.put, qxr30a, qxr30b, qxr30c]
     refine wpAnyH_ready (rs := [8]) (by kernel_rfl) (by simp) ?_
     refine AllReadyH.cons (o := ⟨none, _, _, _, _, _⟩) rfl (fun K hK => ?_) (AllReadyH.nil)
     have n0 := HNB.out.cs 0 _ rfl
     have n1 := HNB.out.cs 1 _ rfl
     have nf := HNB.out.s
     unfold Soft at nf
     have nl := HNB.out.lt
     have nge := HNB.out.ge
     have hfl := HNB.out.fill [.string (ofL E1), .int .i64 0] rfl
     simp only [putAll] at hfl
     have HNF := hid hfl
     clear hfl
     try simp only [show w2.drew.heap.size = w2.heap.size from rfl] at n0 n1 nf nl nge
     go_simp
     refine hK.out _ _ ?_ (fun hHeld2 => ?_)
     ·(try dsimp only); first | with_reducible exact hPre.alloc hPre.size _ | ((repeat with_reducible refine below_put nge ?_); with_reducible exact hHeld)
     clear n0 n1 nf nl nge HNB hPre
     clear hK K hHeld
     have hHeld := hHeld2
     clear hHeld2
     try simp only [Act.put, qxr30a, qxr30b, qxr30c]
     refine wpAnyH_done (by kernel_rfl) ?_ _
     have hZ := hHeld
     clear hHeld
     have HZ := hid hZ
     clear hZ c0 c1 cl
     go_wp2_with fail
     go_meet
     exact ⟨_, rfl, ⟨by first | exact HNF.out.wk HB2.out.size | exact HNA.out.wk HB2.out.size, HX2.out.on HZ.out, by first | exact Nat.lt_of_lt_of_le HX2.out.p.lt HNF.out.ge | exact Nat.lt_of_lt_of_le HX2.out.p.lt HNA.out.ge, bthen HB2.out HZ.out (Nat.le_refl _)⟩⟩
    ·skip
     go_simp
     have HNB := hid (BoxC.new (w := w2) (W := _) hHeld.size #[.string ⟨#[]⟩, .int .i64 0] 70)
     have HNA := hid (BoxC.new (w := w2) (W := _) hHeld.size #[.string (ofL E1), .int .i64 0] 70)
     have hPre := hHeld
     refine hK.out _ _ (hHeld.alloc hHeld.size _) (fun hHeld2 => ?_)
     clear hK K hHeld
     have hHeld := hHeld2
     clear hHeld2
     try simp only [Act.put, qxr30a, qxr30b, qxr30c]
     refine wpAnyH_ready (rs := [6]) (by kernel_rfl) (by simp) ?_
     refine AllReadyH.cons (o := ⟨some 17, _, _, _, _, _⟩) rfl (fun K hK => ?_) (AllReadyH.nil)
     go_simp
     go_at_call 19
     refine (HS1.out _).mono ?_
     rintro e wx ⟨rfl, hb2⟩
     generalize wx = wb at *
     try replace HNB := hid (HNB.out.on hb2)
     refine hK.out _ _ (bthen hHeld hb2 (Nat.le_refl _)) (fun hHeld2 => ?_)
     clear hK K hHeld hb2
     have hHeld := hHeld2
     clear hHeld2
     try simp only [Act.put, qxr30a, qxr30b, qxr30c]
     refine wpAnyH_ready (rs := [8]) (by kernel_rfl) (by simp) ?_
     refine AllReadyH.cons (o := ⟨none, _, _, _, _, _⟩) rfl (fun K hK => ?_) (AllReadyH.nil)
     have n0 := HNB.out.cs 0 _ rfl
     have n1 := HNB.out.cs 1 _ rfl
     have nf := HNB.out.s
     unfold Soft at nf
     have nl := HNB.out.lt
     have nge := HNB.out.ge
     have hfl := HNB.out.fill [.string (ofL E1), .int .i64 0] rfl
     simp only [putAll] at hfl
     have HNF := hid hfl
     clear hfl
     try simp only [show w2.drew.heap.size = w2.heap.size from rfl] at n0 n1 nf nl nge
     go_simp
     refine hK.out _ _ ?_ (fun hHeld2 => ?_)
     ·(try dsimp only); first | with_reducible exact hPre.alloc hPre.size _ | ((repeat with_reducible refine below_put nge ?_); with_reducible exact hHeld)
     clear n0 n1 nf nl nge HNB hPre
     clear hK K hHeld
     have hHeld := hHeld2
     clear hHeld2
     try simp only [Act.put, qxr30a, qxr30b, qxr30c]
     refine wpAnyH_done (by kernel_rfl) ?_ _
     have hZ := hHeld
     clear hHeld
     have HZ := hid hZ
     clear hZ c0 c1 cl
     go_wp2_with fail
     go_meet
     exact ⟨_, rfl, ⟨by first | exact HNF.out.wk HB2.out.size | exact HNA.out.wk HB2.out.size, HX2.out.on HZ.out, by first | exact Nat.lt_of_lt_of_le HX2.out.p.lt HNF.out.ge | exact Nat.lt_of_lt_of_le HX2.out.p.lt HNA.out.ge, bthen HB2.out HZ.out (Nat.le_refl _)⟩⟩
   ·skip
    go_simp
    have HNB := hid (BoxC.new (w := w2) (W := _) hHeld.size #[.string ⟨#[]⟩, .int .i64 0] 70)
    have HNA := hid (BoxC.new (w := w2) (W := _) hHeld.size #[.string (ofL E1), .int .i64 0] 70)
    have hPre := hHeld
    refine hK.out _ _ (hHeld.alloc hHeld.size _) (fun hHeld2 => ?_)
    clear hK K hHeld
    have hHeld := hHeld2
    clear hHeld2
    try simp only [Act.put, qxr30a, qxr30b, qxr30c]
    refine wpAnyH_ready (rs := [3]) (by kernel_rfl) (by simp) ?_
    refine AllReadyH.cons (o := ⟨some 14, _, _, _, _, _⟩) rfl (fun K hK => ?_) (AllReadyH.nil)
    go_simp
    go_at_call 34
    refine (HS0.out _).mono ?_
    rintro e wx ⟨rfl, hb2⟩
    generalize wx = wa at *
    try replace HNB := hid (HNB.out.on hb2)
    refine hK.out _ _ (bthen hHeld hb2 (Nat.le_refl _)) (fun hHeld2 => ?_)
    clear hK K hHeld hb2
    have hHeld := hHeld2
    clear hHeld2
    try simp only [Act.put, qxr30a, qxr30b, qxr30c]
    refine wpAnyH_ready (rs := [6]) (by kernel_rfl) (by simp) ?_
    refine AllReadyH.cons (o := ⟨some 17, _, _, _, _, _⟩) rfl (fun K hK => ?_) (AllReadyH.nil)
    go_simp
    go_at_call 19
    refine (HS1.out _).mono ?_
    rintro e wx ⟨rfl, hb2⟩
    generalize wx = wb at *
    try replace HNB := hid (HNB.out.on hb2)
    refine hK.out _ _ (bthen hHeld hb2 (Nat.le_refl _)) (fun hHeld2 => ?_)
    clear hK K hHeld hb2
    have hHeld := hHeld2
    clear hHeld2
    try simp only [Act.put, qxr30a, qxr30b, qxr30c]
    refine wpAnyH_ready (rs := [8]) (by kernel_rfl) (by simp) ?_
    refine AllReadyH.cons (o := ⟨none, _, _, _, _, _⟩) rfl (fun K hK => ?_) (AllReadyH.nil)
    have n0 := HNB.out.cs 0 _ rfl
    have n1 := HNB.out.cs 1 _ rfl
    have nf := HNB.out.s
    unfold Soft at nf
    have nl := HNB.out.lt
    have nge := HNB.out.ge
    have hfl := HNB.out.fill [.string (ofL E1), .int .i64 0] rfl
    simp only [putAll] at hfl
    have HNF := hid hfl
    clear hfl
    try simp only [show w2.drew.heap.size = w2.heap.size from rfl] at n0 n1 nf nl nge
    go_simp
    refine hK.out _ _ ?_ (fun hHeld2 => ?_)
    ·(try dsimp only); first | with_reducible exact hPre.alloc hPre.size _ | ((repeat with_reducible refine below_put nge ?_); with_reducible exact hHeld)
    clear n0 n1 nf nl nge HNB hPre
    clear hK K hHeld
    have hHeld := hHeld2
    clear hHeld2
    try simp only [Act.put, qxr30a, qxr30b, qxr30c]
    refine wpAnyH_done (by kernel_rfl) ?_ _
    have hZ := hHeld
    clear hHeld
    have HZ := hid hZ
    clear hZ c0 c1 cl
    go_wp2_with fail
    go_meet
    exact ⟨_, rfl, ⟨by first | exact HNF.out.wk HB2.out.size | exact HNA.out.wk HB2.out.size, HX2.out.on HZ.out, by first | exact Nat.lt_of_lt_of_le HX2.out.p.lt HNF.out.ge | exact Nat.lt_of_lt_of_le HX2.out.p.lt HNA.out.ge, bthen HB2.out HZ.out (Nat.le_refl _)⟩⟩
  case rest =>
   obtain ⟨g, rfl, hD⟩ := hcut
   have HD := hid hD
   clear hD HS0 HS1 HX2 HB2
   have h13 : x.kd = 0 ∨ x.kd = 1 ∨ x.kd = 2 ∨ x.kd = 3 ∨ x.kd = 4 ∨ x.kd = 5 ∨ x.kd = 6 ∨ x.kd = 7 ∨ x.kd = 8 ∨ x.kd = 9 ∨ x.kd = 10 ∨ x.kd = 11 ∨ x.kd = 12 := by have := HC0.out.1; omega
   rcases h13 with hk | hk | hk | hk | hk | hk | hk | hk | hk | hk | hk | hk | hk
   ·have HEV := hid (De.enc_0 hk)
    have hl := De.shc_len (x := x.shop) (by rw [← De.body_0 hk]; exact HC0.out.2.2)
    have hz1 := HZ1.out
    have c0 : wc.cell? ⟨w.heap.size, 0, none⟩ = some (.int .u8 0) := by have q := HD.out.p.p.cs 0 _ rfl; rw [hk] at q; exact q
    have cl := HD.out.p.p.lt
    obtain ⟨y1, hy1⟩ : ∃ z, E1 ++ (Oct.be 2 x.shop.name.length ++ x.shop.name) = z := ⟨_, rfl⟩
    have z1 : y1.length ≤ 2009 := by rw [← hy1]; simp only [List.length_append, Oct.length_be]; omega
    have HT0 := hid (fun W => text_l E1 x.shop.name W (by omega) (by omega))
    rw [hy1] at HT0
    obtain ⟨y2, hy2⟩ : ∃ z, y1 ++ Oct.be 1 x.shop.sort = z := ⟨_, rfl⟩
    have z2 : y2.length ≤ 4009 := by rw [← hy2]; simp only [List.length_append, Oct.length_be]; omega
    have HT1 := hid (fun W => ddSmall_any y1 x.shop.sort W HF.out.sort (by omega))
    rw [hy2] at HT1
    obtain ⟨y3, hy3⟩ : ∃ z, y2 ++ (Oct.be 2 x.shop.to.length ++ x.shop.to) = z := ⟨_, rfl⟩
    have HT2 := hid (fun W => text_l y2 x.shop.to W (by omega) (by omega))
    rw [hy3] at HT2
    have HEQ := hid (show x.enc = y3 by rw [HEV.out, HE1.out]; unfold De.tx; rw [hy1, hy2, hy3])
    clear hk hz1 hy1 hy2 hy3 hl z1 z2
    skip
    go_upto_region 7 with fail
    clear c0 cl
    refine wp_region_held_drew (S := DbE w x A c B d g) (by kernel_rfl) (by (try dsimp only); exact ⟨_, HD.out.on (Below.refl _ _).drew⟩) (fun hHeld => ?_)
    have HDc := hid (HD.out.on (Below.refl _ _).drew)
    refine wpAnyH_take (i := 1) (oi := ⟨some 23, _, _, _, _, _⟩) (v := ?_) rfl (by kernel_rfl) (by kernel_rfl) (by kernel_rfl) (fun _ _ _ h => h) (Or.inl ⟨by rfl, ?_⟩) (by assumption) ?_
    rotate_left 1
    ·intro wS hSw; (try dsimp only at hSw); go_simp; try with_reducible rfl
    try simp only [Act.put, qxr30a, qxr30b, qxr30c]
    refine wpAnyH_take (i := 2) (oi := ⟨some 24, _, _, _, _, _⟩) (v := ?_) rfl (by kernel_rfl) (by kernel_rfl) (by kernel_rfl) (fun _ _ _ h => h) (Or.inl ⟨by rfl, ?_⟩) (by assumption) ?_
    rotate_left 1
    ·intro wS hSw; (try dsimp only at hSw); go_simp; try with_reducible rfl
    try simp only [Act.put, qxr30a, qxr30b, qxr30c]
    refine wpAnyH_take (i := 3) (oi := ⟨some 25, _, _, _, _, _⟩) (v := ?_) rfl (by kernel_rfl) (by kernel_rfl) (by kernel_rfl) (fun _ _ _ h => h) (Or.inl ⟨by rfl, ?_⟩) (by assumption) ?_
    rotate_left 1
    ·intro wS hSw; (try dsimp only at hSw); obtain ⟨s9, hS9⟩ := hSw; have c2 := hS9.p.p.cs 2 _ rfl; have cl := hS9.p.p.lt; go_simp; try with_reducible rfl
    try simp only [Act.put, qxr30a, qxr30b, qxr30c]
    refine wpAnyH_take (i := 5) (oi := ⟨some 27, _, _, _, _, _⟩) (v := ?_) rfl (by kernel_rfl) (by kernel_rfl) (by kernel_rfl) (fun _ _ _ h => h) (Or.inl ⟨by rfl, ?_⟩) (by assumption) ?_
    rotate_left 1
    ·intro wS hSw; (try dsimp only at hSw); go_simp; try with_reducible rfl
    try simp only [Act.put, qxr30a, qxr30b, qxr30c]
    refine wpAnyH_take (i := 6) (oi := ⟨some 28, _, _, _, _, _⟩) (v := ?_) rfl (by kernel_rfl) (by kernel_rfl) (by kernel_rfl) (fun _ _ _ h => h) (Or.inl ⟨by rfl, ?_⟩) (by assumption) ?_
    rotate_left 1
    ·intro wS hSw; (try dsimp only at hSw); go_simp; try with_reducible rfl
    try simp only [Act.put, qxr30a, qxr30b, qxr30c]
    refine wpAnyH_take (i := 7) (oi := ⟨some 29, _, _, _, _, _⟩) (v := ?_) rfl (by kernel_rfl) (by kernel_rfl) (by kernel_rfl) (fun _ _ _ h => h) (Or.inl ⟨by rfl, ?_⟩) (by assumption) ?_
    rotate_left 1
    ·intro wS hSw; (try dsimp only at hSw); obtain ⟨s9, hS9⟩ := hSw; have c3 := hS9.p.p.cs 3 _ rfl; have cl := hS9.p.p.lt; go_simp; try with_reducible rfl
    try simp only [Act.put, qxr30a, qxr30b, qxr30c]
    refine wpAnyH_take (i := 9) (oi := ⟨some 31, _, _, _, _, _⟩) (v := ?_) rfl (by kernel_rfl) (by kernel_rfl) (by kernel_rfl) (fun _ _ _ h => h) (Or.inl ⟨by rfl, ?_⟩) (by assumption) ?_
    rotate_left 1
    ·intro wS hSw; (try dsimp only at hSw); go_simp; try with_reducible rfl
    try simp only [Act.put, qxr30a, qxr30b, qxr30c]
    refine wpAnyH_take (i := 10) (oi := ⟨some 32, _, _, _, _, _⟩) (v := ?_) rfl (by kernel_rfl) (by kernel_rfl) (by kernel_rfl) (fun _ _ _ h => h) (Or.inl ⟨by rfl, ?_⟩) (by assumption) ?_
    rotate_left 1
    ·intro wS hSw; (try dsimp only at hSw); go_simp; try with_reducible rfl
    try simp only [Act.put, qxr30a, qxr30b, qxr30c]
    refine wpAnyH_take (i := 11) (oi := ⟨some 33, _, _, _, _, _⟩) (v := ?_) rfl (by kernel_rfl) (by kernel_rfl) (by kernel_rfl) (fun _ _ _ h => h) (Or.inl ⟨by rfl, ?_⟩) (by assumption) ?_
    rotate_left 1
    ·intro wS hSw; (try dsimp only at hSw); obtain ⟨s9, hS9⟩ := hSw; have c4 := hS9.p.p.cs 4 _ rfl; have cl := hS9.p.p.lt; go_simp; try with_reducible rfl
    try simp only [Act.put, qxr30a, qxr30b, qxr30c]
    refine wpAnyH_ready (rs := [0]) (by kernel_rfl) (by simp) ?_
    refine AllReadyH.cons (o := ⟨some 22, _, _, _, _, _⟩) rfl (fun K hK => ?_) (AllReadyH.nil)
    have d0 := HDc.out.o.cs 0 _ rfl
    have d1 := HDc.out.o.cs 1 _ rfl
    go_simp
    refine hK.out _ _ (by (try dsimp only); exact hHeld) (fun hHeld2 => ?_)
    clear d0 d1
    clear hK K hHeld
    have hHeld := hHeld2
    clear hHeld2
    try simp only [Act.put, qxr30a, qxr30b, qxr30c]
    refine wpAnyH_ready (rs := [4]) (by kernel_rfl) (by simp) ?_
    refine AllReadyH.cons (o := ⟨some 26, _, _, _, _, _⟩) rfl (fun K hK => ?_) (AllReadyH.nil)
    go_simp
    go_at_call 35
    refine (HT0.out _).mono ?_
    rintro e wx ⟨rfl, hb2⟩
    replace HDc := hid (HDc.out.on hb2)
    refine hK.out _ _ (DbE.on hHeld hb2) (fun hHeld2 => ?_)
    clear hb2
    clear hK K hHeld
    have hHeld := hHeld2
    clear hHeld2
    try simp only [Act.put, qxr30a, qxr30b, qxr30c]
    refine wpAnyH_ready (rs := [8]) (by kernel_rfl) (by simp) ?_
    refine AllReadyH.cons (o := ⟨some 30, _, _, _, _, _⟩) rfl (fun K hK => ?_) (AllReadyH.nil)
    go_simp
    go_at_call 34
    refine (HT1.out _).mono ?_
    rintro e wx ⟨rfl, hb2⟩
    replace HDc := hid (HDc.out.on hb2)
    refine hK.out _ _ (DbE.on hHeld hb2) (fun hHeld2 => ?_)
    clear hb2
    clear hK K hHeld
    have hHeld := hHeld2
    clear hHeld2
    try simp only [Act.put, qxr30a, qxr30b, qxr30c]
    refine wpAnyH_ready (rs := [12]) (by kernel_rfl) (by simp) ?_
    refine AllReadyH.cons (o := ⟨some 34, _, _, _, _, _⟩) rfl (fun K hK => ?_) (AllReadyH.nil)
    go_simp
    go_at_call 35
    refine (HT2.out _).mono ?_
    rintro e wx ⟨rfl, hb2⟩
    replace HDc := hid (HDc.out.on hb2)
    refine hK.out _ _ (DbE.on hHeld hb2) (fun hHeld2 => ?_)
    clear hb2
    clear hK K hHeld
    have hHeld := hHeld2
    clear hHeld2
    try simp only [Act.put, qxr30a, qxr30b, qxr30c]
    refine wpAnyH_ready (rs := [13]) (by kernel_rfl) (by simp) ?_
    refine AllReadyH.cons (o := ⟨none, _, _, _, _, _⟩) rfl (fun K hK => ?_) (AllReadyH.nil)
    have n0 := HDc.out.o.cs 0 _ rfl
    have n1 := HDc.out.o.cs 1 _ rfl
    have nf := HDc.out.o.s
    have nl := HDc.out.o.lt
    unfold Soft at nf
    go_simp
    refine hK.out _ _ (by (try dsimp only); exact ⟨_, HDc.out.put HRA.out HRB.out _⟩) (fun hHeld2 => ?_)
    clear n0 n1 nf nl
    clear hK K hHeld
    have hHeld := hHeld2
    clear hHeld2
    try simp only [Act.put, qxr30a, qxr30b, qxr30c]
    refine wpAnyH_done (by kernel_rfl) ?_ _
    clear hHeld
    have HD6 := hid (HDc.out.put HRA.out HRB.out (ofL y3))
    clear HDc
    generalize (wx.setCell ⟨g, 0, none⟩ (.string (ofL y3))).setCell ⟨g, 1, none⟩ (.int .i64 0) = W6 at *
    have d0 := HD6.out.o.cs 0 _ rfl
    have d1 := HD6.out.o.cs 1 _ rfl
    have dl := HD6.out.o.lt
    go_wp2_with fail
    refine (str_any (ofL y3) 0 _).mono ?_
    rintro e w9 ⟨rfl, b9⟩
    have HB9 := hid (bthen HD6.out.B b9 (Nat.le_refl _))
    clear b9
    go_wp2_with fail
    exact bodyPost_ret (v := .tuple #[.string (ofL y3), .int .i64 0]) (by simp [results, Tryz.results13, go_sem]) rfl ⟨by rw [HVV.out, HEQ.out], HB9.out⟩
   ·have HEV := hid (De.enc_1 hk)
    have hl : x.name.length ≤ 16 := (Hd.name_ok_len (by rw [← De.body_1 hk]; exact HC0.out.2.2)).1
    have hz1 := HZ1.out
    have c0 : wc.cell? ⟨w.heap.size, 0, none⟩ = some (.int .u8 1) := by have q := HD.out.p.p.cs 0 _ rfl; rw [hk] at q; exact q
    have cl := HD.out.p.p.lt
    obtain ⟨y1, hy1⟩ : ∃ z, E1 ++ (Oct.be 2 x.name.length ++ x.name) = z := ⟨_, rfl⟩
    have HT0 := hid (fun W => text_l E1 x.name W (by omega) (by omega))
    rw [hy1] at HT0
    have HEQ := hid (show x.enc = y1 by rw [HEV.out, HE1.out]; unfold De.tx; rw [hy1])
    clear hk hz1 hy1 hl
    skip
    have c15 := HD.out.p.p.cs 15 _ rfl
    have d0 := HD.out.o.cs 0 _ rfl
    have d1 := HD.out.o.cs 1 _ rfl
    have dl := HD.out.o.lt
    go_wp2_with fail
    refine (HT0.out _).mono ?_
    rintro e w5 ⟨rfl, b5⟩
    have HD5 := hid (HD.out.on b5)
    clear b5 c0 cl d0 d1 dl c15
    have d0 := HD5.out.o.cs 0 _ rfl
    have d1 := HD5.out.o.cs 1 _ rfl
    have dl := HD5.out.o.lt
    have df := HD5.out.o.s
    unfold Soft at df
    go_upto_region 25 with fail
    have HD6 := hid (HD5.out.put HRA.out HRB.out (ofL y1))
    clear d0 d1 dl df HD5
    generalize (w5.setCell ⟨g, 0, none⟩ (.string (ofL y1))).setCell ⟨g, 1, none⟩ (.int .i64 0) = W6 at *
    have d0 := HD6.out.o.cs 0 _ rfl
    have d1 := HD6.out.o.cs 1 _ rfl
    have dl := HD6.out.o.lt
    go_wp2_with fail
    refine (str_any (ofL y1) 0 _).mono ?_
    rintro e w9 ⟨rfl, b9⟩
    have HB9 := hid (bthen HD6.out.B b9 (Nat.le_refl _))
    clear b9
    go_wp2_with fail
    exact bodyPost_ret (v := .tuple #[.string (ofL y1), .int .i64 0]) (by simp [results, Tryz.results13, go_sem]) rfl ⟨by rw [HVV.out, HEQ.out], HB9.out⟩
   ·have HEV := hid (De.enc_2 hk)
    have hl := De.quc_len (x := x.q) (by rw [← De.body_2 hk]; exact HC0.out.2.2)
    have hz1 := HZ1.out
    have c0 : wc.cell? ⟨w.heap.size, 0, none⟩ = some (.int .u8 2) := by have q := HD.out.p.p.cs 0 _ rfl; rw [hk] at q; exact q
    have cl := HD.out.p.p.lt
    obtain ⟨y1, hy1⟩ : ∃ z, E1 ++ (Oct.be 2 x.q.name.length ++ x.q.name) = z := ⟨_, rfl⟩
    have z1 : y1.length ≤ 2009 := by rw [← hy1]; simp only [List.length_append, Oct.length_be]; omega
    have HT0 := hid (fun W => text_l E1 x.q.name W (by omega) (by omega))
    rw [hy1] at HT0
    obtain ⟨y2, hy2⟩ : ∃ z, y1 ++ Oct.be 8 x.q.most = z := ⟨_, rfl⟩
    have z2 : y2.length ≤ 4009 := by rw [← hy2]; simp only [List.length_append, Oct.length_be]; omega
    have HT1 := hid (fun W => num_l y1 x.q.most 8 8 W HF.out.most (by omega) rfl (by omega))
    rw [hy2] at HT1
    obtain ⟨y3, hy3⟩ : ∃ z, y2 ++ Oct.be 8 x.q.life = z := ⟨_, rfl⟩
    have z3 : y3.length ≤ 6009 := by rw [← hy3]; simp only [List.length_append, Oct.length_be]; omega
    have HT2 := hid (fun W => num_l y2 x.q.life 8 8 W HF.out.life (by omega) rfl (by omega))
    rw [hy3] at HT2
    obtain ⟨y4, hy4⟩ : ∃ z, y3 ++ (Oct.be 2 x.q.dead.length ++ x.q.dead) = z := ⟨_, rfl⟩
    have HT3 := hid (fun W => text_l y3 x.q.dead W (by omega) (by omega))
    rw [hy4] at HT3
    have HEQ := hid (show x.enc = y4 by rw [HEV.out, HE1.out]; unfold De.tx; rw [hy1, hy2, hy3, hy4])
    clear hk hz1 hy1 hy2 hy3 hy4 hl z1 z2 z3
    skip
    go_upto_region 9 with fail
    clear c0 cl
    refine wp_region_held_drew (S := DbE w x A c B d g) (by kernel_rfl) (by (try dsimp only); exact ⟨_, HD.out.on (Below.refl _ _).drew⟩) (fun hHeld => ?_)
    have HDc := hid (HD.out.on (Below.refl _ _).drew)
    refine wpAnyH_take (i := 1) (oi := ⟨some 38, _, _, _, _, _⟩) (v := ?_) rfl (by kernel_rfl) (by kernel_rfl) (by kernel_rfl) (fun _ _ _ h => h) (Or.inl ⟨by rfl, ?_⟩) (by assumption) ?_
    rotate_left 1
    ·intro wS hSw; (try dsimp only at hSw); go_simp; try with_reducible rfl
    try simp only [Act.put, qxr30a, qxr30b, qxr30c]
    refine wpAnyH_take (i := 2) (oi := ⟨some 39, _, _, _, _, _⟩) (v := ?_) rfl (by kernel_rfl) (by kernel_rfl) (by kernel_rfl) (fun _ _ _ h => h) (Or.inl ⟨by rfl, ?_⟩) (by assumption) ?_
    rotate_left 1
    ·intro wS hSw; (try dsimp only at hSw); go_simp; try with_reducible rfl
    try simp only [Act.put, qxr30a, qxr30b, qxr30c]
    refine wpAnyH_take (i := 3) (oi := ⟨some 40, _, _, _, _, _⟩) (v := ?_) rfl (by kernel_rfl) (by kernel_rfl) (by kernel_rfl) (fun _ _ _ h => h) (Or.inl ⟨by rfl, ?_⟩) (by assumption) ?_
    rotate_left 1
    ·intro wS hSw; (try dsimp only at hSw); obtain ⟨s9, hS9⟩ := hSw; have c5 := hS9.p.p.cs 5 _ rfl; have cl := hS9.p.p.lt; go_simp; try with_reducible rfl
    try simp only [Act.put, qxr30a, qxr30b, qxr30c]
    refine wpAnyH_take (i := 5) (oi := ⟨some 42, _, _, _, _, _⟩) (v := ?_) rfl (by kernel_rfl) (by kernel_rfl) (by kernel_rfl) (fun _ _ _ h => h) (Or.inl ⟨by rfl, ?_⟩) (by assumption) ?_
    rotate_left 1
    ·intro wS hSw; (try dsimp only at hSw); go_simp; try with_reducible rfl
    try simp only [Act.put, qxr30a, qxr30b, qxr30c]
    refine wpAnyH_take (i := 6) (oi := ⟨some 43, _, _, _, _, _⟩) (v := ?_) rfl (by kernel_rfl) (by kernel_rfl) (by kernel_rfl) (fun _ _ _ h => h) (Or.inl ⟨by rfl, ?_⟩) (by assumption) ?_
    rotate_left 1
    ·intro wS hSw; (try dsimp only at hSw); go_simp; try with_reducible rfl
    try simp only [Act.put, qxr30a, qxr30b, qxr30c]
    refine wpAnyH_take (i := 7) (oi := ⟨some 44, _, _, _, _, _⟩) (v := ?_) rfl (by kernel_rfl) (by kernel_rfl) (by kernel_rfl) (fun _ _ _ h => h) (Or.inl ⟨by rfl, ?_⟩) (by assumption) ?_
    rotate_left 1
    ·intro wS hSw; (try dsimp only at hSw); obtain ⟨s9, hS9⟩ := hSw; have c6 := hS9.p.p.cs 6 _ rfl; have cl := hS9.p.p.lt; go_simp; try with_reducible rfl
    try simp only [Act.put, qxr30a, qxr30b, qxr30c]
    refine wpAnyH_take (i := 9) (oi := ⟨some 46, _, _, _, _, _⟩) (v := ?_) rfl (by kernel_rfl) (by kernel_rfl) (by kernel_rfl) (fun _ _ _ h => h) (Or.inl ⟨by rfl, ?_⟩) (by assumption) ?_
    rotate_left 1
    ·intro wS hSw; (try dsimp only at hSw); go_simp; try with_reducible rfl
    try simp only [Act.put, qxr30a, qxr30b, qxr30c]
    refine wpAnyH_take (i := 10) (oi := ⟨some 47, _, _, _, _, _⟩) (v := ?_) rfl (by kernel_rfl) (by kernel_rfl) (by kernel_rfl) (fun _ _ _ h => h) (Or.inl ⟨by rfl, ?_⟩) (by assumption) ?_
    rotate_left 1
    ·intro wS hSw; (try dsimp only at hSw); go_simp; try with_reducible rfl
    try simp only [Act.put, qxr30a, qxr30b, qxr30c]
    refine wpAnyH_take (i := 11) (oi := ⟨some 48, _, _, _, _, _⟩) (v := ?_) rfl (by kernel_rfl) (by kernel_rfl) (by kernel_rfl) (fun _ _ _ h => h) (Or.inl ⟨by rfl, ?_⟩) (by assumption) ?_
    rotate_left 1
    ·intro wS hSw; (try dsimp only at hSw); obtain ⟨s9, hS9⟩ := hSw; have c7 := hS9.p.p.cs 7 _ rfl; have cl := hS9.p.p.lt; go_simp; try with_reducible rfl
    try simp only [Act.put, qxr30a, qxr30b, qxr30c]
    refine wpAnyH_take (i := 13) (oi := ⟨some 50, _, _, _, _, _⟩) (v := ?_) rfl (by kernel_rfl) (by kernel_rfl) (by kernel_rfl) (fun _ _ _ h => h) (Or.inl ⟨by rfl, ?_⟩) (by assumption) ?_
    rotate_left 1
    ·intro wS hSw; (try dsimp only at hSw); go_simp; try with_reducible rfl
    try simp only [Act.put, qxr30a, qxr30b, qxr30c]
    refine wpAnyH_take (i := 14) (oi := ⟨some 51, _, _, _, _, _⟩) (v := ?_) rfl (by kernel_rfl) (by kernel_rfl) (by kernel_rfl) (fun _ _ _ h => h) (Or.inl ⟨by rfl, ?_⟩) (by assumption) ?_
    rotate_left 1
    ·intro wS hSw; (try dsimp only at hSw); go_simp; try with_reducible rfl
    try simp only [Act.put, qxr30a, qxr30b, qxr30c]
    refine wpAnyH_take (i := 15) (oi := ⟨some 52, _, _, _, _, _⟩) (v := ?_) rfl (by kernel_rfl) (by kernel_rfl) (by kernel_rfl) (fun _ _ _ h => h) (Or.inl ⟨by rfl, ?_⟩) (by assumption) ?_
    rotate_left 1
    ·intro wS hSw; (try dsimp only at hSw); obtain ⟨s9, hS9⟩ := hSw; have c8 := hS9.p.p.cs 8 _ rfl; have cl := hS9.p.p.lt; go_simp; try with_reducible rfl
    try simp only [Act.put, qxr30a, qxr30b, qxr30c]
    refine wpAnyH_ready (rs := [0]) (by kernel_rfl) (by simp) ?_
    refine AllReadyH.cons (o := ⟨some 37, _, _, _, _, _⟩) rfl (fun K hK => ?_) (AllReadyH.nil)
    have d0 := HDc.out.o.cs 0 _ rfl
    have d1 := HDc.out.o.cs 1 _ rfl
    go_simp
    refine hK.out _ _ (by (try dsimp only); exact hHeld) (fun hHeld2 => ?_)
    clear d0 d1
    clear hK K hHeld
    have hHeld := hHeld2
    clear hHeld2
    try simp only [Act.put, qxr30a, qxr30b, qxr30c]
    refine wpAnyH_ready (rs := [4]) (by kernel_rfl) (by simp) ?_
    refine AllReadyH.cons (o := ⟨some 41, _, _, _, _, _⟩) rfl (fun K hK => ?_) (AllReadyH.nil)
    go_simp
    go_at_call 35
    refine (HT0.out _).mono ?_
    rintro e wx ⟨rfl, hb2⟩
    replace HDc := hid (HDc.out.on hb2)
    refine hK.out _ _ (DbE.on hHeld hb2) (fun hHeld2 => ?_)
    clear hb2
    clear hK K hHeld
    have hHeld := hHeld2
    clear hHeld2
    try simp only [Act.put, qxr30a, qxr30b, qxr30c]
    refine wpAnyH_ready (rs := [8]) (by kernel_rfl) (by simp) ?_
    refine AllReadyH.cons (o := ⟨some 45, _, _, _, _, _⟩) rfl (fun K hK => ?_) (AllReadyH.nil)
    go_simp
    go_at_call 19
    refine (HT1.out _).mono ?_
    rintro e wx ⟨rfl, hb2⟩
    replace HDc := hid (HDc.out.on hb2)
    refine hK.out _ _ (DbE.on hHeld hb2) (fun hHeld2 => ?_)
    clear hb2
    clear hK K hHeld
    have hHeld := hHeld2
    clear hHeld2
    try simp only [Act.put, qxr30a, qxr30b, qxr30c]
    refine wpAnyH_ready (rs := [12]) (by kernel_rfl) (by simp) ?_
    refine AllReadyH.cons (o := ⟨some 49, _, _, _, _, _⟩) rfl (fun K hK => ?_) (AllReadyH.nil)
    go_simp
    go_at_call 19
    refine (HT2.out _).mono ?_
    rintro e wx ⟨rfl, hb2⟩
    replace HDc := hid (HDc.out.on hb2)
    refine hK.out _ _ (DbE.on hHeld hb2) (fun hHeld2 => ?_)
    clear hb2
    clear hK K hHeld
    have hHeld := hHeld2
    clear hHeld2
    try simp only [Act.put, qxr30a, qxr30b, qxr30c]
    refine wpAnyH_ready (rs := [16]) (by kernel_rfl) (by simp) ?_
    refine AllReadyH.cons (o := ⟨some 53, _, _, _, _, _⟩) rfl (fun K hK => ?_) (AllReadyH.nil)
    go_simp
    go_at_call 35
    refine (HT3.out _).mono ?_
    rintro e wx ⟨rfl, hb2⟩
    replace HDc := hid (HDc.out.on hb2)
    refine hK.out _ _ (DbE.on hHeld hb2) (fun hHeld2 => ?_)
    clear hb2
    clear hK K hHeld
    have hHeld := hHeld2
    clear hHeld2
    try simp only [Act.put, qxr30a, qxr30b, qxr30c]
    refine wpAnyH_ready (rs := [17]) (by kernel_rfl) (by simp) ?_
    refine AllReadyH.cons (o := ⟨none, _, _, _, _, _⟩) rfl (fun K hK => ?_) (AllReadyH.nil)
    have n0 := HDc.out.o.cs 0 _ rfl
    have n1 := HDc.out.o.cs 1 _ rfl
    have nf := HDc.out.o.s
    have nl := HDc.out.o.lt
    unfold Soft at nf
    go_simp
    refine hK.out _ _ (by (try dsimp only); exact ⟨_, HDc.out.put HRA.out HRB.out _⟩) (fun hHeld2 => ?_)
    clear n0 n1 nf nl
    clear hK K hHeld
    have hHeld := hHeld2
    clear hHeld2
    try simp only [Act.put, qxr30a, qxr30b, qxr30c]
    refine wpAnyH_done (by kernel_rfl) ?_ _
    clear hHeld
    have HD6 := hid (HDc.out.put HRA.out HRB.out (ofL y4))
    clear HDc
    generalize (wx.setCell ⟨g, 0, none⟩ (.string (ofL y4))).setCell ⟨g, 1, none⟩ (.int .i64 0) = W6 at *
    have d0 := HD6.out.o.cs 0 _ rfl
    have d1 := HD6.out.o.cs 1 _ rfl
    have dl := HD6.out.o.lt
    go_wp2_with fail
    refine (str_any (ofL y4) 0 _).mono ?_
    rintro e w9 ⟨rfl, b9⟩
    have HB9 := hid (bthen HD6.out.B b9 (Nat.le_refl _))
    clear b9
    go_wp2_with fail
    exact bodyPost_ret (v := .tuple #[.string (ofL y4), .int .i64 0]) (by simp [results, Tryz.results13, go_sem]) rfl ⟨by rw [HVV.out, HEQ.out], HB9.out⟩
   ·have HEV := hid (De.enc_3 hk)
    have hl : x.name.length ≤ 16 := (Hd.name_ok_len (by rw [← De.body_3 hk]; exact HC0.out.2.2)).1
    have hz1 := HZ1.out
    have c0 : wc.cell? ⟨w.heap.size, 0, none⟩ = some (.int .u8 3) := by have q := HD.out.p.p.cs 0 _ rfl; rw [hk] at q; exact q
    have cl := HD.out.p.p.lt
    obtain ⟨y1, hy1⟩ : ∃ z, E1 ++ (Oct.be 2 x.name.length ++ x.name) = z := ⟨_, rfl⟩
    have HT0 := hid (fun W => text_l E1 x.name W (by omega) (by omega))
    rw [hy1] at HT0
    have HEQ := hid (show x.enc = y1 by rw [HEV.out, HE1.out]; unfold De.tx; rw [hy1])
    clear hk hz1 hy1 hl
    skip
    have c15 := HD.out.p.p.cs 15 _ rfl
    have d0 := HD.out.o.cs 0 _ rfl
    have d1 := HD.out.o.cs 1 _ rfl
    have dl := HD.out.o.lt
    go_wp2_with fail
    refine (HT0.out _).mono ?_
    rintro e w5 ⟨rfl, b5⟩
    have HD5 := hid (HD.out.on b5)
    clear b5 c0 cl d0 d1 dl c15
    have d0 := HD5.out.o.cs 0 _ rfl
    have d1 := HD5.out.o.cs 1 _ rfl
    have dl := HD5.out.o.lt
    have df := HD5.out.o.s
    unfold Soft at df
    go_upto_region 25 with fail
    have HD6 := hid (HD5.out.put HRA.out HRB.out (ofL y1))
    clear d0 d1 dl df HD5
    generalize (w5.setCell ⟨g, 0, none⟩ (.string (ofL y1))).setCell ⟨g, 1, none⟩ (.int .i64 0) = W6 at *
    have d0 := HD6.out.o.cs 0 _ rfl
    have d1 := HD6.out.o.cs 1 _ rfl
    have dl := HD6.out.o.lt
    go_wp2_with fail
    refine (str_any (ofL y1) 0 _).mono ?_
    rintro e w9 ⟨rfl, b9⟩
    have HB9 := hid (bthen HD6.out.B b9 (Nat.le_refl _))
    clear b9
    go_wp2_with fail
    exact bodyPost_ret (v := .tuple #[.string (ofL y1), .int .i64 0]) (by simp [results, Tryz.results13, go_sem]) rfl ⟨by rw [HVV.out, HEQ.out], HB9.out⟩
   ·have HEV := hid (De.enc_4 hk)
    have hl := De.bdc_len (x := x.bind) (by rw [← De.body_4 hk]; exact HC0.out.2.2)
    have hz1 := HZ1.out
    have c0 : wc.cell? ⟨w.heap.size, 0, none⟩ = some (.int .u8 4) := by have q := HD.out.p.p.cs 0 _ rfl; rw [hk] at q; exact q
    have cl := HD.out.p.p.lt
    obtain ⟨y1, hy1⟩ : ∃ z, bdE x.bind E1 = z := ⟨_, rfl⟩
    have HT0 := hid (fun W (q1 : BdOk W x.bind A c) => ddwBind_any E1 x.bind A c W q1 hl.1 hl.2.1 hl.2.2.1 hl.2.2.2 (by omega))
    rw [hy1] at HT0
    have HEQ := hid (show x.enc = y1 by rw [HEV.out, HE1.out]; rw [hy1])
    clear hk hz1 hy1 hl
    simp only [bdV] at *
    have c9 := HD.out.p.p.cs 9 _ rfl
    have c10 := HD.out.p.p.cs 10 _ rfl
    have c11 := HD.out.p.p.cs 11 _ rfl
    have c12 := HD.out.p.p.cs 12 _ rfl
    have c13 := HD.out.p.p.cs 13 _ rfl
    have c14 := HD.out.p.p.cs 14 _ rfl
    have d0 := HD.out.o.cs 0 _ rfl
    have d1 := HD.out.o.cs 1 _ rfl
    have dl := HD.out.o.lt
    go_wp2_with fail
    refine (HT0.out _ (HOK.out.bind.on HD.out.B)).mono ?_
    rintro e w5 ⟨rfl, b5⟩
    have HD5 := hid (HD.out.on b5)
    clear b5 c0 cl d0 d1 dl c9 c10 c11 c12 c13 c14
    have d0 := HD5.out.o.cs 0 _ rfl
    have d1 := HD5.out.o.cs 1 _ rfl
    have dl := HD5.out.o.lt
    have df := HD5.out.o.s
    unfold Soft at df
    go_upto_region 25 with fail
    have HD6 := hid (HD5.out.put HRA.out HRB.out (ofL y1))
    clear d0 d1 dl df HD5
    generalize (w5.setCell ⟨g, 0, none⟩ (.string (ofL y1))).setCell ⟨g, 1, none⟩ (.int .i64 0) = W6 at *
    have d0 := HD6.out.o.cs 0 _ rfl
    have d1 := HD6.out.o.cs 1 _ rfl
    have dl := HD6.out.o.lt
    go_wp2_with fail
    refine (str_any (ofL y1) 0 _).mono ?_
    rintro e w9 ⟨rfl, b9⟩
    have HB9 := hid (bthen HD6.out.B b9 (Nat.le_refl _))
    clear b9
    go_wp2_with fail
    exact bodyPost_ret (v := .tuple #[.string (ofL y1), .int .i64 0]) (by simp [results, Tryz.results13, go_sem]) rfl ⟨by rw [HVV.out, HEQ.out], HB9.out⟩
   ·have HEV := hid (De.enc_5 hk)
    have hl := De.bdc_len (x := x.bind) (by rw [← De.body_5 hk]; exact HC0.out.2.2)
    have hz1 := HZ1.out
    have c0 : wc.cell? ⟨w.heap.size, 0, none⟩ = some (.int .u8 5) := by have q := HD.out.p.p.cs 0 _ rfl; rw [hk] at q; exact q
    have cl := HD.out.p.p.lt
    obtain ⟨y1, hy1⟩ : ∃ z, bdE x.bind E1 = z := ⟨_, rfl⟩
    have HT0 := hid (fun W (q1 : BdOk W x.bind A c) => ddwBind_any E1 x.bind A c W q1 hl.1 hl.2.1 hl.2.2.1 hl.2.2.2 (by omega))
    rw [hy1] at HT0
    have HEQ := hid (show x.enc = y1 by rw [HEV.out, HE1.out]; rw [hy1])
    clear hk hz1 hy1 hl
    simp only [bdV] at *
    have c9 := HD.out.p.p.cs 9 _ rfl
    have c10 := HD.out.p.p.cs 10 _ rfl
    have c11 := HD.out.p.p.cs 11 _ rfl
    have c12 := HD.out.p.p.cs 12 _ rfl
    have c13 := HD.out.p.p.cs 13 _ rfl
    have c14 := HD.out.p.p.cs 14 _ rfl
    have d0 := HD.out.o.cs 0 _ rfl
    have d1 := HD.out.o.cs 1 _ rfl
    have dl := HD.out.o.lt
    go_wp2_with fail
    refine (HT0.out _ (HOK.out.bind.on HD.out.B)).mono ?_
    rintro e w5 ⟨rfl, b5⟩
    have HD5 := hid (HD.out.on b5)
    clear b5 c0 cl d0 d1 dl c9 c10 c11 c12 c13 c14
    have d0 := HD5.out.o.cs 0 _ rfl
    have d1 := HD5.out.o.cs 1 _ rfl
    have dl := HD5.out.o.lt
    have df := HD5.out.o.s
    unfold Soft at df
    go_upto_region 25 with fail
    have HD6 := hid (HD5.out.put HRA.out HRB.out (ofL y1))
    clear d0 d1 dl df HD5
    generalize (w5.setCell ⟨g, 0, none⟩ (.string (ofL y1))).setCell ⟨g, 1, none⟩ (.int .i64 0) = W6 at *
    have d0 := HD6.out.o.cs 0 _ rfl
    have d1 := HD6.out.o.cs 1 _ rfl
    have dl := HD6.out.o.lt
    go_wp2_with fail
    refine (str_any (ofL y1) 0 _).mono ?_
    rintro e w9 ⟨rfl, b9⟩
    have HB9 := hid (bthen HD6.out.B b9 (Nat.le_refl _))
    clear b9
    go_wp2_with fail
    exact bodyPost_ret (v := .tuple #[.string (ofL y1), .int .i64 0]) (by simp [results, Tryz.results13, go_sem]) rfl ⟨by rw [HVV.out, HEQ.out], HB9.out⟩
   ·have HEV := hid (De.enc_6 hk)
    have hc : x.mail.code = 0 := by rw [← De.body_6 hk]; exact HC0.out.2.2
    have hl := De.mail_len hc
    have hz1 := HZ1.out
    have c0 : wc.cell? ⟨w.heap.size, 0, none⟩ = some (.int .u8 6) := by have q := HD.out.p.p.cs 0 _ rfl; rw [hk] at q; exact q
    have cl := HD.out.p.p.lt
    obtain ⟨y1, hy1⟩ : ∃ z, E1 ++ x.mail.enc = z := ⟨_, rfl⟩
    have HT0 := hid (fun W (q1 : MaOk W x.mail B d) q2 => ddwMail_any E1 x.mail B d W q1 HF.out.mail hc (by omega) (by omega) q2)
    rw [hy1] at HT0
    have HEQ := hid (show x.enc = y1 by rw [HEV.out, HE1.out]; rw [hy1])
    clear hk hz1 hy1 hl hc
    simp only [maV] at *
    have c21 := HD.out.p.p.cs 21 _ rfl
    have c22 := HD.out.p.p.cs 22 _ rfl
    have c23 := HD.out.p.p.cs 23 _ rfl
    have c24 := HD.out.p.p.cs 24 _ rfl
    have c25 := HD.out.p.p.cs 25 _ rfl
    have c26 := HD.out.p.p.cs 26 _ rfl
    have c27 := HD.out.p.p.cs 27 _ rfl
    have d0 := HD.out.o.cs 0 _ rfl
    have d1 := HD.out.o.cs 1 _ rfl
    have dl := HD.out.o.lt
    go_wp2_with fail
    refine (HT0.out _ (HOK.out.mail.on HD.out.B) (HL0.out.on HD.out.B)).mono ?_
    rintro e w5 ⟨rfl, b5⟩
    have HD5 := hid (HD.out.on b5)
    clear b5 c0 cl d0 d1 dl c21 c22 c23 c24 c25 c26 c27
    have d0 := HD5.out.o.cs 0 _ rfl
    have d1 := HD5.out.o.cs 1 _ rfl
    have dl := HD5.out.o.lt
    have df := HD5.out.o.s
    unfold Soft at df
    go_upto_region 25 with fail
    have HD6 := hid (HD5.out.put HRA.out HRB.out (ofL y1))
    clear d0 d1 dl df HD5
    generalize (w5.setCell ⟨g, 0, none⟩ (.string (ofL y1))).setCell ⟨g, 1, none⟩ (.int .i64 0) = W6 at *
    have d0 := HD6.out.o.cs 0 _ rfl
    have d1 := HD6.out.o.cs 1 _ rfl
    have dl := HD6.out.o.lt
    go_wp2_with fail
    refine (str_any (ofL y1) 0 _).mono ?_
    rintro e w9 ⟨rfl, b9⟩
    have HB9 := hid (bthen HD6.out.B b9 (Nat.le_refl _))
    clear b9
    go_wp2_with fail
    exact bodyPost_ret (v := .tuple #[.string (ofL y1), .int .i64 0]) (by simp [results, Tryz.results13, go_sem]) rfl ⟨by rw [HVV.out, HEQ.out], HB9.out⟩
   ·have HEV := hid (De.enc_7 hk)
    have hl : x.name.length ≤ 16 := (Hd.name_ok_len (by rw [← De.body_7 hk]; exact HC0.out.2.2)).1
    have hz1 := HZ1.out
    have c0 : wc.cell? ⟨w.heap.size, 0, none⟩ = some (.int .u8 7) := by have q := HD.out.p.p.cs 0 _ rfl; rw [hk] at q; exact q
    have cl := HD.out.p.p.lt
    obtain ⟨y1, hy1⟩ : ∃ z, E1 ++ (Oct.be 2 x.name.length ++ x.name) = z := ⟨_, rfl⟩
    have HT0 := hid (fun W => text_l E1 x.name W (by omega) (by omega))
    rw [hy1] at HT0
    have HEQ := hid (show x.enc = y1 by rw [HEV.out, HE1.out]; unfold De.tx; rw [hy1])
    clear hk hz1 hy1 hl
    skip
    have c15 := HD.out.p.p.cs 15 _ rfl
    have d0 := HD.out.o.cs 0 _ rfl
    have d1 := HD.out.o.cs 1 _ rfl
    have dl := HD.out.o.lt
    go_wp2_with fail
    refine (HT0.out _).mono ?_
    rintro e w5 ⟨rfl, b5⟩
    have HD5 := hid (HD.out.on b5)
    clear b5 c0 cl d0 d1 dl c15
    have d0 := HD5.out.o.cs 0 _ rfl
    have d1 := HD5.out.o.cs 1 _ rfl
    have dl := HD5.out.o.lt
    have df := HD5.out.o.s
    unfold Soft at df
    go_upto_region 25 with fail
    have HD6 := hid (HD5.out.put HRA.out HRB.out (ofL y1))
    clear d0 d1 dl df HD5
    generalize (w5.setCell ⟨g, 0, none⟩ (.string (ofL y1))).setCell ⟨g, 1, none⟩ (.int .i64 0) = W6 at *
    have d0 := HD6.out.o.cs 0 _ rfl
    have d1 := HD6.out.o.cs 1 _ rfl
    have dl := HD6.out.o.lt
    go_wp2_with fail
    refine (str_any (ofL y1) 0 _).mono ?_
    rintro e w9 ⟨rfl, b9⟩
    have HB9 := hid (bthen HD6.out.B b9 (Nat.le_refl _))
    clear b9
    go_wp2_with fail
    exact bodyPost_ret (v := .tuple #[.string (ofL y1), .int .i64 0]) (by simp [results, Tryz.results13, go_sem]) rfl ⟨by rw [HVV.out, HEQ.out], HB9.out⟩
   ·have HEV := hid (De.enc_8 hk)
    have hl := De.stc_len (x := x) (by rw [← De.body_8 hk]; exact HC0.out.2.2)
    have hz1 := HZ1.out
    have c0 : wc.cell? ⟨w.heap.size, 0, none⟩ = some (.int .u8 8) := by have q := HD.out.p.p.cs 0 _ rfl; rw [hk] at q; exact q
    have cl := HD.out.p.p.lt
    obtain ⟨y1, hy1⟩ : ∃ z, E1 ++ (Oct.be 2 x.name.length ++ x.name) = z := ⟨_, rfl⟩
    have z1 : y1.length ≤ 2009 := by rw [← hy1]; simp only [List.length_append, Oct.length_be]; omega
    have HT0 := hid (fun W => text_l E1 x.name W (by omega) (by omega))
    rw [hy1] at HT0
    obtain ⟨y2, hy2⟩ : ∃ z, y1 ++ Oct.be 8 x.id = z := ⟨_, rfl⟩
    have z2 : y2.length ≤ 4009 := by rw [← hy2]; simp only [List.length_append, Oct.length_be]; omega
    have HT1 := hid (fun W => num_l y1 x.id 8 8 W HF.out.id (by omega) rfl (by omega))
    rw [hy2] at HT1
    obtain ⟨y3, hy3⟩ : ∃ z, y2 ++ Oct.be 1 x.how = z := ⟨_, rfl⟩
    have HT2 := hid (fun W => ddSmall_any y2 x.how W HF.out.how (by omega))
    rw [hy3] at HT2
    have HEQ := hid (show x.enc = y3 by rw [HEV.out, HE1.out]; unfold De.tx; rw [hy1, hy2, hy3])
    clear hk hz1 hy1 hy2 hy3 hl z1 z2
    skip
    go_upto_region 20 with fail
    clear c0 cl
    refine wp_region_held_drew (S := DbE w x A c B d g) (by kernel_rfl) (by (try dsimp only); exact ⟨_, HD.out.on (Below.refl _ _).drew⟩) (fun hHeld => ?_)
    have HDc := hid (HD.out.on (Below.refl _ _).drew)
    refine wpAnyH_take (i := 1) (oi := ⟨some 78, _, _, _, _, _⟩) (v := ?_) rfl (by kernel_rfl) (by kernel_rfl) (by kernel_rfl) (fun _ _ _ h => h) (Or.inl ⟨by rfl, ?_⟩) (by assumption) ?_
    rotate_left 1
    ·intro wS hSw; (try dsimp only at hSw); go_simp; try with_reducible rfl
    try simp only [Act.put, qxr30a, qxr30b, qxr30c]
    refine wpAnyH_take (i := 2) (oi := ⟨some 79, _, _, _, _, _⟩) (v := ?_) rfl (by kernel_rfl) (by kernel_rfl) (by kernel_rfl) (fun _ _ _ h => h) (Or.inl ⟨by rfl, ?_⟩) (by assumption) ?_
    rotate_left 1
    ·intro wS hSw; (try dsimp only at hSw); obtain ⟨s9, hS9⟩ := hSw; have c15 := hS9.p.p.cs 15 _ rfl; have cl := hS9.p.p.lt; go_simp; try with_reducible rfl
    try simp only [Act.put, qxr30a, qxr30b, qxr30c]
    refine wpAnyH_take (i := 4) (oi := ⟨some 81, _, _, _, _, _⟩) (v := ?_) rfl (by kernel_rfl) (by kernel_rfl) (by kernel_rfl) (fun _ _ _ h => h) (Or.inl ⟨by rfl, ?_⟩) (by assumption) ?_
    rotate_left 1
    ·intro wS hSw; (try dsimp only at hSw); go_simp; try with_reducible rfl
    try simp only [Act.put, qxr30a, qxr30b, qxr30c]
    refine wpAnyH_take (i := 5) (oi := ⟨some 82, _, _, _, _, _⟩) (v := ?_) rfl (by kernel_rfl) (by kernel_rfl) (by kernel_rfl) (fun _ _ _ h => h) (Or.inl ⟨by rfl, ?_⟩) (by assumption) ?_
    rotate_left 1
    ·intro wS hSw; (try dsimp only at hSw); obtain ⟨s9, hS9⟩ := hSw; have c16 := hS9.p.p.cs 16 _ rfl; have cl := hS9.p.p.lt; go_simp; try with_reducible rfl
    try simp only [Act.put, qxr30a, qxr30b, qxr30c]
    refine wpAnyH_take (i := 7) (oi := ⟨some 84, _, _, _, _, _⟩) (v := ?_) rfl (by kernel_rfl) (by kernel_rfl) (by kernel_rfl) (fun _ _ _ h => h) (Or.inl ⟨by rfl, ?_⟩) (by assumption) ?_
    rotate_left 1
    ·intro wS hSw; (try dsimp only at hSw); go_simp; try with_reducible rfl
    try simp only [Act.put, qxr30a, qxr30b, qxr30c]
    refine wpAnyH_take (i := 8) (oi := ⟨some 85, _, _, _, _, _⟩) (v := ?_) rfl (by kernel_rfl) (by kernel_rfl) (by kernel_rfl) (fun _ _ _ h => h) (Or.inl ⟨by rfl, ?_⟩) (by assumption) ?_
    rotate_left 1
    ·intro wS hSw; (try dsimp only at hSw); obtain ⟨s9, hS9⟩ := hSw; have c17 := hS9.p.p.cs 17 _ rfl; have cl := hS9.p.p.lt; go_simp; try with_reducible rfl
    try simp only [Act.put, qxr30a, qxr30b, qxr30c]
    refine wpAnyH_ready (rs := [0]) (by kernel_rfl) (by simp) ?_
    refine AllReadyH.cons (o := ⟨some 77, _, _, _, _, _⟩) rfl (fun K hK => ?_) (AllReadyH.nil)
    have d0 := HDc.out.o.cs 0 _ rfl
    have d1 := HDc.out.o.cs 1 _ rfl
    go_simp
    refine hK.out _ _ (by (try dsimp only); exact hHeld) (fun hHeld2 => ?_)
    clear d0 d1
    clear hK K hHeld
    have hHeld := hHeld2
    clear hHeld2
    try simp only [Act.put, qxr30a, qxr30b, qxr30c]
    refine wpAnyH_ready (rs := [3]) (by kernel_rfl) (by simp) ?_
    refine AllReadyH.cons (o := ⟨some 80, _, _, _, _, _⟩) rfl (fun K hK => ?_) (AllReadyH.nil)
    go_simp
    go_at_call 35
    refine (HT0.out _).mono ?_
    rintro e wx ⟨rfl, hb2⟩
    replace HDc := hid (HDc.out.on hb2)
    refine hK.out _ _ (DbE.on hHeld hb2) (fun hHeld2 => ?_)
    clear hb2
    clear hK K hHeld
    have hHeld := hHeld2
    clear hHeld2
    try simp only [Act.put, qxr30a, qxr30b, qxr30c]
    refine wpAnyH_ready (rs := [6]) (by kernel_rfl) (by simp) ?_
    refine AllReadyH.cons (o := ⟨some 83, _, _, _, _, _⟩) rfl (fun K hK => ?_) (AllReadyH.nil)
    go_simp
    go_at_call 19
    refine (HT1.out _).mono ?_
    rintro e wx ⟨rfl, hb2⟩
    replace HDc := hid (HDc.out.on hb2)
    refine hK.out _ _ (DbE.on hHeld hb2) (fun hHeld2 => ?_)
    clear hb2
    clear hK K hHeld
    have hHeld := hHeld2
    clear hHeld2
    try simp only [Act.put, qxr30a, qxr30b, qxr30c]
    refine wpAnyH_ready (rs := [9]) (by kernel_rfl) (by simp) ?_
    refine AllReadyH.cons (o := ⟨some 86, _, _, _, _, _⟩) rfl (fun K hK => ?_) (AllReadyH.nil)
    go_simp
    go_at_call 34
    refine (HT2.out _).mono ?_
    rintro e wx ⟨rfl, hb2⟩
    replace HDc := hid (HDc.out.on hb2)
    refine hK.out _ _ (DbE.on hHeld hb2) (fun hHeld2 => ?_)
    clear hb2
    clear hK K hHeld
    have hHeld := hHeld2
    clear hHeld2
    try simp only [Act.put, qxr30a, qxr30b, qxr30c]
    refine wpAnyH_ready (rs := [10]) (by kernel_rfl) (by simp) ?_
    refine AllReadyH.cons (o := ⟨none, _, _, _, _, _⟩) rfl (fun K hK => ?_) (AllReadyH.nil)
    have n0 := HDc.out.o.cs 0 _ rfl
    have n1 := HDc.out.o.cs 1 _ rfl
    have nf := HDc.out.o.s
    have nl := HDc.out.o.lt
    unfold Soft at nf
    go_simp
    refine hK.out _ _ (by (try dsimp only); exact ⟨_, HDc.out.put HRA.out HRB.out _⟩) (fun hHeld2 => ?_)
    clear n0 n1 nf nl
    clear hK K hHeld
    have hHeld := hHeld2
    clear hHeld2
    try simp only [Act.put, qxr30a, qxr30b, qxr30c]
    refine wpAnyH_done (by kernel_rfl) ?_ _
    clear hHeld
    have HD6 := hid (HDc.out.put HRA.out HRB.out (ofL y3))
    clear HDc
    generalize (wx.setCell ⟨g, 0, none⟩ (.string (ofL y3))).setCell ⟨g, 1, none⟩ (.int .i64 0) = W6 at *
    have d0 := HD6.out.o.cs 0 _ rfl
    have d1 := HD6.out.o.cs 1 _ rfl
    have dl := HD6.out.o.lt
    go_wp2_with fail
    refine (str_any (ofL y3) 0 _).mono ?_
    rintro e w9 ⟨rfl, b9⟩
    have HB9 := hid (bthen HD6.out.B b9 (Nat.le_refl _))
    clear b9
    go_wp2_with fail
    exact bodyPost_ret (v := .tuple #[.string (ofL y3), .int .i64 0]) (by simp [results, Tryz.results13, go_sem]) rfl ⟨by rw [HVV.out, HEQ.out], HB9.out⟩
   ·have HEV := hid (De.enc_9 hk)
    have hz1 := HZ1.out
    have c0 : wc.cell? ⟨w.heap.size, 0, none⟩ = some (.int .u8 9) := by have q := HD.out.p.p.cs 0 _ rfl; rw [hk] at q; exact q
    have cl := HD.out.p.p.lt
    have HEQ := hid (show x.enc = E1 by rw [HEV.out, HE1.out])
    clear hk hz1
    have d0 := HD.out.o.cs 0 _ rfl
    have d1 := HD.out.o.cs 1 _ rfl
    have dl := HD.out.o.lt
    go_wp2_with fail
    refine (str_any (ofL E1) 0 _).mono ?_
    rintro e w9 ⟨rfl, b9⟩
    have HB9 := hid (bthen HD.out.B b9 (Nat.le_refl _))
    clear b9
    go_wp2_with fail
    exact bodyPost_ret (v := .tuple #[.string (ofL E1), .int .i64 0]) (by simp [results, Tryz.results13, go_sem]) rfl ⟨by rw [HVV.out, HEQ.out], HB9.out⟩
   ·have HEV := hid (De.enc_10 hk)
    have hc : x.mail.code = 0 := by rw [← De.body_10 hk]; exact HC0.out.2.2
    have hl := De.mail_len hc
    have hz1 := HZ1.out
    have c0 : wc.cell? ⟨w.heap.size, 0, none⟩ = some (.int .u8 10) := by have q := HD.out.p.p.cs 0 _ rfl; rw [hk] at q; exact q
    have cl := HD.out.p.p.lt
    obtain ⟨y1, hy1⟩ : ∃ z, E1 ++ Oct.be 1 x.frm = z := ⟨_, rfl⟩
    have z1 : y1.length ≤ 2009 := by rw [← hy1]; simp only [List.length_append, Oct.length_be]; omega
    have HT0 := hid (fun W => ddSmall_any E1 x.frm W HF.out.frm (by omega))
    rw [hy1] at HT0
    obtain ⟨y2, hy2⟩ : ∃ z, y1 ++ Oct.be 8 x.num = z := ⟨_, rfl⟩
    have z2 : y2.length ≤ 4009 := by rw [← hy2]; simp only [List.length_append, Oct.length_be]; omega
    have HT1 := hid (fun W => num_l y1 x.num 8 8 W HF.out.num (by omega) rfl (by omega))
    rw [hy2] at HT1
    obtain ⟨y3, hy3⟩ : ∃ z, y2 ++ x.mail.enc = z := ⟨_, rfl⟩
    have HT2 := hid (fun W (q1 : MaOk W x.mail B d) q2 => ddwMail_any y2 x.mail B d W q1 HF.out.mail hc (by omega) (by omega) q2)
    rw [hy3] at HT2
    have HEQ := hid (show x.enc = y3 by rw [HEV.out, HE1.out]; rw [hy1, hy2, hy3])
    clear hk hz1 hy1 hy2 hy3 hl z1 z2 hc
    simp only [maV] at *
    go_upto_region 22 with fail
    clear c0 cl
    refine wp_region_held_drew (S := DbE w x A c B d g) (by kernel_rfl) (by (try dsimp only); exact ⟨_, HD.out.on (Below.refl _ _).drew⟩) (fun hHeld => ?_)
    have HDc := hid (HD.out.on (Below.refl _ _).drew)
    refine wpAnyH_take (i := 1) (oi := ⟨some 90, _, _, _, _, _⟩) (v := ?_) rfl (by kernel_rfl) (by kernel_rfl) (by kernel_rfl) (fun _ _ _ h => h) (Or.inl ⟨by rfl, ?_⟩) (by assumption) ?_
    rotate_left 1
    ·intro wS hSw; (try dsimp only at hSw); go_simp; try with_reducible rfl
    try simp only [Act.put, qxr30a, qxr30b, qxr30c]
    refine wpAnyH_take (i := 2) (oi := ⟨some 91, _, _, _, _, _⟩) (v := ?_) rfl (by kernel_rfl) (by kernel_rfl) (by kernel_rfl) (fun _ _ _ h => h) (Or.inl ⟨by rfl, ?_⟩) (by assumption) ?_
    rotate_left 1
    ·intro wS hSw; (try dsimp only at hSw); obtain ⟨s9, hS9⟩ := hSw; have c18 := hS9.p.p.cs 18 _ rfl; have cl := hS9.p.p.lt; go_simp; try with_reducible rfl
    try simp only [Act.put, qxr30a, qxr30b, qxr30c]
    refine wpAnyH_take (i := 4) (oi := ⟨some 93, _, _, _, _, _⟩) (v := ?_) rfl (by kernel_rfl) (by kernel_rfl) (by kernel_rfl) (fun _ _ _ h => h) (Or.inl ⟨by rfl, ?_⟩) (by assumption) ?_
    rotate_left 1
    ·intro wS hSw; (try dsimp only at hSw); go_simp; try with_reducible rfl
    try simp only [Act.put, qxr30a, qxr30b, qxr30c]
    refine wpAnyH_take (i := 5) (oi := ⟨some 94, _, _, _, _, _⟩) (v := ?_) rfl (by kernel_rfl) (by kernel_rfl) (by kernel_rfl) (fun _ _ _ h => h) (Or.inl ⟨by rfl, ?_⟩) (by assumption) ?_
    rotate_left 1
    ·intro wS hSw; (try dsimp only at hSw); obtain ⟨s9, hS9⟩ := hSw; have c20 := hS9.p.p.cs 20 _ rfl; have cl := hS9.p.p.lt; go_simp; try with_reducible rfl
    try simp only [Act.put, qxr30a, qxr30b, qxr30c]
    refine wpAnyH_take (i := 7) (oi := ⟨some 96, _, _, _, _, _⟩) (v := ?_) rfl (by kernel_rfl) (by kernel_rfl) (by kernel_rfl) (fun _ _ _ h => h) (Or.inl ⟨by rfl, ?_⟩) (by assumption) ?_
    rotate_left 1
    ·intro wS hSw; (try dsimp only at hSw); go_simp; try with_reducible rfl
    try simp only [Act.put, qxr30a, qxr30b, qxr30c]
    refine wpAnyH_take (i := 8) (oi := ⟨some 97, _, _, _, _, _⟩) (v := ?_) rfl (by kernel_rfl) (by kernel_rfl) (by kernel_rfl) (fun _ _ _ h => h) (Or.inl ⟨by rfl, ?_⟩) (by assumption) ?_
    rotate_left 1
    ·intro wS hSw; (try dsimp only at hSw); obtain ⟨s9, hS9⟩ := hSw; have c21 := hS9.p.p.cs 21 _ rfl; have c22 := hS9.p.p.cs 22 _ rfl; have c23 := hS9.p.p.cs 23 _ rfl; have c24 := hS9.p.p.cs 24 _ rfl; have c25 := hS9.p.p.cs 25 _ rfl; have c26 := hS9.p.p.cs 26 _ rfl; have c27 := hS9.p.p.cs 27 _ rfl; have cl := hS9.p.p.lt; go_simp; try with_reducible rfl
    try simp only [Act.put, qxr30a, qxr30b, qxr30c]
    refine wpAnyH_ready (rs := [0]) (by kernel_rfl) (by simp) ?_
    refine AllReadyH.cons (o := ⟨some 89, _, _, _, _, _⟩) rfl (fun K hK => ?_) (AllReadyH.nil)
    have d0 := HDc.out.o.cs 0 _ rfl
    have d1 := HDc.out.o.cs 1 _ rfl
    go_simp
    refine hK.out _ _ (by (try dsimp only); exact hHeld) (fun hHeld2 => ?_)
    clear d0 d1
    clear hK K hHeld
    have hHeld := hHeld2
    clear hHeld2
    try simp only [Act.put, qxr30a, qxr30b, qxr30c]
    refine wpAnyH_ready (rs := [3]) (by kernel_rfl) (by simp) ?_
    refine AllReadyH.cons (o := ⟨some 92, _, _, _, _, _⟩) rfl (fun K hK => ?_) (AllReadyH.nil)
    go_simp
    go_at_call 34
    refine (HT0.out _).mono ?_
    rintro e wx ⟨rfl, hb2⟩
    replace HDc := hid (HDc.out.on hb2)
    refine hK.out _ _ (DbE.on hHeld hb2) (fun hHeld2 => ?_)
    clear hb2
    clear hK K hHeld
    have hHeld := hHeld2
    clear hHeld2
    try simp only [Act.put, qxr30a, qxr30b, qxr30c]
    refine wpAnyH_ready (rs := [6]) (by kernel_rfl) (by simp) ?_
    refine AllReadyH.cons (o := ⟨some 95, _, _, _, _, _⟩) rfl (fun K hK => ?_) (AllReadyH.nil)
    go_simp
    go_at_call 19
    refine (HT1.out _).mono ?_
    rintro e wx ⟨rfl, hb2⟩
    replace HDc := hid (HDc.out.on hb2)
    refine hK.out _ _ (DbE.on hHeld hb2) (fun hHeld2 => ?_)
    clear hb2
    clear hK K hHeld
    have hHeld := hHeld2
    clear hHeld2
    try simp only [Act.put, qxr30a, qxr30b, qxr30c]
    refine wpAnyH_ready (rs := [9]) (by kernel_rfl) (by simp) ?_
    refine AllReadyH.cons (o := ⟨some 98, _, _, _, _, _⟩) rfl (fun K hK => ?_) (AllReadyH.nil)
    go_simp
    go_at_call 37
    refine (HT2.out _ (HOK.out.mail.on HDc.out.B) (HL0.out.on HDc.out.B)).mono ?_
    rintro e wx ⟨rfl, hb2⟩
    replace HDc := hid (HDc.out.on hb2)
    refine hK.out _ _ (DbE.on hHeld hb2) (fun hHeld2 => ?_)
    clear hb2
    clear hK K hHeld
    have hHeld := hHeld2
    clear hHeld2
    try simp only [Act.put, qxr30a, qxr30b, qxr30c]
    refine wpAnyH_ready (rs := [10]) (by kernel_rfl) (by simp) ?_
    refine AllReadyH.cons (o := ⟨none, _, _, _, _, _⟩) rfl (fun K hK => ?_) (AllReadyH.nil)
    have n0 := HDc.out.o.cs 0 _ rfl
    have n1 := HDc.out.o.cs 1 _ rfl
    have nf := HDc.out.o.s
    have nl := HDc.out.o.lt
    unfold Soft at nf
    go_simp
    refine hK.out _ _ (by (try dsimp only); exact ⟨_, HDc.out.put HRA.out HRB.out _⟩) (fun hHeld2 => ?_)
    clear n0 n1 nf nl
    clear hK K hHeld
    have hHeld := hHeld2
    clear hHeld2
    try simp only [Act.put, qxr30a, qxr30b, qxr30c]
    refine wpAnyH_done (by kernel_rfl) ?_ _
    clear hHeld
    have HD6 := hid (HDc.out.put HRA.out HRB.out (ofL y3))
    clear HDc
    generalize (wx.setCell ⟨g, 0, none⟩ (.string (ofL y3))).setCell ⟨g, 1, none⟩ (.int .i64 0) = W6 at *
    have d0 := HD6.out.o.cs 0 _ rfl
    have d1 := HD6.out.o.cs 1 _ rfl
    have dl := HD6.out.o.lt
    go_wp2_with fail
    refine (str_any (ofL y3) 0 _).mono ?_
    rintro e w9 ⟨rfl, b9⟩
    have HB9 := hid (bthen HD6.out.B b9 (Nat.le_refl _))
    clear b9
    go_wp2_with fail
    exact bodyPost_ret (v := .tuple #[.string (ofL y3), .int .i64 0]) (by simp [results, Tryz.results13, go_sem]) rfl ⟨by rw [HVV.out, HEQ.out], HB9.out⟩
   ·have HEV := hid (De.enc_11 hk)
    have hz1 := HZ1.out
    have c0 : wc.cell? ⟨w.heap.size, 0, none⟩ = some (.int .u8 11) := by have q := HD.out.p.p.cs 0 _ rfl; rw [hk] at q; exact q
    have cl := HD.out.p.p.lt
    have HEQ := hid (show x.enc = E1 by rw [HEV.out, HE1.out])
    clear hk hz1
    have d0 := HD.out.o.cs 0 _ rfl
    have d1 := HD.out.o.cs 1 _ rfl
    have dl := HD.out.o.lt
    go_wp2_with fail
    refine (str_any (ofL E1) 0 _).mono ?_
    rintro e w9 ⟨rfl, b9⟩
    have HB9 := hid (bthen HD.out.B b9 (Nat.le_refl _))
    clear b9
    go_wp2_with fail
    exact bodyPost_ret (v := .tuple #[.string (ofL E1), .int .i64 0]) (by simp [results, Tryz.results13, go_sem]) rfl ⟨by rw [HVV.out, HEQ.out], HB9.out⟩
   ·have HEV := hid (De.enc_12 hk)
    have hl : x.text.length ≤ 64 := by have g := HC0.out.2.2; rw [De.body_12 hk] at g; by_cases e : 64 < x.text.length; (rw [if_pos e] at g; omega); omega
    have hz1 := HZ1.out
    have c0 : wc.cell? ⟨w.heap.size, 0, none⟩ = some (.int .u8 12) := by have q := HD.out.p.p.cs 0 _ rfl; rw [hk] at q; exact q
    have cl := HD.out.p.p.lt
    obtain ⟨y1, hy1⟩ : ∃ z, E1 ++ Oct.be 1 x.cd = z := ⟨_, rfl⟩
    have z1 : y1.length ≤ 2009 := by rw [← hy1]; simp only [List.length_append, Oct.length_be]; omega
    have HT0 := hid (fun W => ddSmall_any E1 x.cd W HF.out.cd (by omega))
    rw [hy1] at HT0
    obtain ⟨y2, hy2⟩ : ∃ z, y1 ++ (Oct.be 2 x.text.length ++ x.text) = z := ⟨_, rfl⟩
    have HT1 := hid (fun W => text_l y1 x.text W (by omega) (by omega))
    rw [hy2] at HT1
    have HEQ := hid (show x.enc = y2 by rw [HEV.out, HE1.out]; unfold De.tx; rw [hy1, hy2])
    clear hk hz1 hy1 hy2 hl z1
    skip
    go_upto_region 24 with fail
    clear c0 cl
    refine wp_region_held_drew (S := DbE w x A c B d g) (by kernel_rfl) (by (try dsimp only); exact ⟨_, HD.out.on (Below.refl _ _).drew⟩) (fun hHeld => ?_)
    have HDc := hid (HD.out.on (Below.refl _ _).drew)
    refine wpAnyH_take (i := 1) (oi := ⟨some 102, _, _, _, _, _⟩) (v := ?_) rfl (by kernel_rfl) (by kernel_rfl) (by kernel_rfl) (fun _ _ _ h => h) (Or.inl ⟨by rfl, ?_⟩) (by assumption) ?_
    rotate_left 1
    ·intro wS hSw; (try dsimp only at hSw); go_simp; try with_reducible rfl
    try simp only [Act.put, qxr30a, qxr30b, qxr30c]
    refine wpAnyH_take (i := 2) (oi := ⟨some 103, _, _, _, _, _⟩) (v := ?_) rfl (by kernel_rfl) (by kernel_rfl) (by kernel_rfl) (fun _ _ _ h => h) (Or.inl ⟨by rfl, ?_⟩) (by assumption) ?_
    rotate_left 1
    ·intro wS hSw; (try dsimp only at hSw); obtain ⟨s9, hS9⟩ := hSw; have c19 := hS9.p.p.cs 19 _ rfl; have cl := hS9.p.p.lt; go_simp; try with_reducible rfl
    try simp only [Act.put, qxr30a, qxr30b, qxr30c]
    refine wpAnyH_take (i := 4) (oi := ⟨some 105, _, _, _, _, _⟩) (v := ?_) rfl (by kernel_rfl) (by kernel_rfl) (by kernel_rfl) (fun _ _ _ h => h) (Or.inl ⟨by rfl, ?_⟩) (by assumption) ?_
    rotate_left 1
    ·intro wS hSw; (try dsimp only at hSw); go_simp; try with_reducible rfl
    try simp only [Act.put, qxr30a, qxr30b, qxr30c]
    refine wpAnyH_take (i := 5) (oi := ⟨some 106, _, _, _, _, _⟩) (v := ?_) rfl (by kernel_rfl) (by kernel_rfl) (by kernel_rfl) (fun _ _ _ h => h) (Or.inl ⟨by rfl, ?_⟩) (by assumption) ?_
    rotate_left 1
    ·intro wS hSw; (try dsimp only at hSw); obtain ⟨s9, hS9⟩ := hSw; have c28 := hS9.p.p.cs 28 _ rfl; have cl := hS9.p.p.lt; go_simp; try with_reducible rfl
    try simp only [Act.put, qxr30a, qxr30b, qxr30c]
    refine wpAnyH_ready (rs := [0]) (by kernel_rfl) (by simp) ?_
    refine AllReadyH.cons (o := ⟨some 101, _, _, _, _, _⟩) rfl (fun K hK => ?_) (AllReadyH.nil)
    have d0 := HDc.out.o.cs 0 _ rfl
    have d1 := HDc.out.o.cs 1 _ rfl
    go_simp
    refine hK.out _ _ (by (try dsimp only); exact hHeld) (fun hHeld2 => ?_)
    clear d0 d1
    clear hK K hHeld
    have hHeld := hHeld2
    clear hHeld2
    try simp only [Act.put, qxr30a, qxr30b, qxr30c]
    refine wpAnyH_ready (rs := [3]) (by kernel_rfl) (by simp) ?_
    refine AllReadyH.cons (o := ⟨some 104, _, _, _, _, _⟩) rfl (fun K hK => ?_) (AllReadyH.nil)
    go_simp
    go_at_call 34
    refine (HT0.out _).mono ?_
    rintro e wx ⟨rfl, hb2⟩
    replace HDc := hid (HDc.out.on hb2)
    refine hK.out _ _ (DbE.on hHeld hb2) (fun hHeld2 => ?_)
    clear hb2
    clear hK K hHeld
    have hHeld := hHeld2
    clear hHeld2
    try simp only [Act.put, qxr30a, qxr30b, qxr30c]
    refine wpAnyH_ready (rs := [6]) (by kernel_rfl) (by simp) ?_
    refine AllReadyH.cons (o := ⟨some 107, _, _, _, _, _⟩) rfl (fun K hK => ?_) (AllReadyH.nil)
    go_simp
    go_at_call 35
    refine (HT1.out _).mono ?_
    rintro e wx ⟨rfl, hb2⟩
    replace HDc := hid (HDc.out.on hb2)
    refine hK.out _ _ (DbE.on hHeld hb2) (fun hHeld2 => ?_)
    clear hb2
    clear hK K hHeld
    have hHeld := hHeld2
    clear hHeld2
    try simp only [Act.put, qxr30a, qxr30b, qxr30c]
    refine wpAnyH_ready (rs := [7]) (by kernel_rfl) (by simp) ?_
    refine AllReadyH.cons (o := ⟨none, _, _, _, _, _⟩) rfl (fun K hK => ?_) (AllReadyH.nil)
    have n0 := HDc.out.o.cs 0 _ rfl
    have n1 := HDc.out.o.cs 1 _ rfl
    have nf := HDc.out.o.s
    have nl := HDc.out.o.lt
    unfold Soft at nf
    go_simp
    refine hK.out _ _ (by (try dsimp only); exact ⟨_, HDc.out.put HRA.out HRB.out _⟩) (fun hHeld2 => ?_)
    clear n0 n1 nf nl
    clear hK K hHeld
    have hHeld := hHeld2
    clear hHeld2
    try simp only [Act.put, qxr30a, qxr30b, qxr30c]
    refine wpAnyH_done (by kernel_rfl) ?_ _
    clear hHeld
    have HD6 := hid (HDc.out.put HRA.out HRB.out (ofL y2))
    clear HDc
    generalize (wx.setCell ⟨g, 0, none⟩ (.string (ofL y2))).setCell ⟨g, 1, none⟩ (.int .i64 0) = W6 at *
    have d0 := HD6.out.o.cs 0 _ rfl
    have d1 := HD6.out.o.cs 1 _ rfl
    have dl := HD6.out.o.lt
    go_wp2_with fail
    refine (str_any (ofL y2) 0 _).mono ?_
    rintro e w9 ⟨rfl, b9⟩
    have HB9 := hid (bthen HD6.out.B b9 (Nat.le_refl _))
    clear b9
    go_wp2_with fail
    exact bodyPost_ret (v := .tuple #[.string (ofL y2), .int .i64 0]) (by simp [results, Tryz.results13, go_sem]) rfl ⟨by rw [HVV.out, HEQ.out], HB9.out⟩
 ·have HVV := hid (show V = .tuple #[.string ⟨#[]⟩, .int .i64 (x.code : Int)] by rw [HV.out, if_neg h0])
  have hz : ((x.code : Int) != 0) = true := by rw [bne_iff_ne]; omega
  go_wp2_with (refine wpList_load_mid (by rfl) 52 _ (by rfl) w.heap.size 0 (by rfl) (deL x A c B d) _ HX1.out.p.cs.range Tryz.underlying52 rfl (by rw [de_size, deL_len]) ?_)
  refine (HCK.out _ (HOK.out.on HB1.out) (HL0.out.on HB1.out)).mono ?_
  rintro e w2 ⟨rfl, b2⟩
  have HB2 := hid (bthen HB1.out b2 (Nat.le_refl _))
  clear b2
  go_wp2_with fail
  exact bodyPost_ret (v := .tuple #[.string ⟨#[]⟩, .int .i64 (x.code : Int)]) (by simp [results, Tryz.results13, go_sem]) rfl ⟨by rw [HVV.out], HB2.out⟩
end Go.Proofs.YtaikigponkjkgaaGreatDoor
end
