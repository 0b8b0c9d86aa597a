/-
 A part of the proof.
-/
import Derived.Test.YtaikigponkjkgaaGreatDoorXr41
import Derived.Test.YtaikigponkjkgaaGreatDoorXr44
import Derived.Deep.RegionHeld3
import Derived.Deep.DeepCutAuto
section
namespace Go.Proofs.YtaikigponkjkgaaGreatDoor
open Go.ChangeShapes Go.WideShapes Go.ChangeAt Go.RowKit
open Go.Lib (hid)
theorem qxr45a (l : List Value) (i : Nat) (v : Value) : l.toArray.setIfInBounds i v = (l.set i v).toArray := by simp
theorem qxr45b (v u : Value) (l : List Value) : (v :: l).set 0 u = u :: l := rfl
theorem qxr45c (v u : Value) (n : Nat) (l : List Value) : (v :: l).set (n + 1) u = v :: l.set n u := rfl
def dsSame (l m : List Dp) : Bool := decide (l.map Dp.x = m.map Dp.x)
theorem dsSame_len {l m : List Dp} (h : l.length ≠ m.length) : dsSame l m = false := by
 unfold dsSame
 refine decide_eq_false fun e => h ?_
 have := congrArg List.length e
 simpa using this
theorem dsSame_no {l m : List Dp} {k : Nat} (hk : k < l.length) (hk2 : k < m.length) (h : (l.getD k Dp0).x ≠ (m.getD k Dp0).x) : dsSame l m = false := by
 unfold dsSame
 refine decide_eq_false fun e => h ?_
 have := congrArg (fun r => r[k]?) e
 simp only [List.getElem?_map, List.getElem?_eq_getElem hk, List.getElem?_eq_getElem hk2, Option.map_some] at this
 rw [← dp_get hk, ← dp_get hk2]
 exact Option.some.inj this
theorem dsSame_yes {l m : List Dp} (hn : l.length = m.length) (h : ∀ j, j < l.length → (l.getD j Dp0).x = (m.getD j Dp0).x) : dsSame l m = true := by
 unfold dsSame
 refine decide_eq_true (List.ext_getElem (by simpa using hn) fun j h1 h2 => ?_)
 rw [List.getElem_map, List.getElem_map]
 have hj : j < l.length := by simpa using h1
 have hj2 : j < m.length := by omega
 have := h j hj
 rw [← dp_get hj, ← dp_get hj2] at this
 exact this
set_option maxRecDepth 100000 in
set_option maxHeartbeats 16000000 in
theorem r22SameAll_any (l m : List Dp) (A : Option Addr) (c : Nat) (B : Option Addr) (d : Nat) (w : World) (hl : l.length ≤ 100000) (hm : m.length ≤ 100000) (hp : Dps w A l) (hq : Dps w B m) :
  Calls Tryz.prog 11 #[.slice A l.length c, .slice B m.length d] w fun e w' => e = .returned (.bool (dsSame l m)) ∧ Below w.heap.size w w' := by
 have HP := hid hp
 have HQ := hid hq
 have HLE := hid (fun h => dsSame_len (l := l) (m := m) h)
 have HNO := hid (fun k (h1 : k < l.length) (h2 : k < m.length) h => dsSame_no h1 h2 h)
 have HYES := hid (fun h1 h2 => dsSame_yes (l := l) (m := m) h1 h2)
 clear hp hq
 generalize dsSame l m = M at *
 obtain ⟨n, hn⟩ : ∃ n, n = l.length := ⟨_, rfl⟩
 rw [← hn] at hl
 rw [← hn]
 obtain ⟨n2, hn2⟩ : ∃ n, n = m.length := ⟨_, rfl⟩
 rw [← hn2] at hm
 rw [← hn2]
 have HN := hid hn
 have HN2 := hid hn2
 clear hn hn2
 by_cases he : n = n2
 ·subst he
  have hne : ((n : Int) != (n : Int)) = false := by simp
  go_enter Tryz.func11, Tryz.ntmps11
  go_wp2_with fail
  go_loopg [13] n (fun g i wr => ∃ k : Nat, k + g = n ∧ i = .int .i64 (k : Int) ∧ (∀ j, j < k → (l.getD j Dp0).x = (m.getD j Dp0).x) ∧ Below w.heap.size w wr)
  case atStart => exact ⟨0, by omega, rfl, fun j hj => absurd hj (by omega), Below.refl _ _⟩
  case round =>
   obtain ⟨k, hk, rfl, hno, hB⟩ := hrel
   have HB := hid hB
   have HSO := hid hno
   have HK := hid hk
   clear hB hno hk
   by_cases hlt : k < n
   ·have hki : (k : Int) < (n : Int) := by omega
    have hkl : k < l.length := by have := HN.out; omega
    have hkm : k < m.length := by have := HN2.out; omega
    obtain ⟨b1, o1, rfl, hb1, hat1, hok1⟩ := dps_elt (HP.out.on HB.out) hkl
    obtain ⟨b2, o2, rfl, hb2l, hat2, hok2⟩ := dps_elt (HQ.out.on HB.out) hkm
    have HNX : Hid ((l.getD k Dp0).x ≠ (m.getD k Dp0).x → M = false) := fun h => HNO.out k hkl hkm h
    have HSX : Hid ((l.getD k Dp0).x = (m.getD k Dp0).x → ∀ j, j < k + 1 → (l.getD j Dp0).x = (m.getD j Dp0).x) := fun h j hj => by
     by_cases e : j = k
     ·rw [e]; exact h
     ·exact HSO.out j (by omega)
    generalize hp1 : l.getD k Dp0 = p at hat1 hok1 HNX HSX
    generalize hp2 : m.getD k Dp0 = q at hat2 hok2 HNX HSX
    clear hp1 hp2
    obtain ⟨x, xA, xc, xB, xd⟩ := p
    obtain ⟨y, yA, yc, yB, yd⟩ := q
    have HX := hid (show wr.rangeAt b1 (o1 + k * 29) (deL x xA xc xB xd) from hat1)
    have HY := hid (show wr.rangeAt b2 (o2 + k * 29) (deL y yA yc yB yd) from hat2)
    have HXO := hid (show DeOk wr x xA xc xB xd from hok1)
    have HYO := hid (show DeOk wr y yA yc yB yd from hok2)
    have HSM := hid (fun W (g1 : DeOk W x xA xc xB xd) (g2 : DeOk W y yA yc yB yd) => r22Same_any x y xA xc xB xd yA yc yB yd W g1.bind.len g2.bind.len g1.mail.len g2.mail.len g1.bind.row g1.mail.row g2.bind.row g2.mail.row)
    clear hat1 hat2 hok1 hok2
    dsimp only at HNX HSX
    go_upto_region 6 with fail
    refine wp_region_held_drew (S := fun a => Below (wr.heap.size) wr a) (by kernel_rfl) (by (try dsimp only); exact (Below.refl _ _).drew) (fun hHeld => ?_)
    refine wpAnyH_take (i := 0) (oi := ⟨some 16, _, _, _, _, _⟩) (v := ?_) rfl (by kernel_rfl) (by kernel_rfl) (by kernel_rfl) (fun _ _ _ h => h) (Or.inl ⟨by rfl, ?_⟩) (by assumption) ?_
    rotate_left 1
    ·intro wS hSw; (try dsimp only at hSw); go_simp; try with_reducible rfl
    try simp only [Act.put, qxr45a, qxr45b, qxr45c]
    refine wpAnyH_take (i := 1) (oi := ⟨some 17, _, _, _, _, _⟩) (v := ?_) rfl (by kernel_rfl) (by kernel_rfl) (by kernel_rfl) (fun _ _ _ h => h) (Or.inl ⟨by rfl, ?_⟩) (by assumption) ?_
    rotate_left 1
    ·intro wS hSw; (try dsimp only at hSw); go_simp; try with_reducible rfl
    try simp only [Act.put, qxr45a, qxr45b, qxr45c]
    refine wpAnyH_take (i := 2) (oi := ⟨some 18, _, _, _, _, _⟩) (v := ?_) rfl (by kernel_rfl) (by kernel_rfl) (by kernel_rfl) (fun _ _ _ h => h) (Or.inl ⟨by rfl, ?_⟩) (by assumption) ?_
    rotate_left 1
    ·intro wS hSw; (try dsimp only at hSw); go_simp; try with_reducible rfl
    try simp only [Act.put, qxr45a, qxr45b, qxr45c]
    refine wpAnyH_take (i := 3) (oi := ⟨some 19, _, _, _, _, _⟩) (v := .agg (deL x xA xc xB xd).toArray) rfl (by kernel_rfl) (by kernel_rfl) (by kernel_rfl) (fun _ _ _ h => h) (yieldsIf_load_mid (by rfl) 59 _ (by rfl) b1 (o1 + k * 29) (by rfl) (deL x xA xc xB xd) _ (fun W9 h9 j v hj => (h9.cell (p := ⟨b1, o1 + k * 29 + j, none⟩) hb1).trans (HX.out j v hj)) Tryz.underlying59 rfl (by rw [rde_size, deL_len])) (by assumption) ?_
    try simp only [Act.put, qxr45a, qxr45b, qxr45c]
    refine wpAnyH_take (i := 4) (oi := ⟨some 20, _, _, _, _, _⟩) (v := ?_) rfl (by kernel_rfl) (by kernel_rfl) (by kernel_rfl) (fun _ _ _ h => h) (Or.inl ⟨by rfl, ?_⟩) (by assumption) ?_
    rotate_left 1
    ·intro wS hSw; (try dsimp only at hSw); go_simp; try with_reducible rfl
    try simp only [Act.put, qxr45a, qxr45b, qxr45c]
    refine wpAnyH_take (i := 5) (oi := ⟨some 21, _, _, _, _, _⟩) (v := ?_) rfl (by kernel_rfl) (by kernel_rfl) (by kernel_rfl) (fun _ _ _ h => h) (Or.inl ⟨by rfl, ?_⟩) (by assumption) ?_
    rotate_left 1
    ·intro wS hSw; (try dsimp only at hSw); go_simp; try with_reducible rfl
    try simp only [Act.put, qxr45a, qxr45b, qxr45c]
    refine wpAnyH_take (i := 6) (oi := ⟨some 22, _, _, _, _, _⟩) (v := ?_) rfl (by kernel_rfl) (by kernel_rfl) (by kernel_rfl) (fun _ _ _ h => h) (Or.inl ⟨by rfl, ?_⟩) (by assumption) ?_
    rotate_left 1
    ·intro wS hSw; (try dsimp only at hSw); go_simp; try with_reducible rfl
    try simp only [Act.put, qxr45a, qxr45b, qxr45c]
    refine wpAnyH_take (i := 7) (oi := ⟨some 23, _, _, _, _, _⟩) (v := .agg (deL y yA yc yB yd).toArray) rfl (by kernel_rfl) (by kernel_rfl) (by kernel_rfl) (fun _ _ _ h => h) (yieldsIf_load_mid (by rfl) 59 _ (by rfl) b2 (o2 + k * 29) (by rfl) (deL y yA yc yB yd) _ (fun W9 h9 j v hj => (h9.cell (p := ⟨b2, o2 + k * 29 + j, none⟩) hb2l).trans (HY.out j v hj)) Tryz.underlying59 rfl (by rw [rde_size, deL_len])) (by assumption) ?_
    try simp only [Act.put, qxr45a, qxr45b, qxr45c]
    refine wpAnyH_ready (rs := [8]) (by kernel_rfl) (by simp) ?_
    refine AllReadyH.cons (o := ⟨some 24, _, _, _, _, _⟩) rfl (fun K hK => ?_) (AllReadyH.nil)
    go_simp
    go_at_call 29
    refine (HSM.out _ (HXO.out.on hHeld) (HYO.out.on hHeld)).mono ?_
    rintro e wx ⟨rfl, hb2⟩
    refine hK.out _ _ (bthen hHeld hb2 (Nat.le_refl _)) (fun hHeld2 => ?_)
    clear hK K hHeld hb2
    have hHeld := hHeld2
    clear hHeld2
    try simp only [Act.put, qxr45a, qxr45b, qxr45c]
    refine wpAnyH_take (i := 9) (oi := ⟨some 25, _, _, _, _, _⟩) (v := ?_) rfl (by kernel_rfl) (by kernel_rfl) (by kernel_rfl) (fun _ _ _ h => h) (Or.inl ⟨by rfl, ?_⟩) (by assumption) ?_
    rotate_left 1
    ·intro wS hSw; (try dsimp only at hSw); go_simp; try with_reducible rfl
    try simp only [Act.put, qxr45a, qxr45b, qxr45c]
    refine wpAnyH_done (by kernel_rfl) ?_ _
    have hZ := hHeld
    clear hHeld
    have HB6 := hid (bthen HB.out hZ (Nat.le_refl _))
    clear hZ
    by_cases hxy : x = y
    ·have HS2 := hid (HSX.out hxy)
     rw [decide_eq_true hxy]
     clear hxy
     go_wp2_with fail
     go_roundg (gk - 1)
     case rel => exact ⟨k + 1, by have := HK.out; omega, by go_num, HS2.out, HB6.out⟩
     case measure => have := HK.out; omega
    ·have HM := hid (HNX.out hxy)
     rw [decide_eq_false hxy]
     clear hxy
     go_wp2_with fail
     go_ret
     exact ⟨ret_bool HM.out.symm, HB6.out⟩
   ·have hkn : k = n := by have := HK.out; omega
    have HM := hid (HYES.out (by have := HN.out; have := HN2.out; omega) (fun j hj => HSO.out j (by have := HN.out; omega)))
    subst hkn
    go_wp2_with fail
    go_ret
    exact ⟨ret_bool HM.out.symm, HB.out⟩
 ·have hne : ((n : Int) != (n2 : Int)) = true := by simp; omega
  have HM := hid (HLE.out (by have := HN.out; have := HN2.out; omega))
  go_enter Tryz.func11, Tryz.ntmps11
  go_wp2_with fail
  go_ret
  exact ⟨ret_bool HM.out.symm, Below.refl _ _⟩
set_option maxRecDepth 100000 in
theorem r22maybe_any (s : List UInt8) (w : World) (hs : s.length ≤ 90000) : Calls Tryz.prog 48 #[.string (ofL s)] w fun e w' => e = .returned (.int .i64 (De.maybe s : Int)) ∧ w = w' := by
 have HN := hid (fun W => rname_any s W (by omega))
 have HC : Hid (De.maybe s = if s = [] then 0 else Wrd.nameCode s) := rfl
 generalize De.maybe s = C at *
 generalize Wrd.nameCode s = K at *
 by_cases h : s = []
 ·have he := emp_yes h
  have HE := hid (show C = 0 by rw [HC.out, if_pos h])
  clear h
  go_enter Tryz.func48, Tryz.ntmps48
  go_wp2_with fail
  go_ret
  exact ⟨ret_nat (by rw [HE.out]; rfl), rfl⟩
 ·have he := emp_no h
  have HE := hid (show C = K by rw [HC.out, if_neg h])
  clear h
  go_enter Tryz.func48, Tryz.ntmps48
  go_wp2_with fail
  refine (HN.out _).mono ?_
  rintro e w1 ⟨rfl, rfl⟩
  go_wp2_with fail
  go_ret
  exact ⟨ret_nat (by rw [HE.out]), rfl⟩
theorem r22names_any (k : Nat) (w : World) : Calls Tryz.prog 51 #[.int .u8 (k : Int)] w fun e w' => e = .returned (.bool (De.names k)) ∧ w = w' := by
 have HC : Hid (De.names k = (k == 1 || k == 3 || k == 7 || k == 8)) := rfl
 have q1 : ((k : Int) == 1) = (k == 1) := cast_beq k 1
 have q3 : ((k : Int) == 3) = (k == 3) := cast_beq k 3
 have q7 : ((k : Int) == 7) = (k == 7) := cast_beq k 7
 have q8 : ((k : Int) == 8) = (k == 8) := cast_beq k 8
 cases h1 : k == 1 with
 | true =>
  rw [h1] at q1
  have HE := hid (show De.names k = true by rw [HC.out, h1]; simp)
  clear h1
  go_enter Tryz.func51, Tryz.ntmps51
  go_wp2_with fail
  go_ret
  exact ⟨ret_bool HE.out.symm, rfl⟩
 | false =>
  rw [h1] at q1
  cases h3 : k == 3 with
  | true =>
   rw [h3] at q3
   have HE := hid (show De.names k = true by rw [HC.out, h3]; simp)
   clear h1 h3
   go_enter Tryz.func51, Tryz.ntmps51
   go_wp2_with fail
   go_ret
   exact ⟨ret_bool HE.out.symm, rfl⟩
  | false =>
   rw [h3] at q3
   cases h7 : k == 7 with
   | true =>
    rw [h7] at q7
    have HE := hid (show De.names k = true by rw [HC.out, h7]; simp)
    clear h1 h3 h7
    go_enter Tryz.func51, Tryz.ntmps51
    go_wp2_with fail
    go_ret
    exact ⟨ret_bool HE.out.symm, rfl⟩
   | false =>
    rw [h7] at q7
    have HE := hid (show De.names k = (k == 8) by rw [HC.out, h1, h3, h7]; simp)
    clear h1 h3 h7
    generalize (k == 8) = B8 at *
    go_enter Tryz.func51, Tryz.ntmps51
    go_wp2_with fail
    go_ret
    exact ⟨ret_bool HE.out.symm, rfl⟩
set_option maxRecDepth 100000 in
set_option maxHeartbeats 4000000 in
theorem r22checkBind_any (x : Bd) (A : Option Addr) (c : Nat) (w : World) (h : BdOk w x A c) :
  Calls Tryz.prog 49 #[bdV x A c] w fun e w' => e = .returned (.int .i64 (De.bdc x : Int)) ∧ Below w.heap.size w w' := by
 have HB1 := hid (rtOne w (.cells #[.string (ofL x.shop), .string (ofL x.to), .bool x.up, .string (ofL x.key), .slice A x.want.length c, .bool x.all] 57))
 have HX1 := hid (rtAt0 w #[.string (ofL x.shop), .string (ofL x.to), .bool x.up, .string (ofL x.key), .slice A x.want.length c, .bool x.all] 57)
 have HN1 := hid (fun W => rname_any x.shop W (by have := h.shop; omega))
 have HN2 := hid (fun W => rname_any x.to W (by have := h.tol; omega))
 have HH := hid (fun W (g : Prs W A x.want) => rCheck9_any x.want A c W h.len h.cap h.lite g)
 have HROW := hid (h.row.on HB1.out)
 have HC : Hid (De.bdc x = if Wrd.nameCode x.shop ≠ 0 then Wrd.nameCode x.shop else if Wrd.nameCode x.to ≠ 0 then Wrd.nameCode x.to else if 64 < x.key.length then 5 else Hd.hcode x.want) := rfl
 have hz : (ofL x.key).size = x.key.length := ofL_size _
 clear h
 generalize De.bdc x = C at *
 generalize Wrd.nameCode x.shop = K1 at *
 generalize Wrd.nameCode x.to = K2 at *
 generalize Hd.hcode x.want = K4 at *
 simp only [bdV]
 go_enter Tryz.func49, Tryz.ntmps49
 go_upto_region 1 with fail
 generalize w.alloc (.cells #[.string (ofL x.shop), .string (ofL x.to), .bool x.up, .string (ofL x.key), .slice A x.want.length c, .bool x.all] 57) = W1 at *
 have c0 := HX1.out.cs 0 _ rfl
 have c1 := HX1.out.cs 1 _ rfl
 have c2 := HX1.out.cs 2 _ rfl
 have c3 := HX1.out.cs 3 _ rfl
 have c4 := HX1.out.cs 4 _ rfl
 have c5 := HX1.out.cs 5 _ rfl
 have cl := HX1.out.lt
 by_cases e1 : K1 = 0
 ·have f1 : ((K1 : Int) == 0) = true := by rw [e1]; rfl
  by_cases e2 : K2 = 0
  ·have f2 : ((K2 : Int) == 0) = true := by rw [e2]; rfl
   by_cases e5 : 64 < x.key.length
   ·have HE := hid (show C = 5 by rw [HC.out, if_neg (by omega), if_neg (by omega), if_pos e5])
    have h5 : 64 < (ofL x.key).size := by omega
    have h6 : decide (((ofL x.key).size : Int) > 64) = true := decide_eq_true (by omega)
    clear e1 e2 e5 hz
    go_wp2_with fail
    refine (HN1.out _).mono ?_
    rintro e w1 ⟨rfl, rfl⟩
    go_wp2_with fail
    refine (HN2.out _).mono ?_
    rintro e w2 ⟨rfl, rfl⟩
    go_wp2_with fail
    go_ret
    exact ⟨ret_nat (by rw [HE.out]; rfl), HB1.out⟩
   ·have HE := hid (show C = K4 by rw [HC.out, if_neg (by omega), if_neg (by omega), if_neg e5])
    have h5 : ¬ 64 < (ofL x.key).size := by omega
    have h6 : decide (((ofL x.key).size : Int) > 64) = false := decide_eq_false (by omega)
    clear e1 e2 e5 hz
    go_wp2_with fail
    refine (HN1.out _).mono ?_
    rintro e w1 ⟨rfl, rfl⟩
    go_wp2_with fail
    refine (HN2.out _).mono ?_
    rintro e w2 ⟨rfl, rfl⟩
    go_wp2_with fail
    refine (HH.out _ HROW.out).mono ?_
    rintro e w3 ⟨rfl, b3⟩
    have HB3 := hid (bthen HB1.out b3 (Nat.le_refl _))
    clear b3
    go_wp2_with fail
    go_ret
    exact ⟨ret_nat (by rw [HE.out]), HB3.out⟩
  ·have f2 : ((K2 : Int) == 0) = false := beq_eq_false_iff_ne.2 (by omega)
   have HE := hid (show C = K2 by rw [HC.out, if_neg (by omega), if_pos e2])
   clear e1 hz
   go_wp2_with fail
   refine (HN1.out _).mono ?_
   rintro e w1 ⟨rfl, rfl⟩
   go_wp2_with fail
   refine (HN2.out _).mono ?_
   rintro e w2 ⟨rfl, rfl⟩
   go_wp2_with fail
   go_ret
   exact ⟨ret_nat (by rw [HE.out]), HB1.out⟩
 ·have f1 : ((K1 : Int) == 0) = false := beq_eq_false_iff_ne.2 (by omega)
  have HE := hid (show C = K1 by rw [HC.out, if_pos e1])
  clear hz
  go_wp2_with fail
  refine (HN1.out _).mono ?_
  rintro e w1 ⟨rfl, rfl⟩
  go_wp2_with fail
  go_ret
  exact ⟨ret_nat (by rw [HE.out]), HB1.out⟩
theorem rde_res (x : De) (A : Option Addr) (c : Nat) (B : Option Addr) (d : Nat) (W : World) (g : Nat) (h : Cels W g (deL x A c B d)) : (loadVar 59 ⟨g, 0, none⟩).run Tryz.prog W = .ok (deV x A c B d) W :=
 run_loadVar_mid W g 0 59 (deL x A c B d) _ h.range Tryz.underlying59 rfl (by rw [rde_size, deL_len])
end Go.Proofs.YtaikigponkjkgaaGreatDoor
end
