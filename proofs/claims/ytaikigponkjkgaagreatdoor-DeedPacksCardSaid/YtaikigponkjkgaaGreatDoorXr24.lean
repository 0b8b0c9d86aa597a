/-
 A part of the proof.
-/
import Derived.Test.YtaikigponkjkgaaGreatDoorXr17

section
namespace Go.Proofs.YtaikigponkjkgaaGreatDoor
open Go.ChangeShapes Go.WideShapes Go.ChangeAt Go.RowKit
open Go.Lib (hid)
theorem find_idx {α : Type} (q : α → Bool) (l : List α) (z : α) : (idx q l = -1 ∧ l.find? q = none) ∨ ∃ k : Nat, idx q l = (k : Int) ∧ k < l.length ∧ l.find? q = some (l.getD k z) := by
 unfold idx
 cases h : l.findIdx? q with
 | none =>
  left
  refine ⟨rfl, ?_⟩
  rw [List.findIdx?_eq_none_iff] at h
  rw [List.find?_eq_none]
  intro x hx
  simpa using h x hx
 | some i =>
  right
  rw [List.findIdx?_eq_some_iff_getElem] at h
  obtain ⟨hi, hq, hlt⟩ := h
  refine ⟨i, rfl, hi, ?_⟩
  rw [List.find?_eq_some_iff_getElem]
  have e : l.getD i z = l[i] := by rw [List.getD_eq_getElem?_getD, List.getElem?_eq_getElem hi]; rfl
  rw [e]
  exact ⟨hq, i, hi, rfl, fun j hj => by simpa using hlt j hj⟩
theorem sh_get {l : List Sh} {i : Nat} (hi : i < l.length) : l[i] = l.getD i Bk.Sh0 := by rw [List.getD_eq_getElem?_getD, List.getElem?_eq_getElem hi]; rfl
theorem clipSh_any (A : Option Addr) (n c : Nat) (w : World) (hc : n ≤ c) : Calls Tryz.prog 127 #[.slice A n c] w fun e w' => e = .returned (.slice A n n) ∧ w = w' := by
 go_enter Tryz.func127, Tryz.ntmps127
 go_wp2_with fail
 go_ret
 exact ⟨rfl, rfl⟩
theorem clipBd_any (A : Option Addr) (n c : Nat) (w : World) (hc : n ≤ c) : Calls Tryz.prog 132 #[.slice A n c] w fun e w' => e = .returned (.slice A n n) ∧ w = w' := by
 go_enter Tryz.func132, Tryz.ntmps132
 go_wp2_with fail
 go_ret
 exact ⟨rfl, rfl⟩
def TellsSh (f : Nat) (c : Array Value) (q : Sh → Bool) (w : World) : Prop :=
 ∀ (W : World) (x : Sh), Below w.heap.size w W → Calls Tryz.prog f (#[shV x] ++ c) W fun e w' => e = .returned (.bool (q x)) ∧ Below W.heap.size W w'
theorem rtShop1_any (x : Sh) (s : List UInt8) (b : Nat) (w : World) (h : w.cell? ⟨b, 0, none⟩ = some (.string (ofL s))) : Calls Tryz.prog 126 #[shV x, .pointer (some ⟨b, 0, none⟩)] w fun e w' => e = .returned (.bool (x.name == s)) ∧ Below w.heap.size w w' := by
 have hbl := World.block_lt_of_cell? w _ h
 simp only at hbl
 obtain ⟨yn, yl, ys⟩ := x
 have HN := str_same yn s
 generalize (yn == s) = B at *
 simp only [shV] at *
 go_enter Tryz.func126, Tryz.ntmps126
 go_wp2_with fail
 go_ret
 exact ⟨rfl, rtOne w _⟩
def IdxSh (q : Sh → Bool) (l : List Sh) (w : World) (g : Nat) (i : Value) (wr : World) : Prop :=
 ∃ k : Nat, k + g = l.length ∧ i = .int .i64 (k : Int) ∧ (∀ j, j < k → q (l.getD j Bk.Sh0) = false) ∧ Below w.heap.size w wr
def rtDropN : Nat :=
 126
set_option maxHeartbeats 2000000 in
theorem indexSh_any (f : Nat) (b : Nat) (hf : f = 126 ∨ f = rtDropN) (q : Sh → Bool) (l : List Sh) (A : Option Addr) (c : Nat) (w : World) (hl : l.length ≤ 100000) (hp : Shs w A l) (ht : TellsSh f #[.pointer (some ⟨b, 0, none⟩)] q w) :
  Calls Tryz.prog 125 #[.slice A l.length c, .func (.func f) #[] #[.pointer (some ⟨b, 0, none⟩)]] w fun e w' => e = .returned (.int .i64 (idx q l)) ∧ Below w.heap.size w w' := by
 have HP := hid hp
 have HT := hid ht
 have HNONE := hid (fun h => idx_none (q := q) (l := l) Bk.Sh0 h)
 have HSOME := hid (fun k (hk : k < l.length) h hq => idx_some (q := q) (l := l) Bk.Sh0 hk h hq)
 clear hp ht
 generalize idx q l = M at *
 obtain ⟨n, hn⟩ : ∃ n, n = l.length := ⟨_, rfl⟩
 rw [← hn]
 have HN := hid hn
 have hnl : n ≤ 100000 := by omega
 clear hn
 unfold rtDropN at hf
 rcases hf with rfl | rfl
 all_goals
  go_enter Tryz.func125, Tryz.ntmps125
  go_wp2_with fail
  go_loopg [8] n (fun g i wr => IdxSh q l w g i wr)
  case atStart => exact ⟨0, by have := HN.out; omega, rfl, fun j hj => absurd hj (by omega), Below.refl _ _⟩
  case round =>
   obtain ⟨k, hk, rfl, hno, hB⟩ := hrel
   have HB := hid hB
   have HNO := hid hno
   have HK := hid hk
   clear hB hno hk
   by_cases hlt : k < n
   ·have hkl : k < l.length := by have := HN.out; omega
    obtain ⟨bb, off, rfl, hbl, hat⟩ := shs_get (HP.out.on HB.out).row hkl
    rw [sh_get hkl] at hat
    have HC := hid (HT.out wr (l.getD k Bk.Sh0) HB.out)
    have HQ : Hid (∀ h, q (l.getD k Bk.Sh0) = true → M = (k : Int)) := fun h hq => HSOME.out k (by have := HN.out; omega) h hq
    cases hq : q (l.getD k Bk.Sh0) with
    | true =>
     have HM := hid (HQ.out HNO.out hq)
     rw [hq] at HC
     clear hq
     generalize l.getD k Bk.Sh0 = x at *
     obtain ⟨xn, xl, xs⟩ := x
     simp only [shV] at HC
     have c0 := hat 0 _ rfl
     have c1 := hat 1 _ rfl
     have c2 := hat 2 _ rfl
     rw [Nat.add_zero] at c0
     clear hat
     go_wp2_with fail
     refine HC.out.mono ?_
     rintro e w' ⟨rfl, hB1⟩
     have HB1 := hid (HB.out.trans (hB1.mono HB.out.size))
     clear hB1
     go_wp2_with fail
     go_ret
     exact ⟨ret_nat HM.out.symm, HB1.out⟩
    | false =>
     have HNEXT : Hid (∀ j, j < k + 1 → q (l.getD j Bk.Sh0) = false) := fun j hj => by
      by_cases e : j = k
      ·rw [e]; exact hq
      ·exact HNO.out j (by omega)
     rw [hq] at HC
     clear hq
     generalize l.getD k Bk.Sh0 = x at *
     obtain ⟨xn, xl, xs⟩ := x
     simp only [shV] at HC
     have c0 := hat 0 _ rfl
     have c1 := hat 1 _ rfl
     have c2 := hat 2 _ rfl
     rw [Nat.add_zero] at c0
     clear hat
     go_wp2_with fail
     refine HC.out.mono ?_
     rintro e w' ⟨rfl, hB1⟩
     have HB1 := hid (HB.out.trans (hB1.mono HB.out.size))
     clear hB1
     go_wp2_with fail
     go_roundg (gk - 1)
     case rel => exact ⟨k + 1, by have := HK.out; have := HN.out; omega, by go_num, HNEXT.out, HB1.out⟩
     case measure => have := HK.out; have := HN.out; omega
   ·have HM := hid (HNONE.out (fun i hi => HNO.out i (by have := HN.out; omega)))
    go_wp2_with fail
    go_ret
    exact ⟨ret_nat HM.out.symm, HB.out⟩
set_option maxHeartbeats 2000000 in
theorem rtShop_any (b : Bk) (A : Option Addr) (c : Nat) (B : Option Addr) (d : Nat) (n : List UInt8) (w : World) (hl : b.shops.length ≤ 100000) (hS : Shs w A b.shops) :
  Calls Tryz.prog 107 #[bkV A c B d b, .string (ofL n)] w fun e w' => e = .returned (.tuple #[shV ((b.shop n).getD Bk.Sh0), .bool (b.shop n).isSome]) ∧ Below w.heap.size w w' := by
 obtain ⟨shops, binds⟩ := b
 dsimp only at hl hS
 have hf := find_idx (fun x : Sh => x.name == n) shops Bk.Sh0
 have hb0 := rtThree w (.cells #[.slice A shops.length c, .slice B binds.length d] 133) (.cells #[.string (ofL n)] 9) (.cells #[.string ⟨#[]⟩, .int .u8 0, .string ⟨#[]⟩] 43)
 have HN0 := rtNext (rtAt1 w (.cells #[.slice A shops.length c, .slice B binds.length d] 133) #[.string (ofL n)] 9) (.cells #[.string ⟨#[]⟩, .int .u8 0, .string ⟨#[]⟩] 43)
 have HBK := hid (rtNext (rtNext (rtAt0 w #[.slice A shops.length c, .slice B binds.length d] 133) (.cells #[.string (ofL n)] 9)) (.cells #[.string ⟨#[]⟩, .int .u8 0, .string ⟨#[]⟩] 43))
 have HR := hid (rtAt2 w (.cells #[.slice A shops.length c, .slice B binds.length d] 133) (.cells #[.string (ofL n)] 9) #[.string ⟨#[]⟩, .int .u8 0, .string ⟨#[]⟩] 43)
 have HC := hid (indexSh_any 126 (w.heap.size + 1) (.inl rfl) (fun x => x.name == n) shops A c _ hl (hS.on hb0) (fun W x hW => rtShop1_any x n (w.heap.size + 1) W ((hW.cell (p := ⟨w.heap.size + 1, 0, none⟩) HN0.lt).trans (HN0.cs 0 _ rfl))))
 have HB0 := hid hb0
 have HS0 := hid (hS.on hb0)
 unfold Bk.shop bkV
 dsimp only
 clear HN0 hb0 hS
 obtain ⟨e1, e2⟩ | ⟨k, e1, hk, e2⟩ := hf
 ·rw [e1] at HC
  rw [e2]
  clear e1 e2
  go_enter Tryz.func107, Tryz.ntmps107
  go_wp2_with fail
  generalize ((w.alloc (.cells #[.slice A shops.length c, .slice B binds.length d] 133)).alloc (.cells #[.string (ofL n)] 9)).alloc (.cells #[.string ⟨#[]⟩, .int .u8 0, .string ⟨#[]⟩] 43) = w1 at *
  refine HC.out.mono ?_
  rintro e w2 ⟨rfl, b2⟩
  have HB2 := hid (bthen HB0.out b2 (Nat.le_refl _))
  have HR2 := hid (HR.out.on b2)
  clear b2
  have r0 := HR2.out.cs 0 _ rfl
  have r1 := HR2.out.cs 1 _ rfl
  have r2 := HR2.out.cs 2 _ rfl
  have rl := HR2.out.lt
  have rf : ∀ j, w2.frozen? ⟨w.heap.size + 2, j, none⟩ = false := HR2.out.s
  go_wp2_with fail
  have hQ := HR2.out.fill [.string ⟨#[]⟩, .int .u8 0, .string ⟨#[]⟩] rfl
  have hB := below_putAll (g := w.heap.size + 2) (by omega) [.string ⟨#[]⟩, .int .u8 0, .string ⟨#[]⟩] 0 HB2.out
  simp only [putAll] at hQ hB
  have g0 := hQ.cs 0 _ rfl
  have g1 := hQ.cs 1 _ rfl
  have g2 := hQ.cs 2 _ rfl
  exact bodyPost_ret (v := .tuple #[.agg #[.string ⟨#[]⟩, .int .u8 0, .string ⟨#[]⟩], .bool false]) (by simp [results, Tryz.results107, go_sem, g0, g1, g2]) rfl ⟨rfl, hB⟩
 ·rw [e1] at HC
  rw [e2, Option.getD_some, Option.isSome_some]
  obtain ⟨bb, off, rfl, hbl, hat⟩ := shs_get HS0.out.row hk
  rw [sh_get hk] at hat
  generalize shops.getD k Bk.Sh0 = x at *
  clear e1 e2
  have HAT := hid hat
  clear hat
  have hk1 : ¬ ((k : Int) < 0) := by omega
  have hk2 : (k : Int) < (shops.length : Int) := by omega
  go_enter Tryz.func107, Tryz.ntmps107
  go_wp2_with fail
  generalize ((w.alloc (.cells #[.slice (some ⟨bb, off, none⟩) shops.length c, .slice B binds.length d] 133)).alloc (.cells #[.string (ofL n)] 9)).alloc (.cells #[.string ⟨#[]⟩, .int .u8 0, .string ⟨#[]⟩] 43) = w1 at *
  refine HC.out.mono ?_
  rintro e w2 ⟨rfl, b2⟩
  have HB2 := hid (bthen HB0.out b2 (Nat.le_refl _))
  have HR2 := hid (HR.out.on b2)
  have HBK2 := HBK.out.on b2
  have c0 := rtCell b2 (HAT.out 0 _ rfl)
  have c1 := rtCell b2 (HAT.out 1 _ rfl)
  have c2 := rtCell b2 (HAT.out 2 _ rfl)
  rw [Nat.add_zero] at c0
  have d0 := HBK2.cs 0 _ rfl
  have d1 := HBK2.cs 1 _ rfl
  have dl := HBK2.lt
  clear b2 HBK2
  have r0 := HR2.out.cs 0 _ rfl
  have r1 := HR2.out.cs 1 _ rfl
  have r2 := HR2.out.cs 2 _ rfl
  have rl := HR2.out.lt
  have rf : ∀ j, w2.frozen? ⟨w.heap.size + 2, j, none⟩ = false := HR2.out.s
  go_wp2_with fail
  have hQ := HR2.out.fill [.string (ofL x.name), .int .u8 (x.sort : Int), .string (ofL x.to)] rfl
  have hB := below_putAll (g := w.heap.size + 2) (by omega) [.string (ofL x.name), .int .u8 (x.sort : Int), .string (ofL x.to)] 0 HB2.out
  simp only [putAll] at hQ hB
  have g0 := hQ.cs 0 _ rfl
  have g1 := hQ.cs 1 _ rfl
  have g2 := hQ.cs 2 _ rfl
  exact bodyPost_ret (v := .tuple #[.agg #[.string (ofL x.name), .int .u8 (x.sort : Int), .string (ofL x.to)], .bool true]) (by simp [results, Tryz.results107, go_sem, g0, g1, g2]) rfl ⟨rfl, hB⟩
set_option maxHeartbeats 2000000 in
theorem shCheck_any (x : Sh) (w : World) (h1 : x.name.length ≤ 90000) (h2 : x.to.length ≤ 90000) :
  Calls Tryz.prog 108 #[shV x] w fun e w' => e = .returned (.int .i64 (Bk.scode x : Int)) ∧ Below w.heap.size w w' := by
 obtain ⟨xn, xs, xt⟩ := x
 dsimp only at h1 h2
 have HB0 := hid (rtOne w (.cells #[.string (ofL xn), .int .u8 (xs : Int), .string (ofL xt)] 43))
 have HN := hid (fun W => name_any xn W (by omega))
 have HT := hid (fun W => name_any xt W (by omega))
 have HC : Hid (Bk.scode ⟨xn, xs, xt⟩ = if Wrd.nameCode xn ≠ 0 then Wrd.nameCode xn else if 4 < xs then 8 else if xs = 4 then Wrd.nameCode xt else if xt ≠ [] then 4 else 0) := rfl
 have HX : Hid (xt = [] ↔ (ofL xt).toList.isEmpty = true) := by
  constructor
  ·rintro rfl; rw [str_list]; rfl
  ·intro h
   cases xt with
   | nil => rfl
   | cons a t => rw [str_ne (by simp)] at h; cases h
 generalize Bk.scode ⟨xn, xs, xt⟩ = C at *
 generalize Wrd.nameCode xn = K at *
 generalize Wrd.nameCode xt = L at *
 simp only [shV]
 by_cases hk : K = 0
 ·have hk0 : ((K : Int) != 0) = false := by rw [hk]; rfl
  by_cases h4 : 4 < xs
  ·have hz : decide ((xs : Int) > 4) = true := decide_eq_true (by omega)
   have HE := hid (show C = 8 by rw [HC.out, if_neg (by omega), if_pos h4])
   clear h4
   go_enter Tryz.func108, Tryz.ntmps108
   go_wp2_with fail
   refine (HN.out _).mono ?_
   rintro e w1 ⟨rfl, rfl⟩
   go_wp2_with fail
   go_ret
   exact ⟨ret_nat (by rw [HE.out]; rfl), HB0.out⟩
  ·have hz : decide ((xs : Int) > 4) = false := decide_eq_false (by omega)
   have hz' : decide ((4 : Int) < (xs : Int)) = false := decide_eq_false (by omega)
   by_cases h5 : xs = 4
   ·have hy : ((xs : Int) == 4) = true := by rw [h5]; rfl
    have HE := hid (show C = L by rw [HC.out, if_neg (by omega), if_neg h4, if_pos h5])
    clear h4 h5
    go_enter Tryz.func108, Tryz.ntmps108
    go_wp2_with fail
    refine (HN.out _).mono ?_
    rintro e w1 ⟨rfl, rfl⟩
    go_wp2_with fail
    refine (HT.out _).mono ?_
    rintro e w1 ⟨rfl, rfl⟩
    go_wp2_with fail
    go_ret
    exact ⟨ret_nat (by rw [HE.out]), HB0.out⟩
   ·have hy : ((xs : Int) == 4) = false := beq_eq_false_iff_ne.2 (by omega)
    by_cases h6 : xt = []
    ·have he := HX.out.1 h6
     have HE := hid (show C = 0 by rw [HC.out, if_neg (by omega), if_neg h4, if_neg h5, if_neg (by simp [h6])])
     clear h4 h5 h6
     go_enter Tryz.func108, Tryz.ntmps108
     go_wp2_with fail
     refine (HN.out _).mono ?_
     rintro e w1 ⟨rfl, rfl⟩
     go_wp2_with fail
     go_ret
     exact ⟨ret_nat (by rw [HE.out]; rfl), HB0.out⟩
    ·have he : (ofL xt).toList.isEmpty = false := by
      cases hh : (ofL xt).toList.isEmpty with
      | false => rfl
      | true => exact absurd (HX.out.2 hh) h6
     have HE := hid (show C = 4 by rw [HC.out, if_neg (by omega), if_neg h4, if_neg h5, if_pos h6])
     clear h4 h5 h6
     go_enter Tryz.func108, Tryz.ntmps108
     go_wp2_with fail
     refine (HN.out _).mono ?_
     rintro e w1 ⟨rfl, rfl⟩
     go_wp2_with fail
     go_ret
     exact ⟨ret_nat (by rw [HE.out]; rfl), HB0.out⟩
 ·have hk0 : ((K : Int) != 0) = true := by rw [bne_iff_ne]; omega
  have HE := hid (show C = K by rw [HC.out, if_pos hk])
  clear hk
  go_enter Tryz.func108, Tryz.ntmps108
  go_wp2_with fail
  refine (HN.out _).mono ?_
  rintro e w1 ⟨rfl, rfl⟩
  go_wp2_with fail
  go_ret
  exact ⟨ret_nat (by rw [HE.out]), HB0.out⟩
end Go.Proofs.YtaikigponkjkgaaGreatDoor
end
