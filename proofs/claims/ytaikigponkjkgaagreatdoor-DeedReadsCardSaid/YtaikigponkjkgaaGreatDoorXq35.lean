/-
 A part of the proof.
-/
import Derived.Test.YtaikigponkjkgaaGreatDoorXq22
import Derived.Test.YtaikigponkjkgaaGreatDoorXq32
import Derived.Test.YtaikigponkjkgaaGreatDoorXq34

section
namespace Go.Proofs.YtaikigponkjkgaaGreatDoor
open Go.ChangeShapes Go.WideShapes Go.ChangeAt Go.RowKit
set_option maxRecDepth 100000
theorem qxq35a (l : List Value) (i : Nat) (v : Value) : l.toArray.setIfInBounds i v = (l.set i v).toArray := by simp
theorem qxq35b (v u : Value) (l : List Value) : (v :: l).set 0 u = u :: l := rfl
theorem qxq35c (v u : Value) (n : Nat) (l : List Value) : (v :: l).set (n + 1) u = v :: l.set n u := rfl
namespace Bk
def qs (b : Bk) (n key : List UInt8) (h : List Hd.Pr) : List (List UInt8) := match b.shop n with | none => [] | some s => if s.sort = 4 then [] else lead s false key h b.binds
def pls (b : Bk) (n key : List UInt8) (h : List Hd.Pr) : List (List UInt8) := match b.shop n with | none => [] | some s => if s.sort = 4 then [s.to] else lead s true key h b.binds
def lcode (b : Bk) (n : List UInt8) : Nat := if (b.shop n).isSome then 0 else 10
end Bk
def LeadsPost (l m : List (List UInt8)) (code : Nat) (w : World) (e : Ending) (w' : World) : Prop := ∃ A' c' B' d', e = .returned (.tuple #[.slice A' l.length c', .slice B' m.length d', .int .i64 (code : Int)]) ∧ l.length ≤ c' ∧ (A' = none → c' = 0) ∧ Rws w' A' (sts l) ∧ m.length ≤ d' ∧ (B' = none → d' = 0) ∧ Rws w' B' (sts m) ∧ Below w.heap.size w w'
set_option maxHeartbeats 8000000 in
theorem rtLeads_any (b : Bk) (A : Option Addr) (c : Nat) (B : Option Addr) (d : Nat) (ps : List Bp) (n key : List UInt8) (h : List Hd.Pr) (Bh : Option Addr) (dh : Nat) (w : World) (hl : b.shops.length ≤ 1000) (hlb : b.binds.length ≤ 1000) (hs : ∀ s ∈ b.shops, s.sort ≤ 4) (hI : BkAt w A c B d b ps) (hk : key.length ≤ 90000) (hh : h.length ≤ 100000) (hp : Prs w Bh h) (hL : Len w) :
  Calls Tryz.prog 86 #[bkV A c B d b, .string (ofL n), .string (ofL key), .slice Bh h.length dh] w (LeadsPost (b.qs n key h) (b.pls n key h) (b.lcode n) w) := by
 obtain ⟨shops, binds⟩ := b
 dsimp only at hl hlb hs
 have hqs : Bk.qs ⟨shops, binds⟩ n key h = match Bk.shop ⟨shops, binds⟩ n with | none => [] | some s => if s.sort = 4 then [] else Bk.lead s false key h binds := rfl
 have hps : Bk.pls ⟨shops, binds⟩ n key h = match Bk.shop ⟨shops, binds⟩ n with | none => [] | some s => if s.sort = 4 then [s.to] else Bk.lead s true key h binds := rfl
 have hlc : Bk.lcode ⟨shops, binds⟩ n = if (Bk.shop ⟨shops, binds⟩ n).isSome then 0 else 10 := rfl
 have hf := find_idx (fun y : Sh => y.name == n) shops Bk.Sh0
 have hb0 := rtOne w (.cells #[.slice A shops.length c, .slice B binds.length d] 133)
 have HX0 := Lib.hid (rtAt0 w #[.slice A shops.length c, .slice B binds.length d] 133)
 have hC := rtShop_any ⟨shops, binds⟩ A c B d n _ (by show shops.length ≤ 100000; omega) (hI.shs.on hb0)
 have HB0 := Lib.hid hb0
 have HI0 := Lib.hid (hI.on hb0)
 have HP0 := Lib.hid (hp.on hb0)
 have HL0 := Lib.hid (hL.on hb0)
 have HLD := Lib.hid (fun s up W hs h1 h2 h3 => rtleads_any ⟨shops, binds⟩ A c B d ps s up key h Bh dh W (by show binds.length ≤ 1000; omega) hs h1 hk hh h2 h3)
 clear hI hp hL hb0
 obtain ⟨e1, e2⟩ | ⟨k, e1, hk', e2⟩ := hf
 ·have e2' : Bk.shop ⟨shops, binds⟩ n = none := e2
  rw [e2', Option.getD_none, Option.isSome_none] at hC
  rw [e2'] at hqs hps hlc
  dsimp only at hqs hps
  rw [hqs, hps, hlc, Option.isSome_none, if_neg (by simp)]
  generalize Bk.Sh0 = y at *
  clear e1 e2 e2' hqs hps hlc hs HLD
  have HC := Lib.hid hC
  clear hC
  simp only [bkV, shV] at HC ⊢
  go_enter Tryz.func86, Tryz.ntmps86
  go_wp2_with fail
  generalize w.alloc (.cells #[.slice A shops.length c, .slice B binds.length d] 133) = w1 at *
  refine HC.out.mono ?_
  rintro e w2 ⟨rfl, b2⟩
  have HB2 := Lib.hid (bthen HB0.out b2 (Nat.le_refl _))
  have HX2 := Lib.hid (HX0.out.on b2)
  have HBB := Lib.hid b2
  clear b2
  have x0 := HX2.out.cs 0 _ rfl
  have x1 := HX2.out.cs 1 _ rfl
  have xl := HX2.out.lt
  go_wp2_with fail
  exact bodyPost_ret (v := .tuple #[.slice none 0 0, .slice none 0 0, .int .i64 10]) (by simp [results, Tryz.results86, go_sem]) rfl ⟨none, 0, none, 0, rfl, Nat.le_refl _, fun _ => rfl, Rws.nil _ _, Nat.le_refl _, fun _ => rfl, Rws.nil _ _, HB2.out.alloc HB2.out.size _⟩
 ·have e2' : Bk.shop ⟨shops, binds⟩ n = some (shops.getD k Bk.Sh0) := e2
  have hsy := hs (shops.getD k Bk.Sh0) (by rw [← sh_get hk']; exact List.getElem_mem hk')
  rw [e2', Option.getD_some, Option.isSome_some] at hC
  rw [e2'] at hqs hps hlc
  dsimp only at hqs hps
  rw [hqs, hps, hlc, Option.isSome_some, if_pos rfl]
  generalize shops.getD k Bk.Sh0 = y at *
  clear e1 e2 e2' hqs hps hlc hs hk'
  by_cases h4 : y.sort = 4
  ·have hd4 : ((y.sort : Int) == 4) = true := by rw [h4]; rfl
   rw [if_pos h4, if_pos h4]
   clear h4 HLD hsy
   have HC := Lib.hid hC
   clear hC
   simp only [bkV, shV] at HC ⊢
   go_enter Tryz.func86, Tryz.ntmps86
   go_wp2_with fail
   generalize w.alloc (.cells #[.slice A shops.length c, .slice B binds.length d] 133) = w1 at *
   refine HC.out.mono ?_
   rintro e w2 ⟨rfl, b2⟩
   have HB2 := Lib.hid (bthen HB0.out b2 (Nat.le_refl _))
   have HX2 := Lib.hid (HX0.out.on b2)
   have HBB := Lib.hid b2
   clear b2
   have x0 := HX2.out.cs 0 _ rfl
   have x1 := HX2.out.cs 1 _ rfl
   have xl := HX2.out.lt
   go_upto_region 5 with fail
   have hb3 := rtTwo w2 (.cells #[.string (ofL y.name), .int .u8 (y.sort : Int), .string (ofL y.to)] 43) (.cells #[.string (ofL y.to)] 9)
   have hb4 : Below w2.heap.size w2 ((w2.alloc (.cells #[.string (ofL y.name), .int .u8 (y.sort : Int), .string (ofL y.to)] 43)).alloc (.cells #[.string (ofL y.to)] 9)).drew := hb3.drew
   have HN := Lib.hid (show Rws ((w2.alloc (.cells #[.string (ofL y.name), .int .u8 (y.sort : Int), .string (ofL y.to)] 43)).alloc (.cells #[.string (ofL y.to)] 9)).drew (some ⟨w2.heap.size + 1, 0, none⟩) (sts [y.to]) from Rws.of_news fun j u hu => by
    rw [sts_one1] at hu
    rw [Nat.zero_add]
    exact (rtDrew (rtAt1 w2 (.cells #[.string (ofL y.name), .int .u8 (y.sort : Int), .string (ofL y.to)] 43) #[.string (ofL y.to)] 9)).cs j u hu)
   have HBE := Lib.hid (bthen HB2.out hb4 (Nat.le_refl _))
   clear hb3 hb4
   go_region_law (fail)
   go_wp2_with fail
   exact bodyPost_ret (v := .tuple #[.slice none 0 0, .slice (some ⟨w2.heap.size + 1, 0, none⟩) 1 1, .int .i64 0]) (by simp [results, Tryz.results86, go_sem]) rfl ⟨none, 0, _, 1, rfl, Nat.le_refl _, fun _ => rfl, Rws.nil _ _, Nat.le_refl _, (fun e => by cases e), HN.out, HBE.out⟩
  ·have hd4 : ((y.sort : Int) == 4) = false := beq_eq_false_iff_ne.2 (by omega)
   have hs3 : y.sort ≤ 3 := by omega
   rw [if_neg h4, if_neg h4]
   clear h4 hsy
   have HL1 := Lib.hid (fun W h1 h2 h3 => HLD.out y false W hs3 h1 h2 h3)
   have HL2 := Lib.hid (fun W h1 h2 h3 => HLD.out y true W hs3 h1 h2 h3)
   generalize Bk.lead y false key h binds = l1 at *
   generalize Bk.lead y true key h binds = l2 at *
   unfold StPost at HL1 HL2
   simp only [bkV, shV] at HL1 HL2
   clear HLD hs3
   have HC := Lib.hid hC
   clear hC
   simp only [bkV, shV] at HC ⊢
   go_enter Tryz.func86, Tryz.ntmps86
   go_wp2_with fail
   generalize w.alloc (.cells #[.slice A shops.length c, .slice B binds.length d] 133) = w1 at *
   refine HC.out.mono ?_
   rintro e w2 ⟨rfl, b2⟩
   have HB2 := Lib.hid (bthen HB0.out b2 (Nat.le_refl _))
   have HX2 := Lib.hid (HX0.out.on b2)
   have HBB := Lib.hid b2
   clear b2
   have x0 := HX2.out.cs 0 _ rfl
   have x1 := HX2.out.cs 1 _ rfl
   have xl := HX2.out.lt
   have HA2 := Lib.hid (rtOne w2 (.cells #[.string (ofL y.name), .int .u8 (y.sort : Int), .string (ofL y.to)] 43))
   have HW3 := Lib.hid (bthen HBB.out HA2.out (Nat.le_refl _))
   have HX3 := Lib.hid (HX2.out.on HA2.out)
   have HY3 := Lib.hid (rtAt0 w2 #[.string (ofL y.name), .int .u8 (y.sort : Int), .string (ofL y.to)] 43)
   have HB3 := Lib.hid (HB2.out.alloc HB2.out.size (.cells #[.string (ofL y.name), .int .u8 (y.sort : Int), .string (ofL y.to)] 43))
   have HI3 := Lib.hid (HI0.out.on HW3.out)
   have HP3 := Lib.hid (HP0.out.on HW3.out)
   have HL3 := Lib.hid (HL0.out.on HW3.out)
   clear x0 x1 xl HBB
   go_upto_region 6 with fail
   generalize w2.alloc (.cells #[.string (ofL y.name), .int .u8 (y.sort : Int), .string (ofL y.to)] 43) = w3 at *
   have d0 := HX3.out.cs 0 _ rfl
   have d1 := HX3.out.cs 1 _ rfl
   have y0 := HY3.out.cs 0 _ rfl
   have y1 := HY3.out.cs 1 _ rfl
   have y2 := HY3.out.cs 2 _ rfl
   refine wp_region_held_drew (S := fun a => Below (w3.heap.size) w3 a) (by kernel_rfl) (by (try dsimp only); exact (Below.refl _ _).drew) (fun hHeld => ?_)
   refine wpAnyH_take (i := 0) (oi := ⟨some 29, _, _, _, _, _⟩) (v := ?_) rfl (by kernel_rfl) (by kernel_rfl) (by kernel_rfl) (fun _ _ _ h => h) (Or.inl ⟨by rfl, ?_⟩) (by assumption) ?_
   rotate_left 1
   ·intro wS hSw; (try dsimp only at hSw); have d0 := cell_on hSw d0; have d1 := cell_on hSw d1; have y0 := cell_on hSw y0; have y1 := cell_on hSw y1; have y2 := cell_on hSw y2; go_simp; try with_reducible rfl
   try simp only [Act.put, qxq35a, qxq35b, qxq35c]
   refine wpAnyH_take (i := 1) (oi := ⟨some 30, _, _, _, _, _⟩) (v := ?_) rfl (by kernel_rfl) (by kernel_rfl) (by kernel_rfl) (fun _ _ _ h => h) (Or.inl ⟨by rfl, ?_⟩) (by assumption) ?_
   rotate_left 1
   ·intro wS hSw; (try dsimp only at hSw); have d0 := cell_on hSw d0; have d1 := cell_on hSw d1; have y0 := cell_on hSw y0; have y1 := cell_on hSw y1; have y2 := cell_on hSw y2; go_simp; try with_reducible rfl
   try simp only [Act.put, qxq35a, qxq35b, qxq35c]
   refine wpAnyH_take (i := 2) (oi := ⟨some 31, _, _, _, _, _⟩) (v := ?_) rfl (by kernel_rfl) (by kernel_rfl) (by kernel_rfl) (fun _ _ _ h => h) (Or.inl ⟨by rfl, ?_⟩) (by assumption) ?_
   rotate_left 1
   ·intro wS hSw; (try dsimp only at hSw); go_simp; try with_reducible rfl
   try simp only [Act.put, qxq35a, qxq35b, qxq35c]
   refine wpAnyH_take (i := 3) (oi := ⟨some 32, _, _, _, _, _⟩) (v := ?_) rfl (by kernel_rfl) (by kernel_rfl) (by kernel_rfl) (fun _ _ _ h => h) (Or.inl ⟨by rfl, ?_⟩) (by assumption) ?_
   rotate_left 1
   ·intro wS hSw; (try dsimp only at hSw); go_simp; try with_reducible rfl
   try simp only [Act.put, qxq35a, qxq35b, qxq35c]
   refine wpAnyH_take (i := 5) (oi := ⟨some 34, _, _, _, _, _⟩) (v := ?_) rfl (by kernel_rfl) (by kernel_rfl) (by kernel_rfl) (fun _ _ _ h => h) (Or.inl ⟨by rfl, ?_⟩) (by assumption) ?_
   rotate_left 1
   ·intro wS hSw; (try dsimp only at hSw); have d0 := cell_on hSw d0; have d1 := cell_on hSw d1; have y0 := cell_on hSw y0; have y1 := cell_on hSw y1; have y2 := cell_on hSw y2; go_simp; try with_reducible rfl
   try simp only [Act.put, qxq35a, qxq35b, qxq35c]
   refine wpAnyH_take (i := 6) (oi := ⟨some 35, _, _, _, _, _⟩) (v := ?_) rfl (by kernel_rfl) (by kernel_rfl) (by kernel_rfl) (fun _ _ _ h => h) (Or.inl ⟨by rfl, ?_⟩) (by assumption) ?_
   rotate_left 1
   ·intro wS hSw; (try dsimp only at hSw); have d0 := cell_on hSw d0; have d1 := cell_on hSw d1; have y0 := cell_on hSw y0; have y1 := cell_on hSw y1; have y2 := cell_on hSw y2; go_simp; try with_reducible rfl
   try simp only [Act.put, qxq35a, qxq35b, qxq35c]
   refine wpAnyH_take (i := 7) (oi := ⟨some 36, _, _, _, _, _⟩) (v := ?_) rfl (by kernel_rfl) (by kernel_rfl) (by kernel_rfl) (fun _ _ _ h => h) (Or.inl ⟨by rfl, ?_⟩) (by assumption) ?_
   rotate_left 1
   ·intro wS hSw; (try dsimp only at hSw); go_simp; try with_reducible rfl
   try simp only [Act.put, qxq35a, qxq35b, qxq35c]
   refine wpAnyH_take (i := 8) (oi := ⟨some 37, _, _, _, _, _⟩) (v := ?_) rfl (by kernel_rfl) (by kernel_rfl) (by kernel_rfl) (fun _ _ _ h => h) (Or.inl ⟨by rfl, ?_⟩) (by assumption) ?_
   rotate_left 1
   ·intro wS hSw; (try dsimp only at hSw); go_simp; try with_reducible rfl
   try simp only [Act.put, qxq35a, qxq35b, qxq35c]
   refine wpAnyH_ready (rs := [4]) (by kernel_rfl) (by simp) ?_
   refine AllReadyH.cons (o := ⟨some 33, _, _, _, _, _⟩) rfl (fun K hK => ?_) (AllReadyH.nil)
   go_simp
   go_at_call 114
   refine (HL1.out _ (HI3.out.on (show Below w3.heap.size w3 _ from hHeld)) (HP3.out.on (show Below w3.heap.size w3 _ from hHeld)) (HL3.out.on (show Below w3.heap.size w3 _ from hHeld))).mono ?_
   rintro e wx ⟨A1, k1, rfl, hc1, hn1, hr1, ha1, hb2⟩
   have HC1 := Lib.hid hc1
   have HN1 := Lib.hid hn1
   have HR1 := Lib.hid hr1
   clear hc1 hn1 hr1 ha1
   refine hK.out _ _ (bthen hHeld hb2 (Nat.le_refl _)) (fun hHeld2 => ?_)
   clear hK K hHeld hb2
   have hHeld := hHeld2
   clear hHeld2
   try simp only [Act.put, qxq35a, qxq35b, qxq35c]
   refine wpAnyH_ready (rs := [9]) (by kernel_rfl) (by simp) ?_
   refine AllReadyH.cons (o := ⟨some 38, _, _, _, _, _⟩) rfl (fun K hK => ?_) (AllReadyH.nil)
   go_simp
   go_at_call 114
   refine (HL2.out _ (HI3.out.on (show Below w3.heap.size w3 _ from hHeld)) (HP3.out.on (show Below w3.heap.size w3 _ from hHeld)) (HL3.out.on (show Below w3.heap.size w3 _ from hHeld))).mono ?_
   rintro e wx ⟨A2, k2, rfl, hc2, hn2, hr2, ha2, hb2⟩
   have HC2 := Lib.hid hc2
   have HN2 := Lib.hid hn2
   have HR2 := Lib.hid hr2
   have HR1b := Lib.hid (HR1.out.on hb2)
   clear hc2 hn2 hr2 ha2
   refine hK.out _ _ (bthen hHeld hb2 (Nat.le_refl _)) (fun hHeld2 => ?_)
   clear hK K hHeld hb2
   have hHeld := hHeld2
   clear hHeld2
   try simp only [Act.put, qxq35a, qxq35b, qxq35c]
   refine wpAnyH_take (i := 10) (oi := ⟨some 8, _, _, _, _, _⟩) (v := ?_) rfl (by kernel_rfl) (by kernel_rfl) (by kernel_rfl) (fun _ _ _ h => h) (Or.inl ⟨by rfl, ?_⟩) (by assumption) ?_
   rotate_left 1
   ·intro wS hSw; (try dsimp only at hSw); go_simp; try with_reducible rfl
   try simp only [Act.put, qxq35a, qxq35b, qxq35c]
   refine wpAnyH_take (i := 11) (oi := ⟨some 9, _, _, _, _, _⟩) (v := ?_) rfl (by kernel_rfl) (by kernel_rfl) (by kernel_rfl) (fun _ _ _ h => h) (Or.inl ⟨by rfl, ?_⟩) (by assumption) ?_
   rotate_left 1
   ·intro wS hSw; (try dsimp only at hSw); go_simp; try with_reducible rfl
   try simp only [Act.put, qxq35a, qxq35b, qxq35c]
   refine wpAnyH_take (i := 12) (oi := ⟨some 10, _, _, _, _, _⟩) (v := ?_) rfl (by kernel_rfl) (by kernel_rfl) (by kernel_rfl) (fun _ _ _ h => h) (Or.inl ⟨by rfl, ?_⟩) (by assumption) ?_
   rotate_left 1
   ·intro wS hSw; (try dsimp only at hSw); go_simp; try with_reducible rfl
   try simp only [Act.put, qxq35a, qxq35b, qxq35c]
   refine wpAnyH_done (by kernel_rfl) ?_ _
   have hZ := hHeld
   clear hHeld
   have HBZ := Lib.hid (bthen HB3.out (show Below w3.heap.size w3 _ from hZ) (Nat.le_refl _))
   clear hZ d0 d1 y0 y1 y2
   go_wp2_with fail
   exact bodyPost_ret (v := .tuple #[.slice A1 l1.length k1, .slice A2 l2.length k2, .int .i64 0]) (by simp [results, Tryz.results86, go_sem]) rfl ⟨A1, k1, A2, k2, rfl, HC1.out, HN1.out, HR1b.out, HC2.out, HN2.out, HR2.out, HBZ.out⟩
structure Lq (s : Sh) (key : List UInt8) (h : List Hd.Pr) (l : List Bd) (w2 : World) (k : Nat) (A : Option Addr) (c : Nat) (B : Option Addr) (d : Nat) (ql pl : List (List UInt8)) (wr : World) : Prop where
 eq : ql = Bk.lead s false key h (l.take k)
 ep : pl = Bk.lead s true key h (l.take k)
 oq : wr.ownsRow w2.heap.size 9 1 (.slice A ql.length c) ql.length (sts ql)
 op : wr.ownsRow w2.heap.size 9 1 (.slice B pl.length d) pl.length (sts pl)
 ne : (Value.slice A ql.length c).ownBlock = none ∨ (Value.slice A ql.length c).ownBlock ≠ (Value.slice B pl.length d).ownBlock
 B : Below w2.heap.size w2 wr
theorem Lq.on {s : Sh} {key : List UInt8} {h : List Hd.Pr} {l : List Bd} {w2 : World} {k : Nat} {A : Option Addr} {c : Nat} {B : Option Addr} {d : Nat} {ql pl : List (List UInt8)} {wr W : World} (H : Lq s key h l w2 k A c B d ql pl wr) (hb : Below wr.heap.size wr W) : Lq s key h l w2 k A c B d ql pl W :=
 ⟨H.eq, H.ep, Rw.own_on H.oq hb, Rw.own_on H.op hb, H.ne, bthen H.B hb (Nat.le_refl _)⟩
namespace Bk
def act (k : Nat) (s : Sh) (x : Bd) (b : Bk) : Bk × Nat := if k % 5 = 0 then b.make s else if k % 5 = 1 then b.drop s.name else if k % 5 = 2 then b.bind x else if k % 5 = 3 then b.unbind x else (b.forget x.to, 0)
theorem Ok.act {b : Bk} (h : Ok b) (k : Nat) (s : Sh) (x : Bd) : Ok (b.act k s x).1 := by
 unfold Bk.act
 split
 ·exact h.make s
 ·split
  ·exact h.drop _
  ·split
   ·exact h.bind x
   ·split
    ·exact h.unbind x
    ·exact h.forget _
end Bk
def actL (k : Nat) (s : Sh) (x : Bd) (Ax : Option Addr) (cx : Nat) : List Value := [.int .u8 (k : Int), .string (ofL s.name), .int .u8 (s.sort : Int), .string (ofL s.to), .string (ofL x.shop), .string (ofL x.to), .bool x.up, .string (ofL x.key), .slice Ax x.want.length cx, .bool x.all]
structure Dn (w : World) (X Y V : List Value) (W : World) : Prop where
 bx : BoxC w w.heap.size X W
 bs : BoxC w (w.heap.size + 1) Y W
 ba : BoxC w (w.heap.size + 2) V W
 r1 : BoxC w (w.heap.size + 3) [.slice none 0 0, .slice none 0 0] W
 r2 : BoxC w (w.heap.size + 4) [.slice none 0 0, .slice none 0 0] W
 B : Below w.heap.size w W
 n : w.heap.size + 5 ≤ W.heap.size
theorem Dn.on {w W W' : World} {X Y V : List Value} (h : Dn w X Y V W) (hb : Below W.heap.size W W') : Dn w X Y V W' := ⟨h.bx.on hb, h.bs.on hb, h.ba.on hb, h.r1.on hb, h.r2.on hb, bthen h.B hb (Nat.le_refl _), Nat.le_trans h.n hb.size⟩
theorem dnAt (w : World) (o o' o'' : Obj) (c : Array Value) (t : TypeId) : BoxC w (w.heap.size + 3) c.toList ((((w.alloc o).alloc o').alloc o'').alloc (.cells c t)) := by
 have := BoxC.new (w := w) (W := ((w.alloc o).alloc o').alloc o'') (by simp; omega) c t
 rwa [show (((w.alloc o).alloc o').alloc o'').heap.size = w.heap.size + 3 by simp] at this
theorem dnAt4 (w : World) (o o' o'' o3 : Obj) (c : Array Value) (t : TypeId) : BoxC w (w.heap.size + 4) c.toList (((((w.alloc o).alloc o').alloc o'').alloc o3).alloc (.cells c t)) := by
 have := BoxC.new (w := w) (W := (((w.alloc o).alloc o').alloc o'').alloc o3) (by simp; omega) c t
 rwa [show ((((w.alloc o).alloc o').alloc o'').alloc o3).heap.size = w.heap.size + 4 by simp] at this
theorem Dn.new (w : World) (X Y V : Array Value) (t t' t'' t3 t4 : TypeId) : Dn w X.toList Y.toList V.toList (((((w.alloc (.cells X t)).alloc (.cells Y t')).alloc (.cells V t'')).alloc (.cells #[.slice none 0 0, .slice none 0 0] t3)).alloc (.cells #[.slice none 0 0, .slice none 0 0] t4)) :=
 ⟨rtNext (rtNext (rtNext (rtNext (rtAt0 w X t) _) _) _) _, rtNext (rtNext (rtNext (rtAt1 w _ Y t') _) _) _, rtNext (rtNext (rtAt2 w _ _ V t'') _) _, rtNext (dnAt w _ _ _ #[.slice none 0 0, .slice none 0 0] t3) _, dnAt4 w _ _ _ _ #[.slice none 0 0, .slice none 0 0] t4, ((rtThree w _ _ _).alloc (by simp; omega) _).alloc (by simp; omega) _, by simp⟩
structure BkD (U : Nat → Prop) (w : World) (W : World) (A : Option Addr) (c : Nat) (B : Option Addr) (d : Nat) (b : Bk) (ps : List Bp) : Prop where
 at_ : BkAt W A c B d b ps
 u : BkU (fun g => (U g ∧ g < w.heap.size) ∨ w.heap.size + 5 ≤ g) W A B ps
theorem BkD.on {U : Nat → Prop} {w W W' : World} {A : Option Addr} {c : Nat} {B : Option Addr} {d : Nat} {b : Bk} {ps : List Bp} (h : BkD U w W A c B d b ps) (hb : Below W.heap.size W W') : BkD U w W' A c B d b ps := ⟨h.at_.on hb, h.u.on hb.size⟩
theorem BkD.put {U : Nat → Prop} {w W : World} {A : Option Addr} {c : Nat} {B : Option Addr} {d : Nat} {b : Bk} {ps : List Bp} (h : BkD U w W A c B d b ps) {g : Nat} (h1 : w.heap.size ≤ g) (h2 : g < w.heap.size + 5) (j : Nat) (v : Value) : BkD U w (W.setCell ⟨g, j, none⟩ v) A c B d b ps :=
 ⟨h.at_.put h.u (by rintro (⟨-, h⟩ | h) <;> omega) j v, h.u.put g j v⟩
theorem BkD.of {U : Nat → Prop} {w W w1 : World} {A : Option Addr} {c : Nat} {B : Option Addr} {d : Nat} {b : Bk} {ps : List Bp} (h1 : BkAt W A c B d b ps) (h2 : BkU (fun g => ((U g ∧ g < w.heap.size) ∨ w.heap.size + 5 ≤ g) ∨ w1.heap.size ≤ g) W A B ps) (hw : w.heap.size + 5 ≤ w1.heap.size) : BkD U w W A c B d b ps :=
 ⟨h1, h2.mono (fun g h => by rcases h with h | h; exact h; exact .inr (by omega))⟩
theorem BkD.fin {U : Nat → Prop} {w W : World} {A : Option Addr} {c : Nat} {B : Option Addr} {d : Nat} {b : Bk} {ps : List Bp} (h : BkD U w W A c B d b ps) : BkU (fun g => U g ∨ w.heap.size ≤ g) W A B ps := h.u.mono (fun g h => by rcases h with ⟨h, -⟩ | h; exact .inl h; exact .inr (by omega))
structure RaP where
 k : Nat
 s : Sh
 x : Bd
 A : Option Addr
 c : Nat
def raL (p : RaP) : List Value := actL p.k p.s p.x p.A p.c
structure RaIn (w : World) (p : RaP) : Prop where
 row : Prs w p.A p.x.want
 cap : p.x.want.length ≤ p.c
 big : p.x.want.length ≤ 9223372036854775807
 s : p.s.sort < 256
 k : p.k < 256
theorem RaIn.on {w w' : World} {p : RaP} (h : RaIn w p) (hb : Below w.heap.size w w') : RaIn w' p := ⟨h.row.on hb, h.cap, h.big, h.s, h.k⟩
structure Ras (w : World) (A : Option Addr) (l : List RaP) : Prop where
 row : Rws w A (l.flatMap raL)
 h : ∀ p ∈ l, RaIn w p
theorem Ras.on {w w' : World} {A : Option Addr} {l : List RaP} (h : Ras w A l) (hb : Below w.heap.size w w') : Ras w' A l := ⟨Rws.on h.row hb, fun p hp => (h.h p hp).on hb⟩
structure RaFew (p : RaP) : Prop where
 s1 : p.s.name.length ≤ 40
 s2 : p.s.to.length ≤ 40
 b1 : p.x.shop.length ≤ 40
 b2 : p.x.to.length ≤ 40
 key : p.x.key.length ≤ 100
 want : lightB p.x.want = true
theorem RaFew.ok {w : World} {p : RaP} (h : RaFew p) (hi : RaIn w p) : BdOk w p.x p.A p.c := by
 obtain ⟨h1, h2, -⟩ := light_lite h.want
 exact ⟨by have := h.b1; omega, by have := h.b2; omega, by have := h.key; omega, by omega, hi.cap, h2, hi.row⟩
theorem max7_run {P : Program} (w : World) (ts : Array TypeId) (t : TypeId) (a b c d e f g : Int) : (Builtin.max_ ts t #[.int .i64 a, .int .i64 b, .int .i64 c, .int .i64 d, .int .i64 e, .int .i64 f, .int .i64 g]).run P w = .ok (.int .i64 (max (max (max (max (max (max a b) c) d) e) f) g)) w := by
 have h : ∀ x y : Int, (if y > x then y else x) = max x y := fun x y => by
  rw [Int.max_def]
  split <;> split <;> omega
 simp [Builtin.max_, Builtin.max2, h]
theorem max2_run {P : Program} (w : World) (ts : Array TypeId) (t : TypeId) (a b : Int) : (Builtin.max_ ts t #[.int .i64 a, .int .i64 b]).run P w = .ok (.int .i64 (max a b)) w := by
 have h : ∀ x y : Int, (if y > x then y else x) = max x y := fun x y => by
  rw [Int.max_def]
  split <;> split <;> omega
 simp [Builtin.max_, Builtin.max2, h]
def mx7 (x : De) : Nat := max (max (max (max (max (max x.shop.name.length x.shop.to.length) x.q.name.length) x.q.dead.length) x.bind.shop.length) x.bind.to.length) x.name.length
def deLight (x : De) : Bool := decide (mx7 x ≤ 40) && (decide (max x.bind.key.length x.text.length ≤ 100) && (lightB x.bind.want && maLight x.mail))
theorem de_light_ok {x : De} (h : deLight x = true) : mx7 x ≤ 40 ∧ max x.bind.key.length x.text.length ≤ 100 ∧ lightB x.bind.want = true ∧ maLight x.mail = true := by
 unfold deLight at h
 simpa only [Bool.and_eq_true, decide_eq_true_eq] using h
structure DeIn (w : World) (x : De) (A : Option Addr) (c : Nat) (B : Option Addr) (d : Nat) : Prop where
 ra : Prs w A x.bind.want
 ca : x.bind.want.length ≤ c
 ba : x.bind.want.length ≤ 9223372036854775807
 rb : Prs w B x.mail.head
 cb : x.mail.head.length ≤ d
 bb : x.mail.head.length ≤ 9223372036854775807
 fits : De.Fits x
theorem DeIn.on {w w' : World} {x : De} {A : Option Addr} {c : Nat} {B : Option Addr} {d : Nat} (h : DeIn w x A c B d) (hb : Below w.heap.size w w') : DeIn w' x A c B d := ⟨h.ra.on hb, h.ca, h.ba, h.rb.on hb, h.cb, h.bb, h.fits⟩
theorem de_light_Ok {w : World} {x : De} {A : Option Addr} {c : Nat} {B : Option Addr} {d : Nat} (h : deLight x = true) (hi : DeIn w x A c B d) : DeOk w x A c B d := by
 obtain ⟨h1, h2, h3, h4⟩ := de_light_ok h
 obtain ⟨g1, g2, -⟩ := light_lite h3
 unfold mx7 at h1
 exact ⟨by omega, by omega, by omega, by omega, ⟨by omega, by omega, by omega, by omega, hi.ca, g2, hi.ra⟩, by omega, ml_light_Ok h4 hi.cb hi.rb, by omega⟩
set_option maxHeartbeats 8000000 in
theorem ddLight_any (x : De) (A : Option Addr) (c : Nat) (B : Option Addr) (d : Nat) (w : World) (h : DeIn w x A c B d) :
  Calls Tryz.prog 16 #[deV x A c B d] w fun e w' => e = .returned (.bool (deLight x)) ∧ Below w.heap.size w w' := by
 have HB1 := Lib.hid (rtOne w (.cells #[.int .u8 (x.kd : Int), .int .u64 (x.tick : Int), .string (ofL x.shop.name), .int .u8 (x.shop.sort : Int), .string (ofL x.shop.to), .string (ofL x.q.name), .int .u64 (x.q.most : Int), .int .u64 (x.q.life : Int), .string (ofL x.q.dead), .string (ofL x.bind.shop), .string (ofL x.bind.to), .bool x.bind.up, .string (ofL x.bind.key), .slice A x.bind.want.length c, .bool x.bind.all, .string (ofL x.name), .int .u64 (x.id : Int), .int .u8 (x.how : Int), .int .u8 (x.frm : Int), .int .u8 (x.cd : Int), .int .u64 (x.num : Int), .int .u64 (x.mail.id : Int), .string (ofL x.mail.shop), .string (ofL x.mail.key), .slice B x.mail.head.length d, .string (ofL x.mail.body), .int .u64 (x.mail.due : Int), .int .u8 (x.mail.hops : Int), .string (ofL x.text)] 52))
 have HX1 := Lib.hid (DeX.start w x A c B d h.ra h.rb 52)
 have HL1 := Lib.hid (fun W g => light9_any x.bind.want A c W h.ba g)
 have HL2 := Lib.hid (fun W g => ml_light_any x.mail B d W h.bb g)
 have HD : Hid (deLight x = (decide (mx7 x ≤ 40) && (decide (max x.bind.key.length x.text.length ≤ 100) && (lightB x.bind.want && maLight x.mail)))) := rfl
 obtain ⟨M, hM⟩ : ∃ M : Nat, M = mx7 x := ⟨_, rfl⟩
 obtain ⟨K, hK⟩ : ∃ K : Nat, K = max x.bind.key.length x.text.length := ⟨_, rfl⟩
 rw [← hM, ← hK] at HD
 have hm7 : ∀ (W : World) (ts : Array TypeId) (t : TypeId), (Builtin.max_ ts t #[.int .i64 (x.shop.name.length : Int), .int .i64 (x.shop.to.length : Int), .int .i64 (x.q.name.length : Int), .int .i64 (x.q.dead.length : Int), .int .i64 (x.bind.shop.length : Int), .int .i64 (x.bind.to.length : Int), .int .i64 (x.name.length : Int)]).run Tryz.prog W = .ok (.int .i64 (M : Int)) W := fun W ts t => by
  rw [max7_run, show max (max (max (max (max (max ((x.shop.name.length : Int)) (x.shop.to.length : Int)) (x.q.name.length : Int)) (x.q.dead.length : Int)) (x.bind.shop.length : Int)) (x.bind.to.length : Int)) (x.name.length : Int) = (M : Int) by unfold mx7 at hM; omega]
 have hm2 : ∀ (W : World) (ts : Array TypeId) (t : TypeId), (Builtin.max_ ts t #[.int .i64 (x.bind.key.length : Int), .int .i64 (x.text.length : Int)]).run Tryz.prog W = .ok (.int .i64 (K : Int)) W := fun W ts t => by
  rw [max2_run, show max (x.bind.key.length : Int) (x.text.length : Int) = (K : Int) by omega]
 have s0 : (ofL x.shop.name).size = x.shop.name.length := ofL_size _
 have s1 : (ofL x.shop.to).size = x.shop.to.length := ofL_size _
 have s2 : (ofL x.q.name).size = x.q.name.length := ofL_size _
 have s3 : (ofL x.q.dead).size = x.q.dead.length := ofL_size _
 have s4 : (ofL x.bind.shop).size = x.bind.shop.length := ofL_size _
 have s5 : (ofL x.bind.to).size = x.bind.to.length := ofL_size _
 have s6 : (ofL x.name).size = x.name.length := ofL_size _
 have s7 : (ofL x.bind.key).size = x.bind.key.length := ofL_size _
 have s8 : (ofL x.text).size = x.text.length := ofL_size _
 clear h hM hK
 generalize deLight x = LX at *
 generalize lightB x.bind.want = LB at *
 generalize maLight x.mail = LM at *
 simp only [deV, maV] at *
 go_enter Tryz.func16, Tryz.ntmps16
 go_upto_region 1 with fail
 generalize w.alloc (.cells #[.int .u8 (x.kd : Int), .int .u64 (x.tick : Int), .string (ofL x.shop.name), .int .u8 (x.shop.sort : Int), .string (ofL x.shop.to), .string (ofL x.q.name), .int .u64 (x.q.most : Int), .int .u64 (x.q.life : Int), .string (ofL x.q.dead), .string (ofL x.bind.shop), .string (ofL x.bind.to), .bool x.bind.up, .string (ofL x.bind.key), .slice A x.bind.want.length c, .bool x.bind.all, .string (ofL x.name), .int .u64 (x.id : Int), .int .u8 (x.how : Int), .int .u8 (x.frm : Int), .int .u8 (x.cd : Int), .int .u64 (x.num : Int), .int .u64 (x.mail.id : Int), .string (ofL x.mail.shop), .string (ofL x.mail.key), .slice B x.mail.head.length d, .string (ofL x.mail.body), .int .u64 (x.mail.due : Int), .int .u8 (x.mail.hops : Int), .string (ofL x.text)] 52) = W1 at *
 have c2 := HX1.out.p.cs 2 _ rfl
 have c4 := HX1.out.p.cs 4 _ rfl
 have c5 := HX1.out.p.cs 5 _ rfl
 have c8 := HX1.out.p.cs 8 _ rfl
 have c9 := HX1.out.p.cs 9 _ rfl
 have c10 := HX1.out.p.cs 10 _ rfl
 have c15 := HX1.out.p.cs 15 _ rfl
 have cl := HX1.out.p.lt
 go_upto_region 2 with fail
 clear c2 c4 c5 c8 c9 c10 c15 cl s0 s1 s2 s3 s4 s5 s6 hm7
 have c12 := HX1.out.p.cs 12 _ rfl
 have c13 := HX1.out.p.cs 13 _ rfl
 have c28 := HX1.out.p.cs 28 _ rfl
 have cl := HX1.out.p.lt
 by_cases h1 : M ≤ 40
 ·have hd1 : decide ((M : Int) ≤ 40) = true := decide_eq_true (by omega)
  by_cases h2 : K ≤ 100
  ·have hd2 : decide ((K : Int) ≤ 100) = true := decide_eq_true (by omega)
   cases hb : LB with
   | false =>
    rw [hb] at HL1
    have HE := Lib.hid (show LX = false by rw [HD.out, hb]; simp)
    clear h1 h2 hb
    go_wp2_with fail
    refine (HL1.out _ HX1.out.ra).mono ?_
    rintro e w2 ⟨rfl, b2⟩
    have HB2 := Lib.hid (bthen HB1.out b2 (Nat.le_refl _))
    clear b2
    go_wp2_with fail
    go_ret
    exact ⟨ret_bool HE.out.symm, HB2.out⟩
   | true =>
    rw [hb] at HL1
    have HE := Lib.hid (show LX = LM by rw [HD.out, hb, decide_eq_true h1, decide_eq_true h2]; simp)
    clear h1 h2 hb
    go_wp2_with fail
    refine (HL1.out _ HX1.out.ra).mono ?_
    rintro e w2 ⟨rfl, b2⟩
    have HB2 := Lib.hid (bthen HB1.out b2 (Nat.le_refl _))
    have HX2 := Lib.hid (HX1.out.on b2)
    clear b2 c12 c13 c28 cl
    have c21 := HX2.out.p.cs 21 _ rfl
    have c22 := HX2.out.p.cs 22 _ rfl
    have c23 := HX2.out.p.cs 23 _ rfl
    have c24 := HX2.out.p.cs 24 _ rfl
    have c25 := HX2.out.p.cs 25 _ rfl
    have c26 := HX2.out.p.cs 26 _ rfl
    have c27 := HX2.out.p.cs 27 _ rfl
    have cl := HX2.out.p.lt
    go_wp2_with fail
    refine (HL2.out _ HX2.out.rb).mono ?_
    rintro e w3 ⟨rfl, b3⟩
    have HB3 := Lib.hid (bthen HB2.out b3 (Nat.le_refl _))
    clear b3
    go_wp2_with fail
    go_ret
    exact ⟨ret_bool HE.out.symm, HB3.out⟩
  ·have hd2 : decide ((K : Int) ≤ 100) = false := decide_eq_false (by omega)
   have HE := Lib.hid (show LX = false by rw [HD.out, decide_eq_false h2]; simp)
   clear h1 h2
   go_wp2_with fail
   go_ret
   exact ⟨ret_bool HE.out.symm, HB1.out⟩
 ·have hd1 : decide ((M : Int) ≤ 40) = false := decide_eq_false (by omega)
  have HE := Lib.hid (show LX = false by rw [HD.out, decide_eq_false h1]; simp)
  clear h1
  go_wp2_with fail
  go_ret
  exact ⟨ret_bool HE.out.symm, HB1.out⟩
end Go.Proofs.YtaikigponkjkgaaGreatDoor
end
section
namespace Go.Proofs.YtaikigponkjkgaaGreatDoor
namespace Rs
def good (l : List Ml) : List Ml := l.filter fun x => decide (x.code = 0)
end Rs
end Go.Proofs.YtaikigponkjkgaaGreatDoor
end
section
namespace Go.Proofs.YtaikigponkjkgaaGreatDoor
open Go.ChangeShapes Go.WideShapes Go.ChangeAt Go.RowKit
namespace Rs
def rdF (f : LSt → Ml × LSt) : Nat → LSt → List Ml × LSt
 | 0, s => ([], s)
 | n + 1, s => ((f s).1 :: (rdF f n (f s).2).1, (rdF f n (f s).2).2)
theorem rdF_len (f : LSt → Ml × LSt) : ∀ (n : Nat) (s : LSt), (rdF f n s).1.length = n
 | 0, _ => rfl
 | n + 1, s => by simp [rdF, rdF_len f n]
theorem rdF_ok {f : LSt → Ml × LSt} (hf : ∀ s, lOk s → lOk (f s).2) : ∀ (n : Nat) {s : LSt}, lOk s → lOk (rdF f n s).2
 | 0, _, h => h
 | n + 1, _, h => rdF_ok hf n (hf _ h)
theorem rdF_all {f : LSt → Ml × LSt} {P : Ml → Prop} (hf : ∀ s, P (f s).1) : ∀ (n : Nat) (s : LSt), ∀ x ∈ (rdF f n s).1, P x
 | 0, _, x, h => by simp [rdF] at h
 | n + 1, s, x, h => by
  rcases List.mem_cons.1 (show x ∈ (f s).1 :: (rdF f n (f s).2).1 from h) with e | e
  ·rw [e]; exact hf s
  ·exact rdF_all hf n _ x e
theorem rd_snd (s : LSt) : (Ml.rd s).2 = Ml.fin s := by unfold Ml.rd; rfl
theorem rd_ok (s : LSt) (h : lOk s) : lOk (Ml.rd s).2 := by rw [rd_snd]; exact Ml.okF h
def rds : Nat → LSt → List Ml × LSt := rdF Ml.rd
theorem rds_len (n : Nat) (s : LSt) : (rds n s).1.length = n := rdF_len _ n s
theorem lOk_rds (n : Nat) {s : LSt} (h : lOk s) : lOk (rds n s).2 := rdF_ok rd_ok n h
theorem hread_err {s : LSt} (h : lOk s) (he : s.2 ≠ 0) : (Hd.hread s).2 = s := by
 have h1 : s.1 = [] := h he
 have h2 : Oct.val (lOut s.1 1) = 0 := by rw [h1]; rfl
 unfold Hd.hread
 rw [h2, if_neg (by omega)]
 show lRaw s 1 = s
 exact lRaw_err h he 1
theorem rd_err {s : LSt} (h : lOk s) (he : s.2 ≠ 0) : (Ml.rd s).2 = s := by
 have e1 : Ml.s1 s = s := lRaw_err h he 8
 have e2 : Ml.s2 s = s := by unfold Ml.s2; rw [e1]; exact lText_err h he 16
 have e3 : Ml.s3 s = s := by unfold Ml.s3; rw [e2]; exact lText_err h he 64
 have e4 : Ml.s4 s = s := by unfold Ml.s4; rw [e3]; exact hread_err h he
 have e5 : Ml.s5 s = s := by unfold Ml.s5; rw [e4]; exact lText_err h he 256
 have e6 : Ml.s6 s = s := by unfold Ml.s6; rw [e5]; exact lRaw_err h he 8
 have e7 : Ml.s7 s = s := by unfold Ml.s7; rw [e6]; exact lRaw_err h he 1
 rw [rd_snd]
 unfold Ml.fin
 rw [e7]
 unfold lFail
 rw [if_pos (.inr he)]
def mid (T n : Nat) (s : LSt) : LSt := if 16 < n then lFail s 6 else if n ≠ min T 16 then lFail s 7 else s
theorem lOk_mid {T n : Nat} {s : LSt} (h : lOk s) : lOk (mid T n s) := by
 unfold mid
 split
 ·exact lOk_fail h _
 ·split
  ·exact lOk_fail h _
  ·exact h
theorem rd_fits (s : LSt) : Ml.Fits (Ml.rd s).1 := by
 show Ml.Fits (if (Ml.fin s).2 ≠ 0 then Ml.zero else Ml.got s)
 split
 ·exact ⟨by decide, by decide, by decide, fun p hp => by simp [Ml.zero] at hp⟩
 ·exact Ml.got_fits s
theorem rds_fits (n : Nat) (s : LSt) : ∀ x ∈ (rds n s).1, Ml.Fits x := rdF_all rd_fits n s
end Rs
end Go.Proofs.YtaikigponkjkgaaGreatDoor
end
