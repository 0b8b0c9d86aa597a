/-
 A part of the proof.
-/
import Derived.Test.YtaikigponkjkgaaGreatDoorXr33

section
namespace Go.Proofs.YtaikigponkjkgaaGreatDoor
open Go.ChangeShapes Go.WideShapes Go.ChangeAt Go.RowKit
open Go.Lib (hid)
theorem qxr34a (l : List Value) (i : Nat) (v : Value) : l.toArray.setIfInBounds i v = (l.set i v).toArray := by simp
theorem qxr34b (v u : Value) (l : List Value) : (v :: l).set 0 u = u :: l := rfl
theorem qxr34c (v u : Value) (n : Nat) (l : List Value) : (v :: l).set (n + 1) u = v :: l.set n u := rfl
namespace Bk
def qs (b : Bk) (n key : List UInt8) (h : List Hd.Pr) : List (List UInt8) := match b.shop n with | none => [] | some s => if s.sort = 4 then [] else lead s false key h b.binds
def pls (b : Bk) (n key : List UInt8) (h : List Hd.Pr) : List (List UInt8) := match b.shop n with | none => [] | some s => if s.sort = 4 then [s.to] else lead s true key h b.binds
def lcode (b : Bk) (n : List UInt8) : Nat := if (b.shop n).isSome then 0 else 10
end Bk
def LeadsPost (l m : List (List UInt8)) (code : Nat) (w : World) (e : Ending) (w' : World) : Prop := ∃ A' c' B' d', e = .returned (.tuple #[.slice A' l.length c', .slice B' m.length d', .int .i64 (code : Int)]) ∧ l.length ≤ c' ∧ (A' = none → c' = 0) ∧ Rws w' A' (sts l) ∧ m.length ≤ d' ∧ (B' = none → d' = 0) ∧ Rws w' B' (sts m) ∧ Below w.heap.size w w'
set_option maxRecDepth 100000 in
set_option maxHeartbeats 8000000 in
theorem rtLeads_any (b : Bk) (A : Option Addr) (c : Nat) (B : Option Addr) (d : Nat) (ps : List Bp) (n key : List UInt8) (h : List Hd.Pr) (Bh : Option Addr) (dh : Nat) (w : World) (hl : b.shops.length ≤ 1000) (hlb : b.binds.length ≤ 1000) (hs : ∀ s ∈ b.shops, s.sort ≤ 4) (hI : BkAt w A c B d b ps) (hk : key.length ≤ 90000) (hh : h.length ≤ 100000) (hp : Prs w Bh h) (hL : Len w) :
  Calls Tryz.prog 86 #[bkV A c B d b, .string (ofL n), .string (ofL key), .slice Bh h.length dh] w (LeadsPost (b.qs n key h) (b.pls n key h) (b.lcode n) w) := by
 obtain ⟨shops, binds⟩ := b
 dsimp only at hl hlb hs
 have hqs : Bk.qs ⟨shops, binds⟩ n key h = match Bk.shop ⟨shops, binds⟩ n with | none => [] | some s => if s.sort = 4 then [] else Bk.lead s false key h binds := rfl
 have hps : Bk.pls ⟨shops, binds⟩ n key h = match Bk.shop ⟨shops, binds⟩ n with | none => [] | some s => if s.sort = 4 then [s.to] else Bk.lead s true key h binds := rfl
 have hlc : Bk.lcode ⟨shops, binds⟩ n = if (Bk.shop ⟨shops, binds⟩ n).isSome then 0 else 10 := rfl
 have hf := find_idx (fun y : Sh => y.name == n) shops Bk.Sh0
 have hb0 := rtOne w (.cells #[.slice A shops.length c, .slice B binds.length d] 133)
 have HX0 := hid (rtAt0 w #[.slice A shops.length c, .slice B binds.length d] 133)
 have hC := rtShop_any ⟨shops, binds⟩ A c B d n _ (by show shops.length ≤ 100000; omega) (hI.shs.on hb0)
 have HB0 := hid hb0
 have HI0 := hid (hI.on hb0)
 have HP0 := hid (hp.on hb0)
 have HL0 := hid (hL.on hb0)
 have HLD := hid (fun s up W hs h1 h2 h3 => rtleads_any ⟨shops, binds⟩ A c B d ps s up key h Bh dh W (by show binds.length ≤ 1000; omega) hs h1 hk hh h2 h3)
 clear hI hp hL hb0
 obtain ⟨e1, e2⟩ | ⟨k, e1, hk', e2⟩ := hf
 ·have e2' : Bk.shop ⟨shops, binds⟩ n = none := e2
  rw [e2', Option.getD_none, Option.isSome_none] at hC
  rw [e2'] at hqs hps hlc
  dsimp only at hqs hps
  rw [hqs, hps, hlc, Option.isSome_none, if_neg (by simp)]
  generalize Bk.Sh0 = y at *
  clear e1 e2 e2' hqs hps hlc hs HLD
  have HC := hid hC
  clear hC
  simp only [bkV, shV] at HC ⊢
  go_enter Tryz.func86, Tryz.ntmps86
  go_wp2_with fail
  generalize w.alloc (.cells #[.slice A shops.length c, .slice B binds.length d] 133) = w1 at *
  refine HC.out.mono ?_
  rintro e w2 ⟨rfl, b2⟩
  have HB2 := hid (bthen HB0.out b2 (Nat.le_refl _))
  have HX2 := hid (HX0.out.on b2)
  have HBB := hid b2
  clear b2
  have x0 := HX2.out.cs 0 _ rfl
  have x1 := HX2.out.cs 1 _ rfl
  have xl := HX2.out.lt
  go_wp2_with fail
  exact bodyPost_ret (v := .tuple #[.slice none 0 0, .slice none 0 0, .int .i64 10]) (by simp [results, Tryz.results86, go_sem]) rfl ⟨none, 0, none, 0, rfl, Nat.le_refl _, fun _ => rfl, Rws.nil _ _, Nat.le_refl _, fun _ => rfl, Rws.nil _ _, HB2.out.alloc HB2.out.size _⟩
 ·have e2' : Bk.shop ⟨shops, binds⟩ n = some (shops.getD k Bk.Sh0) := e2
  have hsy := hs (shops.getD k Bk.Sh0) (by rw [← sh_get hk']; exact List.getElem_mem hk')
  rw [e2', Option.getD_some, Option.isSome_some] at hC
  rw [e2'] at hqs hps hlc
  dsimp only at hqs hps
  rw [hqs, hps, hlc, Option.isSome_some, if_pos rfl]
  generalize shops.getD k Bk.Sh0 = y at *
  clear e1 e2 e2' hqs hps hlc hs hk'
  by_cases h4 : y.sort = 4
  ·have hd4 : ((y.sort : Int) == 4) = true := by rw [h4]; rfl
   rw [if_pos h4, if_pos h4]
   clear h4 HLD hsy
   have HC := hid hC
   clear hC
   simp only [bkV, shV] at HC ⊢
   go_enter Tryz.func86, Tryz.ntmps86
   go_wp2_with fail
   generalize w.alloc (.cells #[.slice A shops.length c, .slice B binds.length d] 133) = w1 at *
   refine HC.out.mono ?_
   rintro e w2 ⟨rfl, b2⟩
   have HB2 := hid (bthen HB0.out b2 (Nat.le_refl _))
   have HX2 := hid (HX0.out.on b2)
   have HBB := hid b2
   clear b2
   have x0 := HX2.out.cs 0 _ rfl
   have x1 := HX2.out.cs 1 _ rfl
   have xl := HX2.out.lt
   go_upto_region 5 with fail
   have hb3 := rtTwo w2 (.cells #[.string (ofL y.name), .int .u8 (y.sort : Int), .string (ofL y.to)] 43) (.cells #[.string (ofL y.to)] 9)
   have hb4 : Below w2.heap.size w2 ((w2.alloc (.cells #[.string (ofL y.name), .int .u8 (y.sort : Int), .string (ofL y.to)] 43)).alloc (.cells #[.string (ofL y.to)] 9)).drew := hb3.drew
   have HN := hid (show Rws ((w2.alloc (.cells #[.string (ofL y.name), .int .u8 (y.sort : Int), .string (ofL y.to)] 43)).alloc (.cells #[.string (ofL y.to)] 9)).drew (some ⟨w2.heap.size + 1, 0, none⟩) (sts [y.to]) from Rws.of_news fun j u hu => by
    rw [sts_one1] at hu
    rw [Nat.zero_add]
    exact (rtDrew (rtAt1 w2 (.cells #[.string (ofL y.name), .int .u8 (y.sort : Int), .string (ofL y.to)] 43) #[.string (ofL y.to)] 9)).cs j u hu)
   have HBE := hid (bthen HB2.out hb4 (Nat.le_refl _))
   clear hb3 hb4
   go_region_law (fail)
   go_wp2_with fail
   exact bodyPost_ret (v := .tuple #[.slice none 0 0, .slice (some ⟨w2.heap.size + 1, 0, none⟩) 1 1, .int .i64 0]) (by simp [results, Tryz.results86, go_sem]) rfl ⟨none, 0, _, 1, rfl, Nat.le_refl _, fun _ => rfl, Rws.nil _ _, Nat.le_refl _, (fun e => by cases e), HN.out, HBE.out⟩
  ·have hd4 : ((y.sort : Int) == 4) = false := beq_eq_false_iff_ne.2 (by omega)
   have hs3 : y.sort ≤ 3 := by omega
   rw [if_neg h4, if_neg h4]
   clear h4 hsy
   have HL1 := hid (fun W h1 h2 h3 => HLD.out y false W hs3 h1 h2 h3)
   have HL2 := hid (fun W h1 h2 h3 => HLD.out y true W hs3 h1 h2 h3)
   generalize Bk.lead y false key h binds = l1 at *
   generalize Bk.lead y true key h binds = l2 at *
   unfold StPost at HL1 HL2
   simp only [bkV, shV] at HL1 HL2
   clear HLD hs3
   have HC := hid hC
   clear hC
   simp only [bkV, shV] at HC ⊢
   go_enter Tryz.func86, Tryz.ntmps86
   go_wp2_with fail
   generalize w.alloc (.cells #[.slice A shops.length c, .slice B binds.length d] 133) = w1 at *
   refine HC.out.mono ?_
   rintro e w2 ⟨rfl, b2⟩
   have HB2 := hid (bthen HB0.out b2 (Nat.le_refl _))
   have HX2 := hid (HX0.out.on b2)
   have HBB := hid b2
   clear b2
   have x0 := HX2.out.cs 0 _ rfl
   have x1 := HX2.out.cs 1 _ rfl
   have xl := HX2.out.lt
   have HA2 := hid (rtOne w2 (.cells #[.string (ofL y.name), .int .u8 (y.sort : Int), .string (ofL y.to)] 43))
   have HW3 := hid (bthen HBB.out HA2.out (Nat.le_refl _))
   have HX3 := hid (HX2.out.on HA2.out)
   have HY3 := hid (rtAt0 w2 #[.string (ofL y.name), .int .u8 (y.sort : Int), .string (ofL y.to)] 43)
   have HB3 := hid (HB2.out.alloc HB2.out.size (.cells #[.string (ofL y.name), .int .u8 (y.sort : Int), .string (ofL y.to)] 43))
   have HI3 := hid (HI0.out.on HW3.out)
   have HP3 := hid (HP0.out.on HW3.out)
   have HL3 := hid (HL0.out.on HW3.out)
   clear x0 x1 xl HBB
   go_upto_region 6 with fail
   generalize w2.alloc (.cells #[.string (ofL y.name), .int .u8 (y.sort : Int), .string (ofL y.to)] 43) = w3 at *
   have d0 := HX3.out.cs 0 _ rfl
   have d1 := HX3.out.cs 1 _ rfl
   have y0 := HY3.out.cs 0 _ rfl
   have y1 := HY3.out.cs 1 _ rfl
   have y2 := HY3.out.cs 2 _ rfl
   refine wp_region_held_drew (S := fun a => Below (w3.heap.size) w3 a) (by kernel_rfl) (by (try dsimp only); exact (Below.refl _ _).drew) (fun hHeld => ?_)
   refine wpAnyH_take (i := 0) (oi := ⟨some 29, _, _, _, _, _⟩) (v := ?_) rfl (by kernel_rfl) (by kernel_rfl) (by kernel_rfl) (fun _ _ _ h => h) (Or.inl ⟨by rfl, ?_⟩) (by assumption) ?_
   rotate_left 1
   ·intro wS hSw; (try dsimp only at hSw); have d0 := cell_on hSw d0; have d1 := cell_on hSw d1; have y0 := cell_on hSw y0; have y1 := cell_on hSw y1; have y2 := cell_on hSw y2; go_simp; try with_reducible rfl
   try simp only [Act.put, qxr34a, qxr34b, qxr34c]
   refine wpAnyH_take (i := 1) (oi := ⟨some 30, _, _, _, _, _⟩) (v := ?_) rfl (by kernel_rfl) (by kernel_rfl) (by kernel_rfl) (fun _ _ _ h => h) (Or.inl ⟨by rfl, ?_⟩) (by assumption) ?_
   rotate_left 1
   ·intro wS hSw; (try dsimp only at hSw); have d0 := cell_on hSw d0; have d1 := cell_on hSw d1; have y0 := cell_on hSw y0; have y1 := cell_on hSw y1; have y2 := cell_on hSw y2; go_simp; try with_reducible rfl
   try simp only [Act.put, qxr34a, qxr34b, qxr34c]
   refine wpAnyH_take (i := 2) (oi := ⟨some 31, _, _, _, _, _⟩) (v := ?_) rfl (by kernel_rfl) (by kernel_rfl) (by kernel_rfl) (fun _ _ _ h => h) (Or.inl ⟨by rfl, ?_⟩) (by assumption) ?_
   rotate_left 1
   ·intro wS hSw; (try dsimp only at hSw); go_simp; try with_reducible rfl
   try simp only [Act.put, qxr34a, qxr34b, qxr34c]
   refine wpAnyH_take (i := 3) (oi := ⟨some 32, _, _, _, _, _⟩) (v := ?_) rfl (by kernel_rfl) (by kernel_rfl) (by kernel_rfl) (fun _ _ _ h => h) (Or.inl ⟨by rfl, ?_⟩) (by assumption) ?_
   rotate_left 1
   ·intro wS hSw; (try dsimp only at hSw); go_simp; try with_reducible rfl
   try simp only [Act.put, qxr34a, qxr34b, qxr34c]
   refine wpAnyH_take (i := 5) (oi := ⟨some 34, _, _, _, _, _⟩) (v := ?_) rfl (by kernel_rfl) (by kernel_rfl) (by kernel_rfl) (fun _ _ _ h => h) (Or.inl ⟨by rfl, ?_⟩) (by assumption) ?_
   rotate_left 1
   ·intro wS hSw; (try dsimp only at hSw); have d0 := cell_on hSw d0; have d1 := cell_on hSw d1; have y0 := cell_on hSw y0; have y1 := cell_on hSw y1; have y2 := cell_on hSw y2; go_simp; try with_reducible rfl
   try simp only [Act.put, qxr34a, qxr34b, qxr34c]
   refine wpAnyH_take (i := 6) (oi := ⟨some 35, _, _, _, _, _⟩) (v := ?_) rfl (by kernel_rfl) (by kernel_rfl) (by kernel_rfl) (fun _ _ _ h => h) (Or.inl ⟨by rfl, ?_⟩) (by assumption) ?_
   rotate_left 1
   ·intro wS hSw; (try dsimp only at hSw); have d0 := cell_on hSw d0; have d1 := cell_on hSw d1; have y0 := cell_on hSw y0; have y1 := cell_on hSw y1; have y2 := cell_on hSw y2; go_simp; try with_reducible rfl
   try simp only [Act.put, qxr34a, qxr34b, qxr34c]
   refine wpAnyH_take (i := 7) (oi := ⟨some 36, _, _, _, _, _⟩) (v := ?_) rfl (by kernel_rfl) (by kernel_rfl) (by kernel_rfl) (fun _ _ _ h => h) (Or.inl ⟨by rfl, ?_⟩) (by assumption) ?_
   rotate_left 1
   ·intro wS hSw; (try dsimp only at hSw); go_simp; try with_reducible rfl
   try simp only [Act.put, qxr34a, qxr34b, qxr34c]
   refine wpAnyH_take (i := 8) (oi := ⟨some 37, _, _, _, _, _⟩) (v := ?_) rfl (by kernel_rfl) (by kernel_rfl) (by kernel_rfl) (fun _ _ _ h => h) (Or.inl ⟨by rfl, ?_⟩) (by assumption) ?_
   rotate_left 1
   ·intro wS hSw; (try dsimp only at hSw); go_simp; try with_reducible rfl
   try simp only [Act.put, qxr34a, qxr34b, qxr34c]
   refine wpAnyH_ready (rs := [4]) (by kernel_rfl) (by simp) ?_
   refine AllReadyH.cons (o := ⟨some 33, _, _, _, _, _⟩) rfl (fun K hK => ?_) (AllReadyH.nil)
   go_simp
   go_at_call 114
   refine (HL1.out _ (HI3.out.on (show Below w3.heap.size w3 _ from hHeld)) (HP3.out.on (show Below w3.heap.size w3 _ from hHeld)) (HL3.out.on (show Below w3.heap.size w3 _ from hHeld))).mono ?_
   rintro e wx ⟨A1, k1, rfl, hc1, hn1, hr1, ha1, hb2⟩
   have HC1 := hid hc1
   have HN1 := hid hn1
   have HR1 := hid hr1
   clear hc1 hn1 hr1 ha1
   refine hK.out _ _ (bthen hHeld hb2 (Nat.le_refl _)) (fun hHeld2 => ?_)
   clear hK K hHeld hb2
   have hHeld := hHeld2
   clear hHeld2
   try simp only [Act.put, qxr34a, qxr34b, qxr34c]
   refine wpAnyH_ready (rs := [9]) (by kernel_rfl) (by simp) ?_
   refine AllReadyH.cons (o := ⟨some 38, _, _, _, _, _⟩) rfl (fun K hK => ?_) (AllReadyH.nil)
   go_simp
   go_at_call 114
   refine (HL2.out _ (HI3.out.on (show Below w3.heap.size w3 _ from hHeld)) (HP3.out.on (show Below w3.heap.size w3 _ from hHeld)) (HL3.out.on (show Below w3.heap.size w3 _ from hHeld))).mono ?_
   rintro e wx ⟨A2, k2, rfl, hc2, hn2, hr2, ha2, hb2⟩
   have HC2 := hid hc2
   have HN2 := hid hn2
   have HR2 := hid hr2
   have HR1b := hid (HR1.out.on hb2)
   clear hc2 hn2 hr2 ha2
   refine hK.out _ _ (bthen hHeld hb2 (Nat.le_refl _)) (fun hHeld2 => ?_)
   clear hK K hHeld hb2
   have hHeld := hHeld2
   clear hHeld2
   try simp only [Act.put, qxr34a, qxr34b, qxr34c]
   refine wpAnyH_take (i := 10) (oi := ⟨some 8, _, _, _, _, _⟩) (v := ?_) rfl (by kernel_rfl) (by kernel_rfl) (by kernel_rfl) (fun _ _ _ h => h) (Or.inl ⟨by rfl, ?_⟩) (by assumption) ?_
   rotate_left 1
   ·intro wS hSw; (try dsimp only at hSw); go_simp; try with_reducible rfl
   try simp only [Act.put, qxr34a, qxr34b, qxr34c]
   refine wpAnyH_take (i := 11) (oi := ⟨some 9, _, _, _, _, _⟩) (v := ?_) rfl (by kernel_rfl) (by kernel_rfl) (by kernel_rfl) (fun _ _ _ h => h) (Or.inl ⟨by rfl, ?_⟩) (by assumption) ?_
   rotate_left 1
   ·intro wS hSw; (try dsimp only at hSw); go_simp; try with_reducible rfl
   try simp only [Act.put, qxr34a, qxr34b, qxr34c]
   refine wpAnyH_take (i := 12) (oi := ⟨some 10, _, _, _, _, _⟩) (v := ?_) rfl (by kernel_rfl) (by kernel_rfl) (by kernel_rfl) (fun _ _ _ h => h) (Or.inl ⟨by rfl, ?_⟩) (by assumption) ?_
   rotate_left 1
   ·intro wS hSw; (try dsimp only at hSw); go_simp; try with_reducible rfl
   try simp only [Act.put, qxr34a, qxr34b, qxr34c]
   refine wpAnyH_done (by kernel_rfl) ?_ _
   have hZ := hHeld
   clear hHeld
   have HBZ := hid (bthen HB3.out (show Below w3.heap.size w3 _ from hZ) (Nat.le_refl _))
   clear hZ d0 d1 y0 y1 y2
   go_wp2_with fail
   exact bodyPost_ret (v := .tuple #[.slice A1 l1.length k1, .slice A2 l2.length k2, .int .i64 0]) (by simp [results, Tryz.results86, go_sem]) rfl ⟨A1, k1, A2, k2, rfl, HC1.out, HN1.out, HR1b.out, HC2.out, HN2.out, HR2.out, HBZ.out⟩
end Go.Proofs.YtaikigponkjkgaaGreatDoor
end
