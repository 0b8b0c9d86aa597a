/-
 A part of the proof.
-/
import Derived.Test.YtaikigponkjkgaaGreatDoorXq13

section
namespace Go.Proofs.YtaikigponkjkgaaGreatDoor
open Go.ChangeShapes Go.WideShapes Go.ChangeAt Go.RowKit
open Go.Lib (hid)
structure RefAt (b : Nat) (s : ByteArray) (p : Nat) (st : St) (w : World) : Prop where
 c0 : w.cell? ⟨b, 0, none⟩ = some (.string s)
 c1 : w.cell? ⟨b, 1, none⟩ = some (.int .i64 (p : Int))
 c2 : w.cell? ⟨b, 2, none⟩ = some (.int .i64 st.2)
 fr : ∀ j, w.frozen? ⟨b, j, none⟩ = false
 lt : b < w.heap.size
 le : p ≤ s.size
 rest : st.2 = 0 → st.1 = s.extract p s.size
 ok : st.ok
def RefIs (b : Nat) (s : ByteArray) (st : St) (w : World) : Prop := ∃ p, RefAt b s p st w
def RPost (b : Nat) (s : ByteArray) (w : World) (v : Value) (st : St) (x : Ending) (w' : World) : Prop := x = .returned v ∧ RefIs b s st w' ∧ w.grownBy w' (some b)

theorem RefAt.code {b : Nat} {s : ByteArray} {p : Nat} {st : St} {w : World} (h : RefAt b s p st w) (c : Int) (hc : c ≠ 0) : RefAt b s p (ByteArray.empty, c) (w.setCell ⟨b, 2, none⟩ (.int .i64 c)) :=
 ⟨(World.cell?_setCell_other _ _ _ _ (ne_cell b 2 0 (by decide))).trans h.c0, (World.cell?_setCell_other _ _ _ _ (ne_cell b 2 1 (by decide))).trans h.c1, World.cell?_setCell_same _ _ _ h.c2,
  fun j => by rw [World.frozen?_setCell]; exact h.fr j, by have := h.lt; simp [World.setCell]; exact this, h.le, fun h0 => absurd h0 hc, fun _ => rfl⟩
theorem RefAt.drewN {b : Nat} {s : ByteArray} {p : Nat} {st : St} {w : World} (h : RefAt b s p st w) (n : Nat) : RefAt b s p st (w.drewN n) := ⟨h.c0, h.c1, h.c2, h.fr, h.lt, h.le, h.rest, h.ok⟩
theorem only_drewN {a w : World} {row : Option Nat} (h : a.grownBy w row) (n : Nat) : a.grownBy (w.drewN n) row := ⟨h.os, h.tape, h.output, h.size, h.block⟩
theorem RefAt.move {b : Nat} {s : ByteArray} {p : Nat} {st : St} {w : World} (h : RefAt b s p st w) (m : Nat) (hm : p + m ≤ s.size) (h0 : st.2 = 0) : RefAt b s (p + m) (s.extract (p + m) s.size, 0) (w.setCell ⟨b, 1, none⟩ (.int .i64 ((p : Int) + m))) :=
 ⟨(World.cell?_setCell_other _ _ _ _ (ne_cell b 1 0 (by decide))).trans h.c0, (World.cell?_setCell_same _ _ _ h.c1).trans (by rw [Int.natCast_add]), (World.cell?_setCell_other _ _ _ _ (ne_cell b 1 2 (by decide))).trans (h.c2.trans (by rw [h0])),
  fun j => by rw [World.frozen?_setCell]; exact h.fr j, by have := h.lt; simp [World.setCell]; exact this, hm, fun _ => rfl, fun h => absurd rfl h⟩
theorem sFail_keep {st : St} {c : Int} (h : c = 0 ∨ st.2 ≠ 0) : sFail st c = st := by
 unfold sFail failRest failErr
 rw [if_pos h, if_pos h]
theorem sFail_set {st : St} {c : Int} (h : c ≠ 0) (h0 : st.2 = 0) : sFail st c = (ByteArray.empty, c) := by
 unfold sFail failRest failErr
 rw [if_neg (by omega), if_neg (by omega)]

set_option maxHeartbeats 400000 in
theorem rfail_at (b : Nat) (s : ByteArray) (p : Nat) (st : St) (c : Int) (w : World) (h : RefAt b s p st w) :
  Calls Tryz.prog 97 #[.pointer (some ⟨b, 0, none⟩), .int .i64 c] w fun x w' => x = .returned (.tuple #[]) ∧ RefAt b s p (sFail st c) w' ∧ w.grownBy w' (some b) := by
 have H := hid h
 have c2 := h.c2
 have fr := h.fr
 clear h
 by_cases h0 : st.2 = 0
 ·rw [h0] at c2
  by_cases hc : c = 0
  ·have E := hid (sFail_keep (st := st) (Or.inl hc))
   have H0 := hid h0
   subst hc
   clear h0
   go_enter Tryz.func97, Tryz.ntmps97
   go_wp2_with fail
   go_end0
   have hsame : w.setCell ⟨b, 2, none⟩ (.int .i64 0) = w.setCell ⟨b, 2, none⟩ (.int .i64 0) := rfl
   clear hsame
   refine ⟨rfl, ?_, only_setCell (World.grownBy.refl w (some b)) rfl _⟩
   rw [E.out]
   have hh := H.out
   exact ⟨(World.cell?_setCell_other _ _ _ _ (ne_cell b 2 0 (by decide))).trans hh.c0, (World.cell?_setCell_other _ _ _ _ (ne_cell b 2 1 (by decide))).trans hh.c1,
    (World.cell?_setCell_same _ _ _ hh.c2).trans (by rw [H0.out]), fun j => by rw [World.frozen?_setCell]; exact hh.fr j, by have := hh.lt; simp [World.setCell]; exact this, hh.le, hh.rest, hh.ok⟩
  ·have E := hid (sFail_set (st := st) hc h0)
   have HC := hid hc
   clear h0 hc
   go_enter Tryz.func97, Tryz.ntmps97
   go_wp2_with fail
   go_end0
   refine ⟨rfl, ?_, only_setCell (World.grownBy.refl w (some b)) rfl _⟩
   rw [E.out]
   exact H.out.code c HC.out
 ·have E := hid (sFail_keep (st := st) (c := c) (Or.inr h0))
  have k0 : (st.2 == 0) = false := by simp; omega
  clear h0
  go_enter Tryz.func97, Tryz.ntmps97
  go_wp2_with fail
  go_end0
  exact ⟨rfl, by rw [E.out]; exact H.out, World.grownBy.refl _ _⟩

theorem sRaw_stop {st : St} {n : Int} (hok : st.ok) (h : st.2 ≠ 0 ∨ n ≤ 0) : rawOut st.1 n = ByteArray.empty ∧ sRaw st n = st := by
 by_cases hn : n ≤ 0
 ·refine ⟨by unfold rawOut; rw [if_pos hn], ?_⟩
  unfold sRaw rawRest rawErr
  rw [if_pos hn, if_neg (by omega)]
 ·have he : st.2 ≠ 0 := by omega
  have hr := hok he
  have hs : (st.1.size : Int) < n := by rw [hr]; simp; omega
  refine ⟨by unfold rawOut; rw [if_neg hn, if_pos hs], ?_⟩
  unfold sRaw rawRest rawErr
  rw [if_neg hn, if_pos hs, if_neg (by omega), ← hr]
theorem sRaw_short {st : St} {n : Int} (h0 : st.2 = 0) (hn : 0 < n) (hs : (st.1.size : Int) < n) : rawOut st.1 n = ByteArray.empty ∧ sRaw st n = sFail st 3 := by
 refine ⟨by unfold rawOut; rw [if_neg (by omega), if_pos hs], ?_⟩
 rw [sFail_set (by decide) h0]
 unfold sRaw rawRest rawErr
 rw [if_neg (by omega), if_pos hs, if_pos ⟨hn, hs, h0⟩]
theorem sRaw_ok {st : St} {s : ByteArray} {p : Nat} {n : Int} (h0 : st.2 = 0) (hn : 0 < n) (hp : p ≤ s.size) (hr : st.1 = s.extract p s.size) (hs : n ≤ (s.size : Int) - p) :
  rawOut st.1 n = s.extract p (p + n.toNat) ∧ sRaw st n = (s.extract (p + n.toNat) s.size, 0) := by
 have hz : st.1.size = s.size - p := by rw [hr, ByteArray.size_extract]; omega
 refine ⟨?_, ?_⟩
 ·unfold rawOut
  rw [if_neg (by omega), if_neg (by omega), hr, ByteArray.extract_extract]
  congr 1
  omega
 ·unfold sRaw rawRest rawErr
  rw [if_neg (by omega), if_neg (by omega), if_neg (by omega), h0, hr, ByteArray.extract_extract]
  congr 2
  rw [ByteArray.size_extract]; omega

theorem RefAt.size {b : Nat} {s : ByteArray} {p : Nat} {st : St} {w : World} (h : RefAt b s p st w) (h0 : st.2 = 0) : (st.1.size : Int) = (s.size : Int) - p := by
 rw [h.rest h0, ByteArray.size_extract]
 have := h.le
 omega

set_option maxHeartbeats 1000000 in
theorem rraw_any (b : Nat) (s : ByteArray) (st : St) (n : Int) (w : World) (h : RefIs b s st w) (hs : s.size ≤ 1000000) :
  Calls Tryz.prog 67 #[.pointer (some ⟨b, 0, none⟩), .int .i64 n] w (RPost b s w (.string (rawOut st.1 n)) (sRaw st n)) := by
 obtain ⟨p, h⟩ := h
 have c0 := h.c0
 have c1 := h.c1
 have c2 := h.c2
 have fr := h.fr
 have hle := h.le
 have H := hid h
 by_cases hstop : st.2 ≠ 0 ∨ n ≤ 0
 ·obtain ⟨e1, e2⟩ := sRaw_stop h.ok hstop
  rw [e1, e2]
  clear h e1 e2
  by_cases hn : n ≤ 0
  ·by_cases h0 : st.2 = 0
   ·rw [h0] at c2
    clear h0 hstop
    go_enter Tryz.func67, Tryz.ntmps67
    go_wp2_with fail
    go_ret
    exact ⟨rfl, ⟨p, H.out⟩, World.grownBy.refl _ _⟩
   ·have k0 : (st.2 != 0) = true := by simp; omega
    clear h0 hstop
    go_enter Tryz.func67, Tryz.ntmps67
    go_wp2_with fail
    go_ret
    exact ⟨rfl, ⟨p, H.out⟩, World.grownBy.refl _ _⟩
  ·have k0 : (st.2 != 0) = true := by simp; omega
   clear hstop
   go_enter Tryz.func67, Tryz.ntmps67
   go_wp2_with fail
   go_ret
   exact ⟨rfl, ⟨p, H.out⟩, World.grownBy.refl _ _⟩
 ·have h0 : st.2 = 0 := by omega
  have hn : 0 < n := by omega
  have hz := h.size h0
  have hr := h.rest h0
  rw [h0] at c2
  by_cases hlt : (st.1.size : Int) < n
  ·obtain ⟨e1, e2⟩ := sRaw_short h0 hn hlt
   rw [e1, e2]
   have hF := rfail_at b s p st 3
   have HF := hid hF
   have hlt' : (s.size : Int) - p < n := by omega
   clear h e1 e2 hF hlt hr hz hstop h0
   go_enter Tryz.func67, Tryz.ntmps67
   go_wp2_with fail
   go_quiet (fail)
   go_wp2_with fail
   refine (HF.out _ (H.out.drewN nq)).mono ?_
   rintro x w1 ⟨rfl, h1, g1⟩
   have H1 := hid h1
   have G1 := hid (post_trans (only_drewN (World.grownBy.refl w (some b)) nq) g1)
   clear h1 g1
   go_wp2_with fail
   go_ret
   exact ⟨rfl, ⟨p, H1.out⟩, G1.out⟩
  ·have hlt' : n ≤ (s.size : Int) - p := by omega
   obtain ⟨e1, e2⟩ := sRaw_ok h0 hn hle hr hlt'
   rw [e1, e2]
   obtain ⟨m, rfl⟩ : ∃ m : Nat, n = (m : Int) := ⟨n.toNat, by omega⟩
   rw [show ((m : Nat) : Int).toNat = m from by omega]
   have H0 := hid h0
   clear h e1 e2 hlt hr hz hstop h0
   have t1 : (p : Int) + m - m = p := by omega
   have t2 : ((p : Int) + m).toNat = p + m := by omega
   have t3 : IntKind.i64.wrap ((p : Int) + m) = (p : Int) + m := by rw [IntKind.wrap_i64]; omega
   have t4 : IntKind.i64.wrap (p : Int) = (p : Int) := by rw [IntKind.wrap_i64]; omega
   have t5 : (p : Int) + m ≤ s.size := by omega
   go_enter Tryz.func67, Tryz.ntmps67
   go_wp2_with fail
   go_quiet (fail)
   go_wp2_with fail
   go_quiet (fail)
   go_wp2_with fail
   go_ret
   refine ⟨rfl, ⟨p + m, ?_⟩, ?_⟩
   ·first
     | exact ((H.out.drewN _).move m (by omega) H0.out).drewN _
     | exact ((H.out.move m (by omega) H0.out).drewN _).drewN _
     | exact (H.out.move m (by omega) H0.out).drewN _
   ·first
     | exact only_drewN (only_setCell (only_drewN (World.grownBy.refl w (some b)) _) rfl _) _
     | exact only_drewN (only_setCell (World.grownBy.refl w (some b)) rfl _) _

theorem rfail_any (b : Nat) (s : ByteArray) (st : St) (c : Int) (w : World) (h : RefIs b s st w) :
  Calls Tryz.prog 97 #[.pointer (some ⟨b, 0, none⟩), .int .i64 c] w (RPost b s w (.tuple #[]) (sFail st c)) := by
 obtain ⟨p, h⟩ := h
 exact (rfail_at b s p st c w h).mono fun _ _ h => ⟨h.1, ⟨p, h.2.1⟩, h.2.2⟩

theorem out_low {r : ByteArray} {n : Int} (hn : n ≤ 8) : rawOut r n = rawOut r (Oct.width n) := by
 by_cases h0 : n ≤ 0
 ·rw [Oct.width_low h0]; unfold rawOut; rw [if_pos h0, if_pos (by simp)]
 ·have e : (Oct.width n : Int) = n := by
   by_cases h8 : n < 8
   ·exact Oct.width_mid (by omega) h8
   ·have : n = 8 := by omega
    subst this; rfl
  rw [e]
theorem raw_low {st : St} {n : Int} (hn : n ≤ 8) : sRaw st n = sRaw st (Oct.width n) := by
 by_cases h0 : n ≤ 0
 ·rw [Oct.width_low h0]
  unfold sRaw rawRest rawErr
  rw [if_pos h0, if_neg (by omega), if_pos (by simp), if_neg (by simp)]
 ·have e : (Oct.width n : Int) = n := by
   by_cases h8 : n < 8
   ·exact Oct.width_mid (by omega) h8
   ·have : n = 8 := by omega
    subst this; rfl
  rw [e]
theorem num_step (X Y : Nat) (hX : X < 256 ^ 7) (hY : Y < 2 ^ 8) : IntKind.u64.wrap (IntKind.u64.wrap ((X : Int) * 256) + IntKind.u64.wrap (Y : Int)) = ((X * 256 + Y : Nat) : Int) := by
 have h7 : X < 72057594037927936 := hX
 have h8 : Y < 256 := hY
 have e : IntKind.u64.wrap ((X : Int) * 256) = ((X * 256 : Nat) : Int) := by rw [IntKind.wrap_u64]; omega
 have e2 : IntKind.u64.wrap (Y : Int) = (Y : Int) := by rw [IntKind.wrap_u64]; omega
 rw [e, e2, IntKind.wrap_u64]
 omega

set_option maxHeartbeats 1000000 in
theorem rnumber_any (b : Nat) (s : ByteArray) (st : St) (n : Int) (w : World) (h : RefIs b s st w) (hs : s.size ≤ 1000000) :
  Calls Tryz.prog 30 #[.pointer (some ⟨b, 0, none⟩), .int .i64 n] w (RPost b s w (.int .u64 ((numVal (rawOut st.1 (Oct.width n)) : Nat) : Int)) (sRaw st (Oct.width n))) := by
 have hr : Calls Tryz.prog 67 #[.pointer (some ⟨b, 0, none⟩), .int .i64 (if n ≤ 8 then n else 8)] w (RPost b s w (.string (rawOut st.1 (Oct.width n))) (sRaw st (Oct.width n))) := by
  by_cases h8 : n ≤ 8
  ·have := rraw_any b s st n w h hs
   rw [out_low h8, raw_low h8] at this
   rw [if_pos h8]
   exact this
  ·have := rraw_any b s st 8 w h hs
   rw [if_neg h8, Oct.width_high (by omega)]
   exact this
 have h1s := rawOut_size st.1 (Oct.width n)
 have hw8 := Oct.width_le n
 generalize rawOut st.1 (Oct.width n : Nat) = t at *
 generalize sRaw st (Oct.width n : Nat) = fin at *
 have h8t : t.size ≤ 8 := by omega
 clear h h1s hw8
 by_cases h8 : n ≤ 8
 ·rw [if_pos h8] at hr
  have HR := hid hr
  clear hr
  go_enter Tryz.func30, Tryz.ntmps30
  go_wp2_with fail
  refine HR.out.mono ?_
  rintro x w1 ⟨rfl, h1, g1⟩
  have H1 := hid h1
  have G1 := hid g1
  clear h1 g1
  go_wp2_with fail
  go_loop [6, 7] (fun x i => ∃ j : Nat, j ≤ t.size ∧ i = .int .i64 j ∧ x = .int .u64 ((Oct.val (t.data.toList.take j) : Nat) : Int)) (fun _ i => t.size - (intOf i).toNat)
  case atStart => exact ⟨0, by omega, rfl, rfl⟩
  case round =>
   obtain ⟨j, hj, rfl, rfl⟩ := hrel
   by_cases hlt : j < t.size
   ·have hl := t[j].toNat_lt
    have HV := hid (val_step t j hlt)
    have hX := Oct.val_lt (t.data.toList.take j)
    have HOR := hid (num_step (Oct.val (t.data.toList.take j)) t[j].toNat (by
     refine Nat.lt_of_lt_of_le hX ?_
     have hlen : (t.data.toList.take j).length ≤ 7 := by simp; omega
     exact Nat.pow_le_pow_right (n := 256) (by decide) hlen) hl)
    clear hX hl
    generalize Oct.val (t.data.toList.take j) = X at *
    go_wp2
    go_round
    case rel => exact ⟨j + 1, by omega, by go_num, by rw [HV.out, HOR.out]⟩
    case measure => simp [intOf]; omega
   ·obtain rfl : j = t.size := by omega
    have HX := hid (show Oct.val (t.data.toList.take t.size) = numVal t by unfold numVal; rw [List.take_of_length_le (by simp)])
    generalize Oct.val (t.data.toList.take t.size) = X at *
    go_wp2
    go_ret
    exact ⟨ret_int (by rw [HX.out]), H1.out, G1.out⟩
 ·rw [if_neg h8] at hr
  have HR := hid hr
  clear hr
  go_enter Tryz.func30, Tryz.ntmps30
  go_wp2_with fail
  refine HR.out.mono ?_
  rintro x w1 ⟨rfl, h1, g1⟩
  have H1 := hid h1
  have G1 := hid g1
  clear h1 g1
  go_wp2_with fail
  go_loop [6, 7] (fun x i => ∃ j : Nat, j ≤ t.size ∧ i = .int .i64 j ∧ x = .int .u64 ((Oct.val (t.data.toList.take j) : Nat) : Int)) (fun _ i => t.size - (intOf i).toNat)
  case atStart => exact ⟨0, by omega, rfl, rfl⟩
  case round =>
   obtain ⟨j, hj, rfl, rfl⟩ := hrel
   by_cases hlt : j < t.size
   ·have hl := t[j].toNat_lt
    have HV := hid (val_step t j hlt)
    have hX := Oct.val_lt (t.data.toList.take j)
    have HOR := hid (num_step (Oct.val (t.data.toList.take j)) t[j].toNat (by
     refine Nat.lt_of_lt_of_le hX ?_
     have hlen : (t.data.toList.take j).length ≤ 7 := by simp; omega
     exact Nat.pow_le_pow_right (n := 256) (by decide) hlen) hl)
    clear hX hl
    generalize Oct.val (t.data.toList.take j) = X at *
    go_wp2
    go_round
    case rel => exact ⟨j + 1, by omega, by go_num, by rw [HV.out, HOR.out]⟩
    case measure => simp [intOf]; omega
   ·obtain rfl : j = t.size := by omega
    have HX := hid (show Oct.val (t.data.toList.take t.size) = numVal t by unfold numVal; rw [List.take_of_length_le (by simp)])
    generalize Oct.val (t.data.toList.take t.size) = X at *
    go_wp2
    go_ret
    exact ⟨ret_int (by rw [HX.out]), H1.out, G1.out⟩

set_option maxHeartbeats 1000000 in
theorem rtextIn_any (b : Nat) (s : ByteArray) (st : St) (m : Int) (w : World) (h : RefIs b s st w) (hs : s.size ≤ 1000000) :
  Calls Tryz.prog 68 #[.pointer (some ⟨b, 0, none⟩), .int .i64 m] w (RPost b s w (.string (oText st m)) (sText st m)) := by
 have hn : Calls Tryz.prog 30 #[.pointer (some ⟨b, 0, none⟩), .int .i64 2] w (RPost b s w (.int .u64 ((sLen st : Nat) : Int)) (sRaw st (2 : Nat))) := rnumber_any b s st 2 w h hs
 have hL := sLen_lt st
 have hr : ∀ W, RefIs b s (sMid st m) W → Calls Tryz.prog 67 #[.pointer (some ⟨b, 0, none⟩), .int .i64 (sLen st : Int)] W (RPost b s W (.string (oText st m)) (sText st m)) := fun W hW =>
  rraw_any b s (sMid st m) (sLen st) W hW hs
 have hf : ∀ W, RefIs b s (sRaw st (2 : Nat)) W → Calls Tryz.prog 97 #[.pointer (some ⟨b, 0, none⟩), .int .i64 5] W (RPost b s W (.tuple #[]) (sFail (sRaw st (2 : Nat)) 5)) := fun W hW =>
  rfail_any b s _ 5 W hW
 have e : sMid st m = if m < (sLen st : Int) then sFail (sRaw st (2 : Nat)) 5 else sRaw st (2 : Nat) := rfl
 generalize sMid st m = mid at *
 generalize sText st m = fin at *
 generalize oText st m = out at *
 generalize sLen st = L at *
 generalize sRaw st (2 : Nat) = one at *
 have HN := hid hn
 have HF := hid hf
 have HR := hid hr
 clear h hn hr hf
 by_cases hm : m < (L : Int)
 ·rw [if_pos hm] at e
  have EE := hid e
  clear e
  go_enter Tryz.func68, Tryz.ntmps68
  go_wp2_with fail
  refine HN.out.mono ?_
  rintro x w1 ⟨rfl, h1, g1⟩
  have H1 := hid h1
  have G1 := hid g1
  clear h1 g1
  go_wp2_with fail
  refine (HF.out _ H1.out).mono ?_
  rintro x w2 ⟨rfl, h2, g2⟩
  have H2 := hid h2
  have G2 := hid g2
  clear h2 g2
  go_wp2_with fail
  refine (HR.out _ (by rw [EE.out]; exact H2.out)).mono ?_
  rintro x w3 ⟨rfl, h3, g3⟩
  have H3 := hid h3
  have G3 := hid g3
  clear h3 g3
  go_wp2_with fail
  go_ret
  exact ⟨rfl, H3.out, post_trans (post_trans G1.out G2.out) G3.out⟩
 ·rw [if_neg hm] at e
  have EE := hid e
  clear e
  go_enter Tryz.func68, Tryz.ntmps68
  go_wp2_with fail
  refine HN.out.mono ?_
  rintro x w1 ⟨rfl, h1, g1⟩
  have H1 := hid h1
  have G1 := hid g1
  clear h1 g1
  go_wp2_with fail
  refine (HR.out _ (by rw [EE.out]; exact H1.out)).mono ?_
  rintro x w3 ⟨rfl, h3, g3⟩
  have H3 := hid h3
  have G3 := hid g3
  clear h3 g3
  go_wp2_with fail
  go_ret
  exact ⟨rfl, H3.out, post_trans G1.out G3.out⟩

def Quiet (w : World) (v : Value) (x : Ending) (w' : World) : Prop := x = .returned v ∧ ∃ n, w' = w.drewN n
end Go.Proofs.YtaikigponkjkgaaGreatDoor
end
