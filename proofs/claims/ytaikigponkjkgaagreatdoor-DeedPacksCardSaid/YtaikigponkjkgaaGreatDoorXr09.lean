/-
 A part of the proof.
-/
import Derived.Test.YtaikigponkjkgaaGreatDoorXr08

section
namespace Go.Proofs.YtaikigponkjkgaaGreatDoor
open Go.ChangeShapes Go.WideShapes Go.ChangeAt Go.RowKit
open Go.Lib (hid)
def seen (bs : List (List UInt8)) (m : Nat) (x : List UInt8) : Bool := (bs.take m).contains x
theorem key_long (bs : List (List UInt8)) {l : List UInt8} (h : 64 < l.length) : Wrd.keyCode bs l = 5 := by unfold Wrd.keyCode; rw [if_pos h]
theorem key_ok {bs : List (List UInt8)} {l : List UInt8} (h : ¬ 64 < l.length) (ha : (Wrd.words l).all (Wrd.okWord bs) = true) : Wrd.keyCode bs l = 0 := by unfold Wrd.keyCode; rw [if_neg h, if_pos ha]
theorem key_form {bs : List (List UInt8)} {l : List UInt8} (h : ¬ 64 < l.length) (ha : (Wrd.words l).all (Wrd.okWord bs) = false) : Wrd.keyCode bs l = 4 := by unfold Wrd.keyCode; rw [if_neg h, if_neg (by rw [ha]; simp)]
theorem ok_take (bs ws : List (List UInt8)) (k : Nat) (h : k < ws.length) : (ws.take (k + 1)).all (Wrd.okWord bs) = ((ws.take k).all (Wrd.okWord bs) && Wrd.okWord bs ws[k]) := by
 rw [List.take_succ_eq_append_getElem h, List.all_append]; simp
theorem ok_not {bs ws : List (List UInt8)} {k : Nat} (h : k < ws.length) (hm : Wrd.okWord bs ws[k] = false) : ws.all (Wrd.okWord bs) = false := by
 rw [List.all_eq_false]
 exact ⟨ws[k], List.getElem_mem h, by rw [hm]; simp⟩
theorem seen_succ (bs : List (List UInt8)) (m : Nat) (x : List UInt8) (h : m < bs.length) : seen bs (m + 1) x = (seen bs m x || x == bs[m]) := by
 unfold seen; rw [List.take_succ_eq_append_getElem h, Bool.eq_iff_iff]; simp only [List.contains_iff_mem, Bool.or_eq_true, beq_iff_eq, List.mem_append, List.mem_singleton]
theorem seen_part {bs : List (List UInt8)} {m : Nat} {x : List UInt8} (h : seen bs m x = true) : bs.contains x = true := by
 unfold seen at h
 rw [List.contains_iff_mem] at *
 exact List.mem_of_mem_take h
def KeyOut (bs ws : List (List UInt8)) (w0 : World) (g : Nat) (i : Value) (wr : World) : Prop :=
 ∃ k : Nat, k + g = ws.length ∧ i = .int .i64 (k : Int) ∧ (ws.take k).all (Wrd.okWord bs) = true ∧ w0 = wr
def KeyIn (bs : List (List UInt8)) (x : List UInt8) (w0 : World) (g : Nat) (i : Value) (wr : World) : Prop :=
 ∃ m : Nat, m + g = bs.length ∧ i = .int .i64 (m : Int) ∧ seen bs m x = false ∧ w0 = wr
set_option maxHeartbeats 2000000 in
theorem keyed_any (l : List UInt8) (bs : List (List UInt8)) (p : Option Addr) (cap : Nat) (w : World) (hl : l.length ≤ 100000) (hL : Len w) (hbs : bs.length ≤ 1000)
  (hr : Reads w p bs) : Calls Tryz.prog 123 #[.string (ofL l), .slice p bs.length cap] w fun e w' => e = .returned (.int .i64 (Wrd.keyCode bs l : Int)) ∧ Below w.heap.size w w' := by
 have hsz : (ofL l).size = l.length := ofL_size l
 by_cases h64 : 64 < l.length
 ·have HC := hid (key_long bs h64)
  have hs : 64 < (ofL l).size := by omega
  clear hr
  go_enter Tryz.func123, Tryz.ntmps123
  go_wp2_with fail
  go_step3
  go_wp2_with fail
  rw [Exit.noGoto_ret]
  go_ret
  exact ⟨ret_nat (by rw [HC.out]; rfl), Below.refl _ _⟩
 ·have hs : ¬ 64 < (ofL l).size := by omega
  have HS := hid (split_any l w hl hL)
  have HR := hid hr
  have HOK := hid (fun h => key_ok (bs := bs) h64 h)
  have HBAD := hid (fun h => key_form (bs := bs) h64 h)
  have HWP := hid (Wrd.words_part l)
  have hwl := Wrd.words_len l
  generalize Wrd.words l = ws at *
  generalize Wrd.keyCode bs l = C at *
  generalize ofL l = s at *
  clear hr
  go_enter Tryz.func123, Tryz.ntmps123
  go_wp2_with fail
  go_step3
  go_wp2_with fail
  go_step3
  go_wp2_with fail
  refine HS.out.mono ?_
  rintro e w1 ⟨v, rfl, hown, hB⟩
  obtain ⟨q, cq, rfl, hq⟩ := reads_own hown
  have HQ := hid hq
  have HR1 := hid (HR.out.on hB)
  have HBB := hid hB
  clear hown hB hq
  go_wp2_with fail
  go_loopg [15] ws.length (fun g i wr => KeyOut bs ws w1 g i wr)
  case atStart => exact ⟨0, by omega, rfl, by simp, rfl⟩
  case round =>
   obtain ⟨k, hk, rfl, hall, rfl⟩ := hrel
   have HALL := hid hall
   clear hall
   by_cases hlt : k < ws.length
   ·obtain ⟨gq, rfl, hcell⟩ := HQ.out k hlt
    obtain ⟨x, hx⟩ : ∃ x, x = ws[k] := ⟨_, rfl⟩
    rw [← hx] at hcell
    have HX := hid hx
    have HT := hid (ok_take bs ws k hlt)
    have HN := hid (fun h => ok_not (bs := bs) hlt h)
    have hxl : x.length ≤ 100000 := by have := HWP.out _ (List.getElem_mem hlt); rw [← hx] at this; omega
    have HPL := hid (fun W => plain_any x W hxl)
    clear hx
    go_wp2_with fail
    obtain ⟨g0, hg0⟩ : ∃ g0, g0 = gk := ⟨_, rfl⟩
    go_loopg [21] bs.length (fun g i wr => KeyIn bs x w1 g i wr)
    case atStart => exact ⟨0, by omega, rfl, by simp [seen], rfl⟩
    case round =>
     obtain ⟨m, hm, rfl, hseen, rfl⟩ := hrel
     have HSE := hid hseen
     clear hseen
     by_cases hlm : m < bs.length
     ·obtain ⟨gp, hp, hcp⟩ := HR1.out m hlm
      have HSS := hid (seen_succ bs m x hlm)
      generalize bs[m] = y at *
      by_cases hxy : x = y
      ·have hxs : ((ofL x).toList == (ofL y).toList) = true := by rw [ofL_str, ofL_str, hxy]; simp
       have HF := hid (show (ws.take (k + 1)).all (Wrd.okWord bs) = true by
        rw [HT.out, HALL.out, ← HX.out]; unfold Wrd.okWord; rw [seen_part (m := m + 1) (by rw [HSS.out, hxy]; simp)]; rfl)
       clear hxy
       subst hp
       go_wp2_with fail
       go_roundg (g0 - 1)
       case rel => exact ⟨k + 1, by omega, by go_num, HF.out, rfl⟩
       case measure => omega
      ·have hxs : ((ofL x).toList == (ofL y).toList) = false := by rw [ofL_str, ofL_str]; exact beq_eq_false_iff_ne.2 hxy
       have HF := hid (show seen bs (m + 1) x = false by rw [HSS.out, HSE.out, beq_eq_false_iff_ne.2 hxy]; rfl)
       clear hxy
       subst hp
       go_wp2_with fail
       go_roundg (gk - 1)
       case rel => exact ⟨m + 1, by omega, by go_num, HF.out, rfl⟩
       case measure => omega
     ·have hmb : m = bs.length := by omega
      have hno : bs.contains x = false := by have := HSE.out; unfold seen at this; rw [hmb, List.take_length] at this; exact this
      clear hmb
      cases hpl : Wrd.plain x with
      | true =>
       have HF := hid (show (ws.take (k + 1)).all (Wrd.okWord bs) = true by
        rw [HT.out, HALL.out, ← HX.out]; unfold Wrd.okWord; rw [hpl, Bool.or_true]; rfl)
       rw [hpl] at HPL
       clear hpl hno
       go_wp2_with fail
       refine (HPL.out _).mono ?_
       rintro e w' ⟨rfl, rfl⟩
       go_wp2_with fail
       go_roundg (g0 - 1)
       case rel => exact ⟨k + 1, by omega, by go_num, HF.out, rfl⟩
       case measure => omega
      | false =>
       have HF := hid (show C = 4 from HBAD.out (HN.out (by rw [← HX.out]; unfold Wrd.okWord; rw [hpl, hno]; rfl)))
       rw [hpl] at HPL
       clear hpl hno
       go_wp2_with fail
       refine (HPL.out _).mono ?_
       rintro e w' ⟨rfl, rfl⟩
       go_wp2_with fail
       rw [Exit.noGoto_ret]
       go_ret
       exact ⟨ret_nat (by rw [HF.out]; rfl), HBB.out⟩
   ·have hkl : k = ws.length := by omega
    have HF := hid (HOK.out (by have := HALL.out; rw [hkl, List.take_length] at this; exact this))
    clear hkl
    go_wp2_with fail
    rw [Exit.noGoto_ret]
    go_ret
    exact ⟨ret_nat (by rw [HF.out]; rfl), HBB.out⟩
set_option maxHeartbeats 1000000 in
theorem key_any (l : List UInt8) (w : World) (hl : l.length ≤ 100000) (hL : Len w) : Calls Tryz.prog 104 #[.string (ofL l)] w fun e w' => e = .returned (.int .i64 (Wrd.keyCode [] l : Int)) ∧ Below w.heap.size w w' := by
 have HC := hid (keyed_any l [] none 0 w hl hL (by simp) (fun j h => absurd h (by simp)))
 generalize Wrd.keyCode [] l = C at *
 generalize ofL l = s at *
 go_enter Tryz.func104, Tryz.ntmps104
 go_wp2_with fail
 refine HC.out.mono ?_
 rintro e w1 ⟨rfl, hB⟩
 have HB := hid hB
 clear hB
 go_wp2_with fail
 go_ret
 exact ⟨rfl, HB.out⟩
def wild : List (List UInt8) := [Wrd.star, Wrd.hash]
theorem wild_at (w : World) (hL : Len w) (l : List UInt8) (hl : l.length ≤ 100000) :
  Calls Tryz.prog 123 #[.string (ofL l), .slice (some ⟨w.heap.size, 0, none⟩) 2 2] (w.alloc (.cells #[.string ⟨#[42]⟩, .string ⟨#[35]⟩] 9)) fun e w' => e = .returned (.int .i64 (Wrd.keyCode wild l : Int)) ∧ Below w.heap.size w w' := by
 have hB : Below w.heap.size w (w.alloc (.cells #[.string ⟨#[42]⟩, .string ⟨#[35]⟩] 9)) := (Below.refl _ _).alloc (Nat.le_refl _) _
 obtain ⟨p, cap, e, hr⟩ := reads_own (own_new w wild (by decide))
 injection e with e1 _ _
 subst e1
 refine (keyed_any l wild (some ⟨w.heap.size, 0, none⟩) 2 _ hl (hL.on hB) (by decide) hr).mono ?_
 rintro e w' ⟨rfl, h⟩
 exact ⟨rfl, hB.trans (h.mono hB.size)⟩
set_option maxHeartbeats 1000000 in
theorem pattern_any (l : List UInt8) (w : World) (hl : l.length ≤ 100000) (hL : Len w) : Calls Tryz.prog 149 #[.string (ofL l)] w fun e w' => e = .returned (.int .i64 (Wrd.keyCode wild l : Int)) ∧ Below w.heap.size w w' := by
 have HC := hid (wild_at w hL l hl)
 generalize Wrd.keyCode wild l = C at *
 generalize ofL l = s at *
 go_enter Tryz.func149, Tryz.ntmps149
 go_wp2_with fail
 refine HC.out.mono ?_
 rintro e w1 ⟨rfl, hB⟩
 have HB := hid hB
 clear hB
 go_wp2_with fail
 go_ret
 exact ⟨rfl, HB.out⟩
def wildIf (b : Bool) : List (List UInt8) := if b then wild else []
def BadSt (x : List UInt8) (w0 : World) (g : Nat) (o i : Value) (wr : World) : Prop :=
 ∃ (m : Nat) (b : Bool), m + g = x.length ∧ i = .int .i64 (m : Int) ∧ o = .bool b ∧ b = (decide (x.length = 0) || !(x.take m).all Wrd.mark) ∧ w0 = wr
theorem bad_succ {x : List UInt8} {m : Nat} {b : Bool} (h : m < x.length) (hb : b = (decide (x.length = 0) || !(x.take m).all Wrd.mark)) : (b || !Wrd.mark (x[m]'h)) = (decide (x.length = 0) || !(x.take (m + 1)).all Wrd.mark) := by
 rw [all_take x m h, hb, Bool.not_and, Bool.or_assoc]
theorem bad_end {x : List UInt8} {b : Bool} (hb : b = (decide (x.length = 0) || !(x.take x.length).all Wrd.mark)) : Wrd.plain x = !b := by
 rw [hb, List.take_length]; unfold Wrd.plain; cases x.all Wrd.mark <;> simp
set_option maxHeartbeats 2000000 in
theorem rkey_any (l : List UInt8) (pat : Bool) (w : World) (hl : l.length ≤ 100000) : Calls Tryz.prog 93 #[.string (ofL l), .bool pat] w fun e w' => e = .returned (.int .i64 (Wrd.keyCode (wildIf pat) l : Int)) ∧ Below w.heap.size w w' := by
 have hsz : (ofL l).size = l.length := ofL_size l
 by_cases h64 : 64 < l.length
 ·have HC := hid (key_long (wildIf pat) h64)
  have hs : 64 < (ofL l).size := by omega
  go_enter Tryz.func93, Tryz.ntmps93
  go_wp2_with fail
  go_ret
  exact ⟨ret_nat (by rw [HC.out]; rfl), Below.refl _ _⟩
 ·have hs : ¬ 64 < (ofL l).size := by omega
  have HS := hid (rsplit_any l w hl)
  have HOK := hid (fun h => key_ok (bs := wildIf pat) h64 h)
  have HBAD := hid (fun h => key_form (bs := wildIf pat) h64 h)
  have HWP := hid (Wrd.words_part l)
  have hwl := Wrd.words_len l
  generalize Wrd.words l = ws at *
  generalize Wrd.keyCode (wildIf pat) l = C at *
  generalize ofL l = s at *
  go_enter Tryz.func93, Tryz.ntmps93
  go_wp2_with fail
  refine HS.out.mono ?_
  rintro e w1 ⟨v, rfl, hown, hB⟩
  obtain ⟨q, cq, rfl, hq⟩ := reads_own hown
  have HQ := hid hq
  have HBB := hid hB
  clear hown hB hq
  go_wp2_with fail
  go_loopg [15] ws.length (fun g i wr => KeyOut (wildIf pat) ws w1 g i wr)
  case atStart => exact ⟨0, by omega, rfl, by simp, rfl⟩
  case round =>
   obtain ⟨k, hk, rfl, hall, rfl⟩ := hrel
   have HALL := hid hall
   clear hall
   by_cases hlt : k < ws.length
   ·obtain ⟨gq, rfl, hcell⟩ := HQ.out k hlt
    obtain ⟨x, hx⟩ : ∃ x, x = ws[k] := ⟨_, rfl⟩
    rw [← hx] at hcell
    have HX := hid hx
    have HT := hid (ok_take (wildIf pat) ws k hlt)
    have HN := hid (fun h => ok_not (bs := wildIf pat) hlt h)
    have hxl : x.length ≤ 100000 := by have := HWP.out _ (List.getElem_mem hlt); rw [← hx] at this; omega
    have HYY : ∃ y : ByteArray, w1.cell? ⟨gq, k, none⟩ = some (.string y) ∧ ∃ hxz : y.size = x.length, y.toList = x ∧ Hid (∀ p (h : p < x.length), y[p]'(by rw [hxz]; exact h) = x[p]) :=
     ⟨ofL x, hcell, ofL_size x, ofL_str x, fun p h => rfl⟩
    clear hcell
    obtain ⟨y, hcell, hxz, hxs, HG⟩ := HYY
    have HXS := hid hxs
    clear hxs
    have HSUC := hid (fun m b h hb => bad_succ (x := x) (m := m) (b := b) h hb)
    have HEND := hid (fun b hb => bad_end (x := x) (b := b) hb)
    clear hx
    obtain ⟨g0, hg0⟩ : ∃ g0, g0 = gk := ⟨_, rfl⟩
    go_wp2_with fail
    go_loopg [7, 8] x.length (fun g o i wr => BadSt x w1 g o i wr)
    case atStart => exact ⟨0, decide (x.length = 0), by omega, rfl, congrArg Value.bool (by rw [Bool.eq_iff_iff]; simp), by simp, rfl⟩
    case round =>
     obtain ⟨m, b, hm, rfl, rfl, hb, rfl⟩ := hrel
     have HBD := hid hb
     clear hb
     by_cases hlm : m < x.length
     ·have hms : m < y.size := by omega
      have HM := hid (fun W => letter_any (y[m]'hms) W)
      have HSU := hid (HSUC.out m b hlm HBD.out)
      rw [← HG.out m hlm] at HSU
      cases b with
      | true =>
       go_wp2_with fail
       go_roundg (gk - 1)
       case rel => exact ⟨m + 1, true, by omega, by go_num, rfl, by have := HSU.out; rw [Bool.true_or] at this; exact this, rfl⟩
       case measure => omega
      | false =>
       rw [Bool.false_or] at HSU
       cases hmk : Wrd.mark (y[m]'hms) with
       | true =>
        rw [hmk] at HM HSU
        clear hmk
        go_wp2_with fail
        refine (HM.out _).mono ?_
        rintro e w' ⟨rfl, rfl⟩
        go_wp2_with fail
        go_roundg (gk - 1)
        case rel => exact ⟨m + 1, false, by omega, by go_num, rfl, HSU.out, rfl⟩
        case measure => omega
       | false =>
        rw [hmk] at HM HSU
        clear hmk
        go_wp2_with fail
        refine (HM.out _).mono ?_
        rintro e w' ⟨rfl, rfl⟩
        go_wp2_with fail
        go_roundg (gk - 1)
        case rel => exact ⟨m + 1, true, by omega, by go_num, rfl, HSU.out, rfl⟩
        case measure => omega
     ·have hmx : m = x.length := by omega
      have hpl := HEND.out b (by have := HBD.out; rw [hmx] at this; exact this)
      have hms : ¬ m < y.size := by omega
      have hokw : Wrd.okWord (wildIf pat) x = ((pat && (x == Wrd.star || x == Wrd.hash)) || !b) := by
       unfold Wrd.okWord; rw [hpl]; rw [Bool.eq_iff_iff]; cases pat <;> simp [wildIf, wild]
      clear hmx hpl
      cases b with
      | false =>
       have HF := hid (show (ws.take (k + 1)).all (Wrd.okWord (wildIf pat)) = true by
        rw [HT.out, HALL.out, ← HX.out, hokw]; simp)
       clear hokw
       go_wp2_with fail
       go_roundg (g0 - 1)
       case rel => exact ⟨k + 1, by omega, by go_num, HF.out, rfl⟩
       case measure => omega
      | true =>
       have HBF := hid (fun h : Wrd.okWord (wildIf pat) x = false => show C = 4 from HBAD.out (HN.out (by rw [← HX.out]; exact h)))
       have HOF := hid (fun h : Wrd.okWord (wildIf pat) x = true => show (ws.take (k + 1)).all (Wrd.okWord (wildIf pat)) = true by
        rw [HT.out, HALL.out, ← HX.out, h]; rfl)
       cases pat with
       | false =>
        have HF := hid (HBF.out (by rw [hokw]; rfl))
        clear hokw
        go_wp2_with fail
        go_ret
        exact ⟨ret_nat (by rw [HF.out]; rfl), HBB.out⟩
       | true =>
        have e1 : (y.toList == [42]) = (x == Wrd.star) := by rw [HXS.out]; rfl
        have e2 : (y.toList == [35]) = (x == Wrd.hash) := by rw [HXS.out]; rfl
        cases h1 : x == Wrd.star with
        | true =>
         have HF := hid (HOF.out (by rw [hokw, h1]; rfl))
         rw [h1] at e1
         clear hokw h1 e2
         go_wp2_with fail
         go_roundg (g0 - 1)
         case rel => exact ⟨k + 1, by omega, by go_num, HF.out, rfl⟩
         case measure => omega
        | false =>
         rw [h1] at e1
         cases h2 : x == Wrd.hash with
         | true =>
          have HF := hid (HOF.out (by rw [hokw, h1, h2]; rfl))
          rw [h2] at e2
          clear hokw h1 h2
          go_wp2_with fail
          go_roundg (g0 - 1)
          case rel => exact ⟨k + 1, by omega, by go_num, HF.out, rfl⟩
          case measure => omega
         | false =>
          have HF := hid (HBF.out (by rw [hokw, h1, h2]; rfl))
          rw [h2] at e2
          clear hokw h1 h2
          go_wp2_with fail
          go_ret
          exact ⟨ret_nat (by rw [HF.out]; rfl), HBB.out⟩
   ·have hkl : k = ws.length := by omega
    have HF := hid (HOK.out (by have := HALL.out; rw [hkl, List.take_length] at this; exact this))
    clear hkl
    go_wp2_with fail
    go_ret
    exact ⟨ret_nat (by rw [HF.out]; rfl), HBB.out⟩
end Go.Proofs.YtaikigponkjkgaaGreatDoor
end
