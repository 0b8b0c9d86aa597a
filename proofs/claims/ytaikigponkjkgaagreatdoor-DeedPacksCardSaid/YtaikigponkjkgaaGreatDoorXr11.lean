/-
 A part of the proof.
-/
import Derived.Test.YtaikigponkjkgaaGreatDoorXr10
import Derived.Deep.OwnRows
section
namespace Go.Proofs.YtaikigponkjkgaaGreatDoor
open Go.ChangeShapes Go.WideShapes Go.ChangeAt Go.RowKit
open Go.Lib (hid)
theorem info4 : (Tryz.prog.info? 4).map (fun i => (i.zero, i.size, i.bytes)) = some (some (.bool false), 1, 1) := by kernel_rfl
def Row (w : World) (g n : Nat) (f : Nat → Bool) : Prop := w.rowIs g 4 n (fun j => .bool (f j))
def upto (k : Nat) (f : Nat → Bool) : Nat → Bool := fun j => decide (j < k) && f j
theorem Row.made (w : World) (n : Nat) (f : Nat → Bool) : Row (w.alloc (.cells (madeCells #[.bool false] n) 4)) w.heap.size n (upto 0 f) :=
 (World.rowIs_made w (.bool false) n 4).congr fun _ _ => by unfold upto; simp
theorem Row.put {w : World} {g n k : Nat} {f : Nat → Bool} (h : Row w g n (upto k f)) {b : Bool} (hb : b = f k) : Row (w.setCell ⟨g, k, none⟩ (.bool b)) g n (upto (k + 1) f) := by
 refine (World.rowIs.set h k (.bool b)).congr fun j _ => ?_
 unfold upto
 by_cases e : j = k
 ·rw [if_pos e, hb, e]; simp
 ·rw [if_neg e]
  have : decide (j < k + 1) = decide (j < k) := by rw [Bool.eq_iff_iff]; simp; omega
  rw [this]
theorem Row.pass {w : World} {g n k : Nat} {f : Nat → Bool} (h : Row w g n (upto k f)) (hb : f k = false) : Row w g n (upto (k + 1) f) := by
 refine World.rowIs.congr h fun j _ => ?_
 unfold upto
 by_cases e : j = k
 ·rw [e, hb]; simp
 ·have : decide (j < k + 1) = decide (j < k) := by rw [Bool.eq_iff_iff]; simp; omega
  rw [this]
theorem Row.all {w : World} {g n : Nat} {f : Nat → Bool} (h : Row w g n (upto n f)) : Row w g n f :=
 World.rowIs.congr h fun j hj => by unfold upto; simp [hj]
theorem Row.cell {w : World} {g n : Nat} {f : Nat → Bool} (h : Row w g n f) {j : Nat} (hj : j < n) : w.cell? ⟨g, j, none⟩ = some (.bool (f j)) := World.rowIs.cell h hj
theorem Row.on {w w' : World} {g n B : Nat} {f : Nat → Bool} (h : Row w g n f) (hb : Below B w w') (hg : g < B) : Row w' g n f := World.rowIs.of_block h (hb.block g hg)
theorem Row.lt {w : World} {g n : Nat} {f : Nat → Bool} (h : Row w g n f) : g < w.heap.size := World.rowIs.lt h
theorem Row.free {w : World} {g n : Nat} {f : Nat → Bool} (h : Row w g n f) (j : Nat) : w.frozen? ⟨g, j, none⟩ = false := World.rowIs.frozen h j
theorem upto_at {k j : Nat} (f : Nat → Bool) (h : j < k) : upto k f j = f j := by unfold upto; simp [h]
theorem nx_zero (one : List UInt8) (ws : List (List UInt8)) (f : Nat → Bool) : Wrd.nx one ws f 0 = ((one == Wrd.hash) && f 0) := rfl
theorem nx_succ (one : List UInt8) (ws : List (List UInt8)) (f : Nat → Bool) (j : Nat) (h : j < ws.length) :
  Wrd.nx one ws f (j + 1) = if one == Wrd.hash then f (j + 1) || Wrd.nx one ws f j else f j && (one == Wrd.star || one == ws[j]) := by
 rw [Wrd.nx, List.getD_eq_getElem?_getD, List.getElem?_eq_getElem h]; rfl
def NextSt (one : List UInt8) (ws : List (List UInt8)) (f : Nat → Bool) (w : World) (B n g : Nat) (i : Value) (wr : World) : Prop :=
 ∃ k : Nat, k + g = n ∧ i = .int .i64 (k : Int) ∧ Row wr B n (upto k (Wrd.nx one ws f)) ∧ Below B w wr
theorem str_eq (x y : List UInt8) : ((ofL x).toList == (ofL y).toList) = (x == y) := by rw [ofL_str, ofL_str]
set_option maxRecDepth 8000 in
set_option maxHeartbeats 4000000 in
theorem behind_any (one : List UInt8) (ws : List (List UInt8)) (f : Nat → Bool) (p : Option Addr) (cap gb cf : Nat) (w : World) (hws : ws.length ≤ 100000) (hr : Reads w p ws) (hf : Row w gb (ws.length + 1) f) :
  Calls Tryz.prog 145 #[.string (ofL one), .slice p ws.length cap, .slice (some ⟨gb, 0, none⟩) (ws.length + 1 : Nat) cf] w fun e w' =>
   e = .returned (.slice (some ⟨w.heap.size, 0, none⟩) (ws.length + 1 : Nat) (ws.length + 1 : Nat)) ∧ Row w' w.heap.size (ws.length + 1) (Wrd.nx one ws f) ∧ Below w.heap.size w w' := by
 have HR := hid hr
 have HF := hid hf
 have HN0 := hid (nx_zero one ws f)
 have HNS := hid (fun j h => nx_succ one ws f j h)
 have HM := hid (Row.made w (ws.length + 1) (Wrd.nx one ws f))
 have HB0 := hid (show Below w.heap.size w (w.alloc (.cells (madeCells #[.bool false] (ws.length + 1)) 4)) from (Below.refl _ _).alloc (Nat.le_refl _) _)
 obtain ⟨n, hn⟩ : ∃ n, n = ws.length + 1 := ⟨_, rfl⟩
 rw [← hn] at HF HM HB0
 rw [← hn]
 have hn1 : ws.length < n := by omega
 have hn2 : n ≤ ws.length + 1 := by omega
 clear hr hf hn
 have hmk := run_make_row' (P := Tryz.prog) 182 4 (.bool false) 1 Tryz.underlying182 info4 rfl .i64 .i64 n (by omega) (by omega)
 go_enter Tryz.func145, Tryz.ntmps145
 go_wp2_with fail
 go_loopg [14] n (fun g i wr => NextSt one ws f w w.heap.size n g i wr)
 case atStart => exact ⟨0, by omega, rfl, HM.out, HB0.out⟩
 case round =>
  obtain ⟨k, hk, rfl, hrow, hB⟩ := hrel
  have HROW := hid hrow
  have HB := hid hB
  have HFR := hid (HF.out.on hB HF.out.lt)
  have HRR := hid (HR.out.on hB)
  clear hrow hB
  by_cases hlt : k < n
  ·have hfz := HROW.out.free k
   have hck := HROW.out.cell hlt
   cases h35 : one == Wrd.hash with
   | true =>
    have e35 : ((ofL one).toList == [35]) = true := by rw [ofL_str]; exact h35
    have hcf := HFR.out.cell hlt
    cases k with
    | zero =>
     have HV := hid (show f 0 = Wrd.nx one ws f 0 by rw [HN0.out, h35]; rfl)
     clear h35
     cases hb : f 0 with
     | true =>
      rw [hb] at HV hcf
      clear hb
      go_wp2_with fail
      go_roundg (gk - 1)
      case rel => exact ⟨0 + 1, by omega, by go_num, HROW.out.put HV.out, HB.out.setCell (Nat.le_refl _) _⟩
      case measure => omega
     | false =>
      rw [hb] at HV hcf
      clear hb
      go_wp2_with fail
      go_roundg (gk - 1)
      case rel => exact ⟨0 + 1, by omega, by go_num, HROW.out.put HV.out, HB.out.setCell (Nat.le_refl _) _⟩
      case measure => omega
    | succ j =>
     have hjw : j < ws.length := by omega
     have HV := hid (show (f (j + 1) || Wrd.nx one ws f j) = Wrd.nx one ws f (j + 1) by rw [HNS.out j hjw, if_pos h35])
     have hcn := HROW.out.cell (j := j) (by omega)
     rw [upto_at _ (Nat.lt_succ_self j)] at hcn
     clear h35
     cases hb : f (j + 1) with
     | true =>
      rw [hb] at HV hcf
      clear hb
      go_wp2_with fail
      go_roundg (gk - 1)
      case rel => exact ⟨j + 1 + 1, by omega, by go_num, HROW.out.put (by have := HV.out; rw [Bool.true_or] at this; exact this), HB.out.setCell (Nat.le_refl _) _⟩
      case measure => omega
     | false =>
      rw [hb] at HV hcf
      clear hb
      generalize Wrd.nx one ws f j = c at hcn HV
      go_wp2_with fail
      go_roundg (gk - 1)
      case rel => exact ⟨j + 1 + 1, by omega, by go_num, HROW.out.put (by have := HV.out; rw [Bool.false_or] at this; exact this), HB.out.setCell (Nat.le_refl _) _⟩
      case measure => omega
   | false =>
    have e35 : ((ofL one).toList == [35]) = false := by rw [ofL_str]; exact h35
    cases k with
    | zero =>
     have HV := hid (show Wrd.nx one ws f 0 = false by rw [HN0.out, h35]; rfl)
     clear h35
     go_wp2_with fail
     go_roundg (gk - 1)
     case rel => exact ⟨0 + 1, by omega, by go_num, HROW.out.pass HV.out, HB.out⟩
     case measure => omega
    | succ j =>
     have hjw : j < ws.length := by omega
     have HV := hid (show (f j && (one == Wrd.star || one == ws[j])) = Wrd.nx one ws f (j + 1) by rw [HNS.out j hjw, if_neg (by rw [h35]; simp)])
     have hcf := HFR.out.cell (j := j) (by omega)
     obtain ⟨gp, rfl, hcw⟩ := HRR.out j hjw
     clear h35
     cases hb : f j with
     | false =>
      rw [hb] at HV hcf
      clear hb
      go_wp2_with fail
      go_roundg (gk - 1)
      case rel => exact ⟨j + 1 + 1, by omega, by go_num, HROW.out.put (by have := HV.out; rw [Bool.false_and] at this; exact this), HB.out.setCell (Nat.le_refl _) _⟩
      case measure => omega
     | true =>
      rw [hb, Bool.true_and] at HV
      rw [hb] at hcf
      clear hb
      cases h42 : one == Wrd.star with
      | true =>
       have e42 : ((ofL one).toList == [42]) = true := by rw [ofL_str]; exact h42
       rw [h42, Bool.true_or] at HV
       clear h42
       go_wp2_with fail
       go_roundg (gk - 1)
       case rel => exact ⟨j + 1 + 1, by omega, by go_num, HROW.out.put HV.out, HB.out.setCell (Nat.le_refl _) _⟩
       case measure => omega
      | false =>
       have e42 : ((ofL one).toList == [42]) = false := by rw [ofL_str]; exact h42
       rw [h42, Bool.false_or] at HV
       clear h42
       cases hq : one == ws[j] with
       | true =>
        have eq1 : ((ofL one).toList == (ofL ws[j]).toList) = true := by rw [str_eq]; exact hq
        rw [hq] at HV
        clear hq
        go_wp2_with fail
        go_roundg (gk - 1)
        case rel => exact ⟨j + 1 + 1, by omega, by go_num, HROW.out.put HV.out, HB.out.setCell (Nat.le_refl _) _⟩
        case measure => omega
       | false =>
        have eq1 : ((ofL one).toList == (ofL ws[j]).toList) = false := by rw [str_eq]; exact hq
        rw [hq] at HV
        clear hq
        go_wp2_with fail
        go_roundg (gk - 1)
        case rel => exact ⟨j + 1 + 1, by omega, by go_num, HROW.out.put HV.out, HB.out.setCell (Nat.le_refl _) _⟩
        case measure => omega
  ·have hkn : k = n := by omega
   have HD := hid (show Row wr w.heap.size n (Wrd.nx one ws f) from Row.all (by have := HROW.out; rw [hkn] at this; exact this))
   clear hkn
   go_wp2_with fail
   go_ret
   exact ⟨rfl, HD.out, HB.out⟩
def made0 (n : Nat) : Obj := .cells ((madeCells #[.bool false] n).setIfInBounds 0 (.bool true)) 4
theorem row_start (w : World) (n : Nat) (ks : List (List UInt8)) : Row (w.alloc (made0 n)) w.heap.size n (Wrd.row ks []) := by
 have hs : ((madeCells #[Value.bool false] n).setIfInBounds 0 (.bool true)).size = n := by rw [Array.size_setIfInBounds, size_madeCells]
 have := World.rowIs_alloc w ((madeCells #[Value.bool false] n).setIfInBounds 0 (.bool true)) 4 (fun j => .bool (Wrd.row ks [] j)) (fun i hi => by
  rw [hs] at hi
  rw [Array.getElem?_setIfInBounds]
  cases i with
  | zero => rw [if_pos rfl, if_pos (by rw [size_madeCells]; exact hi)]; rfl
  | succ i => rw [if_neg (by omega)]; simp [madeCells, hi, Nat.mod_one, Wrd.row])
 rw [hs] at this
 exact this
theorem start_below {w w1 : World} {B n : Nat} (h : Below B w w1) (hB : B ≤ w1.heap.size) : Below B w (w1.alloc (made0 n)) := h.alloc hB _
theorem start_cell (w1 : World) (n : Nat) (hn : 0 < n) : (w1.alloc (.cells (madeCells #[.bool false] n) 4)).cell? ⟨w1.heap.size, 0, none⟩ = some (.bool false) := by
 have := (Row.made w1 n (fun _ => false)).cell (j := 0) hn
 exact this
theorem start_free (w1 : World) (n : Nat) : (w1.alloc (.cells (madeCells #[.bool false] n) 4)).frozen? ⟨w1.heap.size, 0, none⟩ = false := (Row.made w1 n (fun _ => false)).free 0
theorem behind_n (one : List UInt8) (ws : List (List UInt8)) (f : Nat → Bool) (p : Option Addr) (cap gb cf n : Nat) (hn : n = ws.length + 1) (w : World) (hws : ws.length ≤ 100000) (hr : Reads w p ws) (hf : Row w gb n f) :
  Calls Tryz.prog 145 #[.string (ofL one), .slice p ws.length cap, .slice (some ⟨gb, 0, none⟩) n cf] w fun e w' =>
   e = .returned (.slice (some ⟨w.heap.size, 0, none⟩) n n) ∧ Row w' w.heap.size n (Wrd.nx one ws f) ∧ Below w.heap.size w w' := by
 subst hn
 exact behind_any one ws f p cap gb cf w hws hr hf
def RowSt (ps ks : List (List UInt8)) (w : World) (n g : Nat) (o i : Value) (wr : World) : Prop :=
 ∃ k gb : Nat, k + g = ps.length ∧ i = .int .i64 (k : Int) ∧ o = .slice (some ⟨gb, 0, none⟩) n n ∧ Row wr gb n (Wrd.row ks (ps.take k).reverse) ∧ Below w.heap.size w wr
theorem row_next (ps ks : List (List UInt8)) (k : Nat) (h : k < ps.length) : Wrd.nx ps[k] ks (Wrd.row ks (ps.take k).reverse) = Wrd.row ks (ps.take (k + 1)).reverse := by
 rw [List.take_succ_eq_append_getElem h, List.reverse_append]; rfl
theorem row_end {ps ks : List (List UInt8)} {k : Nat} (h : k = ps.length) : Wrd.row ks (ps.take k).reverse ks.length = Wrd.matches' ps ks := by
 rw [h, List.take_length, Wrd.row_all]
set_option maxRecDepth 8000 in
set_option maxHeartbeats 4000000 in
theorem matches_any (pt ky : List UInt8) (w : World) (hp : pt.length ≤ 99999) (hk : ky.length ≤ 99999) (hL : Len w) :
  Calls Tryz.prog 135 #[.string (ofL pt), .string (ofL ky)] w fun e w' => e = .returned (.bool (Wrd.matches' (Wrd.words pt) (Wrd.words ky))) ∧ Below w.heap.size w w' := by
 have HS1 := hid (split_any ky w (by omega) hL)
 have HS2 := hid (fun W h => split_any pt W (by omega) h)
 have HL := hid hL
 have hkl := Wrd.words_len ky
 have hpl := Wrd.words_len pt
 have HEND := hid (fun k h => row_end (ps := Wrd.words pt) (ks := Wrd.words ky) (k := k) h)
 generalize Wrd.words ky = ks at *
 generalize Wrd.words pt = ps at *
 generalize Wrd.matches' ps ks = M at *
 generalize ofL ky = sk at *
 generalize ofL pt = sp at *
 obtain ⟨n, hn⟩ : ∃ n, n = ks.length + 1 := ⟨_, rfl⟩
 have HNN := hid hn
 have hn1 : ks.length < n := by omega
 have hn2 : n ≤ ks.length + 1 := by omega
 have hmk : ∀ w : World, Sem.run Tryz.prog (Instr.makeSlice 182 (.int .i64 ((ks.length : Int) + 1)) (.int .i64 ((ks.length : Int) + 1))) w = .ok (.slice (some ⟨w.heap.size, 0, none⟩) n n) (w.alloc (.cells (madeCells #[.bool false] n) 4)) := by
  intro W
  have := run_make_row' (P := Tryz.prog) 182 4 (.bool false) 1 Tryz.underlying182 info4 rfl .i64 .i64 n (by omega) (by omega) W
  rw [← this]
  have e : ((ks.length : Int) + 1) = (n : Int) := by omega
  rw [e]
 clear hn hL
 go_enter Tryz.func135, Tryz.ntmps135
 go_wp2_with fail
 refine HS1.out.mono ?_
 rintro e w1 ⟨v, rfl, hown, hB⟩
 obtain ⟨q, cq, rfl, hq⟩ := reads_own hown
 have HQ := hid hq
 have HB1 := hid hB
 have HL1 := hid (HL.out.on hB)
 clear hown hB hq
 have HBS := hid (start_below (n := n) (Below.refl w1.heap.size w1) (Nat.le_refl _))
 have HRS := hid (row_start w1 n ks)
 have HLS := hid (HL1.out.on HBS.out)
 have HQS := hid (HQ.out.on HBS.out)
 have HBW := hid (start_below (n := n) HB1.out HB1.out.size)
 have HS3 := HS2.out _ HLS.out
 unfold made0 at HS3 HBS HRS HLS HQS HBW
 have HS4 := hid HS3
 clear HS3 HS2
 have hc0 := start_cell w1 n (by omega)
 have hf0 := start_free w1 n
 go_wp2_with fail
 clear hc0 hf0
 generalize hW : w1.alloc (Obj.cells ((madeCells #[Value.bool false] n).setIfInBounds 0 (Value.bool true)) 4) = w2 at *
 clear hW
 refine HS4.out.mono ?_
 rintro e w3 ⟨v, rfl, hown, hB⟩
 obtain ⟨pp, cp, rfl, hpp⟩ := reads_own hown
 have HP := hid hpp
 have HR3 := hid (HRS.out.on hB HRS.out.lt)
 have HQ3 := hid (HQS.out.on hB)
 have HB3 := hid (HBW.out.trans (hB.mono HBW.out.size))
 clear hown hB hpp
 generalize w1.heap.size = g1 at *
 go_wp2_with fail
 go_loopg [6, 20] ps.length (fun g o i wr => RowSt ps ks w3 n g o i wr)
 case atStart => exact ⟨0, g1, by omega, rfl, rfl, by rw [List.take_zero]; exact HR3.out, Below.refl _ _⟩
 case round =>
  obtain ⟨k, gb, hk, rfl, rfl, hrow, hB⟩ := hrel
  have HROW := hid hrow
  have HBR := hid hB
  have HPR := hid (HP.out.on hB)
  have HQR := hid (HQ3.out.on hB)
  clear hrow hB
  by_cases hlt : k < ps.length
  ·obtain ⟨gp, rfl, hcp⟩ := HPR.out k hlt
   have HBH := hid (behind_n ps[k] ks _ q cq gb n n HNN.out wr (by omega) HQR.out HROW.out)
   have HNX := hid (row_next ps ks k hlt)
   generalize ps[k] = one at *
   go_wp2_with fail
   refine HBH.out.mono ?_
   rintro e w4 ⟨rfl, hrow4, hB4⟩
   have HROW4 := hid hrow4
   have HB4 := hid hB4
   clear hrow4 hB4
   go_wp2_with fail
   go_roundg (gk - 1)
   case rel => exact ⟨k + 1, _, by omega, by go_num, rfl, by have := HROW4.out; rw [HNX.out] at this; exact this, HBR.out.trans (HB4.out.mono HBR.out.size)⟩
   case measure => omega
  ·have hkl : k = ps.length := by omega
   have HE := hid (HEND.out k hkl)
   have hcl := HROW.out.cell hn1
   rw [HE.out] at hcl
   clear hkl
   go_wp2_with fail
   go_ret
   exact ⟨rfl, HB3.out.trans (HBR.out.mono HB3.out.size)⟩
def goesB (r : Ru) (key : List UInt8) (h : List Hd.Pr) : Bool :=
 if r.sort = 0 then r.key == key else if r.sort = 1 then true else if r.sort = 2 then Wrd.matches' (Wrd.words r.key) (Wrd.words key) else
 if r.all then r.want.all (hasP h) else r.want.any (hasP h)
theorem goes_0 {r : Ru} (h0 : r.sort = 0) (key : List UInt8) (h : List Hd.Pr) : goesB r key h = (r.key == key) := by unfold goesB; rw [if_pos h0]
theorem goes_1 {r : Ru} (h0 : r.sort = 1) (key : List UInt8) (h : List Hd.Pr) : goesB r key h = true := by unfold goesB; rw [if_neg (by omega), if_pos h0]
theorem goes_2 {r : Ru} (h0 : r.sort = 2) (key : List UInt8) (h : List Hd.Pr) : goesB r key h = Wrd.matches' (Wrd.words r.key) (Wrd.words key) := by unfold goesB; rw [if_neg (by omega), if_neg (by omega), if_pos h0]
theorem goes_3 {r : Ru} (h0 : r.sort = 3) (key : List UInt8) (h : List Hd.Pr) : goesB r key h = if r.all then r.want.all (hasP h) else r.want.any (hasP h) := by unfold goesB; rw [if_neg (by omega), if_neg (by omega), if_neg (by omega)]
set_option maxRecDepth 100000 in
set_option maxHeartbeats 8000000 in
theorem mGoes_any (r : Ru) (A : Option Addr) (c : Nat) (key : List UInt8) (h : List Hd.Pr) (B : Option Addr) (d : Nat) (w : World) (hr : RuOk w r A c) (hs : r.sort ≤ 3) (hk : key.length ≤ 90000) (hh : h.length ≤ 100000) (hp : Prs w B h) (hL : Len w) :
  Calls Tryz.prog 134 #[ruV r A c, .string (ofL key), .slice B h.length d] w fun e w' => e = .returned (.bool (goesB r key h)) ∧ Below w.heap.size w w' := by
 have HB0 := hid (show Below w.heap.size w (w.alloc (.cells #[.int .u8 (r.sort : Int), .string (ofL r.key), .slice A r.want.length c, .bool r.all] 172)) from (Below.refl _ _).alloc (Nat.le_refl _) _)
 have HX0 := hid (ruBox r A c w 172)
 have HL0 := hid (hL.on HB0.out)
 have HR0 := hid (hr.on HB0.out)
 have HP0 := hid (hp.on HB0.out)
 have hrk := hr.key
 have hrw := hr.len
 clear hr hp hL
 simp only [ruV]
 obtain h0 | h0 | h0 | h0 : r.sort = 0 ∨ r.sort = 1 ∨ r.sort = 2 ∨ r.sort = 3 := by omega
 ·have HC := hid (goes_0 h0 key h)
  have hq := str_same key r.key
  rw [show (key == r.key) = (r.key == key) from Bool.beq_comm] at hq
  generalize (r.key == key) = M at *
  rw [h0]
  go_enter Tryz.func134, Tryz.ntmps134
  go_wp2_with fail
  go_ret
  exact ⟨ret_bool HC.out.symm, by have := HB0.out; rw [h0] at this; exact this⟩
 ·have HC := hid (goes_1 h0 key h)
  rw [h0]
  go_enter Tryz.func134, Tryz.ntmps134
  go_wp2_with fail
  go_ret
  exact ⟨ret_bool HC.out.symm, by have := HB0.out; rw [h0] at this; exact this⟩
 ·have HC := hid (goes_2 h0 key h)
  have HM := hid (fun W hL => matches_any r.key key W (by omega) (by omega) hL)
  generalize Wrd.matches' (Wrd.words r.key) (Wrd.words key) = M at *
  rw [h0] at HB0 HL0 ⊢
  go_enter Tryz.func134, Tryz.ntmps134
  go_wp2_with fail
  refine (HM.out _ HL0.out).mono ?_
  rintro e w1 ⟨rfl, b1⟩
  have HB1 := hid (bthen HB0.out b1 (Nat.le_refl _))
  clear b1
  go_wp2_with fail
  go_ret
  exact ⟨ret_bool HC.out.symm, HB1.out⟩
 ·have HC := hid (goes_3 h0 key h)
  cases hall : r.all with
  | true =>
   rw [hall, if_pos rfl] at HC
   have HE := hid (fun W h1 h2 => hasEach_any h r.want B d A c W hh hrw h1 h2)
   generalize r.want.all (hasP h) = M at *
   rw [h0, hall] at HB0 HP0 HR0 HX0
   rw [h0]
   cases M with
   | true =>
    go_enter Tryz.func134, Tryz.ntmps134
    go_wp2_with fail
    refine (HE.out _ HP0.out HR0.out.row).mono ?_
    rintro e w1 ⟨rfl, b1⟩
    have HB1 := hid (bthen HB0.out b1 (Nat.le_refl _))
    clear b1
    go_wp2_with fail
    go_ret
    exact ⟨ret_bool HC.out.symm, HB1.out⟩
   | false =>
    go_enter Tryz.func134, Tryz.ntmps134
    go_wp2_with fail
    refine (HE.out _ HP0.out HR0.out.row).mono ?_
    rintro e w1 ⟨rfl, b1⟩
    have HB1 := hid (bthen HB0.out b1 (Nat.le_refl _))
    have hX1 := (HX0.out.on b1 (by simp))
    have hlt1 : w.heap.size < w1.heap.size := by have := b1.size; simp at this; omega
    have c3 := hX1 3 _ rfl
    rw [hall] at c3
    clear b1 hX1
    go_wp2_with fail
    go_ret
    exact ⟨ret_bool HC.out.symm, HB1.out⟩
  | false =>
   rw [hall, if_neg (by simp)] at HC
   have HO := hid (fun W h1 h2 => hasOne_any h r.want B d A c W hh hrw h1 h2)
   generalize r.want.any (hasP h) = M at *
   rw [h0, hall] at HB0 HP0 HR0
   rw [h0]
   go_enter Tryz.func134, Tryz.ntmps134
   go_wp2_with fail
   refine (HO.out _ HP0.out HR0.out.row).mono ?_
   rintro e w1 ⟨rfl, b1⟩
   have HB1 := hid (bthen HB0.out b1 (Nat.le_refl _))
   clear b1
   go_wp2_with fail
   go_ret
   exact ⟨ret_bool HC.out.symm, HB1.out⟩
end Go.Proofs.YtaikigponkjkgaaGreatDoor
end
