/-
  WHETHER A KEY MATCHES A PATTERN, walked: the program's. WHETHER A KEY MATCHES A PATTERN, walked: the program's, whole. WHICH MESSAGES GO BY A RULE: walked, the program's and the document's; rules held against each other. THE CHAPTER'S EXAMPLE, walked. THE CHAPTER's EXAMPLE; two heads held against each other: THE LAW HeadSame, walked. RULES HELD AGAINST EACH OTHER; the chapter's example: walked. slices.Clone OF PAIRS; THE RULE that is in a method: walked.
-/
import Derived.Test.YtnamkglflhkckaaGreatDoorMf07
import Derived.Test.YtnamkglflhkckaaGreatDoorMf09
import Derived.Test.YtnamkglflhkckaaGreatDoorMf15
import Derived.Test.YtnamkglflhkckaaGreatDoorMf46
import Derived.Deep.OwnRows
import Derived.Deep.RegionHeld3
import Derived.Deep.DeepCutAuto
section
namespace Go.Proofs.YtnamkglflhkckaaGreatDoor
open Go.ChangeShapes Go.WideShapes Go.ChangeAt Go.RowKit
theorem info4 : (Tryz.prog.info? 4).map (fun i => (i.zero, i.size, i.bytes)) = some (some (.bool false), 1, 1) := by kernel_rfl
/-- a row of truths in memory -/
def Row (w : World) (g n : Nat) (f : Nat → Bool) : Prop := w.rowIs g 4 n (fun j => .bool (f j))
def upto (k : Nat) (f : Nat → Bool) : Nat → Bool := fun j => decide (j < k) && f j
theorem Row.made (w : World) (n : Nat) (f : Nat → Bool) : Row (w.alloc (.cells (madeCells #[.bool false] n) 4)) w.heap.size n (upto 0 f) :=
  (World.rowIs_made w (.bool false) n 4).congr fun _ _ => by unfold upto; simp
theorem Row.put {w : World} {g n k : Nat} {f : Nat → Bool} (h : Row w g n (upto k f)) {b : Bool} (hb : b = f k) : Row (w.setCell ⟨g, k, none⟩ (.bool b)) g n (upto (k + 1) f) := by
  refine (World.rowIs.set h k (.bool b)).congr fun j _ => ?_
  unfold upto
  by_cases e : j = k
  · rw [if_pos e, hb, e]; simp
  · rw [if_neg e]
    have : decide (j < k + 1) = decide (j < k) := by rw [Bool.eq_iff_iff]; simp; omega
    rw [this]
theorem Row.pass {w : World} {g n k : Nat} {f : Nat → Bool} (h : Row w g n (upto k f)) (hb : f k = false) : Row w g n (upto (k + 1) f) := by
  refine World.rowIs.congr h fun j _ => ?_
  unfold upto
  by_cases e : j = k
  · rw [e, hb]; simp
  · have : decide (j < k + 1) = decide (j < k) := by rw [Bool.eq_iff_iff]; simp; omega
    rw [this]
theorem Row.all {w : World} {g n : Nat} {f : Nat → Bool} (h : Row w g n (upto n f)) : Row w g n f :=
  World.rowIs.congr h fun j hj => by unfold upto; simp [hj]
theorem Row.cell {w : World} {g n : Nat} {f : Nat → Bool} (h : Row w g n f) {j : Nat} (hj : j < n) : w.cell? ⟨g, j, none⟩ = some (.bool (f j)) := World.rowIs.cell h hj
theorem Row.on {w w' : World} {g n B : Nat} {f : Nat → Bool} (h : Row w g n f) (hb : Below B w w') (hg : g < B) : Row w' g n f := World.rowIs.of_block h (hb.block g hg)
theorem Row.lt {w : World} {g n : Nat} {f : Nat → Bool} (h : Row w g n f) : g < w.heap.size := World.rowIs.lt h
theorem Row.free {w : World} {g n : Nat} {f : Nat → Bool} (h : Row w g n f) (j : Nat) : w.frozen? ⟨g, j, none⟩ = false := World.rowIs.frozen h j
theorem upto_at {k j : Nat} (f : Nat → Bool) (h : j < k) : upto k f j = f j := by unfold upto; simp [h]
theorem nx_zero (one : List UInt8) (ws : List (List UInt8)) (f : Nat → Bool) : Wrd.nx one ws f 0 = ((one == Wrd.hash) && f 0) := rfl
theorem nx_succ (one : List UInt8) (ws : List (List UInt8)) (f : Nat → Bool) (j : Nat) (h : j < ws.length) :
    Wrd.nx one ws f (j + 1) = if one == Wrd.hash then f (j + 1) || Wrd.nx one ws f j else f j && (one == Wrd.star || one == ws[j]) := by
  rw [Wrd.nx, List.getD_eq_getElem?_getD, List.getElem?_eq_getElem h]; rfl
/-- the loop's state: so much of the next row is there -/
def NextSt (one : List UInt8) (ws : List (List UInt8)) (f : Nat → Bool) (w : World) (B n g : Nat) (i : Value) (wr : World) : Prop :=
  ∃ k : Nat, k + g = n ∧ i = .int .i64 (k : Int) ∧ Row wr B n (upto k (Wrd.nx one ws f)) ∧ Below B w wr
theorem str_eq (x y : List UInt8) : ((ofL x).toList == (ofL y).toList) = (x == y) := by rw [ofL_str, ofL_str]
set_option maxRecDepth 8000 in
set_option maxHeartbeats 4000000 in
theorem behind_any (one : List UInt8) (ws : List (List UInt8)) (f : Nat → Bool) (p : Option Addr) (cap gb cf : Nat) (w : World) (hws : ws.length ≤ 100000) (hr : Reads w p ws) (hf : Row w gb (ws.length + 1) f) :
    Calls Tryz.prog 196 #[.string (ofL one), .slice p ws.length cap, .slice (some ⟨gb, 0, none⟩) (ws.length + 1 : Nat) cf] w fun e w' =>
      e = .returned (.slice (some ⟨w.heap.size, 0, none⟩) (ws.length + 1 : Nat) (ws.length + 1 : Nat)) ∧ Row w' w.heap.size (ws.length + 1) (Wrd.nx one ws f) ∧ Below w.heap.size w w' := by
  have HR := Lib.hid hr
  have HF := Lib.hid hf
  have HN0 := Lib.hid (nx_zero one ws f)
  have HNS := Lib.hid (fun j h => nx_succ one ws f j h)
  have HM := Lib.hid (Row.made w (ws.length + 1) (Wrd.nx one ws f))
  have HB0 := Lib.hid (show Below w.heap.size w (w.alloc (.cells (madeCells #[.bool false] (ws.length + 1)) 4)) from (Below.refl _ _).alloc (Nat.le_refl _) _)
  obtain ⟨n, hn⟩ : ∃ n, n = ws.length + 1 := ⟨_, rfl⟩
  rw [← hn] at HF HM HB0
  rw [← hn]
  have hn1 : ws.length < n := by omega
  have hn2 : n ≤ ws.length + 1 := by omega
  clear hr hf hn
  have hmk := run_make_row' (P := Tryz.prog) 234 4 (.bool false) 1 Tryz.underlying234 info4 rfl .i64 .i64 n (by omega) (by omega)
  go_enter Tryz.func196, Tryz.ntmps196
  go_wp2_with fail
  go_loopg [14] n (fun g i wr => NextSt one ws f w w.heap.size n g i wr)
  case atStart => exact ⟨0, by omega, rfl, HM.out, HB0.out⟩
  case round =>
    obtain ⟨k, hk, rfl, hrow, hB⟩ := hrel
    have HROW := Lib.hid hrow
    have HB := Lib.hid hB
    have HFR := Lib.hid (HF.out.on hB HF.out.lt)
    have HRR := Lib.hid (HR.out.on hB)
    clear hrow hB
    by_cases hlt : k < n
    · have hfz := HROW.out.free k
      have hck := HROW.out.cell hlt
      cases h35 : one == Wrd.hash with
      | true =>
        have e35 : ((ofL one).toList == [35]) = true := by rw [ofL_str]; exact h35
        have hcf := HFR.out.cell hlt
        cases k with
        | zero =>
          have HV := Lib.hid (show f 0 = Wrd.nx one ws f 0 by rw [HN0.out, h35]; rfl)
          clear h35
          cases hb : f 0 with
          | true =>
            rw [hb] at HV hcf
            clear hb
            go_wp2_with fail
            go_roundg (gk - 1)
            case rel => exact ⟨0 + 1, by omega, by go_num, HROW.out.put HV.out, HB.out.setCell (Nat.le_refl _) _⟩
            case measure => omega
          | false =>
            rw [hb] at HV hcf
            clear hb
            go_wp2_with fail
            go_roundg (gk - 1)
            case rel => exact ⟨0 + 1, by omega, by go_num, HROW.out.put HV.out, HB.out.setCell (Nat.le_refl _) _⟩
            case measure => omega
        | succ j =>
          have hjw : j < ws.length := by omega
          have HV := Lib.hid (show (f (j + 1) || Wrd.nx one ws f j) = Wrd.nx one ws f (j + 1) by rw [HNS.out j hjw, if_pos h35])
          have hcn := HROW.out.cell (j := j) (by omega)
          rw [upto_at _ (Nat.lt_succ_self j)] at hcn
          clear h35
          cases hb : f (j + 1) with
          | true =>
            rw [hb] at HV hcf
            clear hb
            go_wp2_with fail
            go_roundg (gk - 1)
            case rel => exact ⟨j + 1 + 1, by omega, by go_num, HROW.out.put (by have := HV.out; rw [Bool.true_or] at this; exact this), HB.out.setCell (Nat.le_refl _) _⟩
            case measure => omega
          | false =>
            rw [hb] at HV hcf
            clear hb
            generalize Wrd.nx one ws f j = c at hcn HV
            go_wp2_with fail
            go_roundg (gk - 1)
            case rel => exact ⟨j + 1 + 1, by omega, by go_num, HROW.out.put (by have := HV.out; rw [Bool.false_or] at this; exact this), HB.out.setCell (Nat.le_refl _) _⟩
            case measure => omega
      | false =>
        have e35 : ((ofL one).toList == [35]) = false := by rw [ofL_str]; exact h35
        cases k with
        | zero =>
          have HV := Lib.hid (show Wrd.nx one ws f 0 = false by rw [HN0.out, h35]; rfl)
          clear h35
          go_wp2_with fail
          go_roundg (gk - 1)
          case rel => exact ⟨0 + 1, by omega, by go_num, HROW.out.pass HV.out, HB.out⟩
          case measure => omega
        | succ j =>
          have hjw : j < ws.length := by omega
          have HV := Lib.hid (show (f j && (one == Wrd.star || one == ws[j])) = Wrd.nx one ws f (j + 1) by rw [HNS.out j hjw, if_neg (by rw [h35]; simp)])
          have hcf := HFR.out.cell (j := j) (by omega)
          obtain ⟨gp, rfl, hcw⟩ := HRR.out j hjw
          clear h35
          cases hb : f j with
          | false =>
            rw [hb] at HV hcf
            clear hb
            go_wp2_with fail
            go_roundg (gk - 1)
            case rel => exact ⟨j + 1 + 1, by omega, by go_num, HROW.out.put (by have := HV.out; rw [Bool.false_and] at this; exact this), HB.out.setCell (Nat.le_refl _) _⟩
            case measure => omega
          | true =>
            rw [hb, Bool.true_and] at HV
            rw [hb] at hcf
            clear hb
            cases h42 : one == Wrd.star with
            | true =>
              have e42 : ((ofL one).toList == [42]) = true := by rw [ofL_str]; exact h42
              rw [h42, Bool.true_or] at HV
              clear h42
              go_wp2_with fail
              go_roundg (gk - 1)
              case rel => exact ⟨j + 1 + 1, by omega, by go_num, HROW.out.put HV.out, HB.out.setCell (Nat.le_refl _) _⟩
              case measure => omega
            | false =>
              have e42 : ((ofL one).toList == [42]) = false := by rw [ofL_str]; exact h42
              rw [h42, Bool.false_or] at HV
              clear h42
              cases hq : one == ws[j] with
              | true =>
                have eq1 : ((ofL one).toList == (ofL ws[j]).toList) = true := by rw [str_eq]; exact hq
                rw [hq] at HV
                clear hq
                go_wp2_with fail
                go_roundg (gk - 1)
                case rel => exact ⟨j + 1 + 1, by omega, by go_num, HROW.out.put HV.out, HB.out.setCell (Nat.le_refl _) _⟩
                case measure => omega
              | false =>
                have eq1 : ((ofL one).toList == (ofL ws[j]).toList) = false := by rw [str_eq]; exact hq
                rw [hq] at HV
                clear hq
                go_wp2_with fail
                go_roundg (gk - 1)
                case rel => exact ⟨j + 1 + 1, by omega, by go_num, HROW.out.put HV.out, HB.out.setCell (Nat.le_refl _) _⟩
                case measure => omega
    · have hkn : k = n := by omega
      have HD := Lib.hid (show Row wr w.heap.size n (Wrd.nx one ws f) from Row.all (by have := HROW.out; rw [hkn] at this; exact this))
      clear hkn
      go_wp2_with fail
      go_ret
      exact ⟨rfl, HD.out, HB.out⟩
end Go.Proofs.YtnamkglflhkckaaGreatDoor
end
section
namespace Go.Proofs.YtnamkglflhkckaaGreatDoor
open Go.ChangeShapes Go.WideShapes Go.ChangeAt Go.RowKit
def made0 (n : Nat) : Obj := .cells ((madeCells #[.bool false] n).setIfInBounds 0 (.bool true)) 4
theorem row_start (w : World) (n : Nat) (ks : List (List UInt8)) : Row (w.alloc (made0 n)) w.heap.size n (Wrd.row ks []) := by
  have hs : ((madeCells #[Value.bool false] n).setIfInBounds 0 (.bool true)).size = n := by rw [Array.size_setIfInBounds, size_madeCells]
  have := World.rowIs_alloc w ((madeCells #[Value.bool false] n).setIfInBounds 0 (.bool true)) 4 (fun j => .bool (Wrd.row ks [] j)) (fun i hi => by
    rw [hs] at hi
    rw [Array.getElem?_setIfInBounds]
    cases i with
    | zero => rw [if_pos rfl, if_pos (by rw [size_madeCells]; exact hi)]; rfl
    | succ i => rw [if_neg (by omega)]; simp [madeCells, hi, Nat.mod_one, Wrd.row])
  rw [hs] at this
  exact this
theorem start_below {w w1 : World} {B n : Nat} (h : Below B w w1) (hB : B ≤ w1.heap.size) : Below B w (w1.alloc (made0 n)) := h.alloc hB _
theorem start_cell (w1 : World) (n : Nat) (hn : 0 < n) : (w1.alloc (.cells (madeCells #[.bool false] n) 4)).cell? ⟨w1.heap.size, 0, none⟩ = some (.bool false) := by
  have := (Row.made w1 n (fun _ => false)).cell (j := 0) hn
  exact this
theorem start_free (w1 : World) (n : Nat) : (w1.alloc (.cells (madeCells #[.bool false] n) 4)).frozen? ⟨w1.heap.size, 0, none⟩ = false := (Row.made w1 n (fun _ => false)).free 0
theorem behind_n (one : List UInt8) (ws : List (List UInt8)) (f : Nat → Bool) (p : Option Addr) (cap gb cf n : Nat) (hn : n = ws.length + 1) (w : World) (hws : ws.length ≤ 100000) (hr : Reads w p ws) (hf : Row w gb n f) :
    Calls Tryz.prog 196 #[.string (ofL one), .slice p ws.length cap, .slice (some ⟨gb, 0, none⟩) n cf] w fun e w' =>
      e = .returned (.slice (some ⟨w.heap.size, 0, none⟩) n n) ∧ Row w' w.heap.size n (Wrd.nx one ws f) ∧ Below w.heap.size w w' := by
  subst hn
  exact behind_any one ws f p cap gb cf w hws hr hf
/-- the row behind the first k words -/
def RowSt (ps ks : List (List UInt8)) (w : World) (n g : Nat) (o i : Value) (wr : World) : Prop :=
  ∃ k gb : Nat, k + g = ps.length ∧ i = .int .i64 (k : Int) ∧ o = .slice (some ⟨gb, 0, none⟩) n n ∧ Row wr gb n (Wrd.row ks (ps.take k).reverse) ∧ Below w.heap.size w wr
theorem row_next (ps ks : List (List UInt8)) (k : Nat) (h : k < ps.length) : Wrd.nx ps[k] ks (Wrd.row ks (ps.take k).reverse) = Wrd.row ks (ps.take (k + 1)).reverse := by
  rw [List.take_succ_eq_append_getElem h, List.reverse_append]; rfl
theorem row_end {ps ks : List (List UInt8)} {k : Nat} (h : k = ps.length) : Wrd.row ks (ps.take k).reverse ks.length = Wrd.matches' ps ks := by
  rw [h, List.take_length, Wrd.row_all]
set_option maxRecDepth 8000 in
set_option maxHeartbeats 4000000 in
theorem matches_any (pt ky : List UInt8) (w : World) (hp : pt.length ≤ 99999) (hk : ky.length ≤ 99999) (hL : Len w) :
    Calls Tryz.prog 185 #[.string (ofL pt), .string (ofL ky)] w fun e w' => e = .returned (.bool (Wrd.matches' (Wrd.words pt) (Wrd.words ky))) ∧ Below w.heap.size w w' := by
  have HS1 := Lib.hid (split_any ky w (by omega) hL)
  have HS2 := Lib.hid (fun W h => split_any pt W (by omega) h)
  have HL := Lib.hid hL
  have hkl := Wrd.words_len ky
  have hpl := Wrd.words_len pt
  have HEND := Lib.hid (fun k h => row_end (ps := Wrd.words pt) (ks := Wrd.words ky) (k := k) h)
  generalize Wrd.words ky = ks at *
  generalize Wrd.words pt = ps at *
  generalize Wrd.matches' ps ks = M at *
  generalize ofL ky = sk at *
  generalize ofL pt = sp at *
  obtain ⟨n, hn⟩ : ∃ n, n = ks.length + 1 := ⟨_, rfl⟩
  have HNN := Lib.hid hn
  have hn1 : ks.length < n := by omega
  have hn2 : n ≤ ks.length + 1 := by omega
  have hmk : ∀ w : World, Sem.run Tryz.prog (Instr.makeSlice 234 (.int .i64 ((ks.length : Int) + 1)) (.int .i64 ((ks.length : Int) + 1))) w = .ok (.slice (some ⟨w.heap.size, 0, none⟩) n n) (w.alloc (.cells (madeCells #[.bool false] n) 4)) := by
    intro W
    have := run_make_row' (P := Tryz.prog) 234 4 (.bool false) 1 Tryz.underlying234 info4 rfl .i64 .i64 n (by omega) (by omega) W
    rw [← this]
    have e : ((ks.length : Int) + 1) = (n : Int) := by omega
    rw [e]
  clear hn hL
  go_enter Tryz.func185, Tryz.ntmps185
  go_wp2_with fail
  refine HS1.out.mono ?_
  rintro e w1 ⟨v, rfl, hown, hB⟩
  obtain ⟨q, cq, rfl, hq⟩ := reads_own hown
  have HQ := Lib.hid hq
  have HB1 := Lib.hid hB
  have HL1 := Lib.hid (HL.out.on hB)
  clear hown hB hq
  have HBS := Lib.hid (start_below (n := n) (Below.refl w1.heap.size w1) (Nat.le_refl _))
  have HRS := Lib.hid (row_start w1 n ks)
  have HLS := Lib.hid (HL1.out.on HBS.out)
  have HQS := Lib.hid (HQ.out.on HBS.out)
  have HBW := Lib.hid (start_below (n := n) HB1.out HB1.out.size)
  have HS3 := HS2.out _ HLS.out
  unfold made0 at HS3 HBS HRS HLS HQS HBW
  have HS4 := Lib.hid HS3
  clear HS3 HS2
  have hc0 := start_cell w1 n (by omega)
  have hf0 := start_free w1 n
  go_wp2_with fail
  clear hc0 hf0
  generalize hW : w1.alloc (Obj.cells ((madeCells #[Value.bool false] n).setIfInBounds 0 (Value.bool true)) 4) = w2 at *
  clear hW
  refine HS4.out.mono ?_
  rintro e w3 ⟨v, rfl, hown, hB⟩
  obtain ⟨pp, cp, rfl, hpp⟩ := reads_own hown
  have HP := Lib.hid hpp
  have HR3 := Lib.hid (HRS.out.on hB HRS.out.lt)
  have HQ3 := Lib.hid (HQS.out.on hB)
  have HB3 := Lib.hid (HBW.out.trans (hB.mono HBW.out.size))
  clear hown hB hpp
  generalize w1.heap.size = g1 at *
  go_wp2_with fail
  go_loopg [6, 20] ps.length (fun g o i wr => RowSt ps ks w3 n g o i wr)
  case atStart => exact ⟨0, g1, by omega, rfl, rfl, by rw [List.take_zero]; exact HR3.out, Below.refl _ _⟩
  case round =>
    obtain ⟨k, gb, hk, rfl, rfl, hrow, hB⟩ := hrel
    have HROW := Lib.hid hrow
    have HBR := Lib.hid hB
    have HPR := Lib.hid (HP.out.on hB)
    have HQR := Lib.hid (HQ3.out.on hB)
    clear hrow hB
    by_cases hlt : k < ps.length
    · obtain ⟨gp, rfl, hcp⟩ := HPR.out k hlt
      have HBH := Lib.hid (behind_n ps[k] ks _ q cq gb n n HNN.out wr (by omega) HQR.out HROW.out)
      have HNX := Lib.hid (row_next ps ks k hlt)
      generalize ps[k] = one at *
      go_wp2_with fail
      refine HBH.out.mono ?_
      rintro e w4 ⟨rfl, hrow4, hB4⟩
      have HROW4 := Lib.hid hrow4
      have HB4 := Lib.hid hB4
      clear hrow4 hB4
      go_wp2_with fail
      go_roundg (gk - 1)
      case rel => exact ⟨k + 1, _, by omega, by go_num, rfl, by have := HROW4.out; rw [HNX.out] at this; exact this, HBR.out.trans (HB4.out.mono HBR.out.size)⟩
      case measure => omega
    · have hkl : k = ps.length := by omega
      have HE := Lib.hid (HEND.out k hkl)
      have hcl := HROW.out.cell hn1
      rw [HE.out] at hcl
      clear hkl
      go_wp2_with fail
      go_ret
      exact ⟨rfl, HB3.out.trans (HBR.out.mono HB3.out.size)⟩
end Go.Proofs.YtnamkglflhkckaaGreatDoor
end
section
namespace Go.Proofs.YtnamkglflhkckaaGreatDoor
open Go.ChangeShapes Go.WideShapes Go.ChangeAt Go.RowKit
/-- does a message go? -/
def goesB (r : Ru) (key : List UInt8) (h : List Hd.Pr) : Bool :=
  if r.sort = 0 then r.key == key else if r.sort = 1 then true else if r.sort = 2 then Wrd.matches' (Wrd.words r.key) (Wrd.words key) else
  if r.all then r.want.all (hasP h) else r.want.any (hasP h)
theorem goes_0 {r : Ru} (h0 : r.sort = 0) (key : List UInt8) (h : List Hd.Pr) : goesB r key h = (r.key == key) := by unfold goesB; rw [if_pos h0]
theorem goes_1 {r : Ru} (h0 : r.sort = 1) (key : List UInt8) (h : List Hd.Pr) : goesB r key h = true := by unfold goesB; rw [if_neg (by omega), if_pos h0]
theorem goes_2 {r : Ru} (h0 : r.sort = 2) (key : List UInt8) (h : List Hd.Pr) : goesB r key h = Wrd.matches' (Wrd.words r.key) (Wrd.words key) := by unfold goesB; rw [if_neg (by omega), if_neg (by omega), if_pos h0]
theorem goes_3 {r : Ru} (h0 : r.sort = 3) (key : List UInt8) (h : List Hd.Pr) : goesB r key h = if r.all then r.want.all (hasP h) else r.want.any (hasP h) := by unfold goesB; rw [if_neg (by omega), if_neg (by omega), if_neg (by omega)]
set_option maxRecDepth 100000 in
set_option maxHeartbeats 8000000 in
theorem mGoes_any (r : Ru) (A : Option Addr) (c : Nat) (key : List UInt8) (h : List Hd.Pr) (B : Option Addr) (d : Nat) (w : World) (hr : RuOk w r A c) (hs : r.sort ≤ 3) (hk : key.length ≤ 90000) (hh : h.length ≤ 100000) (hp : Prs w B h) (hL : Len w) :
    Calls Tryz.prog 161 #[ruV r A c, .string (ofL key), .slice B h.length d] w fun e w' => e = .returned (.bool (goesB r key h)) ∧ Below w.heap.size w w' := by
  have HB0 := Lib.hid (show Below w.heap.size w (w.alloc (.cells #[.int .u8 (r.sort : Int), .string (ofL r.key), .slice A r.want.length c, .bool r.all] 215)) from (Below.refl _ _).alloc (Nat.le_refl _) _)
  have HX0 := Lib.hid (ruBox r A c w 215)
  have HL0 := Lib.hid (hL.on HB0.out)
  have HR0 := Lib.hid (hr.on HB0.out)
  have HP0 := Lib.hid (hp.on HB0.out)
  have hrk := hr.key
  have hrw := hr.len
  clear hr hp hL
  simp only [ruV]
  obtain h0 | h0 | h0 | h0 : r.sort = 0 ∨ r.sort = 1 ∨ r.sort = 2 ∨ r.sort = 3 := by omega
  · have HC := Lib.hid (goes_0 h0 key h)
    have hq := str_same key r.key
    rw [show (key == r.key) = (r.key == key) from Bool.beq_comm] at hq
    generalize (r.key == key) = M at *
    rw [h0]
    go_enter Tryz.func161, Tryz.ntmps161
    go_wp2_with fail
    go_ret
    exact ⟨ret_bool HC.out.symm, by have := HB0.out; rw [h0] at this; exact this⟩
  · have HC := Lib.hid (goes_1 h0 key h)
    rw [h0]
    go_enter Tryz.func161, Tryz.ntmps161
    go_wp2_with fail
    go_ret
    exact ⟨ret_bool HC.out.symm, by have := HB0.out; rw [h0] at this; exact this⟩
  · have HC := Lib.hid (goes_2 h0 key h)
    have HM := Lib.hid (fun W hL => matches_any r.key key W (by omega) (by omega) hL)
    generalize Wrd.matches' (Wrd.words r.key) (Wrd.words key) = M at *
    rw [h0] at HB0 HL0 ⊢
    go_enter Tryz.func161, Tryz.ntmps161
    go_wp2_with fail
    refine (HM.out _ HL0.out).mono ?_
    rintro e w1 ⟨rfl, b1⟩
    have HB1 := Lib.hid (bthen HB0.out b1 (Nat.le_refl _))
    clear b1
    go_wp2_with fail
    go_ret
    exact ⟨ret_bool HC.out.symm, HB1.out⟩
  · have HC := Lib.hid (goes_3 h0 key h)
    cases hall : r.all with
    | true =>
      rw [hall, if_pos rfl] at HC
      have HE := Lib.hid (fun W h1 h2 => hasEach_any h r.want B d A c W hh hrw h1 h2)
      generalize r.want.all (hasP h) = M at *
      rw [h0, hall] at HB0 HP0 HR0 HX0
      rw [h0]
      cases M with
      | true =>
        go_enter Tryz.func161, Tryz.ntmps161
        go_wp2_with fail
        refine (HE.out _ HP0.out HR0.out.row).mono ?_
        rintro e w1 ⟨rfl, b1⟩
        have HB1 := Lib.hid (bthen HB0.out b1 (Nat.le_refl _))
        clear b1
        go_wp2_with fail
        go_ret
        exact ⟨ret_bool HC.out.symm, HB1.out⟩
      | false =>
        go_enter Tryz.func161, Tryz.ntmps161
        go_wp2_with fail
        refine (HE.out _ HP0.out HR0.out.row).mono ?_
        rintro e w1 ⟨rfl, b1⟩
        have HB1 := Lib.hid (bthen HB0.out b1 (Nat.le_refl _))
        have hX1 := (HX0.out.on b1 (by simp))
        have hlt1 : w.heap.size < w1.heap.size := by have := b1.size; simp at this; omega
        have c3 := hX1 3 _ rfl
        rw [hall] at c3
        clear b1 hX1
        go_wp2_with fail
        go_ret
        exact ⟨ret_bool HC.out.symm, HB1.out⟩
    | false =>
      rw [hall, if_neg (by simp)] at HC
      have HO := Lib.hid (fun W h1 h2 => hasOne_any h r.want B d A c W hh hrw h1 h2)
      generalize r.want.any (hasP h) = M at *
      rw [h0, hall] at HB0 HP0 HR0
      rw [h0]
      go_enter Tryz.func161, Tryz.ntmps161
      go_wp2_with fail
      refine (HO.out _ HP0.out HR0.out.row).mono ?_
      rintro e w1 ⟨rfl, b1⟩
      have HB1 := Lib.hid (bthen HB0.out b1 (Nat.le_refl _))
      clear b1
      go_wp2_with fail
      go_ret
      exact ⟨ret_bool HC.out.symm, HB1.out⟩
end Go.Proofs.YtnamkglflhkckaaGreatDoor
end
section
namespace Go.Proofs.YtnamkglflhkckaaGreatDoor
open Go.ChangeShapes Go.WideShapes Go.ChangeAt Go.RowKit
def exP : List UInt8 := [97, 46, 42, 46, 35]
def exA : List UInt8 := [97, 46, 98]
def exB : List UInt8 := [97, 46, 98, 46, 99, 46, 100]
def exC : List UInt8 := [97]
def exN : List UInt8 := [97, 45, 49]
theorem ex_a : Wrd.matches' (Wrd.words exP) (Wrd.words exA) = true := by rw [← Wrd.row_all]; decide
theorem ex_b : Wrd.matches' (Wrd.words exP) (Wrd.words exB) = true := by rw [← Wrd.row_all]; decide
theorem ex_c : Wrd.matches' (Wrd.words exP) (Wrd.words exC) = false := by rw [← Wrd.row_all]; decide
theorem ex_n : Wrd.nameCode exN = 0 := by decide
theorem ex_a_at (w : World) (hL : Len w) : Calls Tryz.prog 185 #[.string ⟨#[97, 46, 42, 46, 35]⟩, .string ⟨#[97, 46, 98]⟩] w fun e w' => e = .returned (.bool true) ∧ Below w.heap.size w w' := by
  have h := matches_any exP exA w (by decide) (by decide) hL
  rw [ex_a] at h
  exact h
theorem ex_b_at (w : World) (hL : Len w) : Calls Tryz.prog 185 #[.string ⟨#[97, 46, 42, 46, 35]⟩, .string ⟨#[97, 46, 98, 46, 99, 46, 100]⟩] w fun e w' => e = .returned (.bool true) ∧ Below w.heap.size w w' := by
  have h := matches_any exP exB w (by decide) (by decide) hL
  rw [ex_b] at h
  exact h
theorem ex_c_at (w : World) (hL : Len w) : Calls Tryz.prog 185 #[.string ⟨#[97, 46, 42, 46, 35]⟩, .string ⟨#[97]⟩] w fun e w' => e = .returned (.bool false) ∧ Below w.heap.size w w' := by
  have h := matches_any exP exC w (by decide) (by decide) hL
  rw [ex_c] at h
  exact h
theorem ex_n_at (w : World) : Calls Tryz.prog 121 #[.string ⟨#[97, 45, 49]⟩] w fun e w' => e = .returned (.int .i64 0) ∧ w = w' := by
  have h := name_any exN w (by decide)
  rw [ex_n] at h
  exact h
set_option maxHeartbeats 1000000 in
theorem wawake_any (w : World) (hL : Len w) : Calls Tryz.prog 149 #[] w fun e w' => e = .returned (.bool true) ∧ Below w.heap.size w w' := by
  have HA := Lib.hid (ex_a_at w hL)
  have HL := Lib.hid hL
  clear hL
  go_enter Tryz.func149, Tryz.ntmps149
  go_wp2_with fail
  refine HA.out.mono ?_
  rintro e w1 ⟨rfl, hB1⟩
  have HL1 := Lib.hid (HL.out.on hB1)
  have HB1 := Lib.hid hB1
  clear hB1
  go_wp2_with fail
  refine (ex_b_at _ HL1.out).mono ?_
  rintro e w2 ⟨rfl, hB⟩
  have HL2 := Lib.hid (HL1.out.on hB)
  have HB2 := Lib.hid (HB1.out.trans (hB.mono HB1.out.size))
  clear hB
  go_wp2_with fail
  refine (ex_c_at _ HL2.out).mono ?_
  rintro e w3 ⟨rfl, hB⟩
  have HB3 := Lib.hid (HB2.out.trans (hB.mono HB2.out.size))
  clear hB
  go_wp2_with fail
  refine (ex_n_at _).mono ?_
  rintro e w' ⟨rfl, rfl⟩
  go_wp2_with fail
  go_ret
  exact ⟨rfl, HB3.out⟩
end Go.Proofs.YtnamkglflhkckaaGreatDoor
end
section
namespace Go.Proofs.YtnamkglflhkckaaGreatDoor
open Go.ChangeShapes Go.WideShapes Go.ChangeAt Go.RowKit
theorem law4Awake_any (w : World) (hL : Len w) : Calls Tryz.prog 87 #[] w fun e w' => e = .returned (.bool true) ∧ Below w.heap.size w w' := by
  have HA := Lib.hid (wawake_any w hL)
  go_enter Tryz.func87, Tryz.ntmps87
  go_wp2_with fail
  refine HA.out.mono ?_
  rintro x w1 ⟨rfl, b1⟩
  have B1 := Lib.hid b1
  clear b1
  go_wp2_with fail
  go_ret
  exact ⟨rfl, B1.out⟩
theorem lite_nil : Lite [] := fun i hi => absurd hi (by simp)
theorem hbytes_nil (w : World) : Calls Tryz.prog 116 #[.slice none 0 0] w fun e w' => e = .returned (.tuple #[.string ⟨#[0]⟩, .int .i64 0]) ∧ Below w.heap.size w w' := by
  have h := hbytes_any [] none 0 w (by simp) (by simp) lite_nil (Prs.nil _ _)
  rw [show hbytesV [] = .tuple #[.string ⟨#[0]⟩, .int .i64 0] from rfl] at h
  exact h
set_option maxHeartbeats 1000000 in
theorem awake9_any (w : World) (hL : Len w) : Calls Tryz.prog 135 #[] w fun e w' => e = .returned (.bool true) ∧ Below w.heap.size w w' := by
  have HL := Lib.hid hL
  clear hL
  have he : (({ data := #[0] } : ByteArray).toList == [0]) = true := by rw [ByteArray.toList_eq]; rfl
  go_enter Tryz.func135, Tryz.ntmps135
  go_wp2_with fail
  refine (hbytes_nil _).mono ?_
  rintro e w1 ⟨rfl, b1⟩
  have HL1 := Lib.hid (HL.out.on b1)
  have HB1 := Lib.hid b1
  clear b1
  go_wp2_with fail
  refine (octAwake2_any _).mono ?_
  rintro e w2 ⟨rfl, b2⟩
  have HL2 := Lib.hid (HL1.out.on b2)
  have HB2 := Lib.hid (bthen HB1.out b2 (Nat.le_refl _))
  clear b2
  go_wp2_with fail
  refine (law4Awake_any _ HL2.out).mono ?_
  rintro e w3 ⟨rfl, b3⟩
  have HB3 := Lib.hid (bthen HB2.out b3 (Nat.le_refl _))
  clear b3
  go_wp2_with fail
  go_ret
  exact ⟨rfl, HB3.out⟩
end Go.Proofs.YtnamkglflhkckaaGreatDoor
end
section
namespace Go.Proofs.YtnamkglflhkckaaGreatDoor
open Go.ChangeShapes Go.WideShapes Go.ChangeAt Go.RowKit
def exR : Ru := ⟨2, [97, 46, 35], [], false⟩
theorem exR_code : ruCode exR = 0 := by decide
theorem exR_yes : goesB exR [97, 46, 98] [] = true := by rw [goes_2 rfl, ← Wrd.row_all]; decide
theorem exR_no : goesB exR [98] [] = false := by rw [goes_2 rfl, ← Wrd.row_all]; decide
theorem exR_ok (w : World) : RuOk w exR none 0 := ⟨by decide, by decide, by decide, lite_nil, Prs.nil _ _⟩
theorem ex_check (w : World) (hL : Len w) : Calls Tryz.prog 166 #[.agg #[.int .u8 2, .string ⟨#[97, 46, 35]⟩, .slice none 0 0, .bool false]] w fun e w' => e = .returned (.int .i64 0) ∧ Below w.heap.size w w' := by
  have h := mCheck_any exR none 0 w (exR_ok w) hL
  rw [exR_code] at h
  exact h
theorem ex_yes (w : World) (hL : Len w) : Calls Tryz.prog 161 #[.agg #[.int .u8 2, .string ⟨#[97, 46, 35]⟩, .slice none 0 0, .bool false], .string ⟨#[97, 46, 98]⟩, .slice none 0 0] w fun e w' => e = .returned (.bool true) ∧ Below w.heap.size w w' := by
  have h := mGoes_any exR none 0 [97, 46, 98] [] none 0 w (exR_ok w) (by decide) (by decide) (by decide) (Prs.nil _ _) hL
  rw [exR_yes] at h
  exact h
theorem ex_no (w : World) (hL : Len w) : Calls Tryz.prog 161 #[.agg #[.int .u8 2, .string ⟨#[97, 46, 35]⟩, .slice none 0 0, .bool false], .string ⟨#[98]⟩, .slice none 0 0] w fun e w' => e = .returned (.bool false) ∧ Below w.heap.size w w' := by
  have h := mGoes_any exR none 0 [98] [] none 0 w (exR_ok w) (by decide) (by decide) (by decide) (Prs.nil _ _) hL
  rw [exR_no] at h
  exact h
theorem law9Awake_any (w : World) (hL : Len w) : Calls Tryz.prog 72 #[] w fun e w' => e = .returned (.bool true) ∧ Below w.heap.size w w' := by
  have HA := Lib.hid (awake9_any w hL)
  go_enter Tryz.func72, Tryz.ntmps72
  go_wp2_with fail
  refine HA.out.mono ?_
  rintro x w1 ⟨rfl, b1⟩
  have B1 := Lib.hid b1
  clear b1
  go_wp2_with fail
  go_ret
  exact ⟨rfl, B1.out⟩
set_option maxHeartbeats 2000000 in
theorem awake10_any (w : World) (hL : Len w) : Calls Tryz.prog 114 #[] w fun e w' => e = .returned (.bool true) ∧ Below w.heap.size w w' := by
  have HB0 := Lib.hid (show Below w.heap.size w (w.alloc (.cells #[.int .u8 2, .string ⟨#[97, 46, 35]⟩, .slice none 0 0, .bool false] 215)) from (Below.refl _ _).alloc (Nat.le_refl _) _)
  have HC0 := Lib.hid (Cels.new w #[.int .u8 2, .string ⟨#[97, 46, 35]⟩, .slice none 0 0, .bool false] 215)
  have HL0 := Lib.hid (hL.on HB0.out)
  clear hL
  go_enter Tryz.func114, Tryz.ntmps114
  go_wp2_with fail
  generalize w.alloc (.cells #[.int .u8 2, .string ⟨#[97, 46, 35]⟩, .slice none 0 0, .bool false] 215) = w0 at *
  have hlt0 : w.heap.size < w0.heap.size := World.block_lt_of_cell? w0 _ (HC0.out 0 _ rfl)
  refine (law4Awake_any _ HL0.out).mono ?_
  rintro e w1 ⟨rfl, b1⟩
  have HL1 := Lib.hid (HL0.out.on b1)
  have HC1 := Lib.hid (HC0.out.on b1 hlt0)
  have HB1 := Lib.hid (bthen HB0.out b1 (Nat.le_refl _))
  have hlt1 : w.heap.size < w1.heap.size := Nat.lt_of_lt_of_le hlt0 b1.size
  clear b1 hlt0
  go_wp2_with fail
  refine (law9Awake_any _ HL1.out).mono ?_
  rintro e w2 ⟨rfl, b2⟩
  have HL2 := Lib.hid (HL1.out.on b2)
  have HC2 := Lib.hid (HC1.out.on b2 hlt1)
  have HB2 := Lib.hid (bthen HB1.out b2 (Nat.le_refl _))
  have hlt2 : w.heap.size < w2.heap.size := Nat.lt_of_lt_of_le hlt1 b2.size
  clear b2 hlt1
  have c0 := HC2.out 0 _ rfl
  have c1 := HC2.out 1 _ rfl
  have c2 := HC2.out 2 _ rfl
  have c3 := HC2.out 3 _ rfl
  go_wp2_with fail
  refine (ex_check _ HL2.out).mono ?_
  rintro e w3 ⟨rfl, b3⟩
  have HL3 := Lib.hid (HL2.out.on b3)
  have HC3 := Lib.hid (HC2.out.on b3 hlt2)
  have HB3 := Lib.hid (bthen HB2.out b3 (Nat.le_refl _))
  have hlt3 : w.heap.size < w3.heap.size := Nat.lt_of_lt_of_le hlt2 b3.size
  clear b3 hlt2 c0 c1 c2 c3
  have c0 := HC3.out 0 _ rfl
  have c1 := HC3.out 1 _ rfl
  have c2 := HC3.out 2 _ rfl
  have c3 := HC3.out 3 _ rfl
  go_wp2_with fail
  refine (ex_yes _ HL3.out).mono ?_
  rintro e w4 ⟨rfl, b4⟩
  have HL4 := Lib.hid (HL3.out.on b4)
  have HC4 := Lib.hid (HC3.out.on b4 hlt3)
  have HB4 := Lib.hid (bthen HB3.out b4 (Nat.le_refl _))
  have hlt4 : w.heap.size < w4.heap.size := Nat.lt_of_lt_of_le hlt3 b4.size
  clear b4 hlt3 c0 c1 c2 c3
  have c0 := HC4.out 0 _ rfl
  have c1 := HC4.out 1 _ rfl
  have c2 := HC4.out 2 _ rfl
  have c3 := HC4.out 3 _ rfl
  go_wp2_with fail
  refine (ex_no _ HL4.out).mono ?_
  rintro e w5 ⟨rfl, b5⟩
  have HB5 := Lib.hid (bthen HB4.out b5 (Nat.le_refl _))
  clear b5
  go_wp2_with fail
  go_ret
  exact ⟨rfl, HB5.out⟩
end Go.Proofs.YtnamkglflhkckaaGreatDoor
end
section
namespace Go.Proofs.YtnamkglflhkckaaGreatDoor
open Go.ChangeShapes Go.WideShapes Go.ChangeAt Go.RowKit
/-- the rule that is in a method -/
def Me.rule (x : Me) (s : Nat) : Ru := ⟨s, x.key, x.head, x.yes⟩
structure MeRu (w : World) (x : Me) (A : Option Addr) (c : Nat) (ys : List Value) (W : World) : Prop where
  p : BoxC w w.heap.size (meL x A c) W
  q : BoxC w (w.heap.size + 1) ys W
  B : Below w.heap.size w W
theorem MeRu.on {w : World} {x : Me} {A : Option Addr} {c : Nat} {ys : List Value} {W W' : World} (h : MeRu w x A c ys W) (hb : Below W.heap.size W W') : MeRu w x A c ys W' := ⟨h.p.on hb, h.q.on hb, bthen h.B hb (Nat.le_refl _)⟩
theorem MeRu.start (w : World) (x : Me) (A : Option Addr) (c : Nat) : MeRu w x A c [.int .u8 0, .string ⟨#[]⟩, .slice none 0 0, .bool false] ((w.alloc (.cells #[.int .u8 (x.ch.toNat : Int), .int .u8 (x.kd.toNat : Int), .string (ofL x.name), .string (ofL x.other), .string (ofL x.key), .slice A x.head.length c, .string (ofL x.body), .int .u64 (x.n : Int), .int .u64 (x.m : Int), .bool x.yes] 25)).alloc (.cells #[.int .u8 0, .string ⟨#[]⟩, .slice none 0 0, .bool false] 215)) := by
  have h1 : BoxC w w.heap.size (meL x A c) (w.alloc (.cells #[.int .u8 (x.ch.toNat : Int), .int .u8 (x.kd.toNat : Int), .string (ofL x.name), .string (ofL x.other), .string (ofL x.key), .slice A x.head.length c, .string (ofL x.body), .int .u64 (x.n : Int), .int .u64 (x.m : Int), .bool x.yes] 25)) := BoxC.new (Nat.le_refl _) #[.int .u8 (x.ch.toNat : Int), .int .u8 (x.kd.toNat : Int), .string (ofL x.name), .string (ofL x.other), .string (ofL x.key), .slice A x.head.length c, .string (ofL x.body), .int .u64 (x.n : Int), .int .u64 (x.m : Int), .bool x.yes] 25
  have h2 : BoxC w (w.heap.size + 1) [.int .u8 0, .string ⟨#[]⟩, .slice none 0 0, .bool false] ((w.alloc (.cells #[.int .u8 (x.ch.toNat : Int), .int .u8 (x.kd.toNat : Int), .string (ofL x.name), .string (ofL x.other), .string (ofL x.key), .slice A x.head.length c, .string (ofL x.body), .int .u64 (x.n : Int), .int .u64 (x.m : Int), .bool x.yes] 25)).alloc (.cells #[.int .u8 0, .string ⟨#[]⟩, .slice none 0 0, .bool false] 215)) := by
    have := BoxC.new (w := w) (W := (w.alloc (.cells #[.int .u8 (x.ch.toNat : Int), .int .u8 (x.kd.toNat : Int), .string (ofL x.name), .string (ofL x.other), .string (ofL x.key), .slice A x.head.length c, .string (ofL x.body), .int .u64 (x.n : Int), .int .u64 (x.m : Int), .bool x.yes] 25))) (by simp) #[.int .u8 0, .string ⟨#[]⟩, .slice none 0 0, .bool false] 215
    simpa using this
  exact ⟨h1.on ((Below.refl _ _).alloc (Nat.le_refl _) _), h2, ((Below.refl _ _).alloc (Nat.le_refl _) _).alloc (by simp) _⟩
abbrev MeRuS (w : World) (x : Me) (A : Option Addr) (c : Nat) (W : World) : Prop :=
  ((W.cell? ⟨w.heap.size, 4, none⟩ = some (.string (ofL x.key)) ∧ W.cell? ⟨w.heap.size, 5, none⟩ = some (.slice A x.head.length c) ∧ W.cell? ⟨w.heap.size, 9, none⟩ = some (.bool x.yes)) ∧ w.heap.size < W.heap.size) ∧ ∃ ys, MeRu w x A c ys W
theorem MeRu.s {w : World} {x : Me} {A : Option Addr} {c : Nat} {ys : List Value} {W : World} (h : MeRu w x A c ys W) : MeRuS w x A c W := ⟨⟨⟨h.p.cs 4 _ rfl, h.p.cs 5 _ rfl, h.p.cs 9 _ rfl⟩, h.p.lt⟩, ys, h⟩
theorem MeRu.done {w : World} {x : Me} {A : Option Addr} {c : Nat} {W : World} {a0 a1 a2 a3 : Value} (h : MeRu w x A c [a0, a1, a2, a3] W) (v0 v1 v2 v3 : Value) : MeRu w x A c [v0, v1, v2, v3] ((((W.setCell ⟨w.heap.size + 1, 0, none⟩ v0).setCell ⟨w.heap.size + 1, 1, none⟩ v1).setCell ⟨w.heap.size + 1, 2, none⟩ v2).setCell ⟨w.heap.size + 1, 3, none⟩ v3) :=
  ⟨(((h.p.aside (by omega) 0 _).aside (by omega) 1 _).aside (by omega) 2 _).aside (by omega) 3 _, (((h.q.put 0 _ (by simp)).put 1 _ (by simp)).put 2 _ (by simp)).put 3 _ (by simp), (((h.B.setCell h.q.ge _).setCell h.q.ge _).setCell h.q.ge _).setCell h.q.ge _⟩
end Go.Proofs.YtnamkglflhkckaaGreatDoor
end
