/-
  WHETHER A KEY MATCHES A PATTERN, walked: the program's.
-/
import Derived.Test.YtecjngodfciokaaGreatDoorCc10
import Derived.Deep.OwnRows
section
namespace Go.Proofs.YtecjngodfciokaaGreatDoor
open Go.ChangeShapes Go.WideShapes Go.ChangeAt Go.RowKit
theorem info4 : (Tryz.prog.info? 4).map (fun i => (i.zero, i.size, i.bytes)) = some (some (.bool false), 1, 1) := by kernel_rfl
/-- a row of truths in memory -/
def Row (w : World) (g n : Nat) (f : Nat → Bool) : Prop := w.rowIs g 4 n (fun j => .bool (f j))
def upto (k : Nat) (f : Nat → Bool) : Nat → Bool := fun j => decide (j < k) && f j
theorem Row.made (w : World) (n : Nat) (f : Nat → Bool) : Row (w.alloc (.cells (madeCells #[.bool false] n) 4)) w.heap.size n (upto 0 f) :=
  (World.rowIs_made w (.bool false) n 4).congr fun _ _ => by unfold upto; simp
theorem Row.put {w : World} {g n k : Nat} {f : Nat → Bool} (h : Row w g n (upto k f)) {b : Bool} (hb : b = f k) : Row (w.setCell ⟨g, k, none⟩ (.bool b)) g n (upto (k + 1) f) := by
  refine (World.rowIs.set h k (.bool b)).congr fun j _ => ?_
  unfold upto
  by_cases e : j = k
  · rw [if_pos e, hb, e]; simp
  · rw [if_neg e]
    have : decide (j < k + 1) = decide (j < k) := by rw [Bool.eq_iff_iff]; simp; omega
    rw [this]
theorem Row.pass {w : World} {g n k : Nat} {f : Nat → Bool} (h : Row w g n (upto k f)) (hb : f k = false) : Row w g n (upto (k + 1) f) := by
  refine World.rowIs.congr h fun j _ => ?_
  unfold upto
  by_cases e : j = k
  · rw [e, hb]; simp
  · have : decide (j < k + 1) = decide (j < k) := by rw [Bool.eq_iff_iff]; simp; omega
    rw [this]
theorem Row.all {w : World} {g n : Nat} {f : Nat → Bool} (h : Row w g n (upto n f)) : Row w g n f :=
  World.rowIs.congr h fun j hj => by unfold upto; simp [hj]
theorem Row.cell {w : World} {g n : Nat} {f : Nat → Bool} (h : Row w g n f) {j : Nat} (hj : j < n) : w.cell? ⟨g, j, none⟩ = some (.bool (f j)) := World.rowIs.cell h hj
theorem Row.on {w w' : World} {g n B : Nat} {f : Nat → Bool} (h : Row w g n f) (hb : Below B w w') (hg : g < B) : Row w' g n f := World.rowIs.of_block h (hb.block g hg)
theorem Row.lt {w : World} {g n : Nat} {f : Nat → Bool} (h : Row w g n f) : g < w.heap.size := World.rowIs.lt h
theorem Row.free {w : World} {g n : Nat} {f : Nat → Bool} (h : Row w g n f) (j : Nat) : w.frozen? ⟨g, j, none⟩ = false := World.rowIs.frozen h j
theorem upto_at {k j : Nat} (f : Nat → Bool) (h : j < k) : upto k f j = f j := by unfold upto; simp [h]
theorem nx_zero (one : List UInt8) (ws : List (List UInt8)) (f : Nat → Bool) : Wrd.nx one ws f 0 = ((one == Wrd.hash) && f 0) := rfl
theorem nx_succ (one : List UInt8) (ws : List (List UInt8)) (f : Nat → Bool) (j : Nat) (h : j < ws.length) :
    Wrd.nx one ws f (j + 1) = if one == Wrd.hash then f (j + 1) || Wrd.nx one ws f j else f j && (one == Wrd.star || one == ws[j]) := by
  rw [Wrd.nx, List.getD_eq_getElem?_getD, List.getElem?_eq_getElem h]; rfl
/-- the loop's state: so much of the next row is there -/
def NextSt (one : List UInt8) (ws : List (List UInt8)) (f : Nat → Bool) (w : World) (B n g : Nat) (i : Value) (wr : World) : Prop :=
  ∃ k : Nat, k + g = n ∧ i = .int .i64 (k : Int) ∧ Row wr B n (upto k (Wrd.nx one ws f)) ∧ Below B w wr
theorem str_eq (x y : List UInt8) : ((ofL x).toList == (ofL y).toList) = (x == y) := by rw [ofL_str, ofL_str]
set_option maxRecDepth 8000 in
set_option maxHeartbeats 4000000 in
theorem behind_any (one : List UInt8) (ws : List (List UInt8)) (f : Nat → Bool) (p : Option Addr) (cap gb cf : Nat) (w : World) (hws : ws.length ≤ 100000) (hr : Reads w p ws) (hf : Row w gb (ws.length + 1) f) :
    Calls Tryz.prog 136 #[.string (ofL one), .slice p ws.length cap, .slice (some ⟨gb, 0, none⟩) (ws.length + 1 : Nat) cf] w fun e w' =>
      e = .returned (.slice (some ⟨w.heap.size, 0, none⟩) (ws.length + 1 : Nat) (ws.length + 1 : Nat)) ∧ Row w' w.heap.size (ws.length + 1) (Wrd.nx one ws f) ∧ Below w.heap.size w w' := by
  have HR := Lib.hid hr
  have HF := Lib.hid hf
  have HN0 := Lib.hid (nx_zero one ws f)
  have HNS := Lib.hid (fun j h => nx_succ one ws f j h)
  have HM := Lib.hid (Row.made w (ws.length + 1) (Wrd.nx one ws f))
  have HB0 := Lib.hid (show Below w.heap.size w (w.alloc (.cells (madeCells #[.bool false] (ws.length + 1)) 4)) from (Below.refl _ _).alloc (Nat.le_refl _) _)
  obtain ⟨n, hn⟩ : ∃ n, n = ws.length + 1 := ⟨_, rfl⟩
  rw [← hn] at HF HM HB0
  rw [← hn]
  have hn1 : ws.length < n := by omega
  have hn2 : n ≤ ws.length + 1 := by omega
  clear hr hf hn
  have hmk := run_make_row' (P := Tryz.prog) 165 4 (.bool false) 1 Tryz.underlying165 info4 rfl .i64 .i64 n (by omega) (by omega)
  go_enter Tryz.func136, Tryz.ntmps136
  go_wp2_with fail
  go_loopg [14] n (fun g i wr => NextSt one ws f w w.heap.size n g i wr)
  case atStart => exact ⟨0, by omega, rfl, HM.out, HB0.out⟩
  case round =>
    obtain ⟨k, hk, rfl, hrow, hB⟩ := hrel
    have HROW := Lib.hid hrow
    have HB := Lib.hid hB
    have HFR := Lib.hid (HF.out.on hB HF.out.lt)
    have HRR := Lib.hid (HR.out.on hB)
    clear hrow hB
    by_cases hlt : k < n
    · have hfz := HROW.out.free k
      have hck := HROW.out.cell hlt
      cases h35 : one == Wrd.hash with
      | true =>
        have e35 : ((ofL one).toList == [35]) = true := by rw [ofL_str]; exact h35
        have hcf := HFR.out.cell hlt
        cases k with
        | zero =>
          have HV := Lib.hid (show f 0 = Wrd.nx one ws f 0 by rw [HN0.out, h35]; rfl)
          clear h35
          cases hb : f 0 with
          | true =>
            rw [hb] at HV hcf
            clear hb
            go_wp2_with fail
            go_roundg (gk - 1)
            case rel => exact ⟨0 + 1, by omega, by go_num, HROW.out.put HV.out, HB.out.setCell (Nat.le_refl _) _⟩
            case measure => omega
          | false =>
            rw [hb] at HV hcf
            clear hb
            go_wp2_with fail
            go_roundg (gk - 1)
            case rel => exact ⟨0 + 1, by omega, by go_num, HROW.out.put HV.out, HB.out.setCell (Nat.le_refl _) _⟩
            case measure => omega
        | succ j =>
          have hjw : j < ws.length := by omega
          have HV := Lib.hid (show (f (j + 1) || Wrd.nx one ws f j) = Wrd.nx one ws f (j + 1) by rw [HNS.out j hjw, if_pos h35])
          have hcn := HROW.out.cell (j := j) (by omega)
          rw [upto_at _ (Nat.lt_succ_self j)] at hcn
          clear h35
          cases hb : f (j + 1) with
          | true =>
            rw [hb] at HV hcf
            clear hb
            go_wp2_with fail
            go_roundg (gk - 1)
            case rel => exact ⟨j + 1 + 1, by omega, by go_num, HROW.out.put (by have := HV.out; rw [Bool.true_or] at this; exact this), HB.out.setCell (Nat.le_refl _) _⟩
            case measure => omega
          | false =>
            rw [hb] at HV hcf
            clear hb
            generalize Wrd.nx one ws f j = c at hcn HV
            go_wp2_with fail
            go_roundg (gk - 1)
            case rel => exact ⟨j + 1 + 1, by omega, by go_num, HROW.out.put (by have := HV.out; rw [Bool.false_or] at this; exact this), HB.out.setCell (Nat.le_refl _) _⟩
            case measure => omega
      | false =>
        have e35 : ((ofL one).toList == [35]) = false := by rw [ofL_str]; exact h35
        cases k with
        | zero =>
          have HV := Lib.hid (show Wrd.nx one ws f 0 = false by rw [HN0.out, h35]; rfl)
          clear h35
          go_wp2_with fail
          go_roundg (gk - 1)
          case rel => exact ⟨0 + 1, by omega, by go_num, HROW.out.pass HV.out, HB.out⟩
          case measure => omega
        | succ j =>
          have hjw : j < ws.length := by omega
          have HV := Lib.hid (show (f j && (one == Wrd.star || one == ws[j])) = Wrd.nx one ws f (j + 1) by rw [HNS.out j hjw, if_neg (by rw [h35]; simp)])
          have hcf := HFR.out.cell (j := j) (by omega)
          obtain ⟨gp, rfl, hcw⟩ := HRR.out j hjw
          clear h35
          cases hb : f j with
          | false =>
            rw [hb] at HV hcf
            clear hb
            go_wp2_with fail
            go_roundg (gk - 1)
            case rel => exact ⟨j + 1 + 1, by omega, by go_num, HROW.out.put (by have := HV.out; rw [Bool.false_and] at this; exact this), HB.out.setCell (Nat.le_refl _) _⟩
            case measure => omega
          | true =>
            rw [hb, Bool.true_and] at HV
            rw [hb] at hcf
            clear hb
            cases h42 : one == Wrd.star with
            | true =>
              have e42 : ((ofL one).toList == [42]) = true := by rw [ofL_str]; exact h42
              rw [h42, Bool.true_or] at HV
              clear h42
              go_wp2_with fail
              go_roundg (gk - 1)
              case rel => exact ⟨j + 1 + 1, by omega, by go_num, HROW.out.put HV.out, HB.out.setCell (Nat.le_refl _) _⟩
              case measure => omega
            | false =>
              have e42 : ((ofL one).toList == [42]) = false := by rw [ofL_str]; exact h42
              rw [h42, Bool.false_or] at HV
              clear h42
              cases hq : one == ws[j] with
              | true =>
                have eq1 : ((ofL one).toList == (ofL ws[j]).toList) = true := by rw [str_eq]; exact hq
                rw [hq] at HV
                clear hq
                go_wp2_with fail
                go_roundg (gk - 1)
                case rel => exact ⟨j + 1 + 1, by omega, by go_num, HROW.out.put HV.out, HB.out.setCell (Nat.le_refl _) _⟩
                case measure => omega
              | false =>
                have eq1 : ((ofL one).toList == (ofL ws[j]).toList) = false := by rw [str_eq]; exact hq
                rw [hq] at HV
                clear hq
                go_wp2_with fail
                go_roundg (gk - 1)
                case rel => exact ⟨j + 1 + 1, by omega, by go_num, HROW.out.put HV.out, HB.out.setCell (Nat.le_refl _) _⟩
                case measure => omega
    · have hkn : k = n := by omega
      have HD := Lib.hid (show Row wr w.heap.size n (Wrd.nx one ws f) from Row.all (by have := HROW.out; rw [hkn] at this; exact this))
      clear hkn
      go_wp2_with fail
      go_ret
      exact ⟨rfl, HD.out, HB.out⟩
end Go.Proofs.YtecjngodfciokaaGreatDoor
end
