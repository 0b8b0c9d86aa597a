/-
  RULES; whether one may be: walked, the program's and the document's. WHETHER A KEY MATCHES A PATTERN, walked: the program's.
-/
import Derived.Test.YtopobliajgocaaaGreatDoorZp10
import Derived.Test.YtopobliajgocaaaGreatDoorZp12
import Derived.Deep.Upon
import Derived.Deep.OwnRows
section
namespace Go.Proofs.YtopobliajgocaaaGreatDoor
open Go.ChangeShapes Go.WideShapes Go.ChangeAt Go.RowKit
/-- a rule -/
structure Ru where
  sort : Nat
  key : List UInt8
  want : List Hd.Pr
  all : Bool
def ruV (r : Ru) (A : Option Addr) (c : Nat) : Value := .agg #[.int .u8 (r.sort : Int), .string (ofL r.key), .slice A r.want.length c, .bool r.all]
def ruL (r : Ru) (A : Option Addr) (c : Nat) : List Value := [.int .u8 (r.sort : Int), .string (ofL r.key), .slice A r.want.length c, .bool r.all]
/-- what is wrong with its key -/
def kcode (r : Ru) : Nat := if r.sort = 0 then Wrd.keyCode [] r.key else Wrd.keyCode wild r.key
/-- what is wrong with it -/
def ruCode (r : Ru) : Nat := if 3 < r.sort then 8 else if kcode r ≠ 0 then kcode r else Hd.hcode r.want
theorem ru_kind {r : Ru} (h : 3 < r.sort) : ruCode r = 8 := by unfold ruCode; rw [if_pos h]
theorem ru_key {r : Ru} (h : ¬ 3 < r.sort) (hk : kcode r ≠ 0) : ruCode r = kcode r := by unfold ruCode; rw [if_neg h, if_pos hk]
theorem ru_want {r : Ru} (h : ¬ 3 < r.sort) (hk : kcode r = 0) : ruCode r = Hd.hcode r.want := by unfold ruCode; rw [if_neg h, if_neg (by omega)]
/-- a rule's numbers are such that they can be walked -/
structure RuOk (w : World) (r : Ru) (A : Option Addr) (c : Nat) : Prop where
  key : r.key.length ≤ 90000
  len : r.want.length ≤ 100000
  cap : r.want.length ≤ c
  lite : Lite r.want
  row : Prs w A r.want
theorem RuOk.on {w w' : World} {r : Ru} {A : Option Addr} {c : Nat} (h : RuOk w r A c) (hb : Below w.heap.size w w') : RuOk w' r A c := ⟨h.key, h.len, h.cap, h.lite, h.row.on hb⟩
theorem ruBox (r : Ru) (A : Option Addr) (c : Nat) (w : World) (t : TypeId) : Cels (w.alloc (.cells #[.int .u8 (r.sort : Int), .string (ofL r.key), .slice A r.want.length c, .bool r.all] t)) w.heap.size (ruL r A c) := Cels.new w _ t
theorem checkKey_any (r : Ru) (A : Option Addr) (c : Nat) (w : World) (h : RuOk w r A c) (hL : Len w) :
    Calls Tryz.prog 86 #[ruV r A c] w fun e w' => e = .returned (.int .i64 (kcode r : Int)) ∧ Below w.heap.size w w' := by
  have HB0 := Lib.hid (show Below w.heap.size w (w.alloc (.cells #[.int .u8 (r.sort : Int), .string (ofL r.key), .slice A r.want.length c, .bool r.all] 106)) from (Below.refl _ _).alloc (Nat.le_refl _) _)
  have HL0 := Lib.hid (hL.on HB0.out)
  have hkl := h.key
  have HK := Lib.hid (fun W h => key_any r.key W (by omega) h)
  have HPT := Lib.hid (fun W h => pattern_any r.key W (by omega) h)
  have HC : Hid (kcode r = if r.sort = 0 then Wrd.keyCode [] r.key else Wrd.keyCode wild r.key) := rfl
  simp only [ruV]
  by_cases h0 : r.sort = 0
  · have HCC := Lib.hid (show kcode r = Wrd.keyCode [] r.key by rw [HC.out, if_pos h0])
    have hz : ((r.sort : Int) == 0) = true := by rw [h0]; rfl
    clear h0 h hL
    go_enter Tryz.func86, Tryz.ntmps86
    go_wp2_with fail
    refine (HK.out _ HL0.out).mono ?_
    rintro e w1 ⟨rfl, b1⟩
    have HB1 := Lib.hid (bthen HB0.out b1 (Nat.le_refl _))
    clear b1
    go_wp2_with fail
    go_ret
    exact ⟨ret_nat (by rw [HCC.out]), HB1.out⟩
  · have HCC := Lib.hid (show kcode r = Wrd.keyCode wild r.key by rw [HC.out, if_neg h0])
    have hz : ((r.sort : Int) == 0) = false := beq_eq_false_iff_ne.2 (by omega)
    clear h0 h hL
    go_enter Tryz.func86, Tryz.ntmps86
    go_wp2_with fail
    refine (HPT.out _ HL0.out).mono ?_
    rintro e w1 ⟨rfl, b1⟩
    have HB1 := Lib.hid (bthen HB0.out b1 (Nat.le_refl _))
    clear b1
    go_wp2_with fail
    go_ret
    exact ⟨ret_nat (by rw [HCC.out]), HB1.out⟩
set_option maxHeartbeats 2000000 in
theorem mCheck_any (r : Ru) (A : Option Addr) (c : Nat) (w : World) (h : RuOk w r A c) (hL : Len w) :
    Calls Tryz.prog 76 #[ruV r A c] w fun e w' => e = .returned (.int .i64 (ruCode r : Int)) ∧ Below w.heap.size w w' := by
  have HB0 := Lib.hid (show Below w.heap.size w (w.alloc (.cells #[.int .u8 (r.sort : Int), .string (ofL r.key), .slice A r.want.length c, .bool r.all] 106)) from (Below.refl _ _).alloc (Nat.le_refl _) _)
  have HX0 := Lib.hid (ruBox r A c w 106)
  have HL0 := Lib.hid (hL.on HB0.out)
  have HR0 := Lib.hid (h.on HB0.out)
  have HCK := Lib.hid (fun W h h' => checkKey_any r A c W h h')
  have HHC := Lib.hid (fun W h' => hCheck_any r.want A c W h.len h.cap h.lite h')
  have H1 := Lib.hid (fun g => ru_kind (r := r) g)
  have H2 := Lib.hid (fun g k => ru_key (r := r) g k)
  have H3 := Lib.hid (fun g k => ru_want (r := r) g k)
  clear h hL
  generalize ruCode r = C at *
  generalize kcode r = K at *
  generalize Hd.hcode r.want = H at *
  simp only [ruV] at HCK ⊢
  by_cases h3 : 3 < r.sort
  · have HC := Lib.hid (H1.out h3)
    have hz : decide ((3 : Int) < (r.sort : Int)) = true := decide_eq_true (by omega)
    clear h3
    go_enter Tryz.func76, Tryz.ntmps76
    go_wp2_with fail
    go_ret
    exact ⟨ret_nat (by rw [HC.out]; rfl), HB0.out⟩
  · have hz : decide ((3 : Int) < (r.sort : Int)) = false := decide_eq_false (by omega)
    by_cases hk : K = 0
    · have HC := Lib.hid (H3.out h3 hk)
      have hk0 := code_eq hk
      clear h3 hk
      go_enter Tryz.func76, Tryz.ntmps76
      go_wp2_with fail
      refine (HCK.out _ HR0.out HL0.out).mono ?_
      rintro e w1 ⟨rfl, b1⟩
      have HX1 := Lib.hid (HX0.out.on b1 (by simp))
      have HB1 := Lib.hid (bthen HB0.out b1 (Nat.le_refl _))
      have HR1 := Lib.hid (HR0.out.on b1)
      have hlt1 : w.heap.size < w1.heap.size := by have := b1.size; simp at this; omega
      clear b1
      have c2 := HX1.out 2 _ rfl
      go_wp2_with fail
      refine (HHC.out _ HR1.out.row).mono ?_
      rintro e w2 ⟨rfl, b2⟩
      have HB2 := Lib.hid (bthen HB1.out b2 (Nat.le_refl _))
      clear b2
      go_wp2_with fail
      go_ret
      exact ⟨ret_nat (by rw [HC.out]), HB2.out⟩
    · have HC := Lib.hid (H2.out h3 hk)
      have hk0 := code_ne hk
      clear h3 hk
      go_enter Tryz.func76, Tryz.ntmps76
      go_wp2_with fail
      refine (HCK.out _ HR0.out HL0.out).mono ?_
      rintro e w1 ⟨rfl, b1⟩
      have HB1 := Lib.hid (bthen HB0.out b1 (Nat.le_refl _))
      clear b1
      go_wp2_with fail
      go_ret
      exact ⟨ret_nat (by rw [HC.out]), HB1.out⟩
theorem kcode_ref (r : Ru) : Wrd.keyCode (wildIf (decide (0 < r.sort))) r.key = kcode r := by
  unfold kcode
  by_cases h : r.sort = 0
  · rw [if_pos h, decide_eq_false (by omega)]; rfl
  · rw [if_neg h, decide_eq_true (by omega)]; rfl
set_option maxHeartbeats 2000000 in
theorem rCheck10_any (r : Ru) (A : Option Addr) (c : Nat) (w : World) (h : RuOk w r A c) :
    Calls Tryz.prog 62 #[ruV r A c] w fun e w' => e = .returned (.int .i64 (ruCode r : Int)) ∧ Below w.heap.size w w' := by
  have HB0 := Lib.hid (show Below w.heap.size w (w.alloc (.cells #[.int .u8 (r.sort : Int), .string (ofL r.key), .slice A r.want.length c, .bool r.all] 88)) from (Below.refl _ _).alloc (Nat.le_refl _) _)
  have HX0 := Lib.hid (ruBox r A c w 88)
  have HR0 := Lib.hid (h.on HB0.out)
  have hck := fun W => rkey_any r.key (decide (0 < r.sort)) W (by have := h.key; omega)
  rw [kcode_ref] at hck
  have HCK := Lib.hid hck
  have HHC := Lib.hid (fun W h' => rCheck9_any r.want A c W h.len h.cap h.lite h')
  have H1 := Lib.hid (fun g => ru_kind (r := r) g)
  have H2 := Lib.hid (fun g k => ru_key (r := r) g k)
  have H3 := Lib.hid (fun g k => ru_want (r := r) g k)
  clear h hck
  generalize ruCode r = C at *
  generalize kcode r = K at *
  generalize Hd.hcode r.want = H at *
  simp only [ruV]
  by_cases h3 : 3 < r.sort
  · have HC := Lib.hid (H1.out h3)
    have hz : decide ((3 : Int) < (r.sort : Int)) = true := decide_eq_true (by omega)
    clear h3
    go_enter Tryz.func62, Tryz.ntmps62
    go_wp2_with fail
    go_ret
    exact ⟨ret_nat (by rw [HC.out]; rfl), HB0.out⟩
  · have hz : decide ((3 : Int) < (r.sort : Int)) = false := decide_eq_false (by omega)
    by_cases hk : K = 0
    · have HC := Lib.hid (H3.out h3 hk)
      have hk0 := code_eq hk
      clear h3 hk
      go_enter Tryz.func62, Tryz.ntmps62
      go_wp2_with fail
      refine (HCK.out _).mono ?_
      rintro e w1 ⟨rfl, b1⟩
      have HX1 := Lib.hid (HX0.out.on b1 (by simp))
      have HB1 := Lib.hid (bthen HB0.out b1 (Nat.le_refl _))
      have HR1 := Lib.hid (HR0.out.on b1)
      have hlt1 : w.heap.size < w1.heap.size := by have := b1.size; simp at this; omega
      clear b1
      have c2 := HX1.out 2 _ rfl
      go_wp2_with fail
      refine (HHC.out _ HR1.out.row).mono ?_
      rintro e w2 ⟨rfl, b2⟩
      have HB2 := Lib.hid (bthen HB1.out b2 (Nat.le_refl _))
      clear b2
      go_wp2_with fail
      go_ret
      exact ⟨ret_nat (by rw [HC.out]), HB2.out⟩
    · have HC := Lib.hid (H2.out h3 hk)
      have hk0 := code_ne hk
      clear h3 hk
      go_enter Tryz.func62, Tryz.ntmps62
      go_wp2_with fail
      refine (HCK.out _).mono ?_
      rintro e w1 ⟨rfl, b1⟩
      have HB1 := Lib.hid (bthen HB0.out b1 (Nat.le_refl _))
      clear b1
      go_wp2_with fail
      go_ret
      exact ⟨ret_nat (by rw [HC.out]), HB1.out⟩
end Go.Proofs.YtopobliajgocaaaGreatDoor
end
section
namespace Go.Proofs.YtopobliajgocaaaGreatDoor
open Go.ChangeShapes Go.WideShapes Go.ChangeAt Go.RowKit
theorem info4 : (Tryz.prog.info? 4).map (fun i => (i.zero, i.size, i.bytes)) = some (some (.bool false), 1, 1) := by kernel_rfl
/-- a row of truths in memory -/
def Row (w : World) (g n : Nat) (f : Nat → Bool) : Prop := w.rowIs g 4 n (fun j => .bool (f j))
def upto (k : Nat) (f : Nat → Bool) : Nat → Bool := fun j => decide (j < k) && f j
theorem Row.made (w : World) (n : Nat) (f : Nat → Bool) : Row (w.alloc (.cells (madeCells #[.bool false] n) 4)) w.heap.size n (upto 0 f) :=
  (World.rowIs_made w (.bool false) n 4).congr fun _ _ => by unfold upto; simp
theorem Row.put {w : World} {g n k : Nat} {f : Nat → Bool} (h : Row w g n (upto k f)) {b : Bool} (hb : b = f k) : Row (w.setCell ⟨g, k, none⟩ (.bool b)) g n (upto (k + 1) f) := by
  refine (World.rowIs.set h k (.bool b)).congr fun j _ => ?_
  unfold upto
  by_cases e : j = k
  · rw [if_pos e, hb, e]; simp
  · rw [if_neg e]
    have : decide (j < k + 1) = decide (j < k) := by rw [Bool.eq_iff_iff]; simp; omega
    rw [this]
theorem Row.pass {w : World} {g n k : Nat} {f : Nat → Bool} (h : Row w g n (upto k f)) (hb : f k = false) : Row w g n (upto (k + 1) f) := by
  refine World.rowIs.congr h fun j _ => ?_
  unfold upto
  by_cases e : j = k
  · rw [e, hb]; simp
  · have : decide (j < k + 1) = decide (j < k) := by rw [Bool.eq_iff_iff]; simp; omega
    rw [this]
theorem Row.all {w : World} {g n : Nat} {f : Nat → Bool} (h : Row w g n (upto n f)) : Row w g n f :=
  World.rowIs.congr h fun j hj => by unfold upto; simp [hj]
theorem Row.cell {w : World} {g n : Nat} {f : Nat → Bool} (h : Row w g n f) {j : Nat} (hj : j < n) : w.cell? ⟨g, j, none⟩ = some (.bool (f j)) := World.rowIs.cell h hj
theorem Row.on {w w' : World} {g n B : Nat} {f : Nat → Bool} (h : Row w g n f) (hb : Below B w w') (hg : g < B) : Row w' g n f := World.rowIs.of_block h (hb.block g hg)
theorem Row.lt {w : World} {g n : Nat} {f : Nat → Bool} (h : Row w g n f) : g < w.heap.size := World.rowIs.lt h
theorem Row.free {w : World} {g n : Nat} {f : Nat → Bool} (h : Row w g n f) (j : Nat) : w.frozen? ⟨g, j, none⟩ = false := World.rowIs.frozen h j
theorem upto_at {k j : Nat} (f : Nat → Bool) (h : j < k) : upto k f j = f j := by unfold upto; simp [h]
theorem nx_zero (one : List UInt8) (ws : List (List UInt8)) (f : Nat → Bool) : Wrd.nx one ws f 0 = ((one == Wrd.hash) && f 0) := rfl
theorem nx_succ (one : List UInt8) (ws : List (List UInt8)) (f : Nat → Bool) (j : Nat) (h : j < ws.length) :
    Wrd.nx one ws f (j + 1) = if one == Wrd.hash then f (j + 1) || Wrd.nx one ws f j else f j && (one == Wrd.star || one == ws[j]) := by
  rw [Wrd.nx, List.getD_eq_getElem?_getD, List.getElem?_eq_getElem h]; rfl
/-- the loop's state: so much of the next row is there -/
def NextSt (one : List UInt8) (ws : List (List UInt8)) (f : Nat → Bool) (w : World) (B n g : Nat) (i : Value) (wr : World) : Prop :=
  ∃ k : Nat, k + g = n ∧ i = .int .i64 (k : Int) ∧ Row wr B n (upto k (Wrd.nx one ws f)) ∧ Below B w wr
theorem str_eq (x y : List UInt8) : ((ofL x).toList == (ofL y).toList) = (x == y) := by rw [ofL_str, ofL_str]
set_option maxRecDepth 8000 in
set_option maxHeartbeats 4000000 in
theorem behind_any (one : List UInt8) (ws : List (List UInt8)) (f : Nat → Bool) (p : Option Addr) (cap gb cf : Nat) (w : World) (hws : ws.length ≤ 100000) (hr : Reads w p ws) (hf : Row w gb (ws.length + 1) f) :
    Calls Tryz.prog 89 #[.string (ofL one), .slice p ws.length cap, .slice (some ⟨gb, 0, none⟩) (ws.length + 1 : Nat) cf] w fun e w' =>
      e = .returned (.slice (some ⟨w.heap.size, 0, none⟩) (ws.length + 1 : Nat) (ws.length + 1 : Nat)) ∧ Row w' w.heap.size (ws.length + 1) (Wrd.nx one ws f) ∧ Below w.heap.size w w' := by
  have HR := Lib.hid hr
  have HF := Lib.hid hf
  have HN0 := Lib.hid (nx_zero one ws f)
  have HNS := Lib.hid (fun j h => nx_succ one ws f j h)
  have HM := Lib.hid (Row.made w (ws.length + 1) (Wrd.nx one ws f))
  have HB0 := Lib.hid (show Below w.heap.size w (w.alloc (.cells (madeCells #[.bool false] (ws.length + 1)) 4)) from (Below.refl _ _).alloc (Nat.le_refl _) _)
  obtain ⟨n, hn⟩ : ∃ n, n = ws.length + 1 := ⟨_, rfl⟩
  rw [← hn] at HF HM HB0
  rw [← hn]
  have hn1 : ws.length < n := by omega
  have hn2 : n ≤ ws.length + 1 := by omega
  clear hr hf hn
  have hmk := run_make_row' (P := Tryz.prog) 114 4 (.bool false) 1 Tryz.underlying114 info4 rfl .i64 .i64 n (by omega) (by omega)
  go_enter Tryz.func89, Tryz.ntmps89
  go_wp2_with fail
  go_loopg [14] n (fun g i wr => NextSt one ws f w w.heap.size n g i wr)
  case atStart => exact ⟨0, by omega, rfl, HM.out, HB0.out⟩
  case round =>
    obtain ⟨k, hk, rfl, hrow, hB⟩ := hrel
    have HROW := Lib.hid hrow
    have HB := Lib.hid hB
    have HFR := Lib.hid (HF.out.on hB HF.out.lt)
    have HRR := Lib.hid (HR.out.on hB)
    clear hrow hB
    by_cases hlt : k < n
    · have hfz := HROW.out.free k
      have hck := HROW.out.cell hlt
      cases h35 : one == Wrd.hash with
      | true =>
        have e35 : ((ofL one).toList == [35]) = true := by rw [ofL_str]; exact h35
        have hcf := HFR.out.cell hlt
        cases k with
        | zero =>
          have HV := Lib.hid (show f 0 = Wrd.nx one ws f 0 by rw [HN0.out, h35]; rfl)
          clear h35
          cases hb : f 0 with
          | true =>
            rw [hb] at HV hcf
            clear hb
            go_wp2_with fail
            go_roundg (gk - 1)
            case rel => exact ⟨0 + 1, by omega, by go_num, HROW.out.put HV.out, HB.out.setCell (Nat.le_refl _) _⟩
            case measure => omega
          | false =>
            rw [hb] at HV hcf
            clear hb
            go_wp2_with fail
            go_roundg (gk - 1)
            case rel => exact ⟨0 + 1, by omega, by go_num, HROW.out.put HV.out, HB.out.setCell (Nat.le_refl _) _⟩
            case measure => omega
        | succ j =>
          have hjw : j < ws.length := by omega
          have HV := Lib.hid (show (f (j + 1) || Wrd.nx one ws f j) = Wrd.nx one ws f (j + 1) by rw [HNS.out j hjw, if_pos h35])
          have hcn := HROW.out.cell (j := j) (by omega)
          rw [upto_at _ (Nat.lt_succ_self j)] at hcn
          clear h35
          cases hb : f (j + 1) with
          | true =>
            rw [hb] at HV hcf
            clear hb
            go_wp2_with fail
            go_roundg (gk - 1)
            case rel => exact ⟨j + 1 + 1, by omega, by go_num, HROW.out.put (by have := HV.out; rw [Bool.true_or] at this; exact this), HB.out.setCell (Nat.le_refl _) _⟩
            case measure => omega
          | false =>
            rw [hb] at HV hcf
            clear hb
            generalize Wrd.nx one ws f j = c at hcn HV
            go_wp2_with fail
            go_roundg (gk - 1)
            case rel => exact ⟨j + 1 + 1, by omega, by go_num, HROW.out.put (by have := HV.out; rw [Bool.false_or] at this; exact this), HB.out.setCell (Nat.le_refl _) _⟩
            case measure => omega
      | false =>
        have e35 : ((ofL one).toList == [35]) = false := by rw [ofL_str]; exact h35
        cases k with
        | zero =>
          have HV := Lib.hid (show Wrd.nx one ws f 0 = false by rw [HN0.out, h35]; rfl)
          clear h35
          go_wp2_with fail
          go_roundg (gk - 1)
          case rel => exact ⟨0 + 1, by omega, by go_num, HROW.out.pass HV.out, HB.out⟩
          case measure => omega
        | succ j =>
          have hjw : j < ws.length := by omega
          have HV := Lib.hid (show (f j && (one == Wrd.star || one == ws[j])) = Wrd.nx one ws f (j + 1) by rw [HNS.out j hjw, if_neg (by rw [h35]; simp)])
          have hcf := HFR.out.cell (j := j) (by omega)
          obtain ⟨gp, rfl, hcw⟩ := HRR.out j hjw
          clear h35
          cases hb : f j with
          | false =>
            rw [hb] at HV hcf
            clear hb
            go_wp2_with fail
            go_roundg (gk - 1)
            case rel => exact ⟨j + 1 + 1, by omega, by go_num, HROW.out.put (by have := HV.out; rw [Bool.false_and] at this; exact this), HB.out.setCell (Nat.le_refl _) _⟩
            case measure => omega
          | true =>
            rw [hb, Bool.true_and] at HV
            rw [hb] at hcf
            clear hb
            cases h42 : one == Wrd.star with
            | true =>
              have e42 : ((ofL one).toList == [42]) = true := by rw [ofL_str]; exact h42
              rw [h42, Bool.true_or] at HV
              clear h42
              go_wp2_with fail
              go_roundg (gk - 1)
              case rel => exact ⟨j + 1 + 1, by omega, by go_num, HROW.out.put HV.out, HB.out.setCell (Nat.le_refl _) _⟩
              case measure => omega
            | false =>
              have e42 : ((ofL one).toList == [42]) = false := by rw [ofL_str]; exact h42
              rw [h42, Bool.false_or] at HV
              clear h42
              cases hq : one == ws[j] with
              | true =>
                have eq1 : ((ofL one).toList == (ofL ws[j]).toList) = true := by rw [str_eq]; exact hq
                rw [hq] at HV
                clear hq
                go_wp2_with fail
                go_roundg (gk - 1)
                case rel => exact ⟨j + 1 + 1, by omega, by go_num, HROW.out.put HV.out, HB.out.setCell (Nat.le_refl _) _⟩
                case measure => omega
              | false =>
                have eq1 : ((ofL one).toList == (ofL ws[j]).toList) = false := by rw [str_eq]; exact hq
                rw [hq] at HV
                clear hq
                go_wp2_with fail
                go_roundg (gk - 1)
                case rel => exact ⟨j + 1 + 1, by omega, by go_num, HROW.out.put HV.out, HB.out.setCell (Nat.le_refl _) _⟩
                case measure => omega
    · have hkn : k = n := by omega
      have HD := Lib.hid (show Row wr w.heap.size n (Wrd.nx one ws f) from Row.all (by have := HROW.out; rw [hkn] at this; exact this))
      clear hkn
      go_wp2_with fail
      go_ret
      exact ⟨rfl, HD.out, HB.out⟩
end Go.Proofs.YtopobliajgocaaaGreatDoor
end
