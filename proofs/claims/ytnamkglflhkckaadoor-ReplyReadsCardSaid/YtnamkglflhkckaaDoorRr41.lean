/-
  WHETHER A KEY MATCHES A PATTERN, walked: the program's, whole. THE CHAPTER'S EXAMPLE, walked. THE CHAPTER's EXAMPLE; two heads held against each other: THE LAW HeadSame, walked. PLAIN ARITHMETIC of the sum of 32 bits: one bit's step as a function on natural numbers, that it is linear over xor, loses nothing below 2^32, and that four of its steps are one look into the table. No program is spoken of here.
-/
import Derived.Test.YtnamkglflhkckaaDoorRr23
import Derived.Test.YtnamkglflhkckaaDoorRr40

section
namespace Go.Proofs.YtnamkglflhkckaaDoor
open Go.ChangeShapes Go.WideShapes Go.ChangeAt Go.RowKit
def made0 (n : Nat) : Obj := .cells ((madeCells #[.bool false] n).setIfInBounds 0 (.bool true)) 4
theorem row_start (w : World) (n : Nat) (ks : List (List UInt8)) : Row (w.alloc (made0 n)) w.heap.size n (Wrd.row ks []) := by
  have hs : ((madeCells #[Value.bool false] n).setIfInBounds 0 (.bool true)).size = n := by rw [Array.size_setIfInBounds, size_madeCells]
  have := World.rowIs_alloc w ((madeCells #[Value.bool false] n).setIfInBounds 0 (.bool true)) 4 (fun j => .bool (Wrd.row ks [] j)) (fun i hi => by
    rw [hs] at hi
    rw [Array.getElem?_setIfInBounds]
    cases i with
    | zero => rw [if_pos rfl, if_pos (by rw [size_madeCells]; exact hi)]; rfl
    | succ i => rw [if_neg (by omega)]; simp [madeCells, hi, Nat.mod_one, Wrd.row])
  rw [hs] at this
  exact this
theorem start_below {w w1 : World} {B n : Nat} (h : Below B w w1) (hB : B ≤ w1.heap.size) : Below B w (w1.alloc (made0 n)) := h.alloc hB _
theorem start_cell (w1 : World) (n : Nat) (hn : 0 < n) : (w1.alloc (.cells (madeCells #[.bool false] n) 4)).cell? ⟨w1.heap.size, 0, none⟩ = some (.bool false) := by
  have := (Row.made w1 n (fun _ => false)).cell (j := 0) hn
  exact this
theorem start_free (w1 : World) (n : Nat) : (w1.alloc (.cells (madeCells #[.bool false] n) 4)).frozen? ⟨w1.heap.size, 0, none⟩ = false := (Row.made w1 n (fun _ => false)).free 0
theorem behind_n (one : List UInt8) (ws : List (List UInt8)) (f : Nat → Bool) (p : Option Addr) (cap gb cf n : Nat) (hn : n = ws.length + 1) (w : World) (hws : ws.length ≤ 100000) (hr : Reads w p ws) (hf : Row w gb n f) :
    Calls Tryd.prog 112 #[.string (ofL one), .slice p ws.length cap, .slice (some ⟨gb, 0, none⟩) n cf] w fun e w' =>
      e = .returned (.slice (some ⟨w.heap.size, 0, none⟩) n n) ∧ Row w' w.heap.size n (Wrd.nx one ws f) ∧ Below w.heap.size w w' := by
  subst hn
  exact behind_any one ws f p cap gb cf w hws hr hf
/-- the row behind the first k words -/
def RowSt (ps ks : List (List UInt8)) (w : World) (n g : Nat) (o i : Value) (wr : World) : Prop :=
  ∃ k gb : Nat, k + g = ps.length ∧ i = .int .i64 (k : Int) ∧ o = .slice (some ⟨gb, 0, none⟩) n n ∧ Row wr gb n (Wrd.row ks (ps.take k).reverse) ∧ Below w.heap.size w wr
theorem row_next (ps ks : List (List UInt8)) (k : Nat) (h : k < ps.length) : Wrd.nx ps[k] ks (Wrd.row ks (ps.take k).reverse) = Wrd.row ks (ps.take (k + 1)).reverse := by
  rw [List.take_succ_eq_append_getElem h, List.reverse_append]; rfl
theorem row_end {ps ks : List (List UInt8)} {k : Nat} (h : k = ps.length) : Wrd.row ks (ps.take k).reverse ks.length = Wrd.matches' ps ks := by
  rw [h, List.take_length, Wrd.row_all]
set_option maxRecDepth 8000 in
set_option maxHeartbeats 4000000 in
theorem matches_any (pt ky : List UInt8) (w : World) (hp : pt.length ≤ 99999) (hk : ky.length ≤ 99999) (hL : Len w) :
    Calls Tryd.prog 109 #[.string (ofL pt), .string (ofL ky)] w fun e w' => e = .returned (.bool (Wrd.matches' (Wrd.words pt) (Wrd.words ky))) ∧ Below w.heap.size w w' := by
  have HS1 := Lib.hid (split_any ky w (by omega) hL)
  have HS2 := Lib.hid (fun W h => split_any pt W (by omega) h)
  have HL := Lib.hid hL
  have hkl := Wrd.words_len ky
  have hpl := Wrd.words_len pt
  have HEND := Lib.hid (fun k h => row_end (ps := Wrd.words pt) (ks := Wrd.words ky) (k := k) h)
  generalize Wrd.words ky = ks at *
  generalize Wrd.words pt = ps at *
  generalize Wrd.matches' ps ks = M at *
  generalize ofL ky = sk at *
  generalize ofL pt = sp at *
  obtain ⟨n, hn⟩ : ∃ n, n = ks.length + 1 := ⟨_, rfl⟩
  have HNN := Lib.hid hn
  have hn1 : ks.length < n := by omega
  have hn2 : n ≤ ks.length + 1 := by omega
  have hmk : ∀ w : World, Sem.run Tryd.prog (Instr.makeSlice 132 (.int .i64 ((ks.length : Int) + 1)) (.int .i64 ((ks.length : Int) + 1))) w = .ok (.slice (some ⟨w.heap.size, 0, none⟩) n n) (w.alloc (.cells (madeCells #[.bool false] n) 4)) := by
    intro W
    have := run_make_row' (P := Tryd.prog) 132 4 (.bool false) 1 Tryd.underlying132 info4 rfl .i64 .i64 n (by omega) (by omega) W
    rw [← this]
    have e : ((ks.length : Int) + 1) = (n : Int) := by omega
    rw [e]
  clear hn hL
  go_enter Tryd.func109, Tryd.ntmps109
  go_wp2_with fail
  refine HS1.out.mono ?_
  rintro e w1 ⟨v, rfl, hown, hB⟩
  obtain ⟨q, cq, rfl, hq⟩ := reads_own hown
  have HQ := Lib.hid hq
  have HB1 := Lib.hid hB
  have HL1 := Lib.hid (HL.out.on hB)
  clear hown hB hq
  have HBS := Lib.hid (start_below (n := n) (Below.refl w1.heap.size w1) (Nat.le_refl _))
  have HRS := Lib.hid (row_start w1 n ks)
  have HLS := Lib.hid (HL1.out.on HBS.out)
  have HQS := Lib.hid (HQ.out.on HBS.out)
  have HBW := Lib.hid (start_below (n := n) HB1.out HB1.out.size)
  have HS3 := HS2.out _ HLS.out
  unfold made0 at HS3 HBS HRS HLS HQS HBW
  have HS4 := Lib.hid HS3
  clear HS3 HS2
  have hc0 := start_cell w1 n (by omega)
  have hf0 := start_free w1 n
  go_wp2_with fail
  clear hc0 hf0
  generalize hW : w1.alloc (Obj.cells ((madeCells #[Value.bool false] n).setIfInBounds 0 (Value.bool true)) 4) = w2 at *
  clear hW
  refine HS4.out.mono ?_
  rintro e w3 ⟨v, rfl, hown, hB⟩
  obtain ⟨pp, cp, rfl, hpp⟩ := reads_own hown
  have HP := Lib.hid hpp
  have HR3 := Lib.hid (HRS.out.on hB HRS.out.lt)
  have HQ3 := Lib.hid (HQS.out.on hB)
  have HB3 := Lib.hid (HBW.out.trans (hB.mono HBW.out.size))
  clear hown hB hpp
  generalize w1.heap.size = g1 at *
  go_wp2_with fail
  go_loopg [6, 20] ps.length (fun g o i wr => RowSt ps ks w3 n g o i wr)
  case atStart => exact ⟨0, g1, by omega, rfl, rfl, by rw [List.take_zero]; exact HR3.out, Below.refl _ _⟩
  case round =>
    obtain ⟨k, gb, hk, rfl, rfl, hrow, hB⟩ := hrel
    have HROW := Lib.hid hrow
    have HBR := Lib.hid hB
    have HPR := Lib.hid (HP.out.on hB)
    have HQR := Lib.hid (HQ3.out.on hB)
    clear hrow hB
    by_cases hlt : k < ps.length
    · obtain ⟨gp, rfl, hcp⟩ := HPR.out k hlt
      have HBH := Lib.hid (behind_n ps[k] ks _ q cq gb n n HNN.out wr (by omega) HQR.out HROW.out)
      have HNX := Lib.hid (row_next ps ks k hlt)
      generalize ps[k] = one at *
      go_wp2_with fail
      refine HBH.out.mono ?_
      rintro e w4 ⟨rfl, hrow4, hB4⟩
      have HROW4 := Lib.hid hrow4
      have HB4 := Lib.hid hB4
      clear hrow4 hB4
      go_wp2_with fail
      go_roundg (gk - 1)
      case rel => exact ⟨k + 1, _, by omega, by go_num, rfl, by have := HROW4.out; rw [HNX.out] at this; exact this, HBR.out.trans (HB4.out.mono HBR.out.size)⟩
      case measure => omega
    · have hkl : k = ps.length := by omega
      have HE := Lib.hid (HEND.out k hkl)
      have hcl := HROW.out.cell hn1
      rw [HE.out] at hcl
      clear hkl
      go_wp2_with fail
      go_ret
      exact ⟨rfl, HB3.out.trans (HBR.out.mono HB3.out.size)⟩
end Go.Proofs.YtnamkglflhkckaaDoor
end
section
namespace Go.Proofs.YtnamkglflhkckaaDoor
open Go.ChangeShapes Go.WideShapes Go.ChangeAt Go.RowKit
def exP : List UInt8 := [97, 46, 42, 46, 35]
def exA : List UInt8 := [97, 46, 98]
def exB : List UInt8 := [97, 46, 98, 46, 99, 46, 100]
def exC : List UInt8 := [97]
def exN : List UInt8 := [97, 45, 49]
theorem ex_a : Wrd.matches' (Wrd.words exP) (Wrd.words exA) = true := by rw [← Wrd.row_all]; decide
theorem ex_b : Wrd.matches' (Wrd.words exP) (Wrd.words exB) = true := by rw [← Wrd.row_all]; decide
theorem ex_c : Wrd.matches' (Wrd.words exP) (Wrd.words exC) = false := by rw [← Wrd.row_all]; decide
theorem ex_n : Wrd.nameCode exN = 0 := by decide
theorem ex_a_at (w : World) (hL : Len w) : Calls Tryd.prog 109 #[.string ⟨#[97, 46, 42, 46, 35]⟩, .string ⟨#[97, 46, 98]⟩] w fun e w' => e = .returned (.bool true) ∧ Below w.heap.size w w' := by
  have h := matches_any exP exA w (by decide) (by decide) hL
  rw [ex_a] at h
  exact h
theorem ex_b_at (w : World) (hL : Len w) : Calls Tryd.prog 109 #[.string ⟨#[97, 46, 42, 46, 35]⟩, .string ⟨#[97, 46, 98, 46, 99, 46, 100]⟩] w fun e w' => e = .returned (.bool true) ∧ Below w.heap.size w w' := by
  have h := matches_any exP exB w (by decide) (by decide) hL
  rw [ex_b] at h
  exact h
theorem ex_c_at (w : World) (hL : Len w) : Calls Tryd.prog 109 #[.string ⟨#[97, 46, 42, 46, 35]⟩, .string ⟨#[97]⟩] w fun e w' => e = .returned (.bool false) ∧ Below w.heap.size w w' := by
  have h := matches_any exP exC w (by decide) (by decide) hL
  rw [ex_c] at h
  exact h
theorem ex_n_at (w : World) : Calls Tryd.prog 56 #[.string ⟨#[97, 45, 49]⟩] w fun e w' => e = .returned (.int .i64 0) ∧ w = w' := by
  have h := name_any exN w (by decide)
  rw [ex_n] at h
  exact h
set_option maxHeartbeats 1000000 in
theorem wawake_any (w : World) (hL : Len w) : Calls Tryd.prog 103 #[] w fun e w' => e = .returned (.bool true) ∧ Below w.heap.size w w' := by
  have HA := Lib.hid (ex_a_at w hL)
  have HL := Lib.hid hL
  clear hL
  go_enter Tryd.func103, Tryd.ntmps103
  go_wp2_with fail
  refine HA.out.mono ?_
  rintro e w1 ⟨rfl, hB1⟩
  have HL1 := Lib.hid (HL.out.on hB1)
  have HB1 := Lib.hid hB1
  clear hB1
  go_wp2_with fail
  refine (ex_b_at _ HL1.out).mono ?_
  rintro e w2 ⟨rfl, hB⟩
  have HL2 := Lib.hid (HL1.out.on hB)
  have HB2 := Lib.hid (HB1.out.trans (hB.mono HB1.out.size))
  clear hB
  go_wp2_with fail
  refine (ex_c_at _ HL2.out).mono ?_
  rintro e w3 ⟨rfl, hB⟩
  have HB3 := Lib.hid (HB2.out.trans (hB.mono HB2.out.size))
  clear hB
  go_wp2_with fail
  refine (ex_n_at _).mono ?_
  rintro e w' ⟨rfl, rfl⟩
  go_wp2_with fail
  go_ret
  exact ⟨rfl, HB3.out⟩
end Go.Proofs.YtnamkglflhkckaaDoor
end
section
namespace Go.Proofs.YtnamkglflhkckaaDoor
open Go.ChangeShapes Go.WideShapes Go.ChangeAt Go.RowKit
theorem law4Awake_any (w : World) (hL : Len w) : Calls Tryd.prog 94 #[] w fun e w' => e = .returned (.bool true) ∧ Below w.heap.size w w' := by
  have HA := Lib.hid (wawake_any w hL)
  go_enter Tryd.func94, Tryd.ntmps94
  go_wp2_with fail
  refine HA.out.mono ?_
  rintro x w1 ⟨rfl, b1⟩
  have B1 := Lib.hid b1
  clear b1
  go_wp2_with fail
  go_ret
  exact ⟨rfl, B1.out⟩
theorem lite_nil : Lite [] := fun i hi => absurd hi (by simp)
theorem hbytes_nil (w : World) : Calls Tryd.prog 52 #[.slice none 0 0] w fun e w' => e = .returned (.tuple #[.string ⟨#[0]⟩, .int .i64 0]) ∧ Below w.heap.size w w' := by
  have h := hbytes_any [] none 0 w (by simp) (by simp) lite_nil (Prs.nil _ _)
  rw [show hbytesV [] = .tuple #[.string ⟨#[0]⟩, .int .i64 0] from rfl] at h
  exact h
set_option maxHeartbeats 1000000 in
theorem awake9_any (w : World) (hL : Len w) : Calls Tryd.prog 70 #[] w fun e w' => e = .returned (.bool true) ∧ Below w.heap.size w w' := by
  have HL := Lib.hid hL
  clear hL
  have he : (({ data := #[0] } : ByteArray).toList == [0]) = true := by rw [ByteArray.toList_eq]; rfl
  go_enter Tryd.func70, Tryd.ntmps70
  go_wp2_with fail
  refine (hbytes_nil _).mono ?_
  rintro e w1 ⟨rfl, b1⟩
  have HL1 := Lib.hid (HL.out.on b1)
  have HB1 := Lib.hid b1
  clear b1
  go_wp2_with fail
  refine (octAwake2_any _).mono ?_
  rintro e w2 ⟨rfl, b2⟩
  have HL2 := Lib.hid (HL1.out.on b2)
  have HB2 := Lib.hid (bthen HB1.out b2 (Nat.le_refl _))
  clear b2
  go_wp2_with fail
  refine (law4Awake_any _ HL2.out).mono ?_
  rintro e w3 ⟨rfl, b3⟩
  have HB3 := Lib.hid (bthen HB2.out b3 (Nat.le_refl _))
  clear b3
  go_wp2_with fail
  go_ret
  exact ⟨rfl, HB3.out⟩
end Go.Proofs.YtnamkglflhkckaaDoor
end
section
namespace Go.Proofs.YtnamkglflhkckaaDoor.Crc
def half (r : Nat) : Nat := if r % 2 = 1 then (r / 2) ^^^ 3988292384 else r / 2
def halves : Nat → Nat → Nat
  | 0, r => r
  | k + 1, r => halves k (half r)
def step (r b : Nat) : Nat := halves 8 (r ^^^ b)
def run (r : Nat) (l : List UInt8) : Nat := l.foldl (fun r b => step r b.toNat) r
def sum (l : List UInt8) : Nat := run 4294967295 l ^^^ 4294967295
def table : List Int := [0, 498536548, 997073096, 651767980, 1994146192, 1802195444, 1303535960, 1342533948, 3988292384, 4027552580, 3604390888, 3412177804, 2607071920, 2262029012, 2685067896, 3183342108]
def nib (r : Nat) : Nat := (r / 16) ^^^ (table.getD (r % 16) 0).toNat
def nibs : Nat → Nat → Nat
  | 0, r => r
  | k + 1, r => nibs k (nib r)

theorem xor_lt {a b : Nat} (ha : a < 4294967296) (hb : b < 4294967296) : a ^^^ b < 4294967296 := Nat.xor_lt_two_pow (n := 32) ha hb
theorem half_lt {r : Nat} (h : r < 4294967296) : half r < 4294967296 := by
  unfold half
  split
  · exact xor_lt (by omega) (by omega)
  · omega
theorem halves_lt (k : Nat) : ∀ {r : Nat}, r < 4294967296 → halves k r < 4294967296 := by
  induction k with
  | zero => intro r h; exact h
  | succ k ih => intro r h; exact ih (half_lt h)
theorem halves_add (j k r : Nat) : halves (j + k) r = halves k (halves j r) := by
  induction j generalizing r with
  | zero => simp [halves]
  | succ j ih => rw [show j + 1 + k = (j + k) + 1 from by omega, halves, ih, halves]
theorem xor_div2 (a b : Nat) : (a ^^^ b) / 2 = (a / 2) ^^^ (b / 2) := by
  have h := @Nat.shiftRight_xor_distrib 1 a b
  simpa [Nat.shiftRight_eq_div_pow] using h
theorem xor_mod2 (a b : Nat) : (a ^^^ b) % 2 = (a + b) % 2 := by
  have h := @Nat.xor_mod_two_eq_one a b
  by_cases hc : (a ^^^ b) % 2 = 1
  · have := h.1 hc
    omega
  · have : ¬ ¬ (a % 2 = 1 ↔ b % 2 = 1) := fun g => hc (h.2 g)
    omega
theorem xor_right (a b p : Nat) : (a ^^^ p) ^^^ (b ^^^ p) = a ^^^ b := by
  rw [Nat.xor_assoc, Nat.xor_comm b p, ← Nat.xor_assoc p p b, Nat.xor_self, Nat.zero_xor]
theorem half_xor (a b : Nat) : half (a ^^^ b) = half a ^^^ half b := by
  have h2 := xor_mod2 a b
  unfold half
  rw [xor_div2, h2]
  by_cases ha : a % 2 = 1 <;> by_cases hb : b % 2 = 1
  · rw [if_neg (by omega), if_pos ha, if_pos hb, xor_right]
  · rw [if_pos (by omega), if_pos ha, if_neg hb, Nat.xor_assoc, Nat.xor_comm (b / 2), ← Nat.xor_assoc]
  · rw [if_pos (by omega), if_neg ha, if_pos hb, Nat.xor_assoc]
  · rw [if_neg (by omega), if_neg ha, if_neg hb]
theorem halves_xor (k : Nat) : ∀ a b : Nat, halves k (a ^^^ b) = halves k a ^^^ halves k b := by
  induction k with
  | zero => intro a b; rfl
  | succ k ih => intro a b; rw [halves, half_xor, ih]; rfl
theorem half_double (x : Nat) : half (2 * x) = x := by
  unfold half
  rw [if_neg (by omega)]
  omega
theorem halves_times (k x : Nat) : halves k (2 ^ k * x) = x := by
  induction k with
  | zero => simp [halves]
  | succ k ih => rw [halves, Nat.pow_succ, show 2 ^ k * 2 * x = 2 * (2 ^ k * x) from by rw [Nat.mul_comm (2 ^ k) 2, Nat.mul_assoc], half_double, ih]
theorem split16 (r : Nat) : r = (16 * (r / 16)) ^^^ (r % 16) := by
  have h := Nat.two_pow_add_eq_or_of_lt (i := 4) (b := r % 16) (Nat.mod_lt _ (by decide)) (r / 16)
  have h0 : 2 ^ 4 * (r / 16) ^^^ r % 16 = 2 ^ 4 * (r / 16) ||| r % 16 := by
    apply Nat.eq_of_testBit_eq
    intro j
    simp only [Nat.testBit_xor, Nat.testBit_or]
    by_cases hj : j < 4
    · have : (2 ^ 4 * (r / 16)).testBit j = false := by
        rw [Nat.testBit_two_pow_mul]; simp; omega
      simp [this]
    · have : (r % 16).testBit j = false := Nat.testBit_lt_two_pow (Nat.lt_of_lt_of_le (Nat.mod_lt _ (by decide)) (by have := Nat.pow_le_pow_right (n := 2) (by decide) (show 4 ≤ j by omega); simpa using this))
      simp [this]
  have e : r = 16 * (r / 16) + r % 16 := by omega
  calc r = 2 ^ 4 * (r / 16) + r % 16 := by omega
    _ = 2 ^ 4 * (r / 16) ||| r % 16 := h
    _ = 2 ^ 4 * (r / 16) ^^^ r % 16 := h0.symm
    _ = _ := rfl
theorem nib_low : ∀ l : Fin 16, halves 4 l.val = (table.getD l.val 0).toNat := by decide
theorem nib_eq (r : Nat) : nib r = halves 4 r := by
  have h : halves 4 r = halves 4 ((16 * (r / 16)) ^^^ (r % 16)) := by rw [← split16]
  rw [h, halves_xor, show 16 * (r / 16) = 2 ^ 4 * (r / 16) from rfl, halves_times]
  have := nib_low ⟨r % 16, Nat.mod_lt _ (by decide)⟩
  unfold nib
  rw [this]
theorem nibs_eq (r : Nat) : nibs 2 r = halves 8 r := by
  show nib (nib r) = halves (4 + 4) r
  rw [halves_add, nib_eq, nib_eq]
theorem step_lt {r b : Nat} (hr : r < 4294967296) (hb : b < 4294967296) : step r b < 4294967296 := halves_lt 8 (xor_lt hr hb)
theorem run_lt (l : List UInt8) : ∀ {r : Nat}, r < 4294967296 → run r l < 4294967296 := by
  induction l with
  | nil => intro r h; exact h
  | cons b l ih => intro r h; exact ih (step_lt h (by have := b.toNat_lt; omega))
theorem run_append (r : Nat) (l m : List UInt8) : run r (l ++ m) = run (run r l) m := by simp [run]
theorem sum_lt (l : List UInt8) : sum l < 4294967296 := xor_lt (run_lt l (by decide)) (by decide)
theorem sum_ex : sum [49, 50, 51, 52, 53, 54, 55, 56, 57] = 3421780262 := by decide +kernel
end Go.Proofs.YtnamkglflhkckaaDoor.Crc
end
