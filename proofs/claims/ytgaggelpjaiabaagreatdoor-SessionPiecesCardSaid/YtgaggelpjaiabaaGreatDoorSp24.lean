/-
  PLAIN ARITHMETIC of the sum of 32 bits: one bit's step as a function on natural numbers, that it is linear over xor, loses nothing below 2^32, and that four of its steps are one look into the table. No program is spoken of here. THE STEP OF THE SUM, walked: crc.Step and the document's own bit by bit step come to the same function, where the table's cells hold its sixteen numbers. THE SUM, walked: crc.Sum over the texts of a slice, and the document's own Sum of one text, come to the sum of their bytes. THE EXAMPLES of the sum come out true; the table stays where it was. PLAIN: a frame's bytes; the frame that bytes begin with, or why there is none; which beginnings, and which turned bytes, are none. No program is spoken of here.
-/
import Derived.Test.YtgaggelpjaiabaaGreatDoorSp01
import Derived.Test.YtgaggelpjaiabaaGreatDoorSp02
import Derived.Lib.LaidTab
import Derived.Below
section
namespace Go.Proofs.YtgaggelpjaiabaaGreatDoor.Crc
def half (r : Nat) : Nat := if r % 2 = 1 then (r / 2) ^^^ 3988292384 else r / 2
def halves : Nat → Nat → Nat
  | 0, r => r
  | k + 1, r => halves k (half r)
def step (r b : Nat) : Nat := halves 8 (r ^^^ b)
def run (r : Nat) (l : List UInt8) : Nat := l.foldl (fun r b => step r b.toNat) r
def sum (l : List UInt8) : Nat := run 4294967295 l ^^^ 4294967295
def table : List Int := [0, 498536548, 997073096, 651767980, 1994146192, 1802195444, 1303535960, 1342533948, 3988292384, 4027552580, 3604390888, 3412177804, 2607071920, 2262029012, 2685067896, 3183342108]
def nib (r : Nat) : Nat := (r / 16) ^^^ (table.getD (r % 16) 0).toNat
def nibs : Nat → Nat → Nat
  | 0, r => r
  | k + 1, r => nibs k (nib r)

theorem xor_lt {a b : Nat} (ha : a < 4294967296) (hb : b < 4294967296) : a ^^^ b < 4294967296 := Nat.xor_lt_two_pow (n := 32) ha hb
theorem half_lt {r : Nat} (h : r < 4294967296) : half r < 4294967296 := by
  unfold half
  split
  · exact xor_lt (by omega) (by omega)
  · omega
theorem halves_lt (k : Nat) : ∀ {r : Nat}, r < 4294967296 → halves k r < 4294967296 := by
  induction k with
  | zero => intro r h; exact h
  | succ k ih => intro r h; exact ih (half_lt h)
theorem halves_add (j k r : Nat) : halves (j + k) r = halves k (halves j r) := by
  induction j generalizing r with
  | zero => simp [halves]
  | succ j ih => rw [show j + 1 + k = (j + k) + 1 from by omega, halves, ih, halves]
theorem xor_div2 (a b : Nat) : (a ^^^ b) / 2 = (a / 2) ^^^ (b / 2) := by
  have h := @Nat.shiftRight_xor_distrib 1 a b
  simpa [Nat.shiftRight_eq_div_pow] using h
theorem xor_mod2 (a b : Nat) : (a ^^^ b) % 2 = (a + b) % 2 := by
  have h := @Nat.xor_mod_two_eq_one a b
  by_cases hc : (a ^^^ b) % 2 = 1
  · have := h.1 hc
    omega
  · have : ¬ ¬ (a % 2 = 1 ↔ b % 2 = 1) := fun g => hc (h.2 g)
    omega
theorem xor_right (a b p : Nat) : (a ^^^ p) ^^^ (b ^^^ p) = a ^^^ b := by
  rw [Nat.xor_assoc, Nat.xor_comm b p, ← Nat.xor_assoc p p b, Nat.xor_self, Nat.zero_xor]
theorem half_xor (a b : Nat) : half (a ^^^ b) = half a ^^^ half b := by
  have h2 := xor_mod2 a b
  unfold half
  rw [xor_div2, h2]
  by_cases ha : a % 2 = 1 <;> by_cases hb : b % 2 = 1
  · rw [if_neg (by omega), if_pos ha, if_pos hb, xor_right]
  · rw [if_pos (by omega), if_pos ha, if_neg hb, Nat.xor_assoc, Nat.xor_comm (b / 2), ← Nat.xor_assoc]
  · rw [if_pos (by omega), if_neg ha, if_pos hb, Nat.xor_assoc]
  · rw [if_neg (by omega), if_neg ha, if_neg hb]
theorem halves_xor (k : Nat) : ∀ a b : Nat, halves k (a ^^^ b) = halves k a ^^^ halves k b := by
  induction k with
  | zero => intro a b; rfl
  | succ k ih => intro a b; rw [halves, half_xor, ih]; rfl
theorem half_double (x : Nat) : half (2 * x) = x := by
  unfold half
  rw [if_neg (by omega)]
  omega
theorem halves_times (k x : Nat) : halves k (2 ^ k * x) = x := by
  induction k with
  | zero => simp [halves]
  | succ k ih => rw [halves, Nat.pow_succ, show 2 ^ k * 2 * x = 2 * (2 ^ k * x) from by rw [Nat.mul_comm (2 ^ k) 2, Nat.mul_assoc], half_double, ih]
theorem split16 (r : Nat) : r = (16 * (r / 16)) ^^^ (r % 16) := by
  have h := Nat.two_pow_add_eq_or_of_lt (i := 4) (b := r % 16) (Nat.mod_lt _ (by decide)) (r / 16)
  have h0 : 2 ^ 4 * (r / 16) ^^^ r % 16 = 2 ^ 4 * (r / 16) ||| r % 16 := by
    apply Nat.eq_of_testBit_eq
    intro j
    simp only [Nat.testBit_xor, Nat.testBit_or]
    by_cases hj : j < 4
    · have : (2 ^ 4 * (r / 16)).testBit j = false := by
        rw [Nat.testBit_two_pow_mul]; simp; omega
      simp [this]
    · have : (r % 16).testBit j = false := Nat.testBit_lt_two_pow (Nat.lt_of_lt_of_le (Nat.mod_lt _ (by decide)) (by have := Nat.pow_le_pow_right (n := 2) (by decide) (show 4 ≤ j by omega); simpa using this))
      simp [this]
  have e : r = 16 * (r / 16) + r % 16 := by omega
  calc r = 2 ^ 4 * (r / 16) + r % 16 := by omega
    _ = 2 ^ 4 * (r / 16) ||| r % 16 := h
    _ = 2 ^ 4 * (r / 16) ^^^ r % 16 := h0.symm
    _ = _ := rfl
theorem nib_low : ∀ l : Fin 16, halves 4 l.val = (table.getD l.val 0).toNat := by decide
theorem nib_eq (r : Nat) : nib r = halves 4 r := by
  have h : halves 4 r = halves 4 ((16 * (r / 16)) ^^^ (r % 16)) := by rw [← split16]
  rw [h, halves_xor, show 16 * (r / 16) = 2 ^ 4 * (r / 16) from rfl, halves_times]
  have := nib_low ⟨r % 16, Nat.mod_lt _ (by decide)⟩
  unfold nib
  rw [this]
theorem nibs_eq (r : Nat) : nibs 2 r = halves 8 r := by
  show nib (nib r) = halves (4 + 4) r
  rw [halves_add, nib_eq, nib_eq]
theorem step_lt {r b : Nat} (hr : r < 4294967296) (hb : b < 4294967296) : step r b < 4294967296 := halves_lt 8 (xor_lt hr hb)
theorem run_lt (l : List UInt8) : ∀ {r : Nat}, r < 4294967296 → run r l < 4294967296 := by
  induction l with
  | nil => intro r h; exact h
  | cons b l ih => intro r h; exact ih (step_lt h (by have := b.toNat_lt; omega))
theorem run_append (r : Nat) (l m : List UInt8) : run r (l ++ m) = run (run r l) m := by simp [run]
theorem sum_lt (l : List UInt8) : sum l < 4294967296 := xor_lt (run_lt l (by decide)) (by decide)
theorem sum_ex : sum [49, 50, 51, 52, 53, 54, 55, 56, 57] = 3421780262 := by decide +kernel
end Go.Proofs.YtgaggelpjaiabaaGreatDoor.Crc
end
section
namespace Go.Proofs.YtgaggelpjaiabaaGreatDoor
open Go.ChangeShapes Go.WideShapes Go.ChangeAt Go.RowKit
/-- the table's cells, as a word about a world -/
def Tab (w : World) : Prop := ∀ i, i < 16 → w.cell? ⟨0, i, none⟩ = some (.int .u32 (Crc.table.getD i 0))

theorem table_ok : ∀ i : Fin 16, 0 ≤ Crc.table.getD i.val 0 ∧ Crc.table.getD i.val 0 < 4294967296 := by decide
theorem nibs_succ (k r : Nat) : Crc.nibs (k + 1) r = Crc.nib (Crc.nibs k r) := by
  induction k generalizing r with
  | zero => rfl
  | succ k ih => rw [Crc.nibs, ih, Crc.nibs]
theorem nib_lt {r : Nat} (h : r < 4294967296) : Crc.nib r < 4294967296 := by rw [Crc.nib_eq]; exact Crc.halves_lt 4 h
theorem nibs_lt (k : Nat) : ∀ {r : Nat}, r < 4294967296 → Crc.nibs k r < 4294967296 := by
  induction k with
  | zero => intro r h; exact h
  | succ k ih => intro r h; exact ih (nib_lt h)
theorem and15 (x : Nat) (h : x < 4294967296) : bits .and .u32 (x : Int) 15 = ((x % 16 : Nat) : Int) := by
  rw [← nat_mask4 x]
  exact u32_and_nat x 15 h (by decide)
theorem xor_nib (x : Nat) (h : x < 4294967296) : bits .xor .u32 ((x : Int) / 16) (Crc.table.getD (x % 16) 0) = ((Crc.nib x : Nat) : Int) := by
  have ht := table_ok ⟨x % 16, Nat.mod_lt _ (by decide)⟩
  simp only at ht
  rw [u32_xor _ _ (by omega) (by omega) ht.1 ht.2]
  unfold Crc.nib
  congr 2

set_option maxHeartbeats 400000 in
theorem step_any (r b : Nat) (w : World) (hr : r < 4294967296) (hb : b < 256) (hT : Tab w) :
    Calls Tryz.prog 126 #[.int .u32 (r : Int), .int .u8 (b : Int)] w fun e w' => e = .returned (.int .u32 ((Crc.step r b : Nat) : Int)) ∧ w = w' := by
  have hx : bits .xor .u32 (r : Int) (b : Int) = ((r ^^^ b : Nat) : Int) := u32_xor_nat r b hr (by omega)
  have hxl : r ^^^ b < 4294967296 := Crc.xor_lt hr (by omega)
  have hfin : Hid (Crc.step r b = Crc.nibs 2 (r ^^^ b)) := (Crc.nibs_eq _).symm
  go_enter Tryz.func126, Tryz.ntmps126
  go_wp2
  go_loop [0, 9] (fun x i => ∃ k : Nat, k ≤ 2 ∧ i = .int .i64 k ∧ x = .int .u32 ((Crc.nibs k (r ^^^ b) : Nat) : Int)) (fun _ i => 2 - (intOf i).toNat)
  case atStart => exact ⟨0, by omega, rfl, rfl⟩
  case round =>
    obtain ⟨k, hk, rfl, rfl⟩ := hrel
    by_cases hlt : k < 2
    · have hl := nibs_lt k hxl
      have hs := nibs_succ k (r ^^^ b)
      have HS := Lib.hid hs
      clear hs
      generalize hX : Crc.nibs k (r ^^^ b) = X at *
      have HX := Lib.hid hX
      clear hX
      have ha := and15 X hl
      have hxx := xor_nib X hl
      have hc : w.cell? ⟨0, X % 16, none⟩ = some (.int .u32 (Crc.table.getD (X % 16) 0)) := hT _ (Nat.mod_lt _ (by decide))
      generalize Crc.table.getD (X % 16) 0 = t at hc hxx
      go_wp2
      go_round
      case rel => exact ⟨k + 1, by omega, by go_num, by rw [HS.out]⟩
      case measure => simp [intOf]; omega
    · go_wp2
      go_ret
      obtain rfl : k = 2 := by omega
      exact ⟨ret_int (by rw [hfin.out]), rfl⟩

end Go.Proofs.YtgaggelpjaiabaaGreatDoor
end
section
namespace Go.Proofs.YtgaggelpjaiabaaGreatDoor
open Go.ChangeShapes Go.WideShapes Go.ChangeAt Go.RowKit
def bytesOf (ss : List ByteArray) : List UInt8 := ss.flatMap fun s => s.data.toList
theorem bytesOf_take (ss : List ByteArray) (k : Nat) (h : k < ss.length) : bytesOf (ss.take (k + 1)) = bytesOf (ss.take k) ++ (ss.getD k ByteArray.empty).data.toList := by
  unfold bytesOf
  rw [List.take_succ_eq_append_getElem h, List.flatMap_append]
  simp [List.getD_eq_getElem?_getD, h]
theorem run_snoc (r : Nat) (s : ByteArray) (k : Nat) (h : k < s.size) : Crc.run r (s.data.toList.take (k + 1)) = Crc.step (Crc.run r (s.data.toList.take k)) s[k].toNat := by
  rw [take_snoc s k h, Crc.run_append]; rfl
theorem not_xor (x : Nat) (h : x < 4294967296) : bits .xor .u32 IntKind.u32.max (x : Int) = ((x ^^^ 4294967295 : Nat) : Int) := by
  have hm : IntKind.u32.max = ((4294967295 : Nat) : Int) := by decide
  rw [hm, u32_xor_nat 4294967295 x (by decide) h, Nat.xor_comm]
set_option maxHeartbeats 1000000 in
theorem sum_any (ss : List ByteArray) (b c : Nat) (w : World) (hn : ss.length ≤ 3) (hs : ∀ k, (ss.getD k ByteArray.empty).size ≤ 100000) (hT : Tab w)
    (hc : ∀ k, k < ss.length → w.cell? ⟨b, k, none⟩ = some (.string (ss.getD k ByteArray.empty))) :
    Calls Tryz.prog 95 #[.slice (some ⟨b, 0, none⟩) ss.length c] w fun e w' => e = .returned (.int .u32 ((Crc.sum (bytesOf ss) : Nat) : Int)) ∧ w = w' := by
  have HC := Lib.hid hc
  have HB := Lib.hid hs
  clear hc hs
  go_enter Tryz.func95, Tryz.ntmps95
  go_wp2
  go_loop [3, 9] (fun x i => ∃ k : Nat, k ≤ ss.length ∧ i = .int .i64 k ∧ x = .int .u32 ((Crc.run 4294967295 (bytesOf (ss.take k)) : Nat) : Int)) (fun _ i => ss.length - (intOf i).toNat)
  case atStart => exact ⟨0, by omega, rfl, rfl⟩
  case round =>
    obtain ⟨k, hk, rfl, rfl⟩ := hrel
    by_cases hlt : k < ss.length
    · have hl := Crc.run_lt (bytesOf (ss.take k)) (r := 4294967295) (by decide)
      have HS := Lib.hid (bytesOf_take ss k hlt)
      have hck := HC.out k hlt
      have hsk := HB.out k
      generalize hX : Crc.run 4294967295 (bytesOf (ss.take k)) = X at *
      have HX := Lib.hid hX
      clear hX
      generalize hsv : ss.getD k ByteArray.empty = s at *
      have Hsv := Lib.hid hsv
      clear hsv
      go_wp2
      go_loop [3, 15] (fun x i => ∃ j : Nat, j ≤ s.size ∧ i = .int .i64 j ∧ x = .int .u32 ((Crc.run X (s.data.toList.take j) : Nat) : Int)) (fun _ i => s.size - (intOf i).toNat)
      case atStart => exact ⟨0, by omega, rfl, rfl⟩
      case round =>
        obtain ⟨j, hj, rfl, rfl⟩ := hrel
        by_cases hjl : j < s.size
        · have hyl := Crc.run_lt (s.data.toList.take j) hl
          have HR := Lib.hid (run_snoc X s j hjl)
          have hb : s[j].toNat < 256 := s[j].toNat_lt
          generalize hY : Crc.run X (s.data.toList.take j) = Y at *
          have HY := Lib.hid hY
          clear hY
          go_wp2_with (go_at_call 126; refine (step_any _ _ _ hyl hb hT).mono ?_; rintro e w' ⟨rfl, rfl⟩)
          go_round
          case rel => exact ⟨j + 1, by omega, by go_num, by rw [HR.out]⟩
          case measure => simp [intOf]; omega
        · go_wp2
          go_round
          case rel =>
            obtain rfl : j = s.size := by omega
            exact ⟨k + 1, by omega, by go_num, by rw [HS.out, Crc.run_append, HX.out, List.take_of_length_le (by simp)]⟩
          case measure => simp [intOf]; omega
    · obtain rfl : k = ss.length := by omega
      have hl := Crc.run_lt (bytesOf (ss.take ss.length)) (r := 4294967295) (by decide)
      have HX := Lib.hid (show bytesOf (ss.take ss.length) = bytesOf ss by rw [List.take_length])
      generalize bytesOf (ss.take ss.length) = L at *
      have hx := not_xor _ hl
      have HF : Hid (Crc.sum L = Crc.run 4294967295 L ^^^ 4294967295) := rfl
      generalize Crc.run 4294967295 L = X at *
      have hx2 := Lib.hid hx
      clear hx
      go_wp2
      go_ret
      exact ⟨ret_int (by rw [← HX.out, HF.out, ← hx2.out]), rfl⟩

set_option maxHeartbeats 1000000 in
theorem sum_none (w : World) (c : Nat) : Calls Tryz.prog 95 #[.slice none 0 c] w fun e w' => e = .returned (.int .u32 0) ∧ w = w' := by
  go_enter Tryz.func95, Tryz.ntmps95
  go_wp2
  go_loop [3, 9] (fun x i => x = .int .u32 4294967295 ∧ i = .int .i64 0) (fun _ _ => 0)
  case atStart => exact ⟨rfl, rfl⟩
  case round =>
    obtain ⟨rfl, rfl⟩ := hrel
    go_wp2
    go_ret
    exact ⟨ret_int (by decide), rfl⟩

end Go.Proofs.YtgaggelpjaiabaaGreatDoor
end
section
namespace Go.Proofs.YtgaggelpjaiabaaGreatDoor
open Go.ChangeShapes Go.WideShapes Go.ChangeAt Go.RowKit
theorem Tab.pos {w : World} (h : Tab w) : 0 < w.heap.size := by
  have h0 := h 0 (by decide)
  rcases Nat.lt_or_ge 0 w.heap.size with hlt | hge
  · exact hlt
  · exfalso
    have : w.heap[(0 : Nat)]? = none := Array.getElem?_eq_none hge
    simp [World.cell?, this] at h0
theorem Tab.below {w w' : World} {B : Nat} (h : Tab w) (hb : Below B w w') (hB : 0 < B) : Tab w' := fun i hi => (hb.cell (p := ⟨0, i, none⟩) hB).trans (h i hi)
theorem Tab.alloc {w : World} (h : Tab w) (o : Obj) : Tab (w.alloc o) := h.below ((Below.refl w.heap.size w).alloc (Nat.le_refl _) o) h.pos

theorem sum_two (x y : ByteArray) (b c : Nat) (w : World) (hx : x.size ≤ 100000) (hy : y.size ≤ 100000) (hT : Tab w)
    (h0 : w.cell? ⟨b, 0, none⟩ = some (.string x)) (h1 : w.cell? ⟨b, 1, none⟩ = some (.string y)) :
    Calls Tryz.prog 95 #[.slice (some ⟨b, 0, none⟩) 2 c] w fun e w' => e = .returned (.int .u32 ((Crc.sum (x.data.toList ++ y.data.toList) : Nat) : Int)) ∧ w = w' := by
  refine (sum_any [x, y] b c w (by simp) ?_ hT ?_).mono ?_
  · intro k
    match k with
    | 0 => exact hx
    | 1 => exact hy
    | k + 2 => simp
  · intro k hk
    match k, hk with
    | 0, _ => exact h0
    | 1, _ => exact h1
  · rintro e w' ⟨rfl, rfl⟩
    exact ⟨by simp [bytesOf], rfl⟩
theorem sum_one (x : ByteArray) (b c : Nat) (w : World) (hx : x.size ≤ 100000) (hT : Tab w) (h0 : w.cell? ⟨b, 0, none⟩ = some (.string x)) :
    Calls Tryz.prog 95 #[.slice (some ⟨b, 0, none⟩) 1 c] w fun e w' => e = .returned (.int .u32 ((Crc.sum x.data.toList : Nat) : Int)) ∧ w = w' := by
  refine (sum_any [x] b c w (by simp) ?_ hT ?_).mono ?_
  · intro k
    match k with
    | 0 => exact hx
    | k + 1 => simp
  · intro k hk
    match k, hk with
    | 0, _ => exact h0
  · rintro e w' ⟨rfl, rfl⟩
    exact ⟨by simp [bytesOf], rfl⟩
set_option maxHeartbeats 1000000 in
theorem crcAwake_any (w : World) (hT : Tab w) : Calls Tryz.prog 158 #[] w fun e w' => e = .returned (.bool true) ∧ Below w.heap.size w w' := by
  have h1 : ∀ W : World, Tab W → ∀ b, W.cell? ⟨b, 0, none⟩ = some (.string ⟨#[49, 50, 51, 52]⟩) → W.cell? ⟨b, 1, none⟩ = some (.string ⟨#[53, 54, 55, 56, 57]⟩) →
      Calls Tryz.prog 95 #[.slice (some ⟨b, 0, none⟩) 2 2] W fun e w' => e = .returned (.int .u32 3421780262) ∧ W = w' := fun W hW b h0 h1 =>
    (sum_two _ _ b 2 W (by decide) (by decide) hW h0 h1).mono fun e w' h => ⟨h.1.trans (ret_int (by simpa using congrArg (fun n : Nat => (n : Int)) Crc.sum_ex)), h.2⟩
  have H1 := Lib.hid h1
  clear h1
  have HT := Lib.hid hT
  clear hT
  go_enter Tryz.func158, Tryz.ntmps158
  go_wp2_with fail
  refine (H1.out _ (HT.out.alloc _) _ (by simp) (by simp)).mono ?_
  rintro e w' ⟨rfl, rfl⟩
  go_wp2_with fail
  refine (sum_none _ _).mono ?_
  rintro e w' ⟨rfl, rfl⟩
  go_wp2_with fail
  go_ret
  exact ⟨rfl, (Below.refl _ _).alloc (Nat.le_refl _) _⟩
end Go.Proofs.YtgaggelpjaiabaaGreatDoor
end
section
namespace Go.Proofs.YtgaggelpjaiabaaGreatDoor.Fr
/-- a frame's bytes ahead of its sum -/
def ahead (c k : UInt8) (b : List UInt8) : List UInt8 := c :: k :: (Oct.be 2 b.length ++ b)
/-- a frame's bytes -/
def enc (c k : UInt8) (b : List UInt8) : List UInt8 := ahead c k b ++ (Oct.be 4 (Crc.sum (ahead c k b)) ++ [206])
/-- the length that is told -/
def len (l : List UInt8) : Nat := (l.getD 2 0).toNat * 256 + (l.getD 3 0).toNat
/-- why bytes begin with no frame, or 0 -/
def code (l : List UInt8) : Nat :=
  if l.length < 4 then 3 else if 2048 < len l then 5 else if l.length < len l + 9 then 3 else if l.getD (len l + 8) 0 ≠ 206 then 4
  else if Oct.val ((l.drop (len l + 4)).take 4) ≠ Crc.sum (l.take (len l + 4)) then 14 else 0
def body (l : List UInt8) : List UInt8 := (l.drop 4).take (len l)

/-- how a frame's bytes lie -/
def form (c k h g : UInt8) (b s : List UInt8) (e : UInt8) (m : List UInt8) : List UInt8 := c :: k :: h :: g :: (b ++ (s ++ (e :: m)))
theorem form_len {c k h g : UInt8} {b s : List UInt8} {e : UInt8} {m : List UInt8} (hn : h.toNat * 256 + g.toNat = b.length) : len (form c k h g b s e m) = b.length := hn
theorem form_take {c k h g : UInt8} {b s : List UInt8} {e : UInt8} {m : List UInt8} : (form c k h g b s e m).take (b.length + 4) = c :: k :: h :: g :: b := by
  unfold form
  rw [show b.length + 4 = b.length + 1 + 1 + 1 + 1 from rfl]
  simp only [List.take_succ_cons]
  rw [List.take_left' rfl]
theorem form_drop {c k h g : UInt8} {b s : List UInt8} {e : UInt8} {m : List UInt8} : (form c k h g b s e m).drop (b.length + 4) = s ++ (e :: m) := by
  unfold form
  rw [show b.length + 4 = b.length + 1 + 1 + 1 + 1 from rfl]
  simp only [List.drop_succ_cons]
  rw [List.drop_left' rfl]
theorem form_body {c k h g : UInt8} {b s : List UInt8} {e : UInt8} {m : List UInt8} (hn : h.toNat * 256 + g.toNat = b.length) : body (form c k h g b s e m) = b := by
  unfold body
  rw [form_len hn]
  unfold form
  simp only [List.drop_succ_cons, List.drop_zero]
  rw [List.take_left' rfl]
theorem form_length {c k h g : UInt8} {b s : List UInt8} {e : UInt8} {m : List UInt8} (hs : s.length = 4) : (form c k h g b s e m).length = b.length + 9 + m.length := by
  unfold form
  simp only [List.length_cons, List.length_append, hs]
  omega
theorem form_end {c k h g : UInt8} {b s : List UInt8} {e : UInt8} {m : List UInt8} (hs : s.length = 4) : (form c k h g b s e m).getD (b.length + 8) 0 = e := by
  have h1 : (form c k h g b s e m).getD (b.length + 8) 0 = ((form c k h g b s e m).drop (b.length + 4)).getD 4 0 := by
    rw [List.getD_eq_getElem?_getD, List.getD_eq_getElem?_getD, List.getElem?_drop]
  rw [h1, form_drop, List.getD_eq_getElem?_getD, List.getElem?_append_right (by omega), hs]
  rfl
theorem form_code {c k h g : UInt8} {b s : List UInt8} {e : UInt8} {m : List UInt8} (hn : h.toNat * 256 + g.toNat = b.length) (hs : s.length = 4) :
    code (form c k h g b s e m) = if 2048 < b.length then 5 else if e ≠ 206 then 4 else if Oct.val s ≠ Crc.sum (c :: k :: h :: g :: b) then 14 else 0 := by
  unfold code
  rw [form_length hs, form_len hn, form_end hs, form_take, form_drop, List.take_left' hs, if_neg (by omega)]
  by_cases hb : 2048 < b.length
  · rw [if_pos hb, if_pos hb]
  · rw [if_neg hb, if_neg hb, if_neg (by omega)]

theorem be2 (n : Nat) : Oct.be 2 n = [UInt8.ofNat (n / 256 % 256), UInt8.ofNat (n % 256)] := rfl
theorem be2_len {n : Nat} (h : n < 65536) : (UInt8.ofNat (n / 256 % 256)).toNat * 256 + (UInt8.ofNat (n % 256)).toNat = n := by
  simp only [UInt8.toNat_ofNat']
  omega
theorem ahead_eq (c k : UInt8) (b : List UInt8) : ahead c k b = c :: k :: UInt8.ofNat (b.length / 256 % 256) :: UInt8.ofNat (b.length % 256) :: b := by
  unfold ahead
  rw [be2]
  rfl
theorem enc_form (c k : UInt8) (b m : List UInt8) : enc c k b ++ m = form c k (UInt8.ofNat (b.length / 256 % 256)) (UInt8.ofNat (b.length % 256)) b (Oct.be 4 (Crc.sum (ahead c k b))) 206 m := by
  unfold enc form
  rw [List.append_assoc, List.append_assoc]
  generalize Oct.be 4 (Crc.sum (ahead c k b)) = s
  rw [ahead_eq]
  simp only [List.cons_append, List.nil_append]
theorem enc_form0 (c k : UInt8) (b : List UInt8) : enc c k b = form c k (UInt8.ofNat (b.length / 256 % 256)) (UInt8.ofNat (b.length % 256)) b (Oct.be 4 (Crc.sum (ahead c k b))) 206 [] := by
  rw [← enc_form, List.append_nil]
theorem enc_length (c k : UInt8) (b : List UInt8) : (enc c k b).length = b.length + 9 := by
  rw [enc_form0, form_length (Oct.length_be _ _)]
  rfl
theorem val_sum (l : List UInt8) : Oct.val (Oct.be 4 (Crc.sum l)) = Crc.sum l := by
  rw [Oct.val_be, Nat.mod_eq_of_lt (Crc.sum_lt l)]
theorem enc_code {c k : UInt8} {b : List UInt8} (m : List UInt8) (hb : b.length ≤ 2048) : code (enc c k b ++ m) = 0 := by
  rw [enc_form, form_code (be2_len (by omega)) (Oct.length_be _ _), if_neg (by omega), if_neg (by simp), val_sum, ahead_eq, if_neg (by simp)]
theorem enc_len {c k : UInt8} {b : List UInt8} (m : List UInt8) (hb : b.length ≤ 2048) : len (enc c k b ++ m) = b.length := by
  rw [enc_form, form_len (be2_len (by omega))]
theorem enc_body {c k : UInt8} {b : List UInt8} (m : List UInt8) (hb : b.length ≤ 2048) : body (enc c k b ++ m) = b := by
  rw [enc_form, form_body (be2_len (by omega))]
theorem enc_0 (c k : UInt8) (b m : List UInt8) : (enc c k b ++ m).getD 0 0 = c := by rw [enc_form]; rfl
theorem enc_1 (c k : UInt8) (b m : List UInt8) : (enc c k b ++ m).getD 1 0 = k := by rw [enc_form]; rfl
theorem enc_drop {c k : UInt8} {b : List UInt8} (m : List UInt8) : (enc c k b ++ m).drop (b.length + 9) = m := List.drop_left' (enc_length c k b)

/-! ### what is missing -/
theorem short {c k : UInt8} {b : List UInt8} {j : Nat} (hb : b.length ≤ 2048) (hj : j < (enc c k b).length) : code ((enc c k b).take j) = 3 := by
  rw [enc_length] at hj
  have hl : ((enc c k b).take j).length = j := by rw [List.length_take, enc_length]; omega
  unfold code
  rw [hl]
  by_cases h4 : j < 4
  · rw [if_pos h4]
  · have h2 : ∀ i, i < 4 → ((enc c k b).take j).getD i 0 = (enc c k b).getD i 0 := fun i hi => by
      rw [List.getD_eq_getElem?_getD, List.getD_eq_getElem?_getD, List.getElem?_take, if_pos (by omega)]
    have hn : len ((enc c k b).take j) = b.length := by
      have := enc_len (c := c) (k := k) (b := b) [] hb
      rw [List.append_nil] at this
      rw [← this]
      unfold len
      rw [h2 2 (by decide), h2 3 (by decide)]
    rw [if_neg h4, hn, if_neg (by omega), if_pos (by omega)]

/-! ### a turned byte -/
end Go.Proofs.YtgaggelpjaiabaaGreatDoor.Fr
end
