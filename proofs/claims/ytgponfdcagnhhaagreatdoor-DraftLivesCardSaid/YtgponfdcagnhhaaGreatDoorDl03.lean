/-
  WHEN WHAT LIVES SO LONG IS GONE: walked, the program's and the document's. PLAIN: names, words with points between, patterns. No program is spoken of here. OCTET's OTHER CALLS, walked: a text that is read, what is left, the error; a text that is too long. OCTET's CALLS over lists of bytes: what is written, what is read.
-/
import Derived.Test.YtgponfdcagnhhaaGreatDoorDl01
import Derived.Test.YtgponfdcagnhhaaGreatDoorDl02
import Derived.Lib.Join
section
namespace Go.Proofs.YtgponfdcagnhhaaGreatDoor
open Go.ChangeShapes Go.WideShapes Go.ChangeAt Go.RowKit
def lifeN (t l : Nat) : Nat := if l = 0 ∨ 18446744073709551616 ≤ t + l then 0 else t + l
theorem life_0 (t : Nat) : lifeN t 0 = 0 := by unfold lifeN; rw [if_pos (Or.inl rfl)]
theorem life_big {t l : Nat} (h : 18446744073709551616 ≤ t + l) : lifeN t l = 0 := by unfold lifeN; rw [if_pos (Or.inr h)]
theorem life_some {t l : Nat} (h : l ≠ 0) (h2 : t + l < 18446744073709551616) : lifeN t l = t + l := by unfold lifeN; rw [if_neg (by omega)]
set_option maxRecDepth 100000 in
theorem drLife_any (t l : Nat) (w : World) (ht : t < 18446744073709551616) (hl : l < 18446744073709551616) : Calls Tryz.prog 16 #[.int .u64 (t : Int), .int .u64 (l : Int)] w fun e w' => e = .returned (.int .u64 (lifeN t l : Int)) ∧ w = w' := by
  by_cases h0 : l = 0
  · subst h0
    rw [life_0]
    have hw : IntKind.u64.wrap ((t : Int) + 0) = (t : Int) := by rw [IntKind.wrap_u64]; omega
    have hw2 : IntKind.u64.wrap (t : Int) = (t : Int) := by rw [IntKind.wrap_u64]; omega
    go_enter Tryz.func16, Tryz.ntmps16
    go_wp2_with fail
    go_ret
    exact ⟨rfl, rfl⟩
  · have hz : ((l : Int) == 0) = false := beq_eq_false_iff_ne.2 (by omega)
    by_cases hb : 18446744073709551616 ≤ t + l
    · have HE := Lib.hid (life_big hb)
      have hw : IntKind.u64.wrap ((t : Int) + (l : Int)) = ((t + l - 18446744073709551616 : Nat) : Int) := by rw [IntKind.wrap_u64]; omega
      have hlt : t + l - 18446744073709551616 < t := by omega
      generalize t + l - 18446744073709551616 = v at *
      have hd : decide ((v : Int) < (t : Int)) = true := decide_eq_true (by omega)
      clear hb ht hl h0
      go_enter Tryz.func16, Tryz.ntmps16
      go_wp2_with fail
      go_ret
      exact ⟨by rw [HE.out]; rfl, rfl⟩
    · have HE := Lib.hid (life_some h0 (Nat.lt_of_not_le hb))
      have hw : IntKind.u64.wrap ((t : Int) + (l : Int)) = ((t + l : Nat) : Int) := by rw [IntKind.wrap_u64]; omega
      have hlt : ¬ t + l < t := by omega
      generalize t + l = v at *
      have hd : decide ((v : Int) < (t : Int)) = false := decide_eq_false (by omega)
      clear hb ht hl h0
      go_enter Tryz.func16, Tryz.ntmps16
      go_wp2_with fail
      go_ret
      exact ⟨by rw [HE.out]; rfl, rfl⟩
set_option maxRecDepth 100000 in
theorem r26Life_any (t l : Nat) (w : World) (ht : t < 18446744073709551616) (hl : l < 18446744073709551616) : Calls Tryz.prog 17 #[.int .u64 (t : Int), .int .u64 (l : Int)] w fun e w' => e = .returned (.int .u64 (lifeN t l : Int)) ∧ w = w' := by
  by_cases h0 : l = 0
  · subst h0
    rw [life_0]
    have hw : IntKind.u64.wrap ((t : Int) + 0) = (t : Int) := by rw [IntKind.wrap_u64]; omega
    have hw2 : IntKind.u64.wrap (t : Int) = (t : Int) := by rw [IntKind.wrap_u64]; omega
    go_enter Tryz.func17, Tryz.ntmps17
    go_wp2_with fail
    go_ret
    exact ⟨rfl, rfl⟩
  · have hz : ((l : Int) == 0) = false := beq_eq_false_iff_ne.2 (by omega)
    by_cases hb : 18446744073709551616 ≤ t + l
    · have HE := Lib.hid (life_big hb)
      have hw : IntKind.u64.wrap ((t : Int) + (l : Int)) = ((t + l - 18446744073709551616 : Nat) : Int) := by rw [IntKind.wrap_u64]; omega
      have hlt : t + l - 18446744073709551616 < t := by omega
      generalize t + l - 18446744073709551616 = v at *
      have hd : decide ((v : Int) < (t : Int)) = true := decide_eq_true (by omega)
      clear hb ht hl h0
      go_enter Tryz.func17, Tryz.ntmps17
      go_wp2_with fail
      go_ret
      exact ⟨by rw [HE.out]; rfl, rfl⟩
    · have HE := Lib.hid (life_some h0 (Nat.lt_of_not_le hb))
      have hw : IntKind.u64.wrap ((t : Int) + (l : Int)) = ((t + l : Nat) : Int) := by rw [IntKind.wrap_u64]; omega
      have hlt : ¬ t + l < t := by omega
      generalize t + l = v at *
      have hd : decide ((v : Int) < (t : Int)) = false := decide_eq_false (by omega)
      clear hb ht hl h0
      go_enter Tryz.func17, Tryz.ntmps17
      go_wp2_with fail
      go_ret
      exact ⟨by rw [HE.out]; rfl, rfl⟩
end Go.Proofs.YtgponfdcagnhhaaGreatDoor
end
section
namespace Go.Proofs.YtgponfdcagnhhaaGreatDoor.Wrd
def mark (b : UInt8) : Bool := (decide (97 ≤ b.toNat) && decide (b.toNat ≤ 122)) || (decide (48 ≤ b.toNat) && decide (b.toNat ≤ 57)) || decide (b.toNat = 45) || decide (b.toNat = 95)
def plain (l : List UInt8) : Bool := l.all mark && decide (l.length ≠ 0)
def nameCode (l : List UInt8) : Nat := if l.length = 0 then 15 else if 16 < l.length then 5 else if l.all mark then 0 else 4
/-- the words between the points -/
def cut : List UInt8 → List (List UInt8)
  | [] => [[]]
  | b :: l => if b = 46 then [] :: cut l else match cut l with
    | [] => [[b]]
    | h :: t => (b :: h) :: t
def words (l : List UInt8) : List (List UInt8) := if l.length = 0 then [] else cut l
def okWord (bs : List (List UInt8)) (x : List UInt8) : Bool := bs.contains x || plain x
def keyCode (bs : List (List UInt8)) (l : List UInt8) : Nat := if 64 < l.length then 5 else if (words l).all (okWord bs) then 0 else 4
theorem cut_ne (l : List UInt8) : cut l ≠ [] := by
  cases l with
  | nil => simp [cut]
  | cons b l =>
    unfold cut
    split
    · simp
    · split <;> simp
theorem cut_point (l : List UInt8) : cut (46 :: l) = [] :: cut l := by rw [cut, if_pos rfl]
theorem cut_other {b : UInt8} (hb : b ≠ 46) (l : List UInt8) : ∃ h t, cut l = h :: t ∧ cut (b :: l) = (b :: h) :: t := by
  cases hc : cut l with
  | nil => exact absurd hc (cut_ne l)
  | cons h t => exact ⟨h, t, rfl, by rw [cut, if_neg hb, hc]⟩
theorem cut_word {w : List UInt8} (h : (46 : UInt8) ∉ w) : cut w = [w] := by
  induction w with
  | nil => rfl
  | cons b w ih =>
    have hb : b ≠ 46 := fun e => h (by simp [e])
    have := ih (fun hm => h (by simp [hm]))
    rw [cut, if_neg hb, this]
theorem cut_app {w : List UInt8} (h : (46 : UInt8) ∉ w) (l : List UInt8) : cut (w ++ 46 :: l) = w :: cut l := by
  induction w with
  | nil => rw [List.nil_append, cut_point]
  | cons b w ih =>
    have hb : b ≠ 46 := fun e => h (by simp [e])
    have := ih (fun hm => h (by simp [hm]))
    rw [List.cons_append, cut, if_neg hb, this]
theorem words_ne {l : List UInt8} (h : l.length ≠ 0) : words l = cut l := by unfold words; rw [if_neg h]
theorem words_nil {l : List UInt8} (h : l.length = 0) : words l = [] := by unfold words; rw [if_pos h]
theorem cut_len (l : List UInt8) : (cut l).length ≤ l.length + 1 := by
  induction l with
  | nil => simp [cut]
  | cons b l ih =>
    by_cases hb : b = 46
    · subst hb; rw [cut_point, List.length_cons, List.length_cons]; omega
    · obtain ⟨h, t, h1, h2⟩ := cut_other hb l
      rw [h2, List.length_cons, List.length_cons]
      rw [h1, List.length_cons] at ih
      omega
theorem words_len (l : List UInt8) : (words l).length ≤ l.length + 1 := by
  unfold words
  split
  · simp
  · exact cut_len l
theorem cut_part (l : List UInt8) : ∀ w ∈ cut l, w.length ≤ l.length := by
  induction l with
  | nil => intro w hw; simp [cut] at hw; subst hw; simp
  | cons b l ih =>
    by_cases hb : b = 46
    · subst hb
      rw [cut_point]
      intro w hw
      rcases List.mem_cons.1 hw with rfl | hw
      · simp
      · have := ih w hw; rw [List.length_cons]; omega
    · obtain ⟨h, t, h1, h2⟩ := cut_other hb l
      rw [h2]
      rw [h1] at ih
      intro w hw
      rcases List.mem_cons.1 hw with rfl | hw
      · have := ih h (by simp); simp only [List.length_cons]; omega
      · have := ih w (by simp [hw]); rw [List.length_cons]; omega
theorem words_part (l : List UInt8) : ∀ w ∈ words l, w.length ≤ l.length := by
  unfold words
  split
  · intro w hw; simp at hw
  · exact cut_part l

/-! ### patterns -/
abbrev W := List UInt8
def star : W := [42]
def hash : W := [35]
/-- does a key match a pattern: both from behind -/
def mt : List W → List W → Bool
  | [], k => k.isEmpty
  | w :: p, [] => (w == hash) && mt p []
  | w :: p, x :: k => if w == hash then mt p (x :: k) || mt (w :: p) k else mt p k && (w == star || w == x)
termination_by p k => (p.length, k.length)
def matches' (p k : List W) : Bool := mt p.reverse k.reverse
/-- one row behind another -/
def nx (one : W) (ws : List W) (f : Nat → Bool) : Nat → Bool
  | 0 => (one == hash) && f 0
  | j + 1 => if one == hash then f (j + 1) || nx one ws f j else f j && (one == star || one == ws.getD j [])
def row (ws : List W) : List W → Nat → Bool
  | [] => fun j => j == 0
  | w :: p => nx w ws (row ws p)
theorem row_mt (ws : List W) : ∀ (p : List W) (j : Nat), j ≤ ws.length → row ws p j = mt p (ws.take j).reverse := by
  intro p
  induction p with
  | nil =>
    intro j hj
    cases j with
    | zero => simp [row, mt]
    | succ j =>
      rw [List.take_succ_eq_append_getElem (by omega), List.reverse_append]
      simp [row, mt]
  | cons w p ih =>
    intro j
    induction j with
    | zero =>
      intro hj
      have := ih 0 hj
      simp only [row, nx, List.take_zero, List.reverse_nil] at *
      rw [mt, this]
    | succ j ihj =>
      intro hj
      have h1 := ih (j + 1) hj
      have h2 := ih j (by omega)
      have h3 := ihj (by omega)
      have e : (ws.take (j + 1)).reverse = ws.getD j [] :: (ws.take j).reverse := by
        rw [List.take_succ_eq_append_getElem (by omega), List.reverse_append, List.getD_eq_getElem?_getD, List.getElem?_eq_getElem (by omega)]
        rfl
      rw [e] at h1 ⊢
      rw [mt]
      simp only [row] at *
      rw [nx, h1, h3, h2]
theorem row_all (p k : List W) : row k p.reverse k.length = matches' p k := by
  rw [row_mt k p.reverse k.length (Nat.le_refl _), List.take_length]; rfl
end Go.Proofs.YtgponfdcagnhhaaGreatDoor.Wrd
end
section
namespace Go.Proofs.YtgponfdcagnhhaaGreatDoor
open Go.ChangeShapes Go.WideShapes Go.ChangeAt Go.RowKit
/-- what an object that reads has: what is left, and the error -/
abbrev St := ByteArray × Int
def St.ok (s : St) : Prop := s.2 ≠ 0 → s.1 = ByteArray.empty
/-! ### the examples -/
end Go.Proofs.YtgponfdcagnhhaaGreatDoor
end
section
namespace Go.Proofs.YtgponfdcagnhhaaGreatDoor
open Go.ChangeShapes Go.WideShapes Go.ChangeAt Go.RowKit
/-! ### what a reader has, as lists -/
abbrev LSt := List UInt8 × Int
def lOut (r : List UInt8) (n : Nat) : List UInt8 := if r.length < n then [] else r.take n
def lRaw (s : LSt) (n : Nat) : LSt := if s.1.length < n then ([], if s.2 = 0 then 3 else s.2) else (s.1.drop n, s.2)
def lFail (s : LSt) (c : Int) : LSt := if c = 0 ∨ s.2 ≠ 0 then s else ([], c)
def lLen (s : LSt) : Nat := Oct.val (lOut s.1 2)
def lMid (s : LSt) (m : Int) : LSt := if m < (lLen s : Int) then lFail (lRaw s 2) 5 else lRaw s 2
def lText (s : LSt) (m : Int) : LSt := lRaw (lMid s m) (lLen s)
def lTextOut (s : LSt) (m : Int) : List UInt8 := lOut (lMid s m).1 (lLen s)
theorem lOut_le (r : List UInt8) (n : Nat) : (lOut r n).length ≤ n := by
  unfold lOut
  split
  · simp
  · rw [List.length_take]; omega
theorem val_out_lt (r : List UInt8) (n : Nat) : Oct.val (lOut r n) < 256 ^ n :=
  Nat.lt_of_lt_of_le (Oct.val_lt _) (Nat.pow_le_pow_right (n := 256) (by decide) (lOut_le r n))
/-! ### as bytes -/
/-! ### what is written -/
theorem num_l (x : List UInt8) (n k : Nat) (b : Int) (w : World) (hn : n < 18446744073709551616) (hk : k ≤ 8) (hb : b = (k : Int)) (hx : x.length ≤ 1000000) :
    Calls Tryz.prog 30 #[.agg #[.string (ofL x), .int .i64 0], .int .u64 (n : Int), .int .i64 b] w fun e w' => e = .returned (.agg #[.string (ofL (x ++ Oct.be k n)), .int .i64 0]) ∧ Below w.heap.size w w' := by
  subst hb
  have h := num_any (ofL x) 0 n (k : Int) w hn (by rw [ofL_size]; exact hx)
  rw [Oct.width_num k hk] at h
  rw [show ofL x ++ ByteArray.mk (Oct.be k n).toArray = ofL (x ++ Oct.be k n) from ofL_app _ _] at h
  exact h
theorem text_l (x s : List UInt8) (w : World) (hx : x.length ≤ 900000) (hs : s.length ≤ 65535) :
    Calls Tryz.prog 31 #[.agg #[.string (ofL x), .int .i64 0], .string (ofL s)] w fun e w' => e = .returned (.agg #[.string (ofL (x ++ (Oct.be 2 s.length ++ s))), .int .i64 0]) ∧ Below w.heap.size w w' := by
  have h := text_any (ofL x) (ofL s) 0 w (by rw [ofL_size]; exact hx) (by rw [ofL_size]; exact hs)
  have e : ofL x ++ textB (ofL s) = ofL (x ++ (Oct.be 2 s.length ++ s)) := by
    unfold textB
    rw [ofL_size, show ByteArray.mk (Oct.be 2 s.length).toArray = ofL (Oct.be 2 s.length) from rfl, ofL_app, ofL_app]
  rw [e] at h
  exact h
theorem raw_l (x s : List UInt8) (w : World) (hx : x.length ≤ 1000000) (hs : s.length ≤ 1000000) :
    Calls Tryz.prog 58 #[.agg #[.string (ofL x), .int .i64 0], .string (ofL s)] w fun e w' => e = .returned (.agg #[.string (ofL (x ++ s)), .int .i64 0]) ∧ Below w.heap.size w w' := by
  have h := raw_any (ofL x) (ofL s) 0 w (by rw [ofL_size]; exact hx) (by rw [ofL_size]; exact hs)
  rw [ofL_app] at h
  exact h
end Go.Proofs.YtgponfdcagnhhaaGreatDoor
end
