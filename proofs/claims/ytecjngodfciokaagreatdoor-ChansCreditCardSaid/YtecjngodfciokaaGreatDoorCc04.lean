/-
  ROWS OF LENT ONES: slices.Grow of none, slices.Concat of two, slices.Clone: walked. PLAIN: names, words with points between, patterns. No program is spoken of here. OCTET's OTHER CALLS, walked: a text that is read, what is left, the error; a text that is too long. OCTET's CALLS over lists of bytes: what is written, what is read.
-/
import Derived.Test.YtecjngodfciokaaGreatDoorCc02
import Derived.Test.YtecjngodfciokaaGreatDoorCc03
import Derived.Deep.Upon
import Derived.Laws.AppendOwnNone
import Derived.Lib.Join
section
namespace Go.Proofs.YtecjngodfciokaaGreatDoor
open Go.ChangeShapes Go.WideShapes Go.ChangeAt Go.RowKit Go.Lib
theorem infoLt : (Tryz.prog.info? 70).map (fun i => (i.zero, i.size, i.bytes)) = some (some (.agg #[.int .u64 0, .string ⟨#[]⟩]), 2, 24) := by kernel_rfl
/-- a row appended to an empty one of one's own -/
theorem copyLt_run {W : World} {n : Nat} {cs : List Value} {A : Option Addr} {c g : Nat} {B : Nat} (hl : n ≤ 100000) (hp : Rws W A cs) (hlen : cs.length = n * 2) (hone : ∀ u ∈ cs, u.oneCell' = true)
    (hown : W.ownsRow B 70 2 (.slice (some ⟨g, 0, none⟩) 0 0) 0 []) (hB : B ≤ W.heap.size) :
    ∃ A' c' w', (Builtin.append_ #[61, 61] 61 #[.slice (some ⟨g, 0, none⟩) 0 0, .slice A n c]).run Tryz.prog W = .ok (.slice A' n c') w' ∧ w'.ownsRow B 70 2 (.slice A' n c') n cs ∧ W.grownBy w' (some g) := by
  obtain ⟨i1, hi1, hz0, hz1, hz2⟩ := info_parts infoLt
  by_cases h0 : n = 0
  · subst h0
    have hcs : cs = [] := by
      cases cs with
      | nil => rfl
      | cons x t => simp at hlen
    subst hcs
    have hsrc : Src Tryz.prog i1.size 61 (.slice A 0 c) 0 [] W := by
      cases A with
      | none => exact Src.ofNil W Tryz.underlying61 c
      | some a => exact Src.ofSlice W Tryz.underlying61 a 0 c [] (by simp) (fun j u h => by simp at h) (fun u h => by simp at h)
    exact ⟨some ⟨g, 0, none⟩, 0, W, run_append_nothing W 61 61 61 70 i1 Tryz.underlying61 hi1 (some ⟨g, 0, none⟩) 0 0 (Nat.le_refl _) (.slice A 0 c) hsrc, hown, World.grownBy.refl _ _⟩
  · have hpos : 0 < n := by omega
    obtain ⟨b, off, rfl, hbl, -⟩ := hp.lies (by omega)
    obtain ⟨gg, cap, w', hr, h2, h3, h4, h5⟩ := run_append_lies (P := Tryz.prog) W 61 61 B 70 i1 _ 2 24 Tryz.underlying61 hi1 hz0 hz1 hz2 rfl (by omega) (.slice (some ⟨g, 0, none⟩) 0 0) 0 [] hown ⟨b, off, none⟩ n c cs hlen hp.news hone hpos (by unfold maxLen; omega) (by omega) hB W.heap.size rfl
    rw [Nat.zero_add, List.nil_append] at h2
    rw [Nat.zero_add] at hr
    exact ⟨some ⟨gg, 0, none⟩, cap, w', hr, h2, h3⟩
def ClLt (n : Nat) (cs : List Value) (w : World) (e : Ending) (w' : World) : Prop := ∃ A' c', e = .returned (.slice A' n c') ∧ w'.ownsRow w.heap.size 70 2 (.slice A' n c') n cs ∧ Below w.heap.size w w'
set_option maxRecDepth 100000 in
set_option maxHeartbeats 2000000 in
theorem cloneLt_any (n : Nat) (cs : List Value) (A : Option Addr) (c : Nat) (w : World) (hl : n ≤ 100000) (hp : Rws w A cs) (hlen : cs.length = n * 2) (hone : ∀ u ∈ cs, u.oneCell' = true) : Calls Tryz.prog 37 #[.slice A n c] w (ClLt n cs w) := by
  have qT : ∀ (w : World) (a : Option Addr) (n c n' c' : Nat), (binOp .eql 61 (.slice a n c) (.slice none n' c')).run Tryz.prog w = .ok (.bool a.isNone) w := fun w a n c n' c' => Lib.run_eql_slice_nil w _ _ a n c n' c' Tryz.underlying61
  cases A with
  | none =>
    have hcs := hp.no
    subst hcs
    have h0 : n = 0 := by simp at hlen; omega
    subst h0
    go_enter Tryz.func37, Tryz.ntmps37
    go_wp2_with fail
    go_ret
    exact ⟨none, 0, rfl, World.ownsRow_nil _ _ _ _, Below.refl _ _⟩
  | some ad =>
    have hB4 : Below w.heap.size w (w.alloc (.cells #[] 70)) := (Below.refl _ _).alloc (Nat.le_refl _) _
    have hown4 : (w.alloc (.cells #[] 70)).ownsRow w.heap.size 70 2 (.slice (some ⟨w.heap.size, 0, none⟩) 0 0) 0 [] := World.ownsRow_made (e := 70) (size := 2) w #[] 0 (Nat.le_refl _) (by unfold maxLen; omega) rfl
    obtain ⟨A', c', w5, hrun, hown5, hgr5⟩ := copyLt_run (W := w.alloc (.cells #[] 70)) (n := n) (cs := cs) (A := some ad) (c := c) hl (hp.on hB4) hlen hone hown4 (by simp)
    have hs4 : (w.alloc (.cells #[] 70)).heap.size = w.heap.size + 1 := by simp
    have hB5 : Below w.heap.size w w5 := hB4.grown hgr5 (by rw [hs4]; omega) (fun k hk => by cases hk; omega)
    have HRUN := Lib.hid hrun
    have HE := Lib.hid (show ClLt n cs w (.returned (.slice A' n c')) w5 from ⟨A', c', rfl, hown5, hB5⟩)
    clear hB4 hown4 hs4 hrun hown5 hgr5 hB5 hp
    go_enter Tryz.func37, Tryz.ntmps37
    go_wp2_with (first
      | (at_builtin; (refine Lib.wpList_append_run _ rfl _ _ _ _ rfl _ _ rfl rfl _ _ HRUN.out ?_)))
    go_ret
    exact HE.out
/-- one appended to a row that has no room -/
theorem moreLt_run {W : World} {n : Nat} {cs xs : List Value} {A : Option Addr} {b : Nat} (hl : n ≤ 100000) (hp : Rws W A cs) (hlen : cs.length = n * 2) (hxl : xs.length = 2) (hxo : ∀ u ∈ xs, u.oneCell' = true) (hx : ∀ j u, xs[j]? = some u → W.cell? ((⟨b, 0, none⟩ : Addr).add j) = some u) (hn : A = none → n = 0) :
    ∃ g c' w', (Builtin.append_ #[61, 61] 61 #[.slice A n n, .slice (some ⟨b, 0, none⟩) 1 1]).run Tryz.prog W = .ok (.slice (some ⟨g, 0, none⟩) (n + 1) c') w' ∧ w'.ownsRow W.heap.size 70 2 (.slice (some ⟨g, 0, none⟩) (n + 1) c') (n + 1) (cs ++ xs) ∧ W.grownBy w' none := by
  obtain ⟨i1, hi1, hz0, hz1, hz2⟩ := info_parts infoLt
  cases A with
  | none =>
    have h0 := hn rfl
    subst h0
    have hcs := hp.no
    subst hcs
    obtain ⟨gg, cap, w', hr, h2, h3, h4, h5⟩ := run_append_lies (P := Tryz.prog) W 61 61 W.heap.size 70 i1 _ 2 24 Tryz.underlying61 hi1 hz0 hz1 hz2 rfl (by omega) (.slice none 0 0) 0 [] (World.ownsRow_nil _ _ _ _) ⟨b, 0, none⟩ 1 1 xs (by rw [hxl]) hx hxo (by omega) (by unfold maxLen; omega) (by omega) (Nat.le_refl _) W.heap.size rfl
    exact ⟨gg, cap, w', hr, h2, h3⟩
  | some ad =>
    have hcell : ∀ j u, cs[j]? = some u → W.cell? (ad.add j) = some u := by
      intro j u hj
      obtain ⟨b', off, e, -, hc⟩ := hp.at_ j u hj
      cases e
      rw [rws_add]
      exact hc
    obtain ⟨v', w', hr, h2, h3⟩ := run_append_arg_grows (P := Tryz.prog) W 61 61 70 i1 _ 2 24 Tryz.underlying61 hi1 hz0 hz1 hz2 rfl (by omega) ad n n cs hlen hcell ⟨b, 0, none⟩ 1 1 xs (by rw [hxl]) hx (by omega) (by unfold maxLen; omega) (by omega)
    obtain ⟨g, cap, rfl, _, hlt⟩ := h2.form (by omega)
    exact ⟨g, cap, w', hr, h2, h3⟩
end Go.Proofs.YtecjngodfciokaaGreatDoor
end
section
namespace Go.Proofs.YtecjngodfciokaaGreatDoor.Wrd
def mark (b : UInt8) : Bool := (decide (97 ≤ b.toNat) && decide (b.toNat ≤ 122)) || (decide (48 ≤ b.toNat) && decide (b.toNat ≤ 57)) || decide (b.toNat = 45) || decide (b.toNat = 95)
def plain (l : List UInt8) : Bool := l.all mark && decide (l.length ≠ 0)
def nameCode (l : List UInt8) : Nat := if l.length = 0 then 15 else if 16 < l.length then 5 else if l.all mark then 0 else 4
/-- the words between the points -/
def cut : List UInt8 → List (List UInt8)
  | [] => [[]]
  | b :: l => if b = 46 then [] :: cut l else match cut l with
    | [] => [[b]]
    | h :: t => (b :: h) :: t
def words (l : List UInt8) : List (List UInt8) := if l.length = 0 then [] else cut l
def okWord (bs : List (List UInt8)) (x : List UInt8) : Bool := bs.contains x || plain x
def keyCode (bs : List (List UInt8)) (l : List UInt8) : Nat := if 64 < l.length then 5 else if (words l).all (okWord bs) then 0 else 4
theorem cut_ne (l : List UInt8) : cut l ≠ [] := by
  cases l with
  | nil => simp [cut]
  | cons b l =>
    unfold cut
    split
    · simp
    · split <;> simp
theorem cut_point (l : List UInt8) : cut (46 :: l) = [] :: cut l := by rw [cut, if_pos rfl]
theorem cut_other {b : UInt8} (hb : b ≠ 46) (l : List UInt8) : ∃ h t, cut l = h :: t ∧ cut (b :: l) = (b :: h) :: t := by
  cases hc : cut l with
  | nil => exact absurd hc (cut_ne l)
  | cons h t => exact ⟨h, t, rfl, by rw [cut, if_neg hb, hc]⟩
theorem cut_word {w : List UInt8} (h : (46 : UInt8) ∉ w) : cut w = [w] := by
  induction w with
  | nil => rfl
  | cons b w ih =>
    have hb : b ≠ 46 := fun e => h (by simp [e])
    have := ih (fun hm => h (by simp [hm]))
    rw [cut, if_neg hb, this]
theorem cut_app {w : List UInt8} (h : (46 : UInt8) ∉ w) (l : List UInt8) : cut (w ++ 46 :: l) = w :: cut l := by
  induction w with
  | nil => rw [List.nil_append, cut_point]
  | cons b w ih =>
    have hb : b ≠ 46 := fun e => h (by simp [e])
    have := ih (fun hm => h (by simp [hm]))
    rw [List.cons_append, cut, if_neg hb, this]
theorem words_ne {l : List UInt8} (h : l.length ≠ 0) : words l = cut l := by unfold words; rw [if_neg h]
theorem words_nil {l : List UInt8} (h : l.length = 0) : words l = [] := by unfold words; rw [if_pos h]
theorem cut_len (l : List UInt8) : (cut l).length ≤ l.length + 1 := by
  induction l with
  | nil => simp [cut]
  | cons b l ih =>
    by_cases hb : b = 46
    · subst hb; rw [cut_point, List.length_cons, List.length_cons]; omega
    · obtain ⟨h, t, h1, h2⟩ := cut_other hb l
      rw [h2, List.length_cons, List.length_cons]
      rw [h1, List.length_cons] at ih
      omega
theorem words_len (l : List UInt8) : (words l).length ≤ l.length + 1 := by
  unfold words
  split
  · simp
  · exact cut_len l
theorem cut_part (l : List UInt8) : ∀ w ∈ cut l, w.length ≤ l.length := by
  induction l with
  | nil => intro w hw; simp [cut] at hw; subst hw; simp
  | cons b l ih =>
    by_cases hb : b = 46
    · subst hb
      rw [cut_point]
      intro w hw
      rcases List.mem_cons.1 hw with rfl | hw
      · simp
      · have := ih w hw; rw [List.length_cons]; omega
    · obtain ⟨h, t, h1, h2⟩ := cut_other hb l
      rw [h2]
      rw [h1] at ih
      intro w hw
      rcases List.mem_cons.1 hw with rfl | hw
      · have := ih h (by simp); simp only [List.length_cons]; omega
      · have := ih w (by simp [hw]); rw [List.length_cons]; omega
theorem words_part (l : List UInt8) : ∀ w ∈ words l, w.length ≤ l.length := by
  unfold words
  split
  · intro w hw; simp at hw
  · exact cut_part l

/-! ### patterns -/
abbrev W := List UInt8
def star : W := [42]
def hash : W := [35]
/-- does a key match a pattern: both from behind -/
def mt : List W → List W → Bool
  | [], k => k.isEmpty
  | w :: p, [] => (w == hash) && mt p []
  | w :: p, x :: k => if w == hash then mt p (x :: k) || mt (w :: p) k else mt p k && (w == star || w == x)
termination_by p k => (p.length, k.length)
def matches' (p k : List W) : Bool := mt p.reverse k.reverse
/-- one row behind another -/
def nx (one : W) (ws : List W) (f : Nat → Bool) : Nat → Bool
  | 0 => (one == hash) && f 0
  | j + 1 => if one == hash then f (j + 1) || nx one ws f j else f j && (one == star || one == ws.getD j [])
def row (ws : List W) : List W → Nat → Bool
  | [] => fun j => j == 0
  | w :: p => nx w ws (row ws p)
theorem row_mt (ws : List W) : ∀ (p : List W) (j : Nat), j ≤ ws.length → row ws p j = mt p (ws.take j).reverse := by
  intro p
  induction p with
  | nil =>
    intro j hj
    cases j with
    | zero => simp [row, mt]
    | succ j =>
      rw [List.take_succ_eq_append_getElem (by omega), List.reverse_append]
      simp [row, mt]
  | cons w p ih =>
    intro j
    induction j with
    | zero =>
      intro hj
      have := ih 0 hj
      simp only [row, nx, List.take_zero, List.reverse_nil] at *
      rw [mt, this]
    | succ j ihj =>
      intro hj
      have h1 := ih (j + 1) hj
      have h2 := ih j (by omega)
      have h3 := ihj (by omega)
      have e : (ws.take (j + 1)).reverse = ws.getD j [] :: (ws.take j).reverse := by
        rw [List.take_succ_eq_append_getElem (by omega), List.reverse_append, List.getD_eq_getElem?_getD, List.getElem?_eq_getElem (by omega)]
        rfl
      rw [e] at h1 ⊢
      rw [mt]
      simp only [row] at *
      rw [nx, h1, h3, h2]
theorem row_all (p k : List W) : row k p.reverse k.length = matches' p k := by
  rw [row_mt k p.reverse k.length (Nat.le_refl _), List.take_length]; rfl
end Go.Proofs.YtecjngodfciokaaGreatDoor.Wrd
end
section
namespace Go.Proofs.YtecjngodfciokaaGreatDoor
open Go.ChangeShapes Go.WideShapes Go.ChangeAt Go.RowKit
/-- what an object that reads has: what is left, and the error -/
abbrev St := ByteArray × Int
def St.ok (s : St) : Prop := s.2 ≠ 0 → s.1 = ByteArray.empty
/-! ### the examples -/
end Go.Proofs.YtecjngodfciokaaGreatDoor
end
section
namespace Go.Proofs.YtecjngodfciokaaGreatDoor
open Go.ChangeShapes Go.WideShapes Go.ChangeAt Go.RowKit
/-! ### what a reader has, as lists -/
abbrev LSt := List UInt8 × Int
def lOut (r : List UInt8) (n : Nat) : List UInt8 := if r.length < n then [] else r.take n
def lRaw (s : LSt) (n : Nat) : LSt := if s.1.length < n then ([], if s.2 = 0 then 3 else s.2) else (s.1.drop n, s.2)
def lFail (s : LSt) (c : Int) : LSt := if c = 0 ∨ s.2 ≠ 0 then s else ([], c)
def lLen (s : LSt) : Nat := Oct.val (lOut s.1 2)
def lMid (s : LSt) (m : Int) : LSt := if m < (lLen s : Int) then lFail (lRaw s 2) 5 else lRaw s 2
def lText (s : LSt) (m : Int) : LSt := lRaw (lMid s m) (lLen s)
def lTextOut (s : LSt) (m : Int) : List UInt8 := lOut (lMid s m).1 (lLen s)
theorem lOut_le (r : List UInt8) (n : Nat) : (lOut r n).length ≤ n := by
  unfold lOut
  split
  · simp
  · rw [List.length_take]; omega
theorem val_out_lt (r : List UInt8) (n : Nat) : Oct.val (lOut r n) < 256 ^ n :=
  Nat.lt_of_lt_of_le (Oct.val_lt _) (Nat.pow_le_pow_right (n := 256) (by decide) (lOut_le r n))
/-! ### as bytes -/
/-! ### what is written -/
theorem num_l (x : List UInt8) (n k : Nat) (b : Int) (w : World) (hn : n < 18446744073709551616) (hk : k ≤ 8) (hb : b = (k : Int)) (hx : x.length ≤ 1000000) :
    Calls Tryz.prog 70 #[.agg #[.string (ofL x), .int .i64 0], .int .u64 (n : Int), .int .i64 b] w fun e w' => e = .returned (.agg #[.string (ofL (x ++ Oct.be k n)), .int .i64 0]) ∧ Below w.heap.size w w' := by
  subst hb
  have h := num_any (ofL x) 0 n (k : Int) w hn (by rw [ofL_size]; exact hx)
  rw [Oct.width_num k hk] at h
  rw [show ofL x ++ ByteArray.mk (Oct.be k n).toArray = ofL (x ++ Oct.be k n) from ofL_app _ _] at h
  exact h
theorem text_l (x s : List UInt8) (w : World) (hx : x.length ≤ 900000) (hs : s.length ≤ 65535) :
    Calls Tryz.prog 71 #[.agg #[.string (ofL x), .int .i64 0], .string (ofL s)] w fun e w' => e = .returned (.agg #[.string (ofL (x ++ (Oct.be 2 s.length ++ s))), .int .i64 0]) ∧ Below w.heap.size w w' := by
  have h := text_any (ofL x) (ofL s) 0 w (by rw [ofL_size]; exact hx) (by rw [ofL_size]; exact hs)
  have e : ofL x ++ textB (ofL s) = ofL (x ++ (Oct.be 2 s.length ++ s)) := by
    unfold textB
    rw [ofL_size, show ByteArray.mk (Oct.be 2 s.length).toArray = ofL (Oct.be 2 s.length) from rfl, ofL_app, ofL_app]
  rw [e] at h
  exact h
theorem raw_l (x s : List UInt8) (w : World) (hx : x.length ≤ 1000000) (hs : s.length ≤ 1000000) :
    Calls Tryz.prog 85 #[.agg #[.string (ofL x), .int .i64 0], .string (ofL s)] w fun e w' => e = .returned (.agg #[.string (ofL (x ++ s)), .int .i64 0]) ∧ Below w.heap.size w w' := by
  have h := raw_any (ofL x) (ofL s) 0 w (by rw [ofL_size]; exact hx) (by rw [ofL_size]; exact hs)
  rw [ofL_app] at h
  exact h
end Go.Proofs.YtecjngodfciokaaGreatDoor
end
