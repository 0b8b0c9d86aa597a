/-
  PLAIN: a policy's text: its lines, their words, what each tells. No program is spoken of here.
-/
import Derived.Test.YtokljdaofjgihaaGreatDoorPolMath
import Derived.Test.YtokljdaofjgihaaGreatDoorTextMath
import Derived.Lib.ParseIntB
import Derived.Lib.IndexMore
import Derived.Lib.SplitLaws
namespace Go.Proofs.YtokljdaofjgihaaGreatDoor.Pl

/-! ### words between blanks -/
def wdsFrom : List UInt8 → List UInt8 → List (List UInt8)
  | cur, [] => if cur.isEmpty then [] else [cur]
  | cur, b :: r => if b = 32 then (if cur.isEmpty then wdsFrom [] r else cur :: wdsFrom [] r) else wdsFrom (cur ++ [b]) r
def wds (l : List UInt8) : List (List UInt8) := wdsFrom [] l
theorem wds_blank {cur m : List UInt8} (h : cur.isEmpty = false) : wdsFrom cur (32 :: m) = cur :: wdsFrom [] m := by rw [wdsFrom, if_pos rfl, if_neg (by rw [h]; simp)]
theorem wds_blank0 (m : List UInt8) : wdsFrom [] (32 :: m) = wdsFrom [] m := by rw [wdsFrom, if_pos rfl, if_pos (show ([] : List UInt8).isEmpty = true from rfl)]
theorem wds_byte {b : UInt8} (cur m : List UInt8) (h : b ≠ 32) : wdsFrom cur (b :: m) = wdsFrom (cur ++ [b]) m := by rw [wdsFrom, if_neg h]
theorem wds_skip : ∀ (n : Nat) (cur m : List UInt8), n ≤ m.length → (∀ j, j < n → m.getD j 0 ≠ 32) → wdsFrom cur m = wdsFrom (cur ++ m.take n) (m.drop n)
  | 0, cur, m, _, _ => by simp
  | n + 1, cur, [], h, _ => by simp at h
  | n + 1, cur, b :: m, h, hb => by
    have h0 : b ≠ 32 := by have := hb 0 (by omega); simpa using this
    rw [wds_byte cur m h0, wds_skip n (cur ++ [b]) m (by simpa using h) (fun j hj => by have := hb (j + 1) (by omega); simpa using this)]
    simp
theorem wds_ne : ∀ (m cur : List UInt8), ∀ x ∈ wdsFrom cur m, x ≠ []
  | [], cur, x, hx => by
    unfold wdsFrom at hx
    cases cur with
    | nil => simp at hx
    | cons a t => simp at hx; rw [hx]; simp
  | b :: m, cur, x, hx => by
    by_cases hb : b = 32
    · subst hb
      cases cur with
      | nil => rw [wds_blank0] at hx; exact wds_ne m [] x hx
      | cons a t =>
        rw [wds_blank rfl] at hx
        rcases List.mem_cons.1 hx with rfl | hx
        · simp
        · exact wds_ne m [] x hx
    · rw [wds_byte cur m hb] at hx; exact wds_ne m _ x hx
theorem wds_len : ∀ (m cur : List UInt8), ∀ x ∈ wdsFrom cur m, x.length ≤ cur.length + m.length
  | [], cur, x, hx => by
    unfold wdsFrom at hx
    split at hx
    · simp at hx
    · simp at hx; rw [hx]; simp
  | b :: m, cur, x, hx => by
    by_cases hb : b = 32
    · subst hb
      cases cur with
      | nil => rw [wds_blank0] at hx; have := wds_len m [] x hx; simp at *; omega
      | cons a t =>
        rw [wds_blank rfl] at hx
        rcases List.mem_cons.1 hx with rfl | hx
        · simp
        · have := wds_len m [] x hx; simp at *; omega
    · rw [wds_byte cur m hb] at hx
      have := wds_len m _ x hx
      simp at *; omega
theorem wds_count : ∀ (m cur : List UInt8), (wdsFrom cur m).length ≤ cur.length + m.length
  | [], cur => by
    unfold wdsFrom
    cases cur <;> simp
  | b :: m, cur => by
    by_cases hb : b = 32
    · subst hb
      cases cur with
      | nil => rw [wds_blank0]; have := wds_count m []; simp at *; omega
      | cons a t => rw [wds_blank rfl]; have := wds_count m []; simp at *; omega
    · rw [wds_byte cur m hb]
      have := wds_count m (cur ++ [b])
      simp at *; omega

/-! ### lines -/
def lines : List UInt8 → List (List UInt8)
  | [] => [[]]
  | b :: l => if b = 10 then [] :: lines l else match lines l with
    | [] => [[b]]
    | h :: t => (b :: h) :: t
theorem lines_ne (l : List UInt8) : lines l ≠ [] := by
  cases l with
  | nil => simp [lines]
  | cons b l =>
    unfold lines
    split
    · simp
    · split <;> simp
theorem lines_feed (l : List UInt8) : lines (10 :: l) = [] :: lines l := by rw [lines, if_pos rfl]
theorem lines_other {b : UInt8} (hb : b ≠ 10) (l : List UInt8) : ∃ h t, lines l = h :: t ∧ lines (b :: l) = (b :: h) :: t := by
  cases hc : lines l with
  | nil => exact absurd hc (lines_ne l)
  | cons h t => exact ⟨h, t, rfl, by rw [lines, if_neg hb, hc]⟩
theorem lines_app {a : List UInt8} (h : (10 : UInt8) ∉ a) (r : List UInt8) : lines (a ++ 10 :: r) = a :: lines r := by
  induction a with
  | nil => exact lines_feed r
  | cons b a ih =>
    have hb : b ≠ 10 := fun e => h (by rw [e]; simp)
    obtain ⟨x, t, h1, h2⟩ := lines_other hb (a ++ 10 :: r)
    rw [ih (fun hm => h (by simp [hm]))] at h1
    rw [List.cons_append, h2]
    cases h1
    rfl
theorem lines_word {a : List UInt8} (h : (10 : UInt8) ∉ a) : lines a = [a] := by
  induction a with
  | nil => rfl
  | cons b a ih =>
    have hb : b ≠ 10 := fun e => h (by rw [e]; simp)
    obtain ⟨x, t, h1, h2⟩ := lines_other hb a
    rw [ih (fun hm => h (by simp [hm]))] at h1
    rw [h2]
    cases h1
    rfl
theorem cut_hit {l : List UInt8} {i : Nat} (h : Lib.index l [10] = i) : i < l.length ∧ lines l = l.take i :: lines (l.drop (i + 1)) := by
  have h1 := h
  rw [Lib.index_one] at h1
  obtain ⟨h2, h3⟩ := Lib.indexByte_some h1
  obtain ⟨hil, he⟩ := List.getElem?_eq_some_iff.1 h2
  have hdec : l = l.take i ++ 10 :: l.drop (i + 1) := by
    have := List.take_append_drop i l
    rw [List.drop_eq_getElem_cons hil, he] at this
    exact this.symm
  have hno : (10 : UInt8) ∉ l.take i := by
    intro hmem
    obtain ⟨k, hk, e⟩ := List.getElem_of_mem hmem
    rw [List.length_take] at hk
    rw [List.getElem_take] at e
    exact h3 k (by omega) (by rw [List.getElem?_eq_getElem (by omega), e])
  refine ⟨hil, ?_⟩
  conv => lhs; rw [hdec]
  exact lines_app hno _
theorem cut_miss {l : List UInt8} (h : Lib.index l [10] = -1) : lines l = [l] := by
  refine lines_word ?_
  intro hmem
  rw [Lib.index_one] at h
  obtain ⟨k, hk, e⟩ := List.getElem_of_mem hmem
  exact Lib.indexByte_none h k (by rw [List.getElem?_eq_getElem hk, e])

/-! ### numbers -/
def isNum (s : List UInt8) : Bool := !s.isEmpty && s.all Lat.dig && !(decide (1 < s.length) && s.head? == some 48)
def num (most : Nat) (s : List UInt8) : Nat × Nat := if isNum s then (if most < Lat.val s then (0, 7) else (Lat.val s, 0)) else (0, 4)
theorem num_form {most : Nat} {s : List UInt8} (h : isNum s = false) : num most s = (0, 4) := by unfold num; rw [if_neg (by rw [h]; simp)]
theorem num_range {most : Nat} {s : List UInt8} (h : isNum s = true) (h2 : most < Lat.val s) : num most s = (0, 7) := by unfold num; rw [if_pos h, if_pos h2]
theorem num_ok {most : Nat} {s : List UInt8} (h : isNum s = true) (h2 : ¬ most < Lat.val s) : num most s = (Lat.val s, 0) := by unfold num; rw [if_pos h, if_neg h2]
theorem num_le (most : Nat) (s : List UInt8) : (num most s).1 ≤ most := by
  unfold num; split
  · split <;> simp only <;> omega
  · simp
theorem parse_uint : ∀ (l : List UInt8) (acc : Nat), (∀ b ∈ l, Lat.dig b = true) → acc < 18446744073709551616 →
    Lib.parseUintM 18446744073709551615 acc l = if l.foldl (fun n b => 10 * n + (b.toNat - 48)) acc < 18446744073709551616 then .ok (l.foldl (fun n b => 10 * n + (b.toNat - 48)) acc) else .range
  | [], acc, _, h => by
    rw [Lib.parseUintM, List.foldl_nil, if_pos h]
  | b :: l, acc, hd, h => by
    have hb := Lat.dig_bounds (hd b (by simp))
    rw [Lib.parseUintM, if_pos hb, List.foldl_cons]
    have hge := Lat.val_from l (10 * acc + (b.toNat - 48))
    by_cases h1 : 1844674407370955162 ≤ acc
    · rw [if_pos h1, if_neg (by omega)]
    · rw [if_neg h1]
      by_cases h2 : 18446744073709551615 < acc * 10 + (b.toNat - 48)
      · rw [if_pos h2, if_neg (by omega)]
      · rw [if_neg h2, parse_uint l _ (fun x hx => hd x (by simp [hx])) (by omega), Nat.mul_comm acc 10]
theorem parse64 {l : List UInt8} (h0 : l ≠ []) (hd : ∀ b ∈ l, Lat.dig b = true) :
    Lib.parseUintB 64 l = if Lat.val l < 18446744073709551616 then .ok (Lat.val l) else .range := by
  unfold Lib.parseUintB Lat.val
  rw [if_neg h0]
  exact parse_uint l 0 hd (by omega)

/-! ### what a line tells -/
def wWork : List UInt8 := [119, 111, 114, 107]
def wGive : List UInt8 := [103, 105, 118, 101]
def wLabel : List UInt8 := [108, 97, 98, 101, 108]
def wSlot : List UInt8 := [115, 108, 111, 116]
def wGrant : List UInt8 := [103, 114, 97, 110, 116]
def asked (f : List UInt8) : Nat := if f = wWork ∨ f = wGive ∨ f = wSlot then 2 else if f = wGrant then 4 else if f = wLabel then 5 else 0
def fst (a b : Nat) : Nat := if a = 0 then b else a
def small : Nat := 1048576
def most : Nat := 18446744073709551615
def w (r : List (List UInt8)) (i : Nat) : List UInt8 := r.getD i []
def none10 (i : Int) : Nat := if i < 0 then 10 else 0
def tell (p : Pol) (f : List UInt8) (r : List (List UInt8)) : Nat × Pol :=
  if f = wWork then ((num small (w r 0)).2, { p with work := ((num small (w r 0)).1 : Int) })
  else if f = wGive then ((num small (w r 0)).2, { p with give := ((num small (w r 0)).1 : Int) })
  else if f = wLabel then (fst (fst (Lat.parse (w r 1)).2.2 (num small (w r 2)).2) (num most (w r 3)).2,
    { p with places := p.places ++ [⟨w r 0, (Lat.parse (w r 1)).1, (Lat.parse (w r 1)).2.1, ((num small (w r 2)).1 : Int), (num most (w r 3)).1⟩] })
  else if f = wSlot then (none10 (find p.places (w r 0)), { p with slots := p.slots ++ [find p.places (w r 0)] })
  else (fst (fst (none10 (find p.places (w r 0))) (none10 (find p.places (w r 1)))) (num small (w r 2)).2,
    { p with grants := p.grants ++ [⟨find p.places (w r 0), find p.places (w r 1), ((num small (w r 2)).1 : Int)⟩] })
def take (p : Pol) (x : List UInt8) : Nat × Pol := match wds x with
  | [] => (0, p)
  | f :: r => if f.head? = some 35 then (0, p) else if r.length + 1 ≠ asked f then (4, p) else tell p f r
def fin (p : Pol) : Pol × Nat × Nat := if check p ≠ 0 then (Pol.zero, 0, check p) else (p, 0, 0)
def run : List (List UInt8) → Nat → Pol → Pol × Nat × Nat
  | [], _, p => fin p
  | x :: r, k, p => if (take p x).1 ≠ 0 then (Pol.zero, k, (take p x).1) else run r (k + 1) (take p x).2
/-- the policy of a text, or in which line something is wrong first, and what -/
def parse (l : List UInt8) : Pol × Nat × Nat := run (lines l) 1 Pol.zero
theorem take_nil (p : Pol) : take p [] = (0, p) := rfl
theorem run_nil (k : Nat) (p : Pol) : run (lines []) k p = fin p := by
  show run [[]] k p = fin p
  rw [run, take_nil, if_neg (by simp), run]
theorem run_bad {x : List UInt8} {r : List (List UInt8)} {k : Nat} {p : Pol} (h : (take p x).1 ≠ 0) : run (x :: r) k p = (Pol.zero, k, (take p x).1) := by rw [run, if_pos h]
theorem run_ok {x : List UInt8} {r : List (List UInt8)} {k : Nat} {p : Pol} (h : (take p x).1 = 0) : run (x :: r) k p = run r (k + 1) (take p x).2 := by rw [run, if_neg (by rw [h]; simp)]
def Pol.size (p : Pol) : Nat := p.places.length + p.slots.length + p.grants.length
theorem tell_size (p : Pol) (f : List UInt8) (r : List (List UInt8)) : (tell p f r).2.size ≤ p.size + 1 := by
  unfold tell Pol.size
  repeat' split
  all_goals simp only [List.length_append, List.length_cons, List.length_nil]; omega
theorem take_size (p : Pol) (x : List UInt8) : (take p x).2.size ≤ p.size + 1 := by
  unfold take
  split
  · simp
  · split
    · simp
    · split
      · simp
      · exact tell_size _ _ _
end Go.Proofs.YtokljdaofjgihaaGreatDoor.Pl
