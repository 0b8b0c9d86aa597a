/-
  A LINE, plain: messages by rising numbers; lent, brought back, taken away, woken.
-/
import Derived.Test.YtabnkbdbbneihaaGreatDoorLg04

section
namespace Go.Proofs.YtabnkbdbbneihaaGreatDoor
structure It where
  m : Ml
  lent : Bool
  again : Bool
deriving DecidableEq
def it0 : It := ⟨Ml.zero, false, false⟩
namespace Ln
def Rises (l : List It) : Prop := l.Pairwise fun x y => x.m.id < y.m.id
def lastId (l : List It) : Nat := (l.getD (l.length - 1) it0).m.id
def acode (l : List It) (x : It) : Nat := if x.m.code ≠ 0 then x.m.code else if 0 < l.length ∧ x.m.id ≤ lastId l then 13 else if 64 ≤ l.length then 12 else 0
def add (l : List It) (x : It) : List It := if acode l x = 0 then l ++ [x] else l
/-- what is made of items one by one, and what is wrong -/
def of : List It → List It → List It × Nat
  | l, [] => (l, 0)
  | l, x :: t => if acode l x = 0 then of (l ++ [x]) t else ([], acode l x)
def rdy (x : It) : Bool := !x.lent
def back1 (x : It) : It := ⟨x.m, false, x.again || x.lent⟩
def next (l : List It) : Int := idx rdy l
def find (l : List It) (i : Nat) : Int := idx (fun x => x.m.id == i) l
def lendAll (l : List It) (i : Nat) : List It := l.map fun y => ⟨y.m, y.lent || y.m.id == i, y.again⟩
def lend (l : List It) : List It := if next l < 0 then l else lendAll l (l.getD (next l).toNat it0).m.id
def lentIt (l : List It) : It := if next l < 0 then it0 else (lend l).getD (next l).toNat it0
def backAll (l : List It) (i : Nat) : List It := l.map fun y => if y.m.id == i then back1 y else y
def bcode (l : List It) (i : Nat) : Nat := if find l i < 0 then 10 else if (l.getD (find l i).toNat it0).lent = false then 13 else 0
def back (l : List It) (i : Nat) : List It := if bcode l i = 0 then backAll l i else l
def remove (l : List It) (i : Nat) : List It := if find l i < 0 then l else l.eraseIdx (find l i).toNat
def gone (l : List It) (i : Nat) : It := if find l i < 0 then it0 else l.getD (find l i).toNat it0
def wake (l : List It) : List It := l.map back1
def ready (l : List It) : Nat := l.countP rdy
def late (t : Nat) (x : It) : Bool := !x.lent && (x.m.due != 0 && decide (x.m.due ≤ t))
theorem idx_ge {α : Type} {q : α → Bool} {l : List α} (z : α) (h : ¬ idx q l < 0) : ∃ k : Nat, idx q l = k ∧ k < l.length ∧ q (l.getD k z) = true ∧ ∀ i, i < k → q (l.getD i z) = false := by
  unfold idx at h ⊢
  cases e : l.findIdx? q with
  | none => rw [e] at h; simp at h
  | some k =>
    obtain ⟨hk, hq, hn⟩ := List.findIdx?_eq_some_iff_getElem.1 e
    refine ⟨k, rfl, hk, ?_, fun i hi => ?_⟩
    · rw [List.getD_eq_getElem?_getD, List.getElem?_eq_getElem hk]; exact hq
    · rw [List.getD_eq_getElem?_getD, List.getElem?_eq_getElem (by omega)]
      have := hn i hi
      simpa using this
theorem idx_neg {α : Type} {q : α → Bool} {l : List α} (h : idx q l < 0) : ∀ x ∈ l, q x = false := by
  unfold idx at h
  cases e : l.findIdx? q with
  | none => exact fun x hx => by simpa using List.findIdx?_eq_none_iff.1 e x hx
  | some k => rw [e] at h; simp at h; omega
theorem getD_lt {α : Type} {l : List α} {i : Nat} (h : i < l.length) (z : α) : l.getD i z = l[i] := by rw [List.getD_eq_getElem?_getD, List.getElem?_eq_getElem h]; rfl
theorem Rises.at_ {l : List It} (h : Rises l) {i j : Nat} (hij : i < j) (hj : j < l.length) : (l.getD i it0).m.id < (l.getD j it0).m.id := by
  rw [getD_lt (by omega), getD_lt hj]
  exact List.pairwise_iff_getElem.1 h i j (by omega) hj hij
theorem Rises.last {l : List It} (h : Rises l) : ∀ x ∈ l, x.m.id ≤ lastId l := by
  intro x hx
  obtain ⟨i, hi, rfl⟩ := List.getElem_of_mem hx
  unfold lastId
  by_cases e : i = l.length - 1
  · rw [getD_lt (by omega)]; simp [e]
  · have := h.at_ (i := i) (j := l.length - 1) (by omega) (by omega)
    rw [getD_lt hi] at this
    omega
theorem Rises.snoc {l : List It} (h : Rises l) {x : It} (hx : ∀ y ∈ l, y.m.id < x.m.id) : Rises (l ++ [x]) := by
  unfold Rises
  rw [List.pairwise_append]
  exact ⟨h, List.pairwise_singleton _ _, fun a ha b hb => by rw [List.mem_singleton.1 hb]; exact hx a ha⟩
theorem acode_ok {l : List It} {x : It} (h : acode l x = 0) : x.m.code = 0 ∧ (0 < l.length → lastId l < x.m.id) ∧ l.length < 64 := by
  unfold acode at h
  split at h
  · omega
  · split at h
    · omega
    · split at h
      · omega
      · rename_i h1 h2 h3
        exact ⟨by omega, fun h4 => by omega, by omega⟩
/-- such lines come about -/
structure Fine (l : List It) : Prop where
  rises : Rises l
  len : l.length ≤ 64
  ok : ∀ x ∈ l, x.m.code = 0 ∧ Ml.Fits x.m
theorem Fine.nil : Fine [] := ⟨List.Pairwise.nil, by simp, fun x hx => by simp at hx⟩
theorem Fine.add {l : List It} (h : Fine l) {x : It} (hf : Ml.Fits x.m) : Fine (add l x) := by
  unfold Ln.add
  split
  · rename_i h0
    obtain ⟨h1, h2, h3⟩ := acode_ok h0
    refine ⟨h.rises.snoc fun y hy => ?_, by simp; omega, fun y hy => ?_⟩
    · have := h.rises.last y hy
      have := h2 (List.length_pos_of_mem hy)
      omega
    · rcases List.mem_append.1 hy with hy | hy
      · exact h.ok y hy
      · obtain rfl := List.mem_singleton.1 hy; exact ⟨h1, hf⟩
  · exact h
/-- a map that leaves the messages alone -/
theorem Fine.map {l : List It} (h : Fine l) {f : It → It} (hf : ∀ x, (f x).m = x.m) : Fine (l.map f) := by
  refine ⟨?_, by simp [h.len], fun y hy => ?_⟩
  · unfold Rises
    rw [List.pairwise_map]
    exact h.rises.imp fun {a b} hab => by rw [hf, hf]; exact hab
  · obtain ⟨x, hx, rfl⟩ := List.mem_map.1 hy
    rw [hf]; exact h.ok x hx
theorem Fine.lendAll {l : List It} (h : Fine l) (i : Nat) : Fine (lendAll l i) := h.map fun _ => rfl
theorem Fine.lend {l : List It} (h : Fine l) : Fine (lend l) := by
  unfold Ln.lend
  split
  · exact h
  · exact h.lendAll _
theorem Fine.backAll {l : List It} (h : Fine l) (i : Nat) : Fine (backAll l i) := h.map fun x => by split <;> rfl
theorem Fine.back {l : List It} (h : Fine l) (i : Nat) : Fine (back l i) := by
  unfold Ln.back
  split
  · exact h.backAll _
  · exact h
theorem Fine.wake {l : List It} (h : Fine l) : Fine (wake l) := h.map fun _ => rfl
theorem Fine.remove {l : List It} (h : Fine l) (i : Nat) : Fine (remove l i) := by
  unfold Ln.remove
  split
  · exact h
  · exact ⟨h.rises.sublist (List.eraseIdx_sublist ..), Nat.le_trans (List.length_eraseIdx_le ..) h.len, fun x hx => h.ok x (List.mem_of_mem_eraseIdx hx)⟩
/-! ### counted -/
theorem ready_le (l : List It) : ready l ≤ l.length := List.countP_le_length
theorem Rises.inj {l : List It} (h : Rises l) {i j : Nat} (hi : i < l.length) (hj : j < l.length) (e : (l.getD i it0).m.id = (l.getD j it0).m.id) : i = j := by
  rcases Nat.lt_trichotomy i j with h1 | h1 | h1
  · have := h.at_ h1 hj; omega
  · exact h1
  · have := h.at_ h1 hi; omega
/-- one alone is turned -/
theorem map_one {l : List It} (h : Rises l) {k : Nat} (hk : k < l.length) (f : It → It) : (l.map fun y => if y.m.id == (l.getD k it0).m.id then f y else y) = l.set k (f (l.getD k it0)) := by
  apply List.ext_getElem
  · simp
  · intro i h1 h2
    rw [List.getElem_map, List.getElem_set]
    have hi : i < l.length := by simpa using h1
    by_cases e : k = i
    · subst e
      rw [if_pos rfl, if_pos (beq_iff_eq.2 (congrArg (fun x : It => x.m.id) (getD_lt hk it0)).symm)]
      exact congrArg f (getD_lt hk it0).symm
    · rw [if_neg e, if_neg]
      intro e2
      have := h.inj (i := i) (j := k) hi hk (by rw [getD_lt hi]; simpa using e2)
      omega
def lent1 (x : It) : It := ⟨x.m, true, x.again⟩
theorem lendAll_one {l : List It} (h : Rises l) {k : Nat} (hk : k < l.length) : lendAll l (l.getD k it0).m.id = l.set k (lent1 (l.getD k it0)) := by
  rw [← map_one h hk lent1]
  unfold lendAll
  apply List.map_congr_left
  intro y _
  by_cases e : (y.m.id == (l.getD k it0).m.id) = true
  · rw [e, if_pos rfl]; simp [lent1]
  · rw [if_neg e, Bool.eq_false_iff.2 e]; simp
theorem countP_set {α : Type} {q : α → Bool} : ∀ {l : List α} {k : Nat} {x : α} (hk : k < l.length), (l.set k x).countP q + (if q l[k] = true then 1 else 0) = l.countP q + (if q x = true then 1 else 0)
  | a :: l, 0, x, _ => by simp [List.countP_cons]; omega
  | a :: l, k + 1, x, hk => by
    have := countP_set (q := q) (l := l) (k := k) (x := x) (by simpa using hk)
    simp only [List.set_cons_succ, List.countP_cons, List.getElem_cons_succ]
    omega
theorem ready_pos {l : List It} : 0 < ready l ↔ ¬ next l < 0 := by
  unfold ready next
  rw [List.countP_pos_iff]
  constructor
  · rintro ⟨x, hx, hq⟩ hn
    have := idx_neg hn x hx
    rw [hq] at this
    cases this
  · intro hn
    obtain ⟨k, _, hk, hq, _⟩ := idx_ge it0 hn
    exact ⟨_, by rw [getD_lt hk]; exact List.getElem_mem hk, hq⟩
theorem lend_len (l : List It) : (lend l).length = l.length := by
  unfold lend
  split
  · rfl
  · simp [lendAll]
theorem lend_ready {l : List It} (h : Rises l) (hr : 0 < ready l) : ready (lend l) = ready l - 1 := by
  have hn := ready_pos.1 hr
  obtain ⟨k, hk, hkl, hq, -⟩ := idx_ge it0 hn
  have hk' : next l = (k : Int) := hk
  unfold lend
  rw [if_neg hn, hk', Int.toNat_natCast, lendAll_one h hkl]
  unfold ready
  have h1 := countP_set (q := rdy) (l := l) (k := k) (x := lent1 (l.getD k it0)) hkl
  rw [getD_lt hkl] at hq
  rw [if_pos hq, if_neg (by simp [rdy, lent1])] at h1
  unfold ready at hr
  omega
theorem back_len (l : List It) (i : Nat) : (back l i).length = l.length := by
  unfold back
  split
  · simp [backAll]
  · rfl
theorem remove_len (l : List It) (i : Nat) : (remove l i).length ≤ l.length ∧ l.length ≤ (remove l i).length + 1 ∧ ((remove l i).length ≠ l.length → ¬ find l i < 0) := by
  unfold remove
  split
  · exact ⟨Nat.le_refl _, by omega, fun h => absurd rfl h⟩
  · rename_i h
    obtain ⟨k, hk, hkl, -, -⟩ := idx_ge it0 h
    have hk' : find l i = (k : Int) := hk
    rw [hk', Int.toNat_natCast, List.length_eraseIdx, if_pos hkl]
    exact ⟨by omega, by omega, fun _ => by omega⟩
theorem remove_gone {l : List It} (h : Rises l) {i : Nat} (hn : (remove l i).length ≠ l.length) : ∀ x ∈ remove l i, x.m.id ≠ i := by
  have hf := (remove_len l i).2.2 hn
  obtain ⟨k, hk, hkl, hq, -⟩ := idx_ge it0 hf
  have hk' : find l i = (k : Int) := hk
  have hid : (l.getD k it0).m.id = i := by simpa using hq
  unfold remove
  rw [if_neg hf, hk', Int.toNat_natCast]
  intro x hx e
  rw [List.mem_eraseIdx_iff_getElem] at hx
  obtain ⟨j, hj, hjk, rfl⟩ := hx
  have := h.inj (i := j) (j := k) hj hkl (by rw [getD_lt hj, e, hid])
  omega
/-! ### woken, and lent one by one -/
/-! ### as the document does it -/
end Ln
end Go.Proofs.YtabnkbdbbneihaaGreatDoor
end
