/-
  WHAT THE WALKS OF METHODS AND REPLIES SHARE: an Out's box, rows beside written boxes, heads that were read.
-/
import Derived.Test.YtjkaljokkpabfaaGreatDoorRr06
import Derived.Test.YtjkaljokkpabfaaGreatDoorRr17
import Derived.Test.YtjkaljokkpabfaaGreatDoorRr19
import Derived.Test.YtjkaljokkpabfaaGreatDoorRr22
import Derived.Test.YtjkaljokkpabfaaGreatDoorRr24

section
namespace Go.Proofs.YtjkaljokkpabfaaGreatDoor
open Go.ChangeShapes Go.WideShapes Go.ChangeAt Go.RowKit
theorem OutB.zero {w W : World} (h : Below w.heap.size w W) (n : Nat) (hn : n = W.heap.size) (t : TypeId) : OutB w n [] (W.alloc (.cells #[.string ⟨#[]⟩, .int .i64 0] t)) := by
  subst hn
  exact OutB.new h [] t
theorem PrAt.aside {W : World} {b o : Nat} {x : Hd.Pr} (h : PrAt W b o x) {g : Nat} (hg : g ≠ b) (j : Nat) (v : Value) : PrAt (W.setCell ⟨g, j, none⟩ v) b o x :=
  ⟨(aside_cell hg _ _ _).trans h.c0, (aside_cell hg _ _ _).trans h.c1, (aside_cell hg _ _ _).trans h.c2, (aside_cell hg _ _ _).trans h.c3⟩
theorem Prs.aside {W : World} {A : Option Addr} {l : List Hd.Pr} (h : Prs W A l) {g : Nat} (hg : ∀ a, A = some a → g ≠ a.block) (j : Nat) (v : Value) : Prs (W.setCell ⟨g, j, none⟩ v) A l := ⟨fun i hi => by
  obtain ⟨b, off, rfl, hb, hat⟩ := h.at_ i hi
  exact ⟨b, off, rfl, by simpa [World.setCell] using hb, hat.aside (hg _ rfl) j v⟩⟩
/-- a number of cells of a block written, one behind the other -/
def putAll (q : Nat) : Nat → List Value → World → World
  | _, [], W => W
  | j, v :: vs, W => putAll q (j + 1) vs (W.setCell ⟨q, j, none⟩ v)
theorem Prs.putAll {A : Option Addr} {l : List Hd.Pr} {g : Nat} (hg : ∀ a, A = some a → g ≠ a.block) : ∀ (vs : List Value) (j : Nat) {W : World}, Prs W A l → Prs (putAll g j vs W) A l
  | [], _, _, h => h
  | v :: vs, j, _, h => Prs.putAll hg vs (j + 1) (h.aside hg j v)
theorem rdr_putAll {b g : Nat} {R : LSt → World → Prop} (hR : Rder b R) {s : LSt} (hg : g ≠ b) : ∀ (vs : List Value) (j : Nat) {W : World}, R s W → R s (putAll g j vs W)
  | [], _, _, h => h
  | v :: vs, j, _, h => rdr_putAll hR hg vs (j + 1) (hR.put h hg j v)
theorem grown_putAll {a : World} {row : Option Nat} {g : Nat} (hg : a.heap.size ≤ g) : ∀ (vs : List Value) (j : Nat) {W : World}, a.grownBy W row → a.grownBy (putAll g j vs W) row
  | [], _, _, h => h
  | v :: vs, j, _, h => grown_putAll hg vs (j + 1) (grown_far h hg j v)
theorem below_putAll {w : World} {g : Nat} (hg : w.heap.size ≤ g) : ∀ (vs : List Value) (j : Nat) {W : World}, Below w.heap.size w W → Below w.heap.size w (putAll g j vs W)
  | [], _, _, h => h
  | v :: vs, j, _, h => below_putAll hg vs (j + 1) (h.setCell hg v)
theorem Parts.putAll {T : Option Addr} {l : List Nat} {g : Nat} (hg : ∀ a, T = some a → g ≠ a.block) : ∀ (vs : List Value) (j : Nat) {W : World}, Parts W T l → Parts (putAll g j vs W) T l
  | [], _, _, h => h
  | v :: vs, j, _, h => Parts.putAll hg vs (j + 1) (h.aside hg j v)
/-- all cells of a box written -/
theorem BoxC.fill {w W : World} {c : Nat} {xs : List Value} (h : BoxC w c xs W) : ∀ (vs : List Value), vs.length = xs.length → BoxC w c vs (Go.Proofs.YtjkaljokkpabfaaGreatDoor.putAll c 0 vs W) := by
  have gen : ∀ (vs us : List Value) (j : Nat) (W : World) (ts : List Value), ts.length = j → us.length = vs.length → BoxC w c (ts ++ us) W → BoxC w c (ts ++ vs) (Go.Proofs.YtjkaljokkpabfaaGreatDoor.putAll c j vs W) := by
    intro vs
    induction vs with
    | nil =>
      intro us j W ts _ hu hb
      rw [List.length_eq_zero_iff.1 hu] at hb
      exact hb
    | cons v vs ih =>
      intro us j W ts ht hu hb
      match us, hu with
      | u :: us, hu =>
        have h1 := hb.put j v (by rw [List.length_append, ht]; simp)
        have e : (ts ++ u :: us).set j v = (ts ++ [v]) ++ us := by
          rw [List.set_append_right _ _ (by omega), ht, Nat.sub_self]
          simp
        rw [e] at h1
        have := ih us (j + 1) (W.setCell ⟨c, j, none⟩ v) (ts ++ [v]) (by simp [ht]) (by simpa using hu) h1
        rw [List.append_assoc] at this
        exact this
  intro vs hv
  exact gen vs xs 0 W [] rfl hv.symm h
/-- what was read of a head is of a length that can be walked -/
theorem rds_low : ∀ (n : Nat) (h : List Hd.Pr) (s : LSt), (∀ p ∈ h, p.key.length ≤ 65536 ∧ p.txt.length ≤ 65536) → ∀ p ∈ (Hd.rds n h s).1, p.key.length ≤ 65536 ∧ p.txt.length ≤ 65536
  | 0, _, _, hf => hf
  | n + 1, h, s, hf => by
    unfold Hd.rds
    split
    · intro p hp; simp at hp
    · refine rds_low n _ _ fun p hp => ?_
      rcases List.mem_append.1 hp with hp | hp
      · exact hf p hp
      · rw [List.mem_singleton] at hp; subst hp; exact rd1_len s
theorem hread_low (s : LSt) : ∀ p ∈ (Hd.hread s).1, p.key.length ≤ 65536 ∧ p.txt.length ≤ 65536 := by
  unfold Hd.hread
  split
  · intro p hp; simp at hp
  · exact rds_low _ _ _ fun p hp => by simp at hp
theorem lite_of {l : List Hd.Pr} (h : ∀ p ∈ l, p.key.length ≤ 65536 ∧ p.txt.length ≤ 65536) : Lite l := fun i hi => by
  have := h (Hd.pr l i) (by rw [Hd.pr_at hi]; exact List.getElem_mem hi)
  omega
end Go.Proofs.YtjkaljokkpabfaaGreatDoor
end
