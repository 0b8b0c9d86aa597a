/-
  A RULE's COPY, as the laws make it: walked.
-/
import Derived.Test.YtnamkglflhkckaaDoorMr25
import Derived.Deep.AppendLies
import Derived.Deep.RegionHeld3
import Derived.Deep.DeepCutAuto
section
namespace Go.Proofs.YtnamkglflhkckaaDoor
open Go.ChangeShapes Go.WideShapes Go.ChangeAt Go.RowKit
/-- the boxes of To: the rule, the answer -/
structure ToC (w : World) (p q : Nat) (r : Ru) (A : Option Addr) (c : Nat) (W : World) : Prop where
  rp : Cels W p (ruL r A c)
  lp : p < W.heap.size
  rq : ∃ (s : Int) (k : ByteArray) (a : Option Addr) (n m : Nat) (b : Bool), W.cell? ⟨q, 0, none⟩ = some (.int .u8 s) ∧ W.cell? ⟨q, 1, none⟩ = some (.string k) ∧ W.cell? ⟨q, 2, none⟩ = some (.slice a n m) ∧ W.cell? ⟨q, 3, none⟩ = some (.bool b)
  sq : Soft W q
  lq : q < W.heap.size
  ne : q ≠ p
  gq : w.heap.size ≤ q
  B : Below w.heap.size w W
abbrev ToS (w : World) (p q : Nat) (r : Ru) (A : Option Addr) (c : Nat) (W : World) : Prop :=
  (W.cell? ⟨p, 0, none⟩ = some (.int .u8 (r.sort : Int)) ∧ W.cell? ⟨p, 1, none⟩ = some (.string (ofL r.key)) ∧ W.cell? ⟨p, 2, none⟩ = some (.slice A r.want.length c) ∧ W.cell? ⟨p, 3, none⟩ = some (.bool r.all) ∧ p < W.heap.size) ∧ ToC w p q r A c W
theorem ToC.s {w : World} {p q : Nat} {r : Ru} {A : Option Addr} {c : Nat} {W : World} (h : ToC w p q r A c W) : ToS w p q r A c W := ⟨⟨h.rp 0 _ rfl, h.rp 1 _ rfl, h.rp 2 _ rfl, h.rp 3 _ rfl, h.lp⟩, h⟩
theorem ToC.on {w : World} {p q : Nat} {r : Ru} {A : Option Addr} {c : Nat} {W W' : World} (h : ToC w p q r A c W) (hb : Below W.heap.size W W') : ToC w p q r A c W' := by
  obtain ⟨s, k, a, n, m, b, h0, h1, h2, h3⟩ := h.rq
  exact ⟨h.rp.on hb h.lp, Nat.lt_of_lt_of_le h.lp hb.size, ⟨s, k, a, n, m, b, (hb.cell (p := ⟨q, 0, none⟩) h.lq).trans h0, (hb.cell (p := ⟨q, 1, none⟩) h.lq).trans h1, (hb.cell (p := ⟨q, 2, none⟩) h.lq).trans h2, (hb.cell (p := ⟨q, 3, none⟩) h.lq).trans h3⟩, h.sq.on hb h.lq, Nat.lt_of_lt_of_le h.lq hb.size, h.ne, h.gq, bthen h.B hb (Nat.le_refl _)⟩
theorem ToS.on {w : World} {p q : Nat} {r : Ru} {A : Option Addr} {c : Nat} {W W' : World} (h : ToS w p q r A c W) (hb : Below W.heap.size W W') : ToS w p q r A c W' := (h.2.on hb).s
theorem ToC.grown {w : World} {p q : Nat} {r : Ru} {A : Option Addr} {c : Nat} {W W' : World} {g : Nat} (h : ToC w p q r A c W) (hg : W.grownBy W' (some g)) (hp : p ≠ g) (hq : q ≠ g) (hw : w.heap.size ≤ g) : ToC w p q r A c W' := by
  obtain ⟨s, k, a, n, m, b, h0, h1, h2, h3⟩ := h.rq
  have np : some p ≠ some g := fun e => hp (Option.some.inj e)
  have nq : some q ≠ some g := fun e => hq (Option.some.inj e)
  exact ⟨h.rp.grown hg np, Nat.lt_of_lt_of_le h.lp hg.size, ⟨s, k, a, n, m, b, hg.cell h0 nq, hg.cell h1 nq, hg.cell h2 nq, hg.cell h3 nq⟩, h.sq.grown hg h.lq nq, Nat.lt_of_lt_of_le h.lq hg.size, h.ne, h.gq, h.B.grown hg h.B.size (fun k hk => by cases hk; omega)⟩
theorem ToC.done {w : World} {p q : Nat} {r : Ru} {A : Option Addr} {c : Nat} {W : World} (h : ToC w p q r A c W) (s : Int) (k : ByteArray) (a : Option Addr) (n m : Nat) (b : Bool) :
    ∃ W', W' = (((W.setCell ⟨q, 0, none⟩ (.int .u8 s)).setCell ⟨q, 1, none⟩ (.string k)).setCell ⟨q, 2, none⟩ (.slice a n m)).setCell ⟨q, 3, none⟩ (.bool b) ∧ ToC w p q r A c W' ∧ W'.cell? ⟨q, 0, none⟩ = some (.int .u8 s) ∧ W'.cell? ⟨q, 1, none⟩ = some (.string k) ∧ W'.cell? ⟨q, 2, none⟩ = some (.slice a n m) ∧ W'.cell? ⟨q, 3, none⟩ = some (.bool b) := by
  obtain ⟨s0, k0, a0, n0, m0, b0, h0, h1, h2, h3⟩ := h.rq
  have hC : Cels W q [.int .u8 s0, .string k0, .slice a0 n0 m0, .bool b0] := fun j v hj => by
    match j, hj with
    | 0, hj => obtain rfl := Option.some.inj hj; exact h0
    | 1, hj => obtain rfl := Option.some.inj hj; exact h1
    | 2, hj => obtain rfl := Option.some.inj hj; exact h2
    | 3, hj => obtain rfl := Option.some.inj hj; exact h3
  have hD := (((hC.put 0 (.int .u8 s) (by simp)).put 1 (.string k) (by simp)).put 2 (.slice a n m) (by simp)).put 3 (.bool b) (by simp)
  exact ⟨_, rfl, ⟨(((h.rp.aside h.ne 0 _).aside h.ne 1 _).aside h.ne 2 _).aside h.ne 3 _, by simpa [World.setCell] using h.lp, ⟨s, k, a, n, m, b, hD 0 _ rfl, hD 1 _ rfl, hD 2 _ rfl, hD 3 _ rfl⟩, (((h.sq.put _ _).put _ _).put _ _).put _ _, by simpa [World.setCell] using h.lq, h.ne, h.gq, below_over h.B h.gq _ _ _ _⟩, hD 0 _ rfl, hD 1 _ rfl, hD 2 _ rfl, hD 3 _ rfl⟩
theorem ToC.start (w : World) (r : Ru) (A : Option Addr) (c : Nat) (t1 t2 : TypeId) :
    ToC w w.heap.size (w.heap.size + 1) r A c ((w.alloc (.cells #[.int .u8 (r.sort : Int), .string (ofL r.key), .slice A r.want.length c, .bool r.all] t1)).alloc (.cells #[.int .u8 0, .string ⟨#[]⟩, .slice none 0 0, .bool false] t2)) := by
  have e1 : (w.alloc (.cells #[.int .u8 (r.sort : Int), .string (ofL r.key), .slice A r.want.length c, .bool r.all] t1)).heap.size = w.heap.size + 1 := by simp
  have hb := (Below.refl (w.alloc (.cells #[.int .u8 (r.sort : Int), .string (ofL r.key), .slice A r.want.length c, .bool r.all] t1)).heap.size (w.alloc (.cells #[.int .u8 (r.sort : Int), .string (ofL r.key), .slice A r.want.length c, .bool r.all] t1))).alloc (Nat.le_refl _) (.cells #[.int .u8 0, .string ⟨#[]⟩, .slice none 0 0, .bool false] t2)
  refine ⟨(ruBox r A c w t1).on hb (by simp), by simp; omega, ⟨0, ⟨#[]⟩, none, 0, 0, false, ?_, ?_, ?_, ?_⟩, ?_, by simp, by omega, by omega, ((Below.refl _ _).alloc (Nat.le_refl _) _).alloc (by simp) _⟩
  · rw [← e1]; exact cell_new _ _ _ _ _ rfl
  · rw [← e1]; exact cell_new _ _ _ _ _ rfl
  · rw [← e1]; exact cell_new _ _ _ _ _ rfl
  · rw [← e1]; exact cell_new _ _ _ _ _ rfl
  · rw [← e1]; exact Soft.new _ _ _
end Go.Proofs.YtnamkglflhkckaaDoor
end
