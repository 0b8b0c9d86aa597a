/-
  RULES; whether one may be: walked, the program's and the document's. A RULE's COPY, as the laws make it: walked. PLAIN: what a frame's body is made of: numbers, yes or no, texts, heads; read behind they were written, and written behind they were read. No program is spoken of here.
-/
import Derived.Test.YtnjlhafhgfpfiaaGreatDoorRb04
import Derived.Test.YtnjlhafhgfpfiaaGreatDoorRb09
import Derived.Test.YtnjlhafhgfpfiaaGreatDoorRb11
import Derived.Deep.Upon
import Derived.Deep.QuietTactic
import Derived.Deep.AppendLies
import Derived.Deep.RegionHeld3
import Derived.Deep.DeepCutAuto
section
namespace Go.Proofs.YtnjlhafhgfpfiaaGreatDoor
open Go.ChangeShapes Go.WideShapes Go.ChangeAt Go.RowKit
/-- a rule -/
structure Ru where
  sort : Nat
  key : List UInt8
  want : List Hd.Pr
  all : Bool
def ruL (r : Ru) (A : Option Addr) (c : Nat) : List Value := [.int .u8 (r.sort : Int), .string (ofL r.key), .slice A r.want.length c, .bool r.all]
/-- what is wrong with its key -/
def kcode (r : Ru) : Nat := if r.sort = 0 then Wrd.keyCode [] r.key else Wrd.keyCode wild r.key
/-- a rule's numbers are such that they can be walked -/
structure RuOk (w : World) (r : Ru) (A : Option Addr) (c : Nat) : Prop where
  key : r.key.length ≤ 90000
  len : r.want.length ≤ 100000
  cap : r.want.length ≤ c
  lite : Lite r.want
  row : Prs w A r.want
theorem RuOk.on {w w' : World} {r : Ru} {A : Option Addr} {c : Nat} (h : RuOk w r A c) (hb : Below w.heap.size w w') : RuOk w' r A c := ⟨h.key, h.len, h.cap, h.lite, h.row.on hb⟩
theorem ruBox (r : Ru) (A : Option Addr) (c : Nat) (w : World) (t : TypeId) : Cels (w.alloc (.cells #[.int .u8 (r.sort : Int), .string (ofL r.key), .slice A r.want.length c, .bool r.all] t)) w.heap.size (ruL r A c) := Cels.new w _ t
end Go.Proofs.YtnjlhafhgfpfiaaGreatDoor
end
section
namespace Go.Proofs.YtnjlhafhgfpfiaaGreatDoor
open Go.ChangeShapes Go.WideShapes Go.ChangeAt Go.RowKit
/-- an append whose run is known, at a step of a region that draws its order -/
theorem step_append_run {P : Program} {ops : Array Oper} {o : Oper} {a : Act} {w : World} {K : Act → World → Prop} {Q : Exit → Act → World → Prop} {E : Prop} (hgd : o.guard = none) (s x : Operand) (t : TypeId)
    (ho : o.op = .call { callee := .builtin .append, args := #[s, x], argTypes := #[t, t] }) (v xv : Value) (hs : a.eval s = v) (hx : a.eval x = xv) {v' : Value} {w' : World}
    (hr : (Builtin.append_ #[t, t] o.type #[v, xv]).run P w = .ok v' w') (h : K (a.put o.dst v') w') : if Region.wanted o (yielded ops a.tmps) = true then Oper.wp P o a w K Q else E := by
  have hw : Region.wanted o (yielded ops a.tmps) = true := by simp [Region.wanted, hgd]
  rw [if_pos hw]
  unfold Oper.wp execOp
  simp only [ho, resolve, invoke, builtin, Sem.run_bind, Sem.run_pure, Result.andThen_ok, List.map_toArray, List.map_cons, List.map_nil, hs, hx, hr]
  exact h
theorem prs_one (l : List Hd.Pr) : ∀ u ∈ prs l, u.oneCell' = true := by
  intro u hu
  unfold prs at hu
  obtain ⟨f, _, hf⟩ := List.mem_flatMap.1 hu
  simp only [prL, List.mem_cons, List.not_mem_nil, or_false] at hf
  rcases hf with rfl | rfl | rfl | rfl <;> rfl
theorem addr_at1 (b off k : Nat) : (⟨b, off, none⟩ : Addr).add k = ⟨b, off + k, none⟩ := by
  unfold Addr.add
  split
  · rename_i h0
    have : k = 0 := by simpa using h0
    simp only [Addr.mk.injEq, true_and, and_true]; omega
  · rfl
theorem prs_cells {w : World} {b off : Nat} {l : List Hd.Pr} (h : Prs w (some ⟨b, off, none⟩) l) : ∀ j u, (prs l)[j]? = some u → w.cell? ((⟨b, off, none⟩ : Addr).add j) = some u := by
  intro j u hj
  have hlt : j < l.length * 4 := by
    have := (List.getElem?_eq_some_iff.1 hj).1
    rwa [prs_len] at this
  obtain ⟨b', off', e, _, hat⟩ := h.at_ (j / 4) (by omega)
  obtain ⟨rfl, rfl⟩ : b = b' ∧ off = off' := by simpa using e
  have hget := Rw.flat_get prL 4 (fun _ => rfl) (by omega) l (j / 4) (j % 4) (by omega) (by omega)
  rw [show j / 4 * 4 + j % 4 = j by omega] at hget
  have hj2 : (prL l[j / 4])[j % 4]? = some u := by rw [← hget]; exact hj
  rw [addr_at1]
  rw [Hd.pr_at (by omega)] at hat
  have hm : j % 4 = 0 ∨ j % 4 = 1 ∨ j % 4 = 2 ∨ j % 4 = 3 := by omega
  rcases hm with h0 | h0 | h0 | h0 <;> rw [h0] at hj2 <;> obtain rfl := Option.some.inj hj2
  · rw [show off + j = off + j / 4 * 4 by omega]; exact hat.c0
  · rw [show off + j = off + j / 4 * 4 + 1 by omega]; exact hat.c1
  · rw [show off + j = off + j / 4 * 4 + 2 by omega]; exact hat.c2
  · rw [show off + j = off + j / 4 * 4 + 3 by omega]; exact hat.c3
/-- a row appended to an empty one of one's own -/
theorem copy_run {W : World} {l : List Hd.Pr} {A : Option Addr} {c g : Nat} {B : Nat} (hl : l.length ≤ 100000) (hc : l.length ≤ c) (hp : Prs W A l)
    (hown : W.ownsRow B 86 4 (.slice (some ⟨g, 0, none⟩) 0 0) 0 []) (hB : B ≤ W.heap.size) :
    ∃ A' c' w', (Builtin.append_ #[26, 26] 26 #[.slice (some ⟨g, 0, none⟩) 0 0, .slice A l.length c]).run Tryz.prog W = .ok (.slice A' l.length c') w' ∧ w'.ownsRow B 86 4 (.slice A' l.length c') l.length (prs l) ∧ W.grownBy w' (some g) ∧ l.length ≤ c' ∧ (∀ a, A' = some a → a.block = g ∨ a.block = W.heap.size) := by
  obtain ⟨i1, hi1, hz0, hz1, hz2⟩ := info_parts infoPr
  cases hcase : l with
  | nil =>
    subst hcase
    have hsrc : Src Tryz.prog i1.size 26 (.slice A 0 c) 0 [] W := by
      cases A with
      | none => exact Src.ofNil W Tryz.underlying26 c
      | some a => exact Src.ofSlice W Tryz.underlying26 a 0 c [] (by simp) (fun j u h => by simp at h) (fun u h => by simp at h)
    refine ⟨some ⟨g, 0, none⟩, 0, W, run_append_nothing W 26 26 26 86 i1 Tryz.underlying26 hi1 (some ⟨g, 0, none⟩) 0 0 (Nat.le_refl _) (.slice A 0 c) hsrc, hown, World.grownBy.refl _ _, Nat.le_refl _, fun a ha => ?_⟩
    obtain rfl := Option.some.inj ha
    exact Or.inl rfl
  | cons x t =>
    rw [← hcase]
    have hpos : 0 < l.length := by rw [hcase]; simp
    obtain ⟨b, off, rfl, hbl, -⟩ := hp.at_ 0 hpos
    obtain ⟨gg, cap, w', hr, h2, h3, h4, h5⟩ := run_append_lies (P := Tryz.prog) W 26 26 B 86 i1 _ 4 48 Tryz.underlying26 hi1 hz0 hz1 hz2 rfl (by omega) (.slice (some ⟨g, 0, none⟩) 0 0) 0 [] hown ⟨b, off, none⟩ l.length c (prs l) (prs_len l) (prs_cells hp) (prs_one l) hpos (by unfold maxLen; omega) (by omega) hB W.heap.size rfl
    rw [Nat.zero_add, List.nil_append] at h2
    rw [Nat.zero_add] at hr
    obtain ⟨A2, c2, e2, hc2, -, -⟩ := rown_prs h2
    obtain ⟨-, -, rfl⟩ := Value.slice.inj e2
    refine ⟨some ⟨gg, 0, none⟩, cap, w', hr, h2, h3, hc2, fun a ha => ?_⟩
    obtain rfl := Option.some.inj ha
    rcases h4 with h4 | h4
    · left
      have : g = gg := by simpa [Value.ownBlock] using h4
      exact this.symm
    · exact Or.inr h4
/-- the boxes of To: the rule, the answer -/
structure ToC (w : World) (p q : Nat) (r : Ru) (A : Option Addr) (c : Nat) (W : World) : Prop where
  rp : Cels W p (ruL r A c)
  lp : p < W.heap.size
  rq : ∃ (s : Int) (k : ByteArray) (a : Option Addr) (n m : Nat) (b : Bool), W.cell? ⟨q, 0, none⟩ = some (.int .u8 s) ∧ W.cell? ⟨q, 1, none⟩ = some (.string k) ∧ W.cell? ⟨q, 2, none⟩ = some (.slice a n m) ∧ W.cell? ⟨q, 3, none⟩ = some (.bool b)
  sq : Soft W q
  lq : q < W.heap.size
  ne : q ≠ p
  gq : w.heap.size ≤ q
  B : Below w.heap.size w W
abbrev ToS (w : World) (p q : Nat) (r : Ru) (A : Option Addr) (c : Nat) (W : World) : Prop :=
  (W.cell? ⟨p, 0, none⟩ = some (.int .u8 (r.sort : Int)) ∧ W.cell? ⟨p, 1, none⟩ = some (.string (ofL r.key)) ∧ W.cell? ⟨p, 2, none⟩ = some (.slice A r.want.length c) ∧ W.cell? ⟨p, 3, none⟩ = some (.bool r.all) ∧ p < W.heap.size) ∧ ToC w p q r A c W
theorem ToC.s {w : World} {p q : Nat} {r : Ru} {A : Option Addr} {c : Nat} {W : World} (h : ToC w p q r A c W) : ToS w p q r A c W := ⟨⟨h.rp 0 _ rfl, h.rp 1 _ rfl, h.rp 2 _ rfl, h.rp 3 _ rfl, h.lp⟩, h⟩
theorem ToC.on {w : World} {p q : Nat} {r : Ru} {A : Option Addr} {c : Nat} {W W' : World} (h : ToC w p q r A c W) (hb : Below W.heap.size W W') : ToC w p q r A c W' := by
  obtain ⟨s, k, a, n, m, b, h0, h1, h2, h3⟩ := h.rq
  exact ⟨h.rp.on hb h.lp, Nat.lt_of_lt_of_le h.lp hb.size, ⟨s, k, a, n, m, b, (hb.cell (p := ⟨q, 0, none⟩) h.lq).trans h0, (hb.cell (p := ⟨q, 1, none⟩) h.lq).trans h1, (hb.cell (p := ⟨q, 2, none⟩) h.lq).trans h2, (hb.cell (p := ⟨q, 3, none⟩) h.lq).trans h3⟩, h.sq.on hb h.lq, Nat.lt_of_lt_of_le h.lq hb.size, h.ne, h.gq, bthen h.B hb (Nat.le_refl _)⟩
theorem ToS.on {w : World} {p q : Nat} {r : Ru} {A : Option Addr} {c : Nat} {W W' : World} (h : ToS w p q r A c W) (hb : Below W.heap.size W W') : ToS w p q r A c W' := (h.2.on hb).s
theorem ToC.grown {w : World} {p q : Nat} {r : Ru} {A : Option Addr} {c : Nat} {W W' : World} {g : Nat} (h : ToC w p q r A c W) (hg : W.grownBy W' (some g)) (hp : p ≠ g) (hq : q ≠ g) (hw : w.heap.size ≤ g) : ToC w p q r A c W' := by
  obtain ⟨s, k, a, n, m, b, h0, h1, h2, h3⟩ := h.rq
  have np : some p ≠ some g := fun e => hp (Option.some.inj e)
  have nq : some q ≠ some g := fun e => hq (Option.some.inj e)
  exact ⟨h.rp.grown hg np, Nat.lt_of_lt_of_le h.lp hg.size, ⟨s, k, a, n, m, b, hg.cell h0 nq, hg.cell h1 nq, hg.cell h2 nq, hg.cell h3 nq⟩, h.sq.grown hg h.lq nq, Nat.lt_of_lt_of_le h.lq hg.size, h.ne, h.gq, h.B.grown hg h.B.size (fun k hk => by cases hk; omega)⟩
theorem ToC.done {w : World} {p q : Nat} {r : Ru} {A : Option Addr} {c : Nat} {W : World} (h : ToC w p q r A c W) (s : Int) (k : ByteArray) (a : Option Addr) (n m : Nat) (b : Bool) :
    ∃ W', W' = (((W.setCell ⟨q, 0, none⟩ (.int .u8 s)).setCell ⟨q, 1, none⟩ (.string k)).setCell ⟨q, 2, none⟩ (.slice a n m)).setCell ⟨q, 3, none⟩ (.bool b) ∧ ToC w p q r A c W' ∧ W'.cell? ⟨q, 0, none⟩ = some (.int .u8 s) ∧ W'.cell? ⟨q, 1, none⟩ = some (.string k) ∧ W'.cell? ⟨q, 2, none⟩ = some (.slice a n m) ∧ W'.cell? ⟨q, 3, none⟩ = some (.bool b) := by
  obtain ⟨s0, k0, a0, n0, m0, b0, h0, h1, h2, h3⟩ := h.rq
  have hC : Cels W q [.int .u8 s0, .string k0, .slice a0 n0 m0, .bool b0] := fun j v hj => by
    match j, hj with
    | 0, hj => obtain rfl := Option.some.inj hj; exact h0
    | 1, hj => obtain rfl := Option.some.inj hj; exact h1
    | 2, hj => obtain rfl := Option.some.inj hj; exact h2
    | 3, hj => obtain rfl := Option.some.inj hj; exact h3
  have hD := (((hC.put 0 (.int .u8 s) (by simp)).put 1 (.string k) (by simp)).put 2 (.slice a n m) (by simp)).put 3 (.bool b) (by simp)
  exact ⟨_, rfl, ⟨(((h.rp.aside h.ne 0 _).aside h.ne 1 _).aside h.ne 2 _).aside h.ne 3 _, by simpa [World.setCell] using h.lp, ⟨s, k, a, n, m, b, hD 0 _ rfl, hD 1 _ rfl, hD 2 _ rfl, hD 3 _ rfl⟩, (((h.sq.put _ _).put _ _).put _ _).put _ _, by simpa [World.setCell] using h.lq, h.ne, h.gq, below_over h.B h.gq _ _ _ _⟩, hD 0 _ rfl, hD 1 _ rfl, hD 2 _ rfl, hD 3 _ rfl⟩
theorem ToC.start (w : World) (r : Ru) (A : Option Addr) (c : Nat) (t1 t2 : TypeId) :
    ToC w w.heap.size (w.heap.size + 1) r A c ((w.alloc (.cells #[.int .u8 (r.sort : Int), .string (ofL r.key), .slice A r.want.length c, .bool r.all] t1)).alloc (.cells #[.int .u8 0, .string ⟨#[]⟩, .slice none 0 0, .bool false] t2)) := by
  have e1 : (w.alloc (.cells #[.int .u8 (r.sort : Int), .string (ofL r.key), .slice A r.want.length c, .bool r.all] t1)).heap.size = w.heap.size + 1 := by simp
  have hb := (Below.refl (w.alloc (.cells #[.int .u8 (r.sort : Int), .string (ofL r.key), .slice A r.want.length c, .bool r.all] t1)).heap.size (w.alloc (.cells #[.int .u8 (r.sort : Int), .string (ofL r.key), .slice A r.want.length c, .bool r.all] t1))).alloc (Nat.le_refl _) (.cells #[.int .u8 0, .string ⟨#[]⟩, .slice none 0 0, .bool false] t2)
  refine ⟨(ruBox r A c w t1).on hb (by simp), by simp; omega, ⟨0, ⟨#[]⟩, none, 0, 0, false, ?_, ?_, ?_, ?_⟩, ?_, by simp, by omega, by omega, ((Below.refl _ _).alloc (Nat.le_refl _) _).alloc (by simp) _⟩
  · rw [← e1]; exact cell_new _ _ _ _ _ rfl
  · rw [← e1]; exact cell_new _ _ _ _ _ rfl
  · rw [← e1]; exact cell_new _ _ _ _ _ rfl
  · rw [← e1]; exact cell_new _ _ _ _ _ rfl
  · rw [← e1]; exact Soft.new _ _ _
end Go.Proofs.YtnjlhafhgfpfiaaGreatDoor
end
section
namespace Go.Proofs.YtnjlhafhgfpfiaaGreatDoor.Pt
/-- a yes or no that comes next -/
def yesOut (s : LSt) : Bool := Oct.val (lOut s.1 1) == 1
def yesIn (s : LSt) : LSt := if 1 < Oct.val (lOut s.1 1) then lFail (lRaw s 1) 4 else lRaw s 1
def yesEnc (b : Bool) : List UInt8 := if b then [1] else [0]
theorem lOk_yes {s : LSt} (h : lOk s) : lOk (yesIn s) := by
  unfold yesIn
  split
  · exact lOk_fail (lOk_raw h _) _
  · exact lOk_raw h _

/-! ### written, then read -/
theorem num_front {n : Nat} (hn : n < 18446744073709551616) (r : List UInt8) : Oct.val (lOut (Oct.be 8 n ++ r) 8) = n ∧ lRaw (Oct.be 8 n ++ r, 0) 8 = (r, 0) :=
  ⟨by rw [Hd.lOut_front _ _ 8 (Oct.length_be _ _), Hd.val_be_at 8 _ hn], Hd.lRaw_front _ _ _ 8 (Oct.length_be _ _)⟩
theorem yes_front (b : Bool) (r : List UInt8) : yesOut (yesEnc b ++ r, 0) = b ∧ yesIn (yesEnc b ++ r, 0) = (r, 0) := by
  cases b
  · have h1 : lOut (yesEnc false ++ r) 1 = [0] := Hd.lOut_front [0] r 1 rfl
    have h2 : lRaw (yesEnc false ++ r, 0) 1 = (r, 0) := Hd.lRaw_front [0] r 0 1 rfl
    unfold yesOut yesIn
    simp only
    rw [h1, h2]
    exact ⟨rfl, rfl⟩
  · have h1 : lOut (yesEnc true ++ r) 1 = [1] := Hd.lOut_front [1] r 1 rfl
    have h2 : lRaw (yesEnc true ++ r, 0) 1 = (r, 0) := Hd.lRaw_front [1] r 0 1 rfl
    unfold yesOut yesIn
    simp only
    rw [h1, h2]
    exact ⟨rfl, rfl⟩

/-! ### read, then written -/
theorem chain {s s1 s2 s3 : LSt} {a b c : List UInt8} (h1 : s = (a ++ s1.1, 0)) (h2 : s1 = (b ++ s2.1, 0)) (h3 : s2 = (c ++ s3.1, 0)) : s = (a ++ b ++ c ++ s3.1, 0) := by
  have e1 := congrArg Prod.fst h2
  have e2 := congrArg Prod.fst h3
  simp only at e1 e2
  rw [h1, e1, e2]
  simp [List.append_assoc]
end Go.Proofs.YtnjlhafhgfpfiaaGreatDoor.Pt
end
