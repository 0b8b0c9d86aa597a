/-
  A RULE's COPY, as the laws make it: walked.
-/
import Derived.Test.YtmojpcgcjhhbcaaDoorMtC
import Derived.Deep.AppendLies
import Derived.Deep.RegionHeld3
import Derived.Deep.DeepCutAuto
namespace Go.Proofs.YtmojpcgcjhhbcaaDoor
open Go.ChangeShapes Go.WideShapes Go.ChangeAt Go.RowKit

/-- an append whose run is known, at a step of a region that draws its order -/
theorem step_append_run {P : Program} {ops : Array Oper} {o : Oper} {a : Act} {w : World} {K : Act → World → Prop} {Q : Exit → Act → World → Prop} {E : Prop} (hgd : o.guard = none) (s x : Operand) (t : TypeId)
    (ho : o.op = .call { callee := .builtin .append, args := #[s, x], argTypes := #[t, t] }) (v xv : Value) (hs : a.eval s = v) (hx : a.eval x = xv) {v' : Value} {w' : World}
    (hr : (Builtin.append_ #[t, t] o.type #[v, xv]).run P w = .ok v' w') (h : K (a.put o.dst v') w') : if Region.wanted o (yielded ops a.tmps) = true then Oper.wp P o a w K Q else E := by
  have hw : Region.wanted o (yielded ops a.tmps) = true := by simp [Region.wanted, hgd]
  rw [if_pos hw]
  unfold Oper.wp execOp
  simp only [ho, resolve, invoke, builtin, Sem.run_bind, Sem.run_pure, Result.andThen_ok, List.map_toArray, List.map_cons, List.map_nil, hs, hx, hr]
  exact h
theorem prs_one (l : List Hd.Pr) : ∀ u ∈ prs l, u.oneCell' = true := by
  intro u hu
  unfold prs at hu
  obtain ⟨f, _, hf⟩ := List.mem_flatMap.1 hu
  simp only [prL, List.mem_cons, List.not_mem_nil, or_false] at hf
  rcases hf with rfl | rfl | rfl | rfl <;> rfl
theorem addr_at (b off k : Nat) : (⟨b, off, none⟩ : Addr).add k = ⟨b, off + k, none⟩ := by
  unfold Addr.add
  split
  · rename_i h0
    have : k = 0 := by simpa using h0
    simp only [Addr.mk.injEq, true_and, and_true]; omega
  · rfl
theorem prs_cells {w : World} {b off : Nat} {l : List Hd.Pr} (h : Prs w (some ⟨b, off, none⟩) l) : ∀ j u, (prs l)[j]? = some u → w.cell? ((⟨b, off, none⟩ : Addr).add j) = some u := by
  intro j u hj
  have hlt : j < l.length * 4 := by
    have := (List.getElem?_eq_some_iff.1 hj).1
    rwa [prs_len] at this
  obtain ⟨b', off', e, _, hat⟩ := h.at_ (j / 4) (by omega)
  obtain ⟨rfl, rfl⟩ : b = b' ∧ off = off' := by simpa using e
  have hget := Rw.flat_get prL 4 (fun _ => rfl) (by omega) l (j / 4) (j % 4) (by omega) (by omega)
  rw [show j / 4 * 4 + j % 4 = j by omega] at hget
  have hj2 : (prL l[j / 4])[j % 4]? = some u := by rw [← hget]; exact hj
  rw [addr_at]
  rw [Hd.pr_at (by omega)] at hat
  have hm : j % 4 = 0 ∨ j % 4 = 1 ∨ j % 4 = 2 ∨ j % 4 = 3 := by omega
  rcases hm with h0 | h0 | h0 | h0 <;> rw [h0] at hj2 <;> obtain rfl := Option.some.inj hj2
  · rw [show off + j = off + j / 4 * 4 by omega]; exact hat.c0
  · rw [show off + j = off + j / 4 * 4 + 1 by omega]; exact hat.c1
  · rw [show off + j = off + j / 4 * 4 + 2 by omega]; exact hat.c2
  · rw [show off + j = off + j / 4 * 4 + 3 by omega]; exact hat.c3
/-- a row appended to an empty one of one's own -/
theorem copy_run {W : World} {l : List Hd.Pr} {A : Option Addr} {c g : Nat} {B : Nat} (hl : l.length ≤ 100000) (hc : l.length ≤ c) (hp : Prs W A l)
    (hown : W.ownsRow B 31 4 (.slice (some ⟨g, 0, none⟩) 0 0) 0 []) (hB : B ≤ W.heap.size) :
    ∃ A' c' w', (Builtin.append_ #[22, 22] 22 #[.slice (some ⟨g, 0, none⟩) 0 0, .slice A l.length c]).run Tryd.prog W = .ok (.slice A' l.length c') w' ∧ w'.ownsRow B 31 4 (.slice A' l.length c') l.length (prs l) ∧ W.grownBy w' (some g) ∧ l.length ≤ c' ∧ (∀ a, A' = some a → a.block = g ∨ a.block = W.heap.size) := by
  obtain ⟨i1, hi1, hz0, hz1, hz2⟩ := info_parts infoPr
  cases hcase : l with
  | nil =>
    subst hcase
    have hsrc : Src Tryd.prog i1.size 22 (.slice A 0 c) 0 [] W := by
      cases A with
      | none => exact Src.ofNil W Tryd.underlying22 c
      | some a => exact Src.ofSlice W Tryd.underlying22 a 0 c [] (by simp) (fun j u h => by simp at h) (fun u h => by simp at h)
    refine ⟨some ⟨g, 0, none⟩, 0, W, run_append_nothing W 22 22 22 31 i1 Tryd.underlying22 hi1 (some ⟨g, 0, none⟩) 0 0 (Nat.le_refl _) (.slice A 0 c) hsrc, hown, World.grownBy.refl _ _, Nat.le_refl _, fun a ha => ?_⟩
    obtain rfl := Option.some.inj ha
    exact Or.inl rfl
  | cons x t =>
    rw [← hcase]
    have hpos : 0 < l.length := by rw [hcase]; simp
    obtain ⟨b, off, rfl, hbl, -⟩ := hp.at_ 0 hpos
    obtain ⟨gg, cap, w', hr, h2, h3, h4, h5⟩ := run_append_lies (P := Tryd.prog) W 22 22 B 31 i1 _ 4 48 Tryd.underlying22 hi1 hz0 hz1 hz2 rfl (by omega) (.slice (some ⟨g, 0, none⟩) 0 0) 0 [] hown ⟨b, off, none⟩ l.length c (prs l) (prs_len l) (prs_cells hp) (prs_one l) hpos (by unfold maxLen; omega) (by omega) hB W.heap.size rfl
    rw [Nat.zero_add, List.nil_append] at h2
    rw [Nat.zero_add] at hr
    obtain ⟨A2, c2, e2, hc2, -, -⟩ := rown_prs h2
    obtain ⟨-, -, rfl⟩ := Value.slice.inj e2
    refine ⟨some ⟨gg, 0, none⟩, cap, w', hr, h2, h3, hc2, fun a ha => ?_⟩
    obtain rfl := Option.some.inj ha
    rcases h4 with h4 | h4
    · left
      have : g = gg := by simpa [Value.ownBlock] using h4
      exact this.symm
    · exact Or.inr h4
/-- the boxes of To: the rule, the answer -/
structure ToC (w : World) (p q : Nat) (r : Ru) (A : Option Addr) (c : Nat) (W : World) : Prop where
  rp : Cels W p (ruL r A c)
  lp : p < W.heap.size
  rq : ∃ (s : Int) (k : ByteArray) (a : Option Addr) (n m : Nat) (b : Bool), W.cell? ⟨q, 0, none⟩ = some (.int .u8 s) ∧ W.cell? ⟨q, 1, none⟩ = some (.string k) ∧ W.cell? ⟨q, 2, none⟩ = some (.slice a n m) ∧ W.cell? ⟨q, 3, none⟩ = some (.bool b)
  sq : Soft W q
  lq : q < W.heap.size
  ne : q ≠ p
  gq : w.heap.size ≤ q
  B : Below w.heap.size w W
abbrev ToS (w : World) (p q : Nat) (r : Ru) (A : Option Addr) (c : Nat) (W : World) : Prop :=
  (W.cell? ⟨p, 0, none⟩ = some (.int .u8 (r.sort : Int)) ∧ W.cell? ⟨p, 1, none⟩ = some (.string (ofL r.key)) ∧ W.cell? ⟨p, 2, none⟩ = some (.slice A r.want.length c) ∧ W.cell? ⟨p, 3, none⟩ = some (.bool r.all) ∧ p < W.heap.size) ∧ ToC w p q r A c W
theorem ToC.s {w : World} {p q : Nat} {r : Ru} {A : Option Addr} {c : Nat} {W : World} (h : ToC w p q r A c W) : ToS w p q r A c W := ⟨⟨h.rp 0 _ rfl, h.rp 1 _ rfl, h.rp 2 _ rfl, h.rp 3 _ rfl, h.lp⟩, h⟩
theorem ToC.on {w : World} {p q : Nat} {r : Ru} {A : Option Addr} {c : Nat} {W W' : World} (h : ToC w p q r A c W) (hb : Below W.heap.size W W') : ToC w p q r A c W' := by
  obtain ⟨s, k, a, n, m, b, h0, h1, h2, h3⟩ := h.rq
  exact ⟨h.rp.on hb h.lp, Nat.lt_of_lt_of_le h.lp hb.size, ⟨s, k, a, n, m, b, (hb.cell (p := ⟨q, 0, none⟩) h.lq).trans h0, (hb.cell (p := ⟨q, 1, none⟩) h.lq).trans h1, (hb.cell (p := ⟨q, 2, none⟩) h.lq).trans h2, (hb.cell (p := ⟨q, 3, none⟩) h.lq).trans h3⟩, h.sq.on hb h.lq, Nat.lt_of_lt_of_le h.lq hb.size, h.ne, h.gq, bthen h.B hb (Nat.le_refl _)⟩
theorem ToS.on {w : World} {p q : Nat} {r : Ru} {A : Option Addr} {c : Nat} {W W' : World} (h : ToS w p q r A c W) (hb : Below W.heap.size W W') : ToS w p q r A c W' := (h.2.on hb).s
theorem ToC.grown {w : World} {p q : Nat} {r : Ru} {A : Option Addr} {c : Nat} {W W' : World} {g : Nat} (h : ToC w p q r A c W) (hg : W.grownBy W' (some g)) (hp : p ≠ g) (hq : q ≠ g) (hw : w.heap.size ≤ g) : ToC w p q r A c W' := by
  obtain ⟨s, k, a, n, m, b, h0, h1, h2, h3⟩ := h.rq
  have np : some p ≠ some g := fun e => hp (Option.some.inj e)
  have nq : some q ≠ some g := fun e => hq (Option.some.inj e)
  exact ⟨h.rp.grown hg np, Nat.lt_of_lt_of_le h.lp hg.size, ⟨s, k, a, n, m, b, hg.cell h0 nq, hg.cell h1 nq, hg.cell h2 nq, hg.cell h3 nq⟩, h.sq.grown hg h.lq nq, Nat.lt_of_lt_of_le h.lq hg.size, h.ne, h.gq, h.B.grown hg h.B.size (fun k hk => by cases hk; omega)⟩
theorem ToC.done {w : World} {p q : Nat} {r : Ru} {A : Option Addr} {c : Nat} {W : World} (h : ToC w p q r A c W) (s : Int) (k : ByteArray) (a : Option Addr) (n m : Nat) (b : Bool) :
    ∃ W', W' = (((W.setCell ⟨q, 0, none⟩ (.int .u8 s)).setCell ⟨q, 1, none⟩ (.string k)).setCell ⟨q, 2, none⟩ (.slice a n m)).setCell ⟨q, 3, none⟩ (.bool b) ∧ ToC w p q r A c W' ∧ W'.cell? ⟨q, 0, none⟩ = some (.int .u8 s) ∧ W'.cell? ⟨q, 1, none⟩ = some (.string k) ∧ W'.cell? ⟨q, 2, none⟩ = some (.slice a n m) ∧ W'.cell? ⟨q, 3, none⟩ = some (.bool b) := by
  obtain ⟨s0, k0, a0, n0, m0, b0, h0, h1, h2, h3⟩ := h.rq
  have hC : Cels W q [.int .u8 s0, .string k0, .slice a0 n0 m0, .bool b0] := fun j v hj => by
    match j, hj with
    | 0, hj => obtain rfl := Option.some.inj hj; exact h0
    | 1, hj => obtain rfl := Option.some.inj hj; exact h1
    | 2, hj => obtain rfl := Option.some.inj hj; exact h2
    | 3, hj => obtain rfl := Option.some.inj hj; exact h3
  have hD := (((hC.put 0 (.int .u8 s) (by simp)).put 1 (.string k) (by simp)).put 2 (.slice a n m) (by simp)).put 3 (.bool b) (by simp)
  exact ⟨_, rfl, ⟨(((h.rp.aside h.ne 0 _).aside h.ne 1 _).aside h.ne 2 _).aside h.ne 3 _, by simpa [World.setCell] using h.lp, ⟨s, k, a, n, m, b, hD 0 _ rfl, hD 1 _ rfl, hD 2 _ rfl, hD 3 _ rfl⟩, (((h.sq.put _ _).put _ _).put _ _).put _ _, by simpa [World.setCell] using h.lq, h.ne, h.gq, below_over h.B h.gq _ _ _ _⟩, hD 0 _ rfl, hD 1 _ rfl, hD 2 _ rfl, hD 3 _ rfl⟩
theorem only_set4 (W : World) (q : Nat) (v0 v1 v2 v3 : Value) : W.grownBy ((((W.setCell ⟨q, 0, none⟩ v0).setCell ⟨q, 1, none⟩ v1).setCell ⟨q, 2, none⟩ v2).setCell ⟨q, 3, none⟩ v3) (some q) :=
  only_setCell (only_setCell (only_setCell (only_setCell (World.grownBy.refl W (some q)) (p := ⟨q, 0, none⟩) rfl v0) (p := ⟨q, 1, none⟩) rfl v1) (p := ⟨q, 2, none⟩) rfl v2) (p := ⟨q, 3, none⟩) rfl v3
theorem ToC.start (w : World) (r : Ru) (A : Option Addr) (c : Nat) (t1 t2 : TypeId) :
    ToC w w.heap.size (w.heap.size + 1) r A c ((w.alloc (.cells #[.int .u8 (r.sort : Int), .string (ofL r.key), .slice A r.want.length c, .bool r.all] t1)).alloc (.cells #[.int .u8 0, .string ⟨#[]⟩, .slice none 0 0, .bool false] t2)) := by
  have e1 : (w.alloc (.cells #[.int .u8 (r.sort : Int), .string (ofL r.key), .slice A r.want.length c, .bool r.all] t1)).heap.size = w.heap.size + 1 := by simp
  have hb := (Below.refl (w.alloc (.cells #[.int .u8 (r.sort : Int), .string (ofL r.key), .slice A r.want.length c, .bool r.all] t1)).heap.size (w.alloc (.cells #[.int .u8 (r.sort : Int), .string (ofL r.key), .slice A r.want.length c, .bool r.all] t1))).alloc (Nat.le_refl _) (.cells #[.int .u8 0, .string ⟨#[]⟩, .slice none 0 0, .bool false] t2)
  refine ⟨(ruBox r A c w t1).on hb (by simp), by simp; omega, ⟨0, ⟨#[]⟩, none, 0, 0, false, ?_, ?_, ?_, ?_⟩, ?_, by simp, by omega, by omega, ((Below.refl _ _).alloc (Nat.le_refl _) _).alloc (by simp) _⟩
  · rw [← e1]; exact cell_new _ _ _ _ _ rfl
  · rw [← e1]; exact cell_new _ _ _ _ _ rfl
  · rw [← e1]; exact cell_new _ _ _ _ _ rfl
  · rw [← e1]; exact cell_new _ _ _ _ _ rfl
  · rw [← e1]; exact Soft.new _ _ _
/-- what To leaves -/
def ToPost (r : Ru) (w : World) (e : Ending) (w' : World) : Prop := ∃ A' c', e = .returned (ruV r A' c') ∧ r.want.length ≤ c' ∧ Prs w' A' r.want ∧ Below w.heap.size w w'
set_option maxRecDepth 100000 in
set_option maxHeartbeats 8000000 in
theorem to10_any (r : Ru) (A : Option Addr) (c : Nat) (w : World) (hl : r.want.length ≤ 100000) (hc : r.want.length ≤ c) (hp : Prs w A r.want) :
    Calls Tryd.prog 28 #[ruV r A c] w (ToPost r w) := by
  have HS := Lib.hid (ToC.start w r A c 48 51)
  have HP := Lib.hid hp
  clear hp
  simp only [ruV]
  go_enter Tryd.func28, Tryd.ntmps28
  go_upto_region 1 with fail
  generalize (w.alloc (.cells #[.int .u8 (r.sort : Int), .string (ofL r.key), .slice A r.want.length c, .bool r.all] 48)).alloc (.cells #[.int .u8 0, .string ⟨#[]⟩, .slice none 0 0, .bool false] 51) = w3 at *
  have HX := Lib.hid ((HS.out.on (Below.refl _ _).drew).s)
  have hs3 : w.heap.size ≤ w3.drew.heap.size := HX.out.2.B.size
  have hlq : w.heap.size + 1 < w3.drew.heap.size := HX.out.2.lq
  have hb4 := (Below.refl w3.drew.heap.size w3.drew).alloc (Nat.le_refl _) (.cells #[] 31)
  have hown4 : (w3.drew.alloc (.cells #[] 31)).ownsRow w3.drew.heap.size 31 4 (.slice (some ⟨w3.drew.heap.size, 0, none⟩) 0 0) 0 [] := World.ownsRow_made w3.drew #[] 0 (Nat.le_refl _) (by unfold maxLen; omega) rfl
  obtain ⟨A', c', w5, hrun, hown5, hgr5, hc5, hA5⟩ := copy_run (W := w3.drew.alloc (.cells #[] 31)) (l := r.want) (A := A) (c := c) hl hc ((HP.out.on HX.out.2.B).on hb4) hown4 (by simp)
  have HS5 := Lib.hid (((HX.out.2.on hb4).grown hgr5 (by omega) (by omega) (by omega)))
  have HRUN := Lib.hid hrun
  have HOWN := Lib.hid hown5
  have HNE := Lib.hid (show (Value.slice A' r.want.length c').ownBlock = none ∨ (Value.slice A' r.want.length c').ownBlock ≠ some (w.heap.size + 1) from Or.inr (fun e => by
    have := (hown5.lt _ e).1
    omega))
  obtain ⟨q0v, q1v, q2v, q3v, q4v, q5v, q0, q1, q2, q3⟩ := HS5.out.rq
  have qf : ∀ j, w5.frozen? ⟨w.heap.size + 1, j, none⟩ = false := HS5.out.sq
  have ql := HS5.out.lq
  clear HS hs3 hlq hb4 hown4 hrun hown5 hgr5 hc5 hA5 hl hc
  refine wp_region_noPanic ?_
  refine wp_region_held_drew (S := ToS w w.heap.size (w.heap.size + 1) r A c) (by kernel_rfl) ?_ (fun hHeld => ?_)
  · (try dsimp only); (first | assumption | exact HX.out | exact ToS.on (by assumption) ((Below.refl _ _).alloc (Nat.le_refl _) _) | exact HS5.out.s | (obtain ⟨W9, hW9, hT9, -⟩ := ToC.done HS5.out (r.sort : Int) (ofL r.key) A' r.want.length c' r.all; rw [← hW9]; exact hT9.s))
  refine wpAnyH_take (i := 0) (v := ?_) rfl (by kernel_rfl) (by kernel_rfl) (by kernel_rfl) (fun _ _ _ h => h) (Or.inl ⟨by rfl, ?_⟩) (by assumption) ?_
  rotate_left
  · intro w hSw; (try dsimp only at hSw); go_simp; try with_reducible rfl
  (try simp only [List.getElem_toArray, List.getElem_cons_zero, Act.put, List.setIfInBounds_toArray, List.set_cons_zero, List.set_cons_succ])
  refine wpAnyH_take (i := 1) (v := ?_) rfl (by kernel_rfl) (by kernel_rfl) (by kernel_rfl) (fun _ _ _ h => h) (Or.inl ⟨by rfl, ?_⟩) (by assumption) ?_
  rotate_left
  · intro w hSw; (try dsimp only at hSw); go_simp; try with_reducible rfl
  (try simp only [List.getElem_toArray, List.getElem_cons_succ, List.getElem_cons_zero, Act.put, List.setIfInBounds_toArray, List.set_cons_zero, List.set_cons_succ])
  refine wpAnyH_take (i := 2) (v := ?_) rfl (by kernel_rfl) (by kernel_rfl) (by kernel_rfl) (fun _ _ _ h => h) (Or.inl ⟨by rfl, ?_⟩) (by assumption) ?_
  rotate_left
  · intro w hSw; (try dsimp only at hSw); go_simp; try with_reducible rfl
  (try simp only [List.getElem_toArray, List.getElem_cons_succ, List.getElem_cons_zero, Act.put, List.setIfInBounds_toArray, List.set_cons_zero, List.set_cons_succ])
  refine wpAnyH_take (i := 3) (v := ?_) rfl (by kernel_rfl) (by kernel_rfl) (by kernel_rfl) (fun _ _ _ h => h) (Or.inl ⟨by rfl, ?_⟩) (by assumption) ?_
  rotate_left
  · intro w hSw; (try dsimp only at hSw); go_simp; try with_reducible rfl
  (try simp only [List.getElem_toArray, List.getElem_cons_succ, List.getElem_cons_zero, Act.put, List.setIfInBounds_toArray, List.set_cons_zero, List.set_cons_succ])
  refine wpAnyH_take (i := 5) (v := ?_) rfl (by kernel_rfl) (by kernel_rfl) (by kernel_rfl) (fun _ _ _ h => h) (Or.inl ⟨by rfl, ?_⟩) (by assumption) ?_
  rotate_left
  · intro w hSw; (try dsimp only at hSw); go_simp; try with_reducible rfl
  (try simp only [List.getElem_toArray, List.getElem_cons_succ, List.getElem_cons_zero, Act.put, List.setIfInBounds_toArray, List.set_cons_zero, List.set_cons_succ])
  refine wpAnyH_take (i := 6) (v := ?_) rfl (by kernel_rfl) (by kernel_rfl) (by kernel_rfl) (fun _ _ _ h => h) (Or.inl ⟨by rfl, ?_⟩) (by assumption) ?_
  rotate_left
  · intro w hSw; (try dsimp only at hSw); go_simp; try with_reducible rfl
  (try simp only [List.getElem_toArray, List.getElem_cons_succ, List.getElem_cons_zero, Act.put, List.setIfInBounds_toArray, List.set_cons_zero, List.set_cons_succ])
  refine wpAnyH_take (i := 8) (v := ?_) rfl (by kernel_rfl) (by kernel_rfl) (by kernel_rfl) (fun _ _ _ h => h) (Or.inl ⟨by rfl, ?_⟩) (by assumption) ?_
  rotate_left
  · intro w hSw; (try dsimp only at hSw); go_simp; try with_reducible rfl
  (try simp only [List.getElem_toArray, List.getElem_cons_succ, List.getElem_cons_zero, Act.put, List.setIfInBounds_toArray, List.set_cons_zero, List.set_cons_succ])
  refine wpAnyH_take (i := 9) (v := ?_) rfl (by kernel_rfl) (by kernel_rfl) (by kernel_rfl) (fun _ _ _ h => h) (Or.inl ⟨by rfl, ?_⟩) (by assumption) ?_
  rotate_left
  · intro w hSw; (try dsimp only at hSw); go_simp; try with_reducible rfl
  (try simp only [List.getElem_toArray, List.getElem_cons_succ, List.getElem_cons_zero, Act.put, List.setIfInBounds_toArray, List.set_cons_zero, List.set_cons_succ])
  refine wpAnyH_ready (rs := [4]) (by kernel_rfl) (by simp) ?_
  refine AllReadyH.cons rfl (fun K hK => ?_) (AllReadyH.nil)
  · go_simp
    refine hK.out _ _ ?_ (fun hHeld => ?_)
    · (try dsimp only); (first | assumption | exact HX.out | exact ToS.on (by assumption) ((Below.refl _ _).alloc (Nat.le_refl _) _) | exact HS5.out.s | (obtain ⟨W9, hW9, hT9, -⟩ := ToC.done HS5.out (r.sort : Int) (ofL r.key) A' r.want.length c' r.all; rw [← hW9]; exact hT9.s))
    clear hK K
    (try simp only [List.getElem_toArray, List.getElem_cons_succ, List.getElem_cons_zero, Act.put, List.setIfInBounds_toArray, List.set_cons_zero, List.set_cons_succ])
    refine wpAnyH_ready (rs := [7]) (by kernel_rfl) (by simp) ?_
    refine AllReadyH.cons rfl (fun K hK => ?_) (AllReadyH.nil)
    · skip
      (refine step_append_run (by rfl) _ _ 22 (by rfl) _ _ (by rfl) (by rfl) HRUN.out ?_)
      refine hK.out _ _ ?_ (fun hHeld => ?_)
      · (try dsimp only); (first | assumption | exact HX.out | exact ToS.on (by assumption) ((Below.refl _ _).alloc (Nat.le_refl _) _) | exact HS5.out.s | (obtain ⟨W9, hW9, hT9, -⟩ := ToC.done HS5.out (r.sort : Int) (ofL r.key) A' r.want.length c' r.all; rw [← hW9]; exact hT9.s))
      clear hK K
      (try simp only [List.getElem_toArray, List.getElem_cons_succ, List.getElem_cons_zero, Act.put, List.setIfInBounds_toArray, List.set_cons_zero, List.set_cons_succ])
      refine wpAnyH_take (i := 10) (v := ?_) rfl (by kernel_rfl) (by kernel_rfl) (by kernel_rfl) (fun _ _ _ h => h) (Or.inl ⟨by rfl, ?_⟩) (by assumption) ?_
      rotate_left
      · intro w hSw; (try dsimp only at hSw); go_simp; try with_reducible rfl
      (try simp only [List.getElem_toArray, List.getElem_cons_succ, List.getElem_cons_zero, Act.put, List.setIfInBounds_toArray, List.set_cons_zero, List.set_cons_succ])
      refine wpAnyH_ready (rs := [11]) (by kernel_rfl) (by simp) ?_
      refine AllReadyH.cons rfl (fun K hK => ?_) (AllReadyH.nil)
      · go_simp
        refine hK.out _ _ ?_ (fun hHeld => ?_)
        · (try dsimp only); (first | assumption | exact HX.out | exact ToS.on (by assumption) ((Below.refl _ _).alloc (Nat.le_refl _) _) | exact HS5.out.s | (obtain ⟨W9, hW9, hT9, -⟩ := ToC.done HS5.out (r.sort : Int) (ofL r.key) A' r.want.length c' r.all; rw [← hW9]; exact hT9.s))
        clear hK K
        (try simp only [List.getElem_toArray, List.getElem_cons_succ, List.getElem_cons_zero, Act.put, List.setIfInBounds_toArray, List.set_cons_zero, List.set_cons_succ])
        refine wpAnyH_done (by kernel_rfl) ?_ _
        refine NoPanic.normal ?_
        obtain ⟨W9, hW9, hD, d0, d1, d2, d3⟩ := ToC.done HS5.out (r.sort : Int) (ofL r.key) A' r.want.length c' r.all
        have HD := Lib.hid hD
        have hO := HOWN.out.kept (only_set4 w5 (w.heap.size + 1) (.int .u8 (r.sort : Int)) (.string (ofL r.key)) (.slice A' r.want.length c') (.bool r.all)) HNE.out
        rw [← hW9] at hO ⊢
        have HO := Lib.hid hO
        clear hHeld q0 q1 q2 q3 qf ql hD hO
        go_wp2_with fail
        refine bodyPost_ret (v := .agg #[.int .u8 (r.sort : Int), .string (ofL r.key), .slice A' r.want.length c', .bool r.all]) (by simp [results, Tryd.results28, go_sem, d0, d1, d2, d3]) rfl ?_
        obtain ⟨A2, c2, e2, hc2, -, hP2⟩ := rown_prs HO.out
        obtain ⟨rfl, -, rfl⟩ := Value.slice.inj e2
        exact ⟨A', c', rfl, hc2, hP2, HD.out.B⟩
end Go.Proofs.YtmojpcgcjhhbcaaDoor
