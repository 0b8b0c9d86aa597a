/-
 A part of the proof.
-/
import Derived.Test.YtaikigponkjkgaaGreatDoorXr10
import Derived.Deep.AppendLies
import Derived.Deep.RegionHeld3
import Derived.Deep.DeepCutAuto
section
namespace Go.Proofs.YtaikigponkjkgaaGreatDoor
open Go.ChangeShapes Go.WideShapes Go.ChangeAt Go.RowKit
open Go.Lib (hid)
theorem qxr12a (l : List Value) (i : Nat) (v : Value) : l.toArray.setIfInBounds i v = (l.set i v).toArray := by simp
theorem qxr12b (v u : Value) (l : List Value) : (v :: l).set 0 u = u :: l := rfl
theorem qxr12c (v u : Value) (n : Nat) (l : List Value) : (v :: l).set (n + 1) u = v :: l.set n u := rfl
theorem step_append_run {P : Program} {ops : Array Oper} {o : Oper} {a : Act} {w : World} {K : Act → World → Prop} {Q : Exit → Act → World → Prop} {E : Prop} (hgd : o.guard = none) (s x : Operand) (t : TypeId)
  (ho : o.op = .call { callee := .builtin .append, args := #[s, x], argTypes := #[t, t] }) (v xv : Value) (hs : a.eval s = v) (hx : a.eval x = xv) {v' : Value} {w' : World}
  (hr : (Builtin.append_ #[t, t] o.type #[v, xv]).run P w = .ok v' w') (h : K (a.put o.dst v') w') : if Region.wanted o (yielded ops a.tmps) = true then Oper.wp P o a w K Q else E := by
 have hw : Region.wanted o (yielded ops a.tmps) = true := by simp [Region.wanted, hgd]
 rw [if_pos hw]
 unfold Oper.wp execOp
 simp only [ho, resolve, invoke, builtin, Sem.run_bind, Sem.run_pure, Result.andThen_ok, List.map_toArray, List.map_cons, List.map_nil, hs, hx, hr]
 exact h
theorem prs_one (l : List Hd.Pr) : ∀ u ∈ prs l, u.oneCell' = true := by
 intro u hu
 unfold prs at hu
 obtain ⟨f, _, hf⟩ := List.mem_flatMap.1 hu
 simp only [prL, List.mem_cons, List.not_mem_nil, or_false] at hf
 rcases hf with rfl | rfl | rfl | rfl <;> rfl
theorem addr_at1 (b off k : Nat) : (⟨b, off, none⟩ : Addr).add k = ⟨b, off + k, none⟩ := by
 unfold Addr.add
 split
 ·rename_i h0
  have : k = 0 := by simpa using h0
  simp only [Addr.mk.injEq, true_and, and_true]; omega
 ·rfl
theorem prs_cells {w : World} {b off : Nat} {l : List Hd.Pr} (h : Prs w (some ⟨b, off, none⟩) l) : ∀ j u, (prs l)[j]? = some u → w.cell? ((⟨b, off, none⟩ : Addr).add j) = some u := by
 intro j u hj
 have hlt : j < l.length * 4 := by
  have := (List.getElem?_eq_some_iff.1 hj).1
  rwa [prs_len] at this
 obtain ⟨b', off', e, _, hat⟩ := h.at_ (j / 4) (by omega)
 obtain ⟨rfl, rfl⟩ : b = b' ∧ off = off' := by simpa using e
 have hget := Rw.flat_get prL 4 (fun _ => rfl) (by omega) l (j / 4) (j % 4) (by omega) (by omega)
 rw [show j / 4 * 4 + j % 4 = j by omega] at hget
 have hj2 : (prL l[j / 4])[j % 4]? = some u := by rw [← hget]; exact hj
 rw [addr_at1]
 rw [Hd.pr_at (by omega)] at hat
 have hm : j % 4 = 0 ∨ j % 4 = 1 ∨ j % 4 = 2 ∨ j % 4 = 3 := by omega
 rcases hm with h0 | h0 | h0 | h0 <;> rw [h0] at hj2 <;> obtain rfl := Option.some.inj hj2
 ·rw [show off + j = off + j / 4 * 4 by omega]; exact hat.c0
 ·rw [show off + j = off + j / 4 * 4 + 1 by omega]; exact hat.c1
 ·rw [show off + j = off + j / 4 * 4 + 2 by omega]; exact hat.c2
 ·rw [show off + j = off + j / 4 * 4 + 3 by omega]; exact hat.c3
theorem copy_run {W : World} {l : List Hd.Pr} {A : Option Addr} {c g : Nat} {B : Nat} (hl : l.length ≤ 100000) (hc : l.length ≤ c) (hp : Prs W A l)
  (hown : W.ownsRow B 142 4 (.slice (some ⟨g, 0, none⟩) 0 0) 0 []) (hB : B ≤ W.heap.size) :
  ∃ A' c' w', (Builtin.append_ #[46, 46] 46 #[.slice (some ⟨g, 0, none⟩) 0 0, .slice A l.length c]).run Tryz.prog W = .ok (.slice A' l.length c') w' ∧ w'.ownsRow B 142 4 (.slice A' l.length c') l.length (prs l) ∧ W.grownBy w' (some g) ∧ l.length ≤ c' ∧ (∀ a, A' = some a → a.block = g ∨ a.block = W.heap.size) := by
 obtain ⟨i1, hi1, hz0, hz1, hz2⟩ := info_parts infoPr
 cases hcase : l with
 | nil =>
  subst hcase
  have hsrc : Src Tryz.prog i1.size 46 (.slice A 0 c) 0 [] W := by
   cases A with
   | none => exact Src.ofNil W Tryz.underlying46 c
   | some a => exact Src.ofSlice W Tryz.underlying46 a 0 c [] (by simp) (fun j u h => by simp at h) (fun u h => by simp at h)
  refine ⟨some ⟨g, 0, none⟩, 0, W, run_append_nothing W 46 46 46 142 i1 Tryz.underlying46 hi1 (some ⟨g, 0, none⟩) 0 0 (Nat.le_refl _) (.slice A 0 c) hsrc, hown, World.grownBy.refl _ _, Nat.le_refl _, fun a ha => ?_⟩
  obtain rfl := Option.some.inj ha
  exact Or.inl rfl
 | cons x t =>
  rw [← hcase]
  have hpos : 0 < l.length := by rw [hcase]; simp
  obtain ⟨b, off, rfl, hbl, -⟩ := hp.at_ 0 hpos
  obtain ⟨gg, cap, w', hr, h2, h3, h4, h5⟩ := run_append_lies (P := Tryz.prog) W 46 46 B 142 i1 _ 4 48 Tryz.underlying46 hi1 hz0 hz1 hz2 rfl (by omega) (.slice (some ⟨g, 0, none⟩) 0 0) 0 [] hown ⟨b, off, none⟩ l.length c (prs l) (prs_len l) (prs_cells hp) (prs_one l) hpos (by unfold maxLen; omega) (by omega) hB W.heap.size rfl
  rw [Nat.zero_add, List.nil_append] at h2
  rw [Nat.zero_add] at hr
  obtain ⟨A2, c2, e2, hc2, -, -⟩ := rown_prs h2
  obtain ⟨-, -, rfl⟩ := Value.slice.inj e2
  refine ⟨some ⟨gg, 0, none⟩, cap, w', hr, h2, h3, hc2, fun a ha => ?_⟩
  obtain rfl := Option.some.inj ha
  rcases h4 with h4 | h4
  ·left
   have : g = gg := by simpa [Value.ownBlock] using h4
   exact this.symm
  ·exact Or.inr h4
structure ToC (w : World) (p q : Nat) (r : Ru) (A : Option Addr) (c : Nat) (W : World) : Prop where
 rp : Cels W p (ruL r A c)
 lp : p < W.heap.size
 rq : ∃ (s : Int) (k : ByteArray) (a : Option Addr) (n m : Nat) (b : Bool), W.cell? ⟨q, 0, none⟩ = some (.int .u8 s) ∧ W.cell? ⟨q, 1, none⟩ = some (.string k) ∧ W.cell? ⟨q, 2, none⟩ = some (.slice a n m) ∧ W.cell? ⟨q, 3, none⟩ = some (.bool b)
 sq : Soft W q
 lq : q < W.heap.size
 ne : q ≠ p
 gq : w.heap.size ≤ q
 B : Below w.heap.size w W
abbrev ToS (w : World) (p q : Nat) (r : Ru) (A : Option Addr) (c : Nat) (W : World) : Prop :=
 (W.cell? ⟨p, 0, none⟩ = some (.int .u8 (r.sort : Int)) ∧ W.cell? ⟨p, 1, none⟩ = some (.string (ofL r.key)) ∧ W.cell? ⟨p, 2, none⟩ = some (.slice A r.want.length c) ∧ W.cell? ⟨p, 3, none⟩ = some (.bool r.all) ∧ p < W.heap.size) ∧ ToC w p q r A c W
theorem ToC.s {w : World} {p q : Nat} {r : Ru} {A : Option Addr} {c : Nat} {W : World} (h : ToC w p q r A c W) : ToS w p q r A c W := ⟨⟨h.rp 0 _ rfl, h.rp 1 _ rfl, h.rp 2 _ rfl, h.rp 3 _ rfl, h.lp⟩, h⟩
theorem ToC.on {w : World} {p q : Nat} {r : Ru} {A : Option Addr} {c : Nat} {W W' : World} (h : ToC w p q r A c W) (hb : Below W.heap.size W W') : ToC w p q r A c W' := by
 obtain ⟨s, k, a, n, m, b, h0, h1, h2, h3⟩ := h.rq
 exact ⟨h.rp.on hb h.lp, Nat.lt_of_lt_of_le h.lp hb.size, ⟨s, k, a, n, m, b, (hb.cell (p := ⟨q, 0, none⟩) h.lq).trans h0, (hb.cell (p := ⟨q, 1, none⟩) h.lq).trans h1, (hb.cell (p := ⟨q, 2, none⟩) h.lq).trans h2, (hb.cell (p := ⟨q, 3, none⟩) h.lq).trans h3⟩, h.sq.on hb h.lq, Nat.lt_of_lt_of_le h.lq hb.size, h.ne, h.gq, bthen h.B hb (Nat.le_refl _)⟩
theorem ToS.on {w : World} {p q : Nat} {r : Ru} {A : Option Addr} {c : Nat} {W W' : World} (h : ToS w p q r A c W) (hb : Below W.heap.size W W') : ToS w p q r A c W' := (h.2.on hb).s
theorem ToC.grown {w : World} {p q : Nat} {r : Ru} {A : Option Addr} {c : Nat} {W W' : World} {g : Nat} (h : ToC w p q r A c W) (hg : W.grownBy W' (some g)) (hp : p ≠ g) (hq : q ≠ g) (hw : w.heap.size ≤ g) : ToC w p q r A c W' := by
 obtain ⟨s, k, a, n, m, b, h0, h1, h2, h3⟩ := h.rq
 have np : some p ≠ some g := fun e => hp (Option.some.inj e)
 have nq : some q ≠ some g := fun e => hq (Option.some.inj e)
 exact ⟨h.rp.grown hg np, Nat.lt_of_lt_of_le h.lp hg.size, ⟨s, k, a, n, m, b, hg.cell h0 nq, hg.cell h1 nq, hg.cell h2 nq, hg.cell h3 nq⟩, h.sq.grown hg h.lq nq, Nat.lt_of_lt_of_le h.lq hg.size, h.ne, h.gq, h.B.grown hg h.B.size (fun k hk => by cases hk; omega)⟩
theorem ToC.done {w : World} {p q : Nat} {r : Ru} {A : Option Addr} {c : Nat} {W : World} (h : ToC w p q r A c W) (s : Int) (k : ByteArray) (a : Option Addr) (n m : Nat) (b : Bool) :
  ∃ W', W' = (((W.setCell ⟨q, 0, none⟩ (.int .u8 s)).setCell ⟨q, 1, none⟩ (.string k)).setCell ⟨q, 2, none⟩ (.slice a n m)).setCell ⟨q, 3, none⟩ (.bool b) ∧ ToC w p q r A c W' ∧ W'.cell? ⟨q, 0, none⟩ = some (.int .u8 s) ∧ W'.cell? ⟨q, 1, none⟩ = some (.string k) ∧ W'.cell? ⟨q, 2, none⟩ = some (.slice a n m) ∧ W'.cell? ⟨q, 3, none⟩ = some (.bool b) := by
 obtain ⟨s0, k0, a0, n0, m0, b0, h0, h1, h2, h3⟩ := h.rq
 have hC : Cels W q [.int .u8 s0, .string k0, .slice a0 n0 m0, .bool b0] := fun j v hj => by
  match j, hj with
  | 0, hj => obtain rfl := Option.some.inj hj; exact h0
  | 1, hj => obtain rfl := Option.some.inj hj; exact h1
  | 2, hj => obtain rfl := Option.some.inj hj; exact h2
  | 3, hj => obtain rfl := Option.some.inj hj; exact h3
 have hD := (((hC.put 0 (.int .u8 s) (by simp)).put 1 (.string k) (by simp)).put 2 (.slice a n m) (by simp)).put 3 (.bool b) (by simp)
 exact ⟨_, rfl, ⟨(((h.rp.aside h.ne 0 _).aside h.ne 1 _).aside h.ne 2 _).aside h.ne 3 _, by simpa [World.setCell] using h.lp, ⟨s, k, a, n, m, b, hD 0 _ rfl, hD 1 _ rfl, hD 2 _ rfl, hD 3 _ rfl⟩, (((h.sq.put _ _).put _ _).put _ _).put _ _, by simpa [World.setCell] using h.lq, h.ne, h.gq, below_over h.B h.gq _ _ _ _⟩, hD 0 _ rfl, hD 1 _ rfl, hD 2 _ rfl, hD 3 _ rfl⟩
theorem ToC.start (w : World) (r : Ru) (A : Option Addr) (c : Nat) (t1 t2 : TypeId) :
  ToC w w.heap.size (w.heap.size + 1) r A c ((w.alloc (.cells #[.int .u8 (r.sort : Int), .string (ofL r.key), .slice A r.want.length c, .bool r.all] t1)).alloc (.cells #[.int .u8 0, .string ⟨#[]⟩, .slice none 0 0, .bool false] t2)) := by
 have e1 : (w.alloc (.cells #[.int .u8 (r.sort : Int), .string (ofL r.key), .slice A r.want.length c, .bool r.all] t1)).heap.size = w.heap.size + 1 := by simp
 have hb := (Below.refl (w.alloc (.cells #[.int .u8 (r.sort : Int), .string (ofL r.key), .slice A r.want.length c, .bool r.all] t1)).heap.size (w.alloc (.cells #[.int .u8 (r.sort : Int), .string (ofL r.key), .slice A r.want.length c, .bool r.all] t1))).alloc (Nat.le_refl _) (.cells #[.int .u8 0, .string ⟨#[]⟩, .slice none 0 0, .bool false] t2)
 refine ⟨(ruBox r A c w t1).on hb (by simp), by simp; omega, ⟨0, ⟨#[]⟩, none, 0, 0, false, ?_, ?_, ?_, ?_⟩, ?_, by simp, by omega, by omega, ((Below.refl _ _).alloc (Nat.le_refl _) _).alloc (by simp) _⟩
 ·rw [← e1]; exact cell_new _ _ _ _ _ rfl
 ·rw [← e1]; exact cell_new _ _ _ _ _ rfl
 ·rw [← e1]; exact cell_new _ _ _ _ _ rfl
 ·rw [← e1]; exact cell_new _ _ _ _ _ rfl
 ·rw [← e1]; exact Soft.new _ _ _
def Parts (w : World) (A : Option Addr) (l : List Nat) : Prop := l = [] ∨ ∃ b, A = some ⟨b, 0, none⟩ ∧ b < w.heap.size ∧ Cels w b (l.map fun (p : Nat) => Value.int .i64 (p : Int))
theorem Parts.on {w w' : World} {A : Option Addr} {l : List Nat} (h : Parts w A l) (hb : Below w.heap.size w w') : Parts w' A l := by
 rcases h with h | ⟨b, e, hl, hc⟩
 ·exact Or.inl h
 ·exact Or.inr ⟨b, e, Nat.lt_of_lt_of_le hl hb.size, hc.on hb hl⟩
theorem Parts.at_ {w : World} {A : Option Addr} {l : List Nat} (h : Parts w A l) {k : Nat} (hk : k < l.length) : ∃ b, A = some ⟨b, 0, none⟩ ∧ b < w.heap.size ∧ w.cell? ⟨b, k, none⟩ = some (.int .i64 ((l.getD k 0 : Nat) : Int)) := by
 rcases h with rfl | ⟨b, e, hl, hc⟩
 ·simp at hk
 ·refine ⟨b, e, hl, ?_⟩
  refine hc k _ ?_
  rw [List.getElem?_map, List.getElem?_eq_getElem hk]
  simp [List.getD_eq_getElem?_getD, List.getElem?_eq_getElem hk]
theorem Parts.aside {w : World} {A : Option Addr} {l : List Nat} (h : Parts w A l) {g : Nat} (hne : ∀ a, A = some a → g ≠ a.block) (j : Nat) (v : Value) : Parts (w.setCell ⟨g, j, none⟩ v) A l := by
 rcases h with h | ⟨b, e, hl, hc⟩
 ·exact Or.inl h
 ·exact Or.inr ⟨b, e, by simpa [World.setCell] using hl, hc.aside (hne _ e) j v⟩
theorem Parts.grown {w w' : World} {A : Option Addr} {l : List Nat} {row : Option Nat} (h : Parts w A l) (hg : w.grownBy w' row) (hne : ∀ a, A = some a → some a.block ≠ row) : Parts w' A l := by
 rcases h with h | ⟨b, e, hl, hc⟩
 ·exact Or.inl h
 ·exact Or.inr ⟨b, e, Nat.lt_of_lt_of_le hl hg.size, hc.grown hg (hne _ e)⟩
structure WrC (w : World) (a b c : Nat) (k : List UInt8) (kd : Nat) (n : Int) (t : List UInt8) (W : World) : Prop where
 o : ∃ (s : ByteArray) (e : Int), W.cell? ⟨a, 0, none⟩ = some (.string s) ∧ W.cell? ⟨a, 1, none⟩ = some (.int .i64 e)
 so : ∀ j, W.frozen? ⟨a, j, none⟩ = false
 p : PrAt W b 0 ⟨k, kd, n, t⟩
 r0 : W.cell? ⟨c, 0, none⟩ = some (.string ⟨#[]⟩)
 r1 : W.cell? ⟨c, 1, none⟩ = some (.int .i64 0)
 sr : ∀ j, W.frozen? ⟨c, j, none⟩ = false
 la : a < W.heap.size
 lb : b < W.heap.size
 lc : c < W.heap.size
 ab : a ≠ b
 ac : a ≠ c
 bc : b ≠ c
 ge : w.heap.size ≤ a
 gc : w.heap.size ≤ c
 B : Below w.heap.size w W
theorem WrC.on {w : World} {a b c : Nat} {k : List UInt8} {kd : Nat} {n : Int} {t : List UInt8} {W W' : World} (h : WrC w a b c k kd n t W) (hb : Below W.heap.size W W') : WrC w a b c k kd n t W' := by
 obtain ⟨s, e, h0, h1⟩ := h.o
 exact ⟨⟨s, e, (hb.cell (p := ⟨a, 0, none⟩) h.la).trans h0, (hb.cell (p := ⟨a, 1, none⟩) h.la).trans h1⟩, fun j => (hb.frozen (p := ⟨a, j, none⟩) h.la).trans (h.so j), h.p.below hb h.lb,
  (hb.cell (p := ⟨c, 0, none⟩) h.lc).trans h.r0, (hb.cell (p := ⟨c, 1, none⟩) h.lc).trans h.r1, fun j => (hb.frozen (p := ⟨c, j, none⟩) h.lc).trans (h.sr j),
  Nat.lt_of_lt_of_le h.la hb.size, Nat.lt_of_lt_of_le h.lb hb.size, Nat.lt_of_lt_of_le h.lc hb.size, h.ab, h.ac, h.bc, h.ge, h.gc, bthen h.B hb (Nat.le_refl _)⟩
abbrev WrS (w : World) (a b c : Nat) (k : List UInt8) (kd : Nat) (n : Int) (t : List UInt8) (W : World) : Prop :=
 (W.cell? ⟨b, 0, none⟩ = some (.string (ofL k)) ∧ W.cell? ⟨b, 1, none⟩ = some (.int .u8 (kd : Int)) ∧ b < W.heap.size) ∧ WrC w a b c k kd n t W
theorem WrC.s {w : World} {a b c : Nat} {k : List UInt8} {kd : Nat} {n : Int} {t : List UInt8} {W : World} (h : WrC w a b c k kd n t W) : WrS w a b c k kd n t W := ⟨⟨h.p.c0, h.p.c1, h.lb⟩, h⟩
theorem WrS.on {w : World} {a b c : Nat} {k : List UInt8} {kd : Nat} {n : Int} {t : List UInt8} {W W' : World} (h : WrS w a b c k kd n t W) (hb : Below W.heap.size W W') : WrS w a b c k kd n t W' := (h.2.on hb).s
theorem ne_blk9 {a b : Nat} (h : a ≠ b) (i j : Nat) : (⟨a, i, none⟩ : Addr) ≠ ⟨b, j, none⟩ := by simp only [ne_eq, Addr.mk.injEq, not_and]; omega
theorem WrC.done {w : World} {a b c : Nat} {k : List UInt8} {kd : Nat} {n : Int} {t : List UInt8} {W : World} (h : WrC w a b c k kd n t W) (s : ByteArray) :
  WrC w a b c k kd n t ((W.setCell ⟨a, 0, none⟩ (.string s)).setCell ⟨a, 1, none⟩ (.int .i64 0)) ∧ ((W.setCell ⟨a, 0, none⟩ (.string s)).setCell ⟨a, 1, none⟩ (.int .i64 0)).cell? ⟨a, 0, none⟩ = some (.string s) ∧ ((W.setCell ⟨a, 0, none⟩ (.string s)).setCell ⟨a, 1, none⟩ (.int .i64 0)).cell? ⟨a, 1, none⟩ = some (.int .i64 0) := by
 obtain ⟨s0, e0, h0, h1⟩ := h.o
 have hC : Cels W a [.string s0, .int .i64 e0] := fun j v hj => by
  match j, hj with
  | 0, hj => obtain rfl := Option.some.inj hj; exact h0
  | 1, hj => obtain rfl := Option.some.inj hj; exact h1
 have hD := (hC.put 0 (.string s) (by simp)).put 1 (.int .i64 0) (by simp)
 have f0 := hD 0 _ rfl
 have f1 := hD 1 _ rfl
 have x : ∀ (g i : Nat), a ≠ g → ((W.setCell ⟨a, 0, none⟩ (.string s)).setCell ⟨a, 1, none⟩ (.int .i64 0)).cell? ⟨g, i, none⟩ = W.cell? ⟨g, i, none⟩ := fun g i hg =>
  (World.cell?_setCell_other _ _ _ _ (ne_blk9 hg _ _)).trans (World.cell?_setCell_other _ _ _ _ (ne_blk9 hg _ _))
 exact ⟨⟨⟨s, 0, f0, f1⟩, fun j => ((Soft.put (Soft.put h.so _ _) _ _) j), ⟨(x b 0 h.ab).trans h.p.c0, (x b 1 h.ab).trans h.p.c1, (x b 2 h.ab).trans h.p.c2, (x b 3 h.ab).trans h.p.c3⟩,
  (x c 0 h.ac).trans h.r0, (x c 1 h.ac).trans h.r1, fun j => ((Soft.put (Soft.put h.sr _ _) _ _) j), by simpa [World.setCell] using h.la, by simpa [World.setCell] using h.lb, by simpa [World.setCell] using h.lc, h.ab, h.ac, h.bc, h.ge, h.gc, (h.B.setCell h.ge _).setCell h.ge _⟩, f0, f1⟩
theorem WrC.last {w : World} {a b c : Nat} {k : List UInt8} {kd : Nat} {n : Int} {t : List UInt8} {W : World} (h : WrC w a b c k kd n t W) (s : ByteArray) :
  ((W.setCell ⟨c, 0, none⟩ (.string s)).setCell ⟨c, 1, none⟩ (.int .i64 0)).cell? ⟨c, 0, none⟩ = some (.string s) ∧ ((W.setCell ⟨c, 0, none⟩ (.string s)).setCell ⟨c, 1, none⟩ (.int .i64 0)).cell? ⟨c, 1, none⟩ = some (.int .i64 0) ∧ Below w.heap.size w ((W.setCell ⟨c, 0, none⟩ (.string s)).setCell ⟨c, 1, none⟩ (.int .i64 0)) := by
 have hC : Cels W c [.string ⟨#[]⟩, .int .i64 0] := fun j v hj => by
  match j, hj with
  | 0, hj => obtain rfl := Option.some.inj hj; exact h.r0
  | 1, hj => obtain rfl := Option.some.inj hj; exact h.r1
 have hD := (hC.put 0 (.string s) (by simp)).put 1 (.int .i64 0) (by simp)
 exact ⟨hD 0 _ rfl, hD 1 _ rfl, (h.B.setCell h.gc _).setCell h.gc _⟩
theorem WrC.start (w : World) (x : List UInt8) (k : List UInt8) (kd : Nat) (n : Int) (t : List UInt8) (t1 t2 t3 : TypeId) :
  WrC w w.heap.size (w.heap.size + 1) (w.heap.size + 1 + 1) k kd n t (((w.alloc (.cells #[.string (ofL x), .int .i64 0] t1)).alloc (.cells #[.string (ofL k), .int .u8 (kd : Int), .int .i64 n, .string (ofL t)] t2)).alloc (.cells #[.string ⟨#[]⟩, .int .i64 0] t3)) := by
 have e1 : (w.alloc (.cells #[.string (ofL x), .int .i64 0] t1)).heap.size = w.heap.size + 1 := by simp
 have e2 : ((w.alloc (.cells #[.string (ofL x), .int .i64 0] t1)).alloc (.cells #[.string (ofL k), .int .u8 (kd : Int), .int .i64 n, .string (ofL t)] t2)).heap.size = w.heap.size + 1 + 1 := by simp
 have B1 := (Below.refl (w.alloc (.cells #[.string (ofL x), .int .i64 0] t1)).heap.size (w.alloc (.cells #[.string (ofL x), .int .i64 0] t1))).alloc (Nat.le_refl _) (.cells #[.string (ofL k), .int .u8 (kd : Int), .int .i64 n, .string (ofL t)] t2)
 have B2 := B1.alloc B1.size (.cells #[.string ⟨#[]⟩, .int .i64 0] t3)
 have B3 := (Below.refl ((w.alloc (.cells #[.string (ofL x), .int .i64 0] t1)).alloc (.cells #[.string (ofL k), .int .u8 (kd : Int), .int .i64 n, .string (ofL t)] t2)).heap.size ((w.alloc (.cells #[.string (ofL x), .int .i64 0] t1)).alloc (.cells #[.string (ofL k), .int .u8 (kd : Int), .int .i64 n, .string (ofL t)] t2))).alloc (Nat.le_refl _) (.cells #[.string ⟨#[]⟩, .int .i64 0] t3)
 have hP : PrAt ((w.alloc (.cells #[.string (ofL x), .int .i64 0] t1)).alloc (.cells #[.string (ofL k), .int .u8 (kd : Int), .int .i64 n, .string (ofL t)] t2)) (w.heap.size + 1) 0 ⟨k, kd, n, t⟩ := by
  rw [← e1]; exact prOf (Cels.new _ _ _)
 refine ⟨⟨ofL x, 0, (B2.cell (p := ⟨w.heap.size, 0, none⟩) (by simp)).trans (cell_new _ _ _ _ _ rfl), (B2.cell (p := ⟨w.heap.size, 1, none⟩) (by simp)).trans (cell_new _ _ _ _ _ rfl)⟩, fun j => (B2.frozen (p := ⟨w.heap.size, j, none⟩) (by simp)).trans (free_new _ _ _ _ _ rfl), hP.below B3 (by simp), ?_, ?_, ?_, by simp; omega, by simp, by simp, by omega, by omega, by omega, Nat.le_refl _, by omega, (((Below.refl _ _).alloc (Nat.le_refl _) _).alloc (by simp) _).alloc (by simp; omega) _⟩
 ·rw [← e2]; exact cell_new _ _ _ _ _ rfl
 ·rw [← e2]; exact cell_new _ _ _ _ _ rfl
 ·intro j; rw [← e2]; exact free_new _ _ _ _ _ rfl
set_option maxRecDepth 100000 in
set_option maxHeartbeats 16000000 in
theorem hwrite_one (x k : List UInt8) (kd : Nat) (n : Int) (t : List UInt8) (w : World) (hx : x.length ≤ 100000) (hk : k.length ≤ 1000) (ht : t.length ≤ 1000) (hkd : kd ≤ 2) :
  Calls Tryz.prog 105 #[.agg #[.string (ofL x), .int .i64 0], .agg #[.string (ofL k), .int .u8 (kd : Int), .int .i64 n, .string (ofL t)]] w fun e w' => e = .returned (.agg #[.string (ofL (x ++ Hd.penc ⟨k, kd, n, t⟩)), .int .i64 0]) ∧ Below w.heap.size w w' := by
 have H1 := hid (fun W => text_l x k W (by omega) (by omega))
 have H2 := hid (fun W => num_l (x ++ (Oct.be 2 k.length ++ k)) kd 1 1 W (by omega) (by omega) rfl (by simp [Oct.length_be]; omega))
 have hE : x ++ Hd.penc ⟨k, kd, n, t⟩ = x ++ (Oct.be 2 k.length ++ k) ++ Oct.be 1 kd ++ Hd.pbody ⟨k, kd, n, t⟩ := by unfold Hd.penc Oct.text; simp [List.append_assoc]
 have hz : (x ++ (Oct.be 2 k.length ++ k) ++ Oct.be 1 kd).length ≤ 110000 := by simp [Oct.length_be]; omega
 rw [hE]
 clear hE
 generalize x ++ (Oct.be 2 k.length ++ k) = E0 at *
 generalize hE1 : E0 ++ Oct.be 1 kd = E1 at *
 clear hE1
 generalize hEf : E1 ++ Hd.pbody ⟨k, kd, n, t⟩ = E2 at *
 have HEF := hid hEf
 clear hEf
 have hw1 : IntKind.u64.wrap (kd : Int) = (kd : Int) := by rw [IntKind.wrap_u64]; omega
 have hwn : IntKind.u64.wrap n = ((Hd.n64 n : Nat) : Int) := by rw [IntKind.wrap_u64]; exact (Hd.n64_cast n).symm
 have HS := hid (WrC.start w x k kd n t 70 142 70)
 have HO := hid (show (((w.alloc (.cells #[.string (ofL x), .int .i64 0] 70)).alloc (.cells #[.string (ofL k), .int .u8 (kd : Int), .int .i64 n, .string (ofL t)] 142)).alloc (.cells #[.string ⟨#[]⟩, .int .i64 0] 70)).cell? ⟨w.heap.size, 0, none⟩ = some (.string (ofL x)) ∧ (((w.alloc (.cells #[.string (ofL x), .int .i64 0] 70)).alloc (.cells #[.string (ofL k), .int .u8 (kd : Int), .int .i64 n, .string (ofL t)] 142)).alloc (.cells #[.string ⟨#[]⟩, .int .i64 0] 70)).cell? ⟨w.heap.size, 1, none⟩ = some (.int .i64 0) from
  ⟨(cell_old _ _ _ _ (by simp; omega)).trans ((cell_old _ _ _ _ (by simp)).trans (cell_new _ _ _ _ _ rfl)), (cell_old _ _ _ _ (by simp; omega)).trans ((cell_old _ _ _ _ (by simp)).trans (cell_new _ _ _ _ _ rfl))⟩)
 clear hx hk
 go_enter Tryz.func105, Tryz.ntmps105
 go_upto_region 1 with fail
 generalize hw3 : ((w.alloc (.cells #[.string (ofL x), .int .i64 0] 70)).alloc (.cells #[.string (ofL k), .int .u8 (kd : Int), .int .i64 n, .string (ofL t)] 142)).alloc (.cells #[.string ⟨#[]⟩, .int .i64 0] 70) = w3 at *
 clear hw3
 have hX0 : WrS w w.heap.size (w.heap.size + 1) (w.heap.size + 1 + 1) k kd n t w3.drew := (HS.out.on (Below.refl _ _).drew).s
 have HX := hid hX0
 clear hX0
 obtain ⟨d0, d1⟩ := HO.out
 have q3 : w.heap.size < w3.heap.size := HS.out.la
 clear HS HO
 refine wp_region_noPanic ?_
 refine wp_region_held_drew (S := WrS w w.heap.size (w.heap.size + 1) (w.heap.size + 1 + 1) k kd n t) (by kernel_rfl) ?_ (fun hHeld => ?_)
 ·(try dsimp only); (first | assumption | exact HX.out | exact WrS.on (by assumption) hb2 | exact (WrC.done (by assumption) _).1.s)
 refine wpAnyH_take (i := 1) (v := ?_) rfl (by kernel_rfl) (by kernel_rfl) (by kernel_rfl) (fun _ _ _ h => h) (Or.inl ⟨by rfl, ?_⟩) (by assumption) ?_
 rotate_left
 ·intro w hSw; (try dsimp only at hSw); go_simp; try with_reducible rfl
 (try simp only [List.getElem_toArray, List.getElem_cons_succ, List.getElem_cons_zero, Act.put, qxr12a, qxr12b, qxr12c])
 refine wpAnyH_take (i := 2) (v := ?_) rfl (by kernel_rfl) (by kernel_rfl) (by kernel_rfl) (fun _ _ _ h => h) (Or.inl ⟨by rfl, ?_⟩) (by assumption) ?_
 rotate_left
 ·intro w hSw; (try dsimp only at hSw); go_simp; try with_reducible rfl
 (try simp only [List.getElem_toArray, List.getElem_cons_succ, List.getElem_cons_zero, Act.put, qxr12a, qxr12b, qxr12c])
 refine wpAnyH_take (i := 4) (v := ?_) rfl (by kernel_rfl) (by kernel_rfl) (by kernel_rfl) (fun _ _ _ h => h) (Or.inl ⟨by rfl, ?_⟩) (by assumption) ?_
 rotate_left
 ·intro w hSw; (try dsimp only at hSw); go_simp; try with_reducible rfl
 (try simp only [List.getElem_toArray, List.getElem_cons_succ, List.getElem_cons_zero, Act.put, qxr12a, qxr12b, qxr12c])
 refine wpAnyH_take (i := 5) (v := ?_) rfl (by kernel_rfl) (by kernel_rfl) (by kernel_rfl) (fun _ _ _ h => h) (Or.inl ⟨by rfl, ?_⟩) (by assumption) ?_
 rotate_left
 ·intro w hSw; (try dsimp only at hSw); go_simp; try with_reducible rfl
 (try simp only [List.getElem_toArray, List.getElem_cons_succ, List.getElem_cons_zero, Act.put, qxr12a, qxr12b, qxr12c])
 refine wpAnyH_take (i := 6) (v := ?_) rfl (by kernel_rfl) (by kernel_rfl) (by kernel_rfl) (fun _ _ _ h => h) (Or.inl ⟨by rfl, ?_⟩) (by assumption) ?_
 rotate_left
 ·intro w hSw; (try dsimp only at hSw); go_simp; try with_reducible rfl
 (try simp only [List.getElem_toArray, List.getElem_cons_succ, List.getElem_cons_zero, Act.put, qxr12a, qxr12b, qxr12c])
 refine wpAnyH_ready (rs := [0]) (by kernel_rfl) (by simp) ?_
 refine AllReadyH.cons rfl (fun K hK => ?_) (AllReadyH.nil)
 ·go_simp
  refine hK.out _ _ ?_ (fun hHeld => ?_)
  ·(try dsimp only); (first | assumption | exact HX.out | exact WrS.on (by assumption) hb2 | exact (WrC.done (by assumption) _).1.s)
  clear hK K
  (try simp only [List.getElem_toArray, List.getElem_cons_succ, List.getElem_cons_zero, Act.put, qxr12a, qxr12b, qxr12c])
  refine wpAnyH_ready (rs := [3]) (by kernel_rfl) (by simp) ?_
  refine AllReadyH.cons rfl (fun K hK => ?_) (AllReadyH.nil)
  ·go_simp
   (go_at_call 35; ((refine (H1.out _).mono ?_); rintro e' wz ⟨rfl, hb2⟩); clear d0 d1)
   refine hK.out _ _ ?_ (fun hHeld => ?_)
   ·(try dsimp only); (first | assumption | exact HX.out | exact WrS.on (by assumption) hb2 | exact (WrC.done (by assumption) _).1.s)
   clear hK K
   (try simp only [List.getElem_toArray, List.getElem_cons_succ, List.getElem_cons_zero, Act.put, qxr12a, qxr12b, qxr12c])
   refine wpAnyH_ready (rs := [7]) (by kernel_rfl) (by simp) ?_
   refine AllReadyH.cons rfl (fun K hK => ?_) (AllReadyH.nil)
   ·go_simp
    (go_at_call 19; ((refine (H2.out _).mono ?_); rintro e' wz ⟨rfl, hb2⟩); have HZ := hid (WrS.on hHeld hb2).2; have hZ := (WrS.on hHeld hb2).2; obtain ⟨s0, e0, d0, d1⟩ := hZ.o; have q2 := hZ.so; have q3 := hZ.la; clear hZ)
    refine hK.out _ _ ?_ (fun hHeld => ?_)
    ·(try dsimp only); (first | assumption | exact HX.out | exact WrS.on (by assumption) hb2 | exact (WrC.done (by assumption) _).1.s)
    clear hK K
    (try simp only [List.getElem_toArray, List.getElem_cons_succ, List.getElem_cons_zero, Act.put, qxr12a, qxr12b, qxr12c])
    refine wpAnyH_ready (rs := [8]) (by kernel_rfl) (by simp) ?_
    refine AllReadyH.cons rfl (fun K hK => ?_) (AllReadyH.nil)
    ·go_simp
     refine hK.out _ _ ?_ (fun hHeld => ?_)
     ·(try dsimp only); (first | assumption | exact HX.out | exact WrS.on (by assumption) hb2 | exact (WrC.done (by assumption) _).1.s)
     clear hK K
     (try simp only [List.getElem_toArray, List.getElem_cons_succ, List.getElem_cons_zero, Act.put, qxr12a, qxr12b, qxr12c])
     refine wpAnyH_done (by kernel_rfl) ?_ _
     refine NoPanic.normal ?_
     have HE := hid (HZ.out.done (ofL E1))
     clear hHeld HZ HX d0 d1 q2 q3
     generalize hw4 : (wz.setCell ⟨w.heap.size, 0, none⟩ (.string (ofL E1))).setCell ⟨w.heap.size, 1, none⟩ (.int .i64 0) = w4 at *
     clear hw4
     obtain ⟨hC4, d0, d1⟩ := HE.out
     have HC4 := hid hC4
     obtain ⟨c0, c1, c2, c3⟩ := hC4.p
     have q1 := hC4.lb
     have q2 := hC4.la
     simp only [Nat.zero_add] at c0 c1 c2 c3
     clear hC4 HE H1 H2 hb2
     obtain rfl | rfl | rfl : kd = 0 ∨ kd = 1 ∨ kd = 2 := by omega
     ·have H3 := hid (fun W => num_l E1 (Hd.n64 n) 8 8 W (Hd.n64_lt n) (by omega) rfl (by omega))
      have hres : E1 ++ Oct.be 8 (Hd.n64 n) = E2 := by rw [← HEF.out]; rfl
      rw [hres] at H3
      clear hres hz
      go_wp2_with fail
      refine (H3.out _).mono ?_
      rintro e w5 ⟨rfl, b5⟩
      have hC5 := HC4.out.on b5
      have HC5 := hid hC5
      have HD := hid (hC5.done (ofL E2)).1
      obtain ⟨s0, e0, f0, f1⟩ := hC5.o
      have f2 := hC5.so
      have f3 := hC5.la
      clear d0 d1 c0 c1 c2 c3 q1 q2 b5 hC5
      obtain ⟨-, h0, h1⟩ := HC5.out.done (ofL E2)
      have hr0 := HD.out.r0
      have hr1 := HD.out.r1
      have hsr := HD.out.sr
      have hlc := HD.out.lc
      go_wp2_with fail
      obtain ⟨g0, g1, g2⟩ := HD.out.last (ofL E2)
      exact bodyPost_ret (v := .agg #[.string (ofL E2), .int .i64 0]) (by simp [results, Tryz.results105, go_sem, g0, g1]) rfl ⟨rfl, g2⟩
     ·have H3 := hid (fun W => text_l E1 t W (by omega) (by omega))
      have hres : E1 ++ (Oct.be 2 t.length ++ t) = E2 := by rw [← HEF.out]; rfl
      rw [hres] at H3
      clear hres hz
      go_wp2_with fail
      refine (H3.out _).mono ?_
      rintro e w5 ⟨rfl, b5⟩
      have hC5 := HC4.out.on b5
      have HC5 := hid hC5
      have HD := hid (hC5.done (ofL E2)).1
      obtain ⟨s0, e0, f0, f1⟩ := hC5.o
      have f2 := hC5.so
      have f3 := hC5.la
      clear d0 d1 c0 c1 c2 c3 q1 q2 b5 hC5
      obtain ⟨-, h0, h1⟩ := HC5.out.done (ofL E2)
      have hr0 := HD.out.r0
      have hr1 := HD.out.r1
      have hsr := HD.out.sr
      have hlc := HD.out.lc
      go_wp2_with fail
      obtain ⟨g0, g1, g2⟩ := HD.out.last (ofL E2)
      exact bodyPost_ret (v := .agg #[.string (ofL E2), .int .i64 0]) (by simp [results, Tryz.results105, go_sem, g0, g1]) rfl ⟨rfl, g2⟩
     ·have H3 := hid (fun W => num_l E1 (Hd.n64 n) 1 1 W (Hd.n64_lt n) (by omega) rfl (by omega))
      have hres : E1 ++ Oct.be 1 (Hd.n64 n) = E2 := by rw [← HEF.out]; rfl
      rw [hres] at H3
      clear hres hz
      go_wp2_with fail
      refine (H3.out _).mono ?_
      rintro e w5 ⟨rfl, b5⟩
      have hC5 := HC4.out.on b5
      have HC5 := hid hC5
      have HD := hid (hC5.done (ofL E2)).1
      obtain ⟨s0, e0, f0, f1⟩ := hC5.o
      have f2 := hC5.so
      have f3 := hC5.la
      clear d0 d1 c0 c1 c2 c3 q1 q2 b5 hC5
      obtain ⟨-, h0, h1⟩ := HC5.out.done (ofL E2)
      have hr0 := HD.out.r0
      have hr1 := HD.out.r1
      have hsr := HD.out.sr
      have hlc := HD.out.lc
      go_wp2_with fail
      obtain ⟨g0, g1, g2⟩ := HD.out.last (ofL E2)
      exact bodyPost_ret (v := .agg #[.string (ofL E2), .int .i64 0]) (by simp [results, Tryz.results105, go_sem, g0, g1]) rfl ⟨rfl, g2⟩
end Go.Proofs.YtaikigponkjkgaaGreatDoor
end
