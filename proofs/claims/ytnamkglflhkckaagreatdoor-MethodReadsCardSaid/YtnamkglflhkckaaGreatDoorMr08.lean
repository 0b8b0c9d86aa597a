/-
  A RULE's COPY, as the laws make it: walked. PLAIN: what a frame's body is made of: numbers, yes or no, texts, heads; read behind they were written, and written behind they were read. No program is spoken of here.
-/
import Derived.Test.YtnamkglflhkckaaGreatDoorMr03
import Derived.Test.YtnamkglflhkckaaGreatDoorMr07
import Derived.Deep.AppendLies
import Derived.Deep.RegionHeld3
import Derived.Deep.DeepCutAuto
section
namespace Go.Proofs.YtnamkglflhkckaaGreatDoor
open Go.ChangeShapes Go.WideShapes Go.ChangeAt Go.RowKit
/-- an append whose run is known, at a step of a region that draws its order -/
theorem step_append_run {P : Program} {ops : Array Oper} {o : Oper} {a : Act} {w : World} {K : Act → World → Prop} {Q : Exit → Act → World → Prop} {E : Prop} (hgd : o.guard = none) (s x : Operand) (t : TypeId)
    (ho : o.op = .call { callee := .builtin .append, args := #[s, x], argTypes := #[t, t] }) (v xv : Value) (hs : a.eval s = v) (hx : a.eval x = xv) {v' : Value} {w' : World}
    (hr : (Builtin.append_ #[t, t] o.type #[v, xv]).run P w = .ok v' w') (h : K (a.put o.dst v') w') : if Region.wanted o (yielded ops a.tmps) = true then Oper.wp P o a w K Q else E := by
  have hw : Region.wanted o (yielded ops a.tmps) = true := by simp [Region.wanted, hgd]
  rw [if_pos hw]
  unfold Oper.wp execOp
  simp only [ho, resolve, invoke, builtin, Sem.run_bind, Sem.run_pure, Result.andThen_ok, List.map_toArray, List.map_cons, List.map_nil, hs, hx, hr]
  exact h
theorem prs_one (l : List Hd.Pr) : ∀ u ∈ prs l, u.oneCell' = true := by
  intro u hu
  unfold prs at hu
  obtain ⟨f, _, hf⟩ := List.mem_flatMap.1 hu
  simp only [prL, List.mem_cons, List.not_mem_nil, or_false] at hf
  rcases hf with rfl | rfl | rfl | rfl <;> rfl
theorem addr_at1 (b off k : Nat) : (⟨b, off, none⟩ : Addr).add k = ⟨b, off + k, none⟩ := by
  unfold Addr.add
  split
  · rename_i h0
    have : k = 0 := by simpa using h0
    simp only [Addr.mk.injEq, true_and, and_true]; omega
  · rfl
theorem prs_cells {w : World} {b off : Nat} {l : List Hd.Pr} (h : Prs w (some ⟨b, off, none⟩) l) : ∀ j u, (prs l)[j]? = some u → w.cell? ((⟨b, off, none⟩ : Addr).add j) = some u := by
  intro j u hj
  have hlt : j < l.length * 4 := by
    have := (List.getElem?_eq_some_iff.1 hj).1
    rwa [prs_len] at this
  obtain ⟨b', off', e, _, hat⟩ := h.at_ (j / 4) (by omega)
  obtain ⟨rfl, rfl⟩ : b = b' ∧ off = off' := by simpa using e
  have hget := Rw.flat_get prL 4 (fun _ => rfl) (by omega) l (j / 4) (j % 4) (by omega) (by omega)
  rw [show j / 4 * 4 + j % 4 = j by omega] at hget
  have hj2 : (prL l[j / 4])[j % 4]? = some u := by rw [← hget]; exact hj
  rw [addr_at1]
  rw [Hd.pr_at (by omega)] at hat
  have hm : j % 4 = 0 ∨ j % 4 = 1 ∨ j % 4 = 2 ∨ j % 4 = 3 := by omega
  rcases hm with h0 | h0 | h0 | h0 <;> rw [h0] at hj2 <;> obtain rfl := Option.some.inj hj2
  · rw [show off + j = off + j / 4 * 4 by omega]; exact hat.c0
  · rw [show off + j = off + j / 4 * 4 + 1 by omega]; exact hat.c1
  · rw [show off + j = off + j / 4 * 4 + 2 by omega]; exact hat.c2
  · rw [show off + j = off + j / 4 * 4 + 3 by omega]; exact hat.c3
/-- a row appended to an empty one of one's own -/
theorem copy_run {W : World} {l : List Hd.Pr} {A : Option Addr} {c g : Nat} {B : Nat} (hl : l.length ≤ 100000) (hc : l.length ≤ c) (hp : Prs W A l)
    (hown : W.ownsRow B 176 4 (.slice (some ⟨g, 0, none⟩) 0 0) 0 []) (hB : B ≤ W.heap.size) :
    ∃ A' c' w', (Builtin.append_ #[22, 22] 22 #[.slice (some ⟨g, 0, none⟩) 0 0, .slice A l.length c]).run Tryz.prog W = .ok (.slice A' l.length c') w' ∧ w'.ownsRow B 176 4 (.slice A' l.length c') l.length (prs l) ∧ W.grownBy w' (some g) ∧ l.length ≤ c' ∧ (∀ a, A' = some a → a.block = g ∨ a.block = W.heap.size) := by
  obtain ⟨i1, hi1, hz0, hz1, hz2⟩ := info_parts infoPr
  cases hcase : l with
  | nil =>
    subst hcase
    have hsrc : Src Tryz.prog i1.size 22 (.slice A 0 c) 0 [] W := by
      cases A with
      | none => exact Src.ofNil W Tryz.underlying22 c
      | some a => exact Src.ofSlice W Tryz.underlying22 a 0 c [] (by simp) (fun j u h => by simp at h) (fun u h => by simp at h)
    refine ⟨some ⟨g, 0, none⟩, 0, W, run_append_nothing W 22 22 22 176 i1 Tryz.underlying22 hi1 (some ⟨g, 0, none⟩) 0 0 (Nat.le_refl _) (.slice A 0 c) hsrc, hown, World.grownBy.refl _ _, Nat.le_refl _, fun a ha => ?_⟩
    obtain rfl := Option.some.inj ha
    exact Or.inl rfl
  | cons x t =>
    rw [← hcase]
    have hpos : 0 < l.length := by rw [hcase]; simp
    obtain ⟨b, off, rfl, hbl, -⟩ := hp.at_ 0 hpos
    obtain ⟨gg, cap, w', hr, h2, h3, h4, h5⟩ := run_append_lies (P := Tryz.prog) W 22 22 B 176 i1 _ 4 48 Tryz.underlying22 hi1 hz0 hz1 hz2 rfl (by omega) (.slice (some ⟨g, 0, none⟩) 0 0) 0 [] hown ⟨b, off, none⟩ l.length c (prs l) (prs_len l) (prs_cells hp) (prs_one l) hpos (by unfold maxLen; omega) (by omega) hB W.heap.size rfl
    rw [Nat.zero_add, List.nil_append] at h2
    rw [Nat.zero_add] at hr
    obtain ⟨A2, c2, e2, hc2, -, -⟩ := rown_prs h2
    obtain ⟨-, -, rfl⟩ := Value.slice.inj e2
    refine ⟨some ⟨gg, 0, none⟩, cap, w', hr, h2, h3, hc2, fun a ha => ?_⟩
    obtain rfl := Option.some.inj ha
    rcases h4 with h4 | h4
    · left
      have : g = gg := by simpa [Value.ownBlock] using h4
      exact this.symm
    · exact Or.inr h4
/-- the boxes of To: the rule, the answer -/
structure ToC (w : World) (p q : Nat) (r : Ru) (A : Option Addr) (c : Nat) (W : World) : Prop where
  rp : Cels W p (ruL r A c)
  lp : p < W.heap.size
  rq : ∃ (s : Int) (k : ByteArray) (a : Option Addr) (n m : Nat) (b : Bool), W.cell? ⟨q, 0, none⟩ = some (.int .u8 s) ∧ W.cell? ⟨q, 1, none⟩ = some (.string k) ∧ W.cell? ⟨q, 2, none⟩ = some (.slice a n m) ∧ W.cell? ⟨q, 3, none⟩ = some (.bool b)
  sq : Soft W q
  lq : q < W.heap.size
  ne : q ≠ p
  gq : w.heap.size ≤ q
  B : Below w.heap.size w W
abbrev ToS (w : World) (p q : Nat) (r : Ru) (A : Option Addr) (c : Nat) (W : World) : Prop :=
  (W.cell? ⟨p, 0, none⟩ = some (.int .u8 (r.sort : Int)) ∧ W.cell? ⟨p, 1, none⟩ = some (.string (ofL r.key)) ∧ W.cell? ⟨p, 2, none⟩ = some (.slice A r.want.length c) ∧ W.cell? ⟨p, 3, none⟩ = some (.bool r.all) ∧ p < W.heap.size) ∧ ToC w p q r A c W
theorem ToC.s {w : World} {p q : Nat} {r : Ru} {A : Option Addr} {c : Nat} {W : World} (h : ToC w p q r A c W) : ToS w p q r A c W := ⟨⟨h.rp 0 _ rfl, h.rp 1 _ rfl, h.rp 2 _ rfl, h.rp 3 _ rfl, h.lp⟩, h⟩
theorem ToC.on {w : World} {p q : Nat} {r : Ru} {A : Option Addr} {c : Nat} {W W' : World} (h : ToC w p q r A c W) (hb : Below W.heap.size W W') : ToC w p q r A c W' := by
  obtain ⟨s, k, a, n, m, b, h0, h1, h2, h3⟩ := h.rq
  exact ⟨h.rp.on hb h.lp, Nat.lt_of_lt_of_le h.lp hb.size, ⟨s, k, a, n, m, b, (hb.cell (p := ⟨q, 0, none⟩) h.lq).trans h0, (hb.cell (p := ⟨q, 1, none⟩) h.lq).trans h1, (hb.cell (p := ⟨q, 2, none⟩) h.lq).trans h2, (hb.cell (p := ⟨q, 3, none⟩) h.lq).trans h3⟩, h.sq.on hb h.lq, Nat.lt_of_lt_of_le h.lq hb.size, h.ne, h.gq, bthen h.B hb (Nat.le_refl _)⟩
theorem ToS.on {w : World} {p q : Nat} {r : Ru} {A : Option Addr} {c : Nat} {W W' : World} (h : ToS w p q r A c W) (hb : Below W.heap.size W W') : ToS w p q r A c W' := (h.2.on hb).s
theorem ToC.grown {w : World} {p q : Nat} {r : Ru} {A : Option Addr} {c : Nat} {W W' : World} {g : Nat} (h : ToC w p q r A c W) (hg : W.grownBy W' (some g)) (hp : p ≠ g) (hq : q ≠ g) (hw : w.heap.size ≤ g) : ToC w p q r A c W' := by
  obtain ⟨s, k, a, n, m, b, h0, h1, h2, h3⟩ := h.rq
  have np : some p ≠ some g := fun e => hp (Option.some.inj e)
  have nq : some q ≠ some g := fun e => hq (Option.some.inj e)
  exact ⟨h.rp.grown hg np, Nat.lt_of_lt_of_le h.lp hg.size, ⟨s, k, a, n, m, b, hg.cell h0 nq, hg.cell h1 nq, hg.cell h2 nq, hg.cell h3 nq⟩, h.sq.grown hg h.lq nq, Nat.lt_of_lt_of_le h.lq hg.size, h.ne, h.gq, h.B.grown hg h.B.size (fun k hk => by cases hk; omega)⟩
theorem ToC.done {w : World} {p q : Nat} {r : Ru} {A : Option Addr} {c : Nat} {W : World} (h : ToC w p q r A c W) (s : Int) (k : ByteArray) (a : Option Addr) (n m : Nat) (b : Bool) :
    ∃ W', W' = (((W.setCell ⟨q, 0, none⟩ (.int .u8 s)).setCell ⟨q, 1, none⟩ (.string k)).setCell ⟨q, 2, none⟩ (.slice a n m)).setCell ⟨q, 3, none⟩ (.bool b) ∧ ToC w p q r A c W' ∧ W'.cell? ⟨q, 0, none⟩ = some (.int .u8 s) ∧ W'.cell? ⟨q, 1, none⟩ = some (.string k) ∧ W'.cell? ⟨q, 2, none⟩ = some (.slice a n m) ∧ W'.cell? ⟨q, 3, none⟩ = some (.bool b) := by
  obtain ⟨s0, k0, a0, n0, m0, b0, h0, h1, h2, h3⟩ := h.rq
  have hC : Cels W q [.int .u8 s0, .string k0, .slice a0 n0 m0, .bool b0] := fun j v hj => by
    match j, hj with
    | 0, hj => obtain rfl := Option.some.inj hj; exact h0
    | 1, hj => obtain rfl := Option.some.inj hj; exact h1
    | 2, hj => obtain rfl := Option.some.inj hj; exact h2
    | 3, hj => obtain rfl := Option.some.inj hj; exact h3
  have hD := (((hC.put 0 (.int .u8 s) (by simp)).put 1 (.string k) (by simp)).put 2 (.slice a n m) (by simp)).put 3 (.bool b) (by simp)
  exact ⟨_, rfl, ⟨(((h.rp.aside h.ne 0 _).aside h.ne 1 _).aside h.ne 2 _).aside h.ne 3 _, by simpa [World.setCell] using h.lp, ⟨s, k, a, n, m, b, hD 0 _ rfl, hD 1 _ rfl, hD 2 _ rfl, hD 3 _ rfl⟩, (((h.sq.put _ _).put _ _).put _ _).put _ _, by simpa [World.setCell] using h.lq, h.ne, h.gq, below_over h.B h.gq _ _ _ _⟩, hD 0 _ rfl, hD 1 _ rfl, hD 2 _ rfl, hD 3 _ rfl⟩
theorem ToC.start (w : World) (r : Ru) (A : Option Addr) (c : Nat) (t1 t2 : TypeId) :
    ToC w w.heap.size (w.heap.size + 1) r A c ((w.alloc (.cells #[.int .u8 (r.sort : Int), .string (ofL r.key), .slice A r.want.length c, .bool r.all] t1)).alloc (.cells #[.int .u8 0, .string ⟨#[]⟩, .slice none 0 0, .bool false] t2)) := by
  have e1 : (w.alloc (.cells #[.int .u8 (r.sort : Int), .string (ofL r.key), .slice A r.want.length c, .bool r.all] t1)).heap.size = w.heap.size + 1 := by simp
  have hb := (Below.refl (w.alloc (.cells #[.int .u8 (r.sort : Int), .string (ofL r.key), .slice A r.want.length c, .bool r.all] t1)).heap.size (w.alloc (.cells #[.int .u8 (r.sort : Int), .string (ofL r.key), .slice A r.want.length c, .bool r.all] t1))).alloc (Nat.le_refl _) (.cells #[.int .u8 0, .string ⟨#[]⟩, .slice none 0 0, .bool false] t2)
  refine ⟨(ruBox r A c w t1).on hb (by simp), by simp; omega, ⟨0, ⟨#[]⟩, none, 0, 0, false, ?_, ?_, ?_, ?_⟩, ?_, by simp, by omega, by omega, ((Below.refl _ _).alloc (Nat.le_refl _) _).alloc (by simp) _⟩
  · rw [← e1]; exact cell_new _ _ _ _ _ rfl
  · rw [← e1]; exact cell_new _ _ _ _ _ rfl
  · rw [← e1]; exact cell_new _ _ _ _ _ rfl
  · rw [← e1]; exact cell_new _ _ _ _ _ rfl
  · rw [← e1]; exact Soft.new _ _ _
end Go.Proofs.YtnamkglflhkckaaGreatDoor
end
section
namespace Go.Proofs.YtnamkglflhkckaaGreatDoor.Pt
/-- a yes or no that comes next -/
def yesOut (s : LSt) : Bool := Oct.val (lOut s.1 1) == 1
def yesIn (s : LSt) : LSt := if 1 < Oct.val (lOut s.1 1) then lFail (lRaw s 1) 4 else lRaw s 1
def yesEnc (b : Bool) : List UInt8 := if b then [1] else [0]
theorem lOk_yes {s : LSt} (h : lOk s) : lOk (yesIn s) := by
  unfold yesIn
  split
  · exact lOk_fail (lOk_raw h _) _
  · exact lOk_raw h _

/-! ### written, then read -/
/-! ### read, then written -/
theorem raw_back {s : LSt} {n : Nat} (hok : lOk s) (h : (lRaw s n).2 = 0) : s = (lOut s.1 n ++ (lRaw s n).1, 0) ∧ (lOut s.1 n).length = n := by
  obtain ⟨r, e⟩ := s
  unfold lRaw at h ⊢
  simp only at h ⊢
  by_cases hn : r.length < n
  · rw [if_pos hn] at h
    simp only at h
    split at h
    · exact absurd h (by decide)
    · exact absurd h (by assumption)
  · rw [if_neg hn] at h ⊢
    simp only at h ⊢
    subst h
    rw [lOut_of (by omega), List.take_append_drop]
    exact ⟨rfl, by rw [List.length_take]; omega⟩
theorem num_back {s : LSt} {n : Nat} (hok : lOk s) (h : (lRaw s n).2 = 0) : s = (Oct.be n (Oct.val (lOut s.1 n)) ++ (lRaw s n).1, 0) := by
  obtain ⟨h1, h2⟩ := raw_back hok h
  have := Oct.be_val (lOut s.1 n)
  rw [h2] at this
  rw [this]
  exact h1
theorem fail_back {s : LSt} {c : Int} (h : (lFail s c).2 = 0) : lFail s c = s ∧ c = 0 := by
  have := Hd.lFail_zero h
  exact ⟨this.2.2, this.1⟩
theorem yes_back {s : LSt} (hok : lOk s) (h : (yesIn s).2 = 0) : s = (yesEnc (yesOut s) ++ (yesIn s).1, 0) := by
  unfold yesIn at h ⊢
  by_cases h1 : 1 < Oct.val (lOut s.1 1)
  · rw [if_pos h1] at h
    exact absurd (fail_back h).2 (by decide)
  · rw [if_neg h1] at h ⊢
    have hb := num_back hok h
    have e : Oct.be 1 (Oct.val (lOut s.1 1)) = yesEnc (yesOut s) := by
      unfold yesOut
      have : Oct.val (lOut s.1 1) = 0 ∨ Oct.val (lOut s.1 1) = 1 := by omega
      rcases this with h | h <;> rw [h] <;> rfl
    rw [e] at hb
    exact hb
theorem text_back {s : LSt} {m : Nat} (hok : lOk s) (h : (lText s m).2 = 0) : s = (Oct.text (lTextOut s m) ++ (lText s m).1, 0) ∧ (lTextOut s m).length ≤ m := by
  unfold lText at h
  obtain ⟨h1, h2⟩ := raw_back (lOk_mid hok m) h
  have hm : (lMid s m).2 = 0 := by rw [h1]
  unfold lMid at hm h1 h2
  unfold lText lTextOut lMid
  by_cases hl : (m : Int) < (lLen s : Int)
  · rw [if_pos hl] at hm
    exact absurd (fail_back hm).2 (by decide)
  · rw [if_neg hl] at hm h1 h2 ⊢
    have hb := num_back hok hm
    refine ⟨?_, by omega⟩
    unfold Oct.text
    rw [h2, List.append_assoc]
    have h3 : (lRaw s 2).1 = lOut (lRaw s 2).1 (lLen s) ++ (lRaw (lRaw s 2) (lLen s)).1 := congrArg Prod.fst h1
    rw [← h3]
    exact hb
theorem be8_i64 {n : Nat} (h : n < 18446744073709551616) : Hd.n64 (Hd.i64 n) = n := by
  unfold Hd.n64 Hd.i64
  split <;> omega
theorem chain {s s1 s2 s3 : LSt} {a b c : List UInt8} (h1 : s = (a ++ s1.1, 0)) (h2 : s1 = (b ++ s2.1, 0)) (h3 : s2 = (c ++ s3.1, 0)) : s = (a ++ b ++ c ++ s3.1, 0) := by
  have e1 := congrArg Prod.fst h2
  have e2 := congrArg Prod.fst h3
  simp only at e1 e2
  rw [h1, e1, e2]
  simp [List.append_assoc]
theorem penc0 (k : List UInt8) (v : Nat) (h : v < 18446744073709551616) : Hd.penc ⟨k, 0, Hd.i64 v, []⟩ = Oct.text k ++ Oct.be 1 0 ++ Oct.be 8 v := by
  unfold Hd.penc Hd.pbody
  rw [if_pos rfl, be8_i64 h]
theorem penc1 (k x : List UInt8) : Hd.penc ⟨k, 1, 0, x⟩ = Oct.text k ++ Oct.be 1 1 ++ Oct.text x := by
  unfold Hd.penc Hd.pbody
  rw [if_neg (show ¬ (1 : Nat) = 0 by decide), if_pos rfl]
theorem penc2 (k : List UInt8) (v : Nat) (h : v < 18446744073709551616) : Hd.penc ⟨k, 2, Hd.i64 v, []⟩ = Oct.text k ++ Oct.be 1 2 ++ Oct.be 1 v := by
  unfold Hd.penc Hd.pbody
  rw [if_neg (show ¬ (2 : Nat) = 0 by decide), if_neg (show ¬ (2 : Nat) = 1 by decide), be8_i64 h]
theorem rd1_back {s : LSt} (hok : lOk s) (h : (Hd.rd1 s).2.2 = 0) : s = (Hd.penc (Hd.rd1 s).1 ++ (Hd.rd1 s).2.1, 0) := by
  have k1 := lOk_text hok 16
  have k2 := lOk_raw k1 1
  have fin : ∀ (c : Nat) (b : List UInt8) (s3 : LSt), Oct.val (lOut (lText s 16).1 1) = c → (lRaw (lText s 16) 1) = (b ++ s3.1, 0) → s = (Oct.text (lTextOut s 16) ++ Oct.be 1 c ++ b ++ s3.1, 0) := by
    intro c b s3 hc hb
    subst hc
    have h2 := num_back k1 (show (lRaw (lText s 16) 1).2 = 0 by rw [hb])
    have h1 := (text_back (m := 16) hok (show (lText s ((16 : Nat) : Int)).2 = 0 by rw [show ((16 : Nat) : Int) = 16 from rfl, h2])).1
    exact chain h1 h2 hb
  have hv8 : Oct.val (lOut (lRaw (lText s 16) 1).1 8) < 18446744073709551616 := Nat.lt_of_lt_of_le (val_out_lt _ 8) (by decide)
  have hv1 : Oct.val (lOut (lRaw (lText s 16) 1).1 1) < 18446744073709551616 := Nat.lt_of_lt_of_le (val_out_lt _ 1) (by decide)
  by_cases c0 : Oct.val (lOut (lText s 16).1 1) = 0
  · have e : Hd.rd1 s = (⟨lTextOut s 16, 0, Hd.i64 (Oct.val (lOut (lRaw (lText s 16) 1).1 8)), []⟩, lRaw (lRaw (lText s 16) 1) 8) := by unfold Hd.rd1; simp only; rw [if_pos c0]
    rw [e] at h ⊢
    have hf := fin 0 _ _ c0 (num_back k2 h)
    rw [penc0 _ _ hv8]
    exact hf
  · by_cases c1 : Oct.val (lOut (lText s 16).1 1) = 1
    · have e : Hd.rd1 s = (⟨lTextOut s 16, 1, 0, lTextOut (lRaw (lText s 16) 1) 64⟩, lText (lRaw (lText s 16) 1) 64) := by unfold Hd.rd1; simp only; rw [if_neg c0, if_pos c1]
      rw [e] at h ⊢
      have hf := fin 1 _ _ c1 (text_back (m := 64) k2 h).1
      rw [penc1]
      exact hf
    · by_cases c2 : Oct.val (lOut (lText s 16).1 1) = 2
      · have e : Hd.rd1 s = (⟨lTextOut s 16, 2, Hd.i64 (Oct.val (lOut (lRaw (lText s 16) 1).1 1)), []⟩, lRaw (lRaw (lText s 16) 1) 1) := by unfold Hd.rd1; simp only; rw [if_neg c0, if_neg c1, if_pos c2]
        rw [e] at h ⊢
        have hf := fin 2 _ _ c2 (num_back k2 h)
        rw [penc2 _ _ hv1]
        exact hf
      · have e : (Hd.rd1 s).2 = lFail (lRaw (lText s 16) 1) 8 := by unfold Hd.rd1; simp only; rw [if_neg c0, if_neg c1, if_neg c2]
        rw [e] at h
        exact absurd (fail_back h).2 (by decide)
theorem rds_stop {n : Nat} {h : List Hd.Pr} {s : LSt} (hb : (lFail (Hd.rd1 s).2 (Hd.pcode (Hd.rd1 s).1 h)).2 ≠ 0) : Hd.rds (n + 1) h s = ([], lFail (Hd.rd1 s).2 (Hd.pcode (Hd.rd1 s).1 h)) := by rw [Hd.rds, if_pos hb]
theorem rds_next {n : Nat} {h : List Hd.Pr} {s : LSt} (hb : (lFail (Hd.rd1 s).2 (Hd.pcode (Hd.rd1 s).1 h)).2 = 0) : Hd.rds (n + 1) h s = Hd.rds n (h ++ [(Hd.rd1 s).1]) (Hd.rd1 s).2 := by
  rw [Hd.rds, if_neg (by omega), (fail_back hb).1]
theorem snd0 (s : LSt) (h : s.2 = 0) : s = (s.1, 0) := by
  obtain ⟨r, e⟩ := s
  have h0 : e = 0 := h
  subst h0
  rfl
theorem rds_back (n : Nat) : ∀ (h : List Hd.Pr) (s : LSt), lOk s → (Hd.rds n h s).2.2 = 0 → ∃ m, (Hd.rds n h s).1 = h ++ m ∧ m.length = n ∧ s = (m.flatMap Hd.penc ++ (Hd.rds n h s).2.1, 0) := by
  induction n with
  | zero =>
    intro h s _ he
    exact ⟨[], (List.append_nil h).symm, rfl, snd0 s he⟩
  | succ n ih =>
    intro h s hok he
    by_cases hx : (lFail (Hd.rd1 s).2 (Hd.pcode (Hd.rd1 s).1 h)).2 ≠ 0
    · rw [rds_stop hx] at he
      exact absurd he hx
    · have hx0 : (lFail (Hd.rd1 s).2 (Hd.pcode (Hd.rd1 s).1 h)).2 = 0 := by omega
      rw [rds_next hx0] at he
      rw [rds_next hx0]
      rw [(fail_back hx0).1] at hx0
      have hb := rd1_back hok hx0
      have hk := Hd.lOk_rd1 hok
      clear hx hok
      generalize Hd.rd1 s = Q at *
      obtain ⟨m, h1, h2, h3⟩ := ih (h ++ [Q.1]) Q.2 hk he
      generalize Hd.rds n (h ++ [Q.1]) Q.2 = R at *
      refine ⟨Q.1 :: m, by rw [h1, List.append_assoc]; rfl, by rw [List.length_cons, h2], ?_⟩
      have e : Q.2.1 = m.flatMap Hd.penc ++ R.2.1 := congrArg Prod.fst h3
      rw [List.flatMap_cons, List.append_assoc, ← e]
      exact hb
theorem hread_back {s : LSt} (hok : lOk s) (h : (Hd.hread s).2.2 = 0) : s = (Hd.henc (Hd.hread s).1 ++ (Hd.hread s).2.1, 0) := by
  unfold Hd.hread at h ⊢
  by_cases h8 : 8 < Oct.val (lOut s.1 1)
  · rw [if_pos h8] at h
    exact absurd (fail_back h).2 (by decide)
  · rw [if_neg h8] at h ⊢
    obtain ⟨m, h1, h2, h3⟩ := rds_back _ _ _ (lOk_raw hok 1) h
    have hb := num_back hok (show (lRaw s 1).2 = 0 by rw [h3])
    rw [List.nil_append] at h1
    have e := congrArg Prod.fst h3
    generalize Hd.rds (Oct.val (lOut s.1 1)) [] (lRaw s 1) = R at *
    simp only at e
    unfold Hd.henc
    rw [h1, h2, List.append_assoc, ← e]
    exact hb
end Go.Proofs.YtnamkglflhkckaaGreatDoor.Pt
end
