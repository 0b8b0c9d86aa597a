/-
  A RULE's COPY, as the laws make it: walked. PLAIN: methods: what a kind tells, what may be, their bytes, what is read. No program is spoken of here.
-/
import Derived.Test.YtaikigponkjkgaaGreatDoorDs05
import Derived.Test.YtaikigponkjkgaaGreatDoorDs09
import Derived.Test.YtaikigponkjkgaaGreatDoorDs10
import Derived.Deep.AppendLies
import Derived.Deep.RegionHeld3
import Derived.Deep.DeepCutAuto
section
namespace Go.Proofs.YtaikigponkjkgaaGreatDoor
open Go.ChangeShapes Go.WideShapes Go.ChangeAt Go.RowKit
/-- an append whose run is known, at a step of a region that draws its order -/
theorem step_append_run {P : Program} {ops : Array Oper} {o : Oper} {a : Act} {w : World} {K : Act → World → Prop} {Q : Exit → Act → World → Prop} {E : Prop} (hgd : o.guard = none) (s x : Operand) (t : TypeId)
    (ho : o.op = .call { callee := .builtin .append, args := #[s, x], argTypes := #[t, t] }) (v xv : Value) (hs : a.eval s = v) (hx : a.eval x = xv) {v' : Value} {w' : World}
    (hr : (Builtin.append_ #[t, t] o.type #[v, xv]).run P w = .ok v' w') (h : K (a.put o.dst v') w') : if Region.wanted o (yielded ops a.tmps) = true then Oper.wp P o a w K Q else E := by
  have hw : Region.wanted o (yielded ops a.tmps) = true := by simp [Region.wanted, hgd]
  rw [if_pos hw]
  unfold Oper.wp execOp
  simp only [ho, resolve, invoke, builtin, Sem.run_bind, Sem.run_pure, Result.andThen_ok, List.map_toArray, List.map_cons, List.map_nil, hs, hx, hr]
  exact h
theorem prs_one (l : List Hd.Pr) : ∀ u ∈ prs l, u.oneCell' = true := by
  intro u hu
  unfold prs at hu
  obtain ⟨f, _, hf⟩ := List.mem_flatMap.1 hu
  simp only [prL, List.mem_cons, List.not_mem_nil, or_false] at hf
  rcases hf with rfl | rfl | rfl | rfl <;> rfl
theorem addr_at1 (b off k : Nat) : (⟨b, off, none⟩ : Addr).add k = ⟨b, off + k, none⟩ := by
  unfold Addr.add
  split
  · rename_i h0
    have : k = 0 := by simpa using h0
    simp only [Addr.mk.injEq, true_and, and_true]; omega
  · rfl
theorem prs_cells {w : World} {b off : Nat} {l : List Hd.Pr} (h : Prs w (some ⟨b, off, none⟩) l) : ∀ j u, (prs l)[j]? = some u → w.cell? ((⟨b, off, none⟩ : Addr).add j) = some u := by
  intro j u hj
  have hlt : j < l.length * 4 := by
    have := (List.getElem?_eq_some_iff.1 hj).1
    rwa [prs_len] at this
  obtain ⟨b', off', e, _, hat⟩ := h.at_ (j / 4) (by omega)
  obtain ⟨rfl, rfl⟩ : b = b' ∧ off = off' := by simpa using e
  have hget := Rw.flat_get prL 4 (fun _ => rfl) (by omega) l (j / 4) (j % 4) (by omega) (by omega)
  rw [show j / 4 * 4 + j % 4 = j by omega] at hget
  have hj2 : (prL l[j / 4])[j % 4]? = some u := by rw [← hget]; exact hj
  rw [addr_at1]
  rw [Hd.pr_at (by omega)] at hat
  have hm : j % 4 = 0 ∨ j % 4 = 1 ∨ j % 4 = 2 ∨ j % 4 = 3 := by omega
  rcases hm with h0 | h0 | h0 | h0 <;> rw [h0] at hj2 <;> obtain rfl := Option.some.inj hj2
  · rw [show off + j = off + j / 4 * 4 by omega]; exact hat.c0
  · rw [show off + j = off + j / 4 * 4 + 1 by omega]; exact hat.c1
  · rw [show off + j = off + j / 4 * 4 + 2 by omega]; exact hat.c2
  · rw [show off + j = off + j / 4 * 4 + 3 by omega]; exact hat.c3
/-- a row appended to an empty one of one's own -/
theorem copy_run {W : World} {l : List Hd.Pr} {A : Option Addr} {c g : Nat} {B : Nat} (hl : l.length ≤ 100000) (hc : l.length ≤ c) (hp : Prs W A l)
    (hown : W.ownsRow B 142 4 (.slice (some ⟨g, 0, none⟩) 0 0) 0 []) (hB : B ≤ W.heap.size) :
    ∃ A' c' w', (Builtin.append_ #[46, 46] 46 #[.slice (some ⟨g, 0, none⟩) 0 0, .slice A l.length c]).run Tryz.prog W = .ok (.slice A' l.length c') w' ∧ w'.ownsRow B 142 4 (.slice A' l.length c') l.length (prs l) ∧ W.grownBy w' (some g) ∧ l.length ≤ c' ∧ (∀ a, A' = some a → a.block = g ∨ a.block = W.heap.size) := by
  obtain ⟨i1, hi1, hz0, hz1, hz2⟩ := info_parts infoPr
  cases hcase : l with
  | nil =>
    subst hcase
    have hsrc : Src Tryz.prog i1.size 46 (.slice A 0 c) 0 [] W := by
      cases A with
      | none => exact Src.ofNil W Tryz.underlying46 c
      | some a => exact Src.ofSlice W Tryz.underlying46 a 0 c [] (by simp) (fun j u h => by simp at h) (fun u h => by simp at h)
    refine ⟨some ⟨g, 0, none⟩, 0, W, run_append_nothing W 46 46 46 142 i1 Tryz.underlying46 hi1 (some ⟨g, 0, none⟩) 0 0 (Nat.le_refl _) (.slice A 0 c) hsrc, hown, World.grownBy.refl _ _, Nat.le_refl _, fun a ha => ?_⟩
    obtain rfl := Option.some.inj ha
    exact Or.inl rfl
  | cons x t =>
    rw [← hcase]
    have hpos : 0 < l.length := by rw [hcase]; simp
    obtain ⟨b, off, rfl, hbl, -⟩ := hp.at_ 0 hpos
    obtain ⟨gg, cap, w', hr, h2, h3, h4, h5⟩ := run_append_lies (P := Tryz.prog) W 46 46 B 142 i1 _ 4 48 Tryz.underlying46 hi1 hz0 hz1 hz2 rfl (by omega) (.slice (some ⟨g, 0, none⟩) 0 0) 0 [] hown ⟨b, off, none⟩ l.length c (prs l) (prs_len l) (prs_cells hp) (prs_one l) hpos (by unfold maxLen; omega) (by omega) hB W.heap.size rfl
    rw [Nat.zero_add, List.nil_append] at h2
    rw [Nat.zero_add] at hr
    obtain ⟨A2, c2, e2, hc2, -, -⟩ := rown_prs h2
    obtain ⟨-, -, rfl⟩ := Value.slice.inj e2
    refine ⟨some ⟨gg, 0, none⟩, cap, w', hr, h2, h3, hc2, fun a ha => ?_⟩
    obtain rfl := Option.some.inj ha
    rcases h4 with h4 | h4
    · left
      have : g = gg := by simpa [Value.ownBlock] using h4
      exact this.symm
    · exact Or.inr h4
/-- the boxes of To: the rule, the answer -/
structure ToC (w : World) (p q : Nat) (r : Ru) (A : Option Addr) (c : Nat) (W : World) : Prop where
  rp : Cels W p (ruL r A c)
  lp : p < W.heap.size
  rq : ∃ (s : Int) (k : ByteArray) (a : Option Addr) (n m : Nat) (b : Bool), W.cell? ⟨q, 0, none⟩ = some (.int .u8 s) ∧ W.cell? ⟨q, 1, none⟩ = some (.string k) ∧ W.cell? ⟨q, 2, none⟩ = some (.slice a n m) ∧ W.cell? ⟨q, 3, none⟩ = some (.bool b)
  sq : Soft W q
  lq : q < W.heap.size
  ne : q ≠ p
  gq : w.heap.size ≤ q
  B : Below w.heap.size w W
abbrev ToS (w : World) (p q : Nat) (r : Ru) (A : Option Addr) (c : Nat) (W : World) : Prop :=
  (W.cell? ⟨p, 0, none⟩ = some (.int .u8 (r.sort : Int)) ∧ W.cell? ⟨p, 1, none⟩ = some (.string (ofL r.key)) ∧ W.cell? ⟨p, 2, none⟩ = some (.slice A r.want.length c) ∧ W.cell? ⟨p, 3, none⟩ = some (.bool r.all) ∧ p < W.heap.size) ∧ ToC w p q r A c W
theorem ToC.s {w : World} {p q : Nat} {r : Ru} {A : Option Addr} {c : Nat} {W : World} (h : ToC w p q r A c W) : ToS w p q r A c W := ⟨⟨h.rp 0 _ rfl, h.rp 1 _ rfl, h.rp 2 _ rfl, h.rp 3 _ rfl, h.lp⟩, h⟩
theorem ToC.on {w : World} {p q : Nat} {r : Ru} {A : Option Addr} {c : Nat} {W W' : World} (h : ToC w p q r A c W) (hb : Below W.heap.size W W') : ToC w p q r A c W' := by
  obtain ⟨s, k, a, n, m, b, h0, h1, h2, h3⟩ := h.rq
  exact ⟨h.rp.on hb h.lp, Nat.lt_of_lt_of_le h.lp hb.size, ⟨s, k, a, n, m, b, (hb.cell (p := ⟨q, 0, none⟩) h.lq).trans h0, (hb.cell (p := ⟨q, 1, none⟩) h.lq).trans h1, (hb.cell (p := ⟨q, 2, none⟩) h.lq).trans h2, (hb.cell (p := ⟨q, 3, none⟩) h.lq).trans h3⟩, h.sq.on hb h.lq, Nat.lt_of_lt_of_le h.lq hb.size, h.ne, h.gq, bthen h.B hb (Nat.le_refl _)⟩
theorem ToS.on {w : World} {p q : Nat} {r : Ru} {A : Option Addr} {c : Nat} {W W' : World} (h : ToS w p q r A c W) (hb : Below W.heap.size W W') : ToS w p q r A c W' := (h.2.on hb).s
theorem ToC.grown {w : World} {p q : Nat} {r : Ru} {A : Option Addr} {c : Nat} {W W' : World} {g : Nat} (h : ToC w p q r A c W) (hg : W.grownBy W' (some g)) (hp : p ≠ g) (hq : q ≠ g) (hw : w.heap.size ≤ g) : ToC w p q r A c W' := by
  obtain ⟨s, k, a, n, m, b, h0, h1, h2, h3⟩ := h.rq
  have np : some p ≠ some g := fun e => hp (Option.some.inj e)
  have nq : some q ≠ some g := fun e => hq (Option.some.inj e)
  exact ⟨h.rp.grown hg np, Nat.lt_of_lt_of_le h.lp hg.size, ⟨s, k, a, n, m, b, hg.cell h0 nq, hg.cell h1 nq, hg.cell h2 nq, hg.cell h3 nq⟩, h.sq.grown hg h.lq nq, Nat.lt_of_lt_of_le h.lq hg.size, h.ne, h.gq, h.B.grown hg h.B.size (fun k hk => by cases hk; omega)⟩
theorem ToC.done {w : World} {p q : Nat} {r : Ru} {A : Option Addr} {c : Nat} {W : World} (h : ToC w p q r A c W) (s : Int) (k : ByteArray) (a : Option Addr) (n m : Nat) (b : Bool) :
    ∃ W', W' = (((W.setCell ⟨q, 0, none⟩ (.int .u8 s)).setCell ⟨q, 1, none⟩ (.string k)).setCell ⟨q, 2, none⟩ (.slice a n m)).setCell ⟨q, 3, none⟩ (.bool b) ∧ ToC w p q r A c W' ∧ W'.cell? ⟨q, 0, none⟩ = some (.int .u8 s) ∧ W'.cell? ⟨q, 1, none⟩ = some (.string k) ∧ W'.cell? ⟨q, 2, none⟩ = some (.slice a n m) ∧ W'.cell? ⟨q, 3, none⟩ = some (.bool b) := by
  obtain ⟨s0, k0, a0, n0, m0, b0, h0, h1, h2, h3⟩ := h.rq
  have hC : Cels W q [.int .u8 s0, .string k0, .slice a0 n0 m0, .bool b0] := fun j v hj => by
    match j, hj with
    | 0, hj => obtain rfl := Option.some.inj hj; exact h0
    | 1, hj => obtain rfl := Option.some.inj hj; exact h1
    | 2, hj => obtain rfl := Option.some.inj hj; exact h2
    | 3, hj => obtain rfl := Option.some.inj hj; exact h3
  have hD := (((hC.put 0 (.int .u8 s) (by simp)).put 1 (.string k) (by simp)).put 2 (.slice a n m) (by simp)).put 3 (.bool b) (by simp)
  exact ⟨_, rfl, ⟨(((h.rp.aside h.ne 0 _).aside h.ne 1 _).aside h.ne 2 _).aside h.ne 3 _, by simpa [World.setCell] using h.lp, ⟨s, k, a, n, m, b, hD 0 _ rfl, hD 1 _ rfl, hD 2 _ rfl, hD 3 _ rfl⟩, (((h.sq.put _ _).put _ _).put _ _).put _ _, by simpa [World.setCell] using h.lq, h.ne, h.gq, below_over h.B h.gq _ _ _ _⟩, hD 0 _ rfl, hD 1 _ rfl, hD 2 _ rfl, hD 3 _ rfl⟩
theorem ToC.start (w : World) (r : Ru) (A : Option Addr) (c : Nat) (t1 t2 : TypeId) :
    ToC w w.heap.size (w.heap.size + 1) r A c ((w.alloc (.cells #[.int .u8 (r.sort : Int), .string (ofL r.key), .slice A r.want.length c, .bool r.all] t1)).alloc (.cells #[.int .u8 0, .string ⟨#[]⟩, .slice none 0 0, .bool false] t2)) := by
  have e1 : (w.alloc (.cells #[.int .u8 (r.sort : Int), .string (ofL r.key), .slice A r.want.length c, .bool r.all] t1)).heap.size = w.heap.size + 1 := by simp
  have hb := (Below.refl (w.alloc (.cells #[.int .u8 (r.sort : Int), .string (ofL r.key), .slice A r.want.length c, .bool r.all] t1)).heap.size (w.alloc (.cells #[.int .u8 (r.sort : Int), .string (ofL r.key), .slice A r.want.length c, .bool r.all] t1))).alloc (Nat.le_refl _) (.cells #[.int .u8 0, .string ⟨#[]⟩, .slice none 0 0, .bool false] t2)
  refine ⟨(ruBox r A c w t1).on hb (by simp), by simp; omega, ⟨0, ⟨#[]⟩, none, 0, 0, false, ?_, ?_, ?_, ?_⟩, ?_, by simp, by omega, by omega, ((Below.refl _ _).alloc (Nat.le_refl _) _).alloc (by simp) _⟩
  · rw [← e1]; exact cell_new _ _ _ _ _ rfl
  · rw [← e1]; exact cell_new _ _ _ _ _ rfl
  · rw [← e1]; exact cell_new _ _ _ _ _ rfl
  · rw [← e1]; exact cell_new _ _ _ _ _ rfl
  · rw [← e1]; exact Soft.new _ _ _
end Go.Proofs.YtaikigponkjkgaaGreatDoor
end
section
namespace Go.Proofs.YtaikigponkjkgaaGreatDoor
structure Me where
  ch : UInt8
  kd : UInt8
  name : List UInt8
  other : List UInt8
  key : List UInt8
  head : List Hd.Pr
  body : List UInt8
  n : Nat
  m : Nat
  yes : Bool
deriving DecidableEq
namespace Me
def zero (c k : UInt8) : Me := ⟨c, k, [], [], [], [], [], 0, 0, false⟩
/-- what a kind tells, in the order of its bytes: 0 Name, 1 Other, 2 Key, 3 Head, 4 Body, 5 N, 6 M, 7 Yes -/
def tells (k : Nat) : List Nat :=
  match k with
  | 0 => [5]
  | 3 => [0, 5, 1]
  | 4 => [0]
  | 5 => [0, 5, 6, 1]
  | 6 => [0]
  | 7 => [0, 1, 2, 3, 7]
  | 8 => [0, 1, 2, 3, 7]
  | 9 => [0, 1, 2, 3, 7]
  | 10 => [0, 1, 2, 3, 7]
  | 11 => [0, 2, 3, 6, 4]
  | 12 => [5]
  | 13 => [0, 5]
  | 14 => [5]
  | 15 => [0]
  | 16 => [5, 6, 7]
  | _ => []
/-- what a kind tells, as the document says it -/
structure Has where
  name : Bool
  other : Bool
  lack : Bool
  key : Bool
  pat : Bool
  head : Bool
  body : Bool
  n : Bool
  m : Bool
  yes : Bool
def has (k : Nat) : Has :=
  match k with
  | 0 => ⟨false, false, false, false, false, false, false, true, false, false⟩
  | 3 => ⟨true, true, true, false, false, false, false, true, false, false⟩
  | 4 => ⟨true, false, false, false, false, false, false, false, false, false⟩
  | 5 => ⟨true, true, true, false, false, false, false, true, true, false⟩
  | 6 => ⟨true, false, false, false, false, false, false, false, false, false⟩
  | 7 => ⟨true, true, false, true, true, true, false, false, false, true⟩
  | 8 => ⟨true, true, false, true, true, true, false, false, false, true⟩
  | 9 => ⟨true, true, false, true, true, true, false, false, false, true⟩
  | 10 => ⟨true, true, false, true, true, true, false, false, false, true⟩
  | 11 => ⟨true, false, false, true, false, true, true, false, true, false⟩
  | 12 => ⟨false, false, false, false, false, false, false, true, false, false⟩
  | 13 => ⟨true, false, false, false, false, false, false, true, false, false⟩
  | 14 => ⟨false, false, false, false, false, false, false, true, false, false⟩
  | 15 => ⟨true, false, false, false, false, false, false, false, false, false⟩
  | 16 => ⟨false, false, false, false, false, false, false, true, true, true⟩
  | _ => ⟨false, false, false, false, false, false, false, false, false, false⟩
theorem tells_lt (k : Nat) : ∀ p ∈ tells k, p < 8 := by
  unfold tells
  split <;> intro p hp <;> simp at hp <;> omega
/-- is a part zero? -/
def lacks (x : Me) (p : Nat) : Bool :=
  if p = 0 then x.name == [] else if p = 1 then x.other == [] else if p = 2 then x.key == [] else if p = 3 then x.head.length == 0 else if p = 4 then x.body == [] else if p = 5 then x.n == 0 else if p = 6 then x.m == 0 else !x.yes
def ocode (x : Me) : Nat := if x.other = [] ∧ (x.kd.toNat = 3 ∨ x.kd.toNat = 5) then 0 else Wrd.nameCode x.other
def kcode (x : Me) : Nat := if x.kd.toNat = 11 then Wrd.keyCode [] x.key else Wrd.keyCode wild x.key
/-- what is wrong with a part -/
def pcode (x : Me) (p : Nat) : Nat :=
  if p = 0 then Wrd.nameCode x.name else if p = 1 then ocode x else if p = 2 then kcode x else if p = 3 then Hd.hcode x.head else if p = 4 then (if 256 < x.body.length then 5 else 0) else 0
/-- is something there that its kind doesn't tell? -/
def more (x : Me) : Bool := (List.range 8).any fun p => !(tells x.kd.toNat).contains p && !lacks x p
/-- the first code that isn't 0 -/
def firstc (f : Nat → Nat) : List Nat → Nat
  | [] => 0
  | p :: l => if f p ≠ 0 then f p else firstc f l
/-- what is wrong with a method -/
def code (x : Me) : Nat := if 20 < x.kd.toNat then 8 else if more x then 4 else firstc (pcode x) (tells x.kd.toNat)
theorem firstc_zero {f : Nat → Nat} {l : List Nat} (h : firstc f l = 0) : ∀ p ∈ l, f p = 0 := by
  induction l with
  | nil => intro p hp; simp at hp
  | cons a l ih =>
    rw [firstc] at h
    by_cases h0 : f a = 0
    · rw [if_neg (by omega)] at h
      intro p hp
      rcases List.mem_cons.1 hp with rfl | hp
      · exact h0
      · exact ih h p hp
    · rw [if_pos h0] at h; exact absurd h h0
theorem code_ok {x : Me} (h : code x = 0) : x.kd.toNat ≤ 20 ∧ more x = false ∧ ∀ p ∈ tells x.kd.toNat, pcode x p = 0 := by
  unfold code at h
  by_cases h1 : 20 < x.kd.toNat
  · rw [if_pos h1] at h; omega
  · rw [if_neg h1] at h
    cases hm : more x with
    | true => rw [hm] at h; simp at h
    | false =>
      rw [hm] at h
      exact ⟨by omega, rfl, firstc_zero (by simpa using h)⟩
/-- numbers that their types hold -/
structure Fits (x : Me) : Prop where
  n : x.n < 18446744073709551616
  m : x.m < 18446744073709551616
  head : ∀ p ∈ x.head, Hd.Fits p

/-! ### its bytes -/
def enc1 (x : Me) (p : Nat) : List UInt8 :=
  if p = 0 then Oct.text x.name else if p = 1 then Oct.text x.other else if p = 2 then Oct.text x.key else if p = 3 then Hd.henc x.head else if p = 4 then Oct.text x.body else if p = 5 then Oct.be 8 x.n else if p = 6 then Oct.be 8 x.m else if p = 7 then Pt.yesEnc x.yes else []
def enc (x : Me) : List UInt8 := (tells x.kd.toNat).flatMap (enc1 x)
def set1 (y x : Me) (p : Nat) : Me :=
  if p = 0 then {y with name := x.name} else if p = 1 then {y with other := x.other} else if p = 2 then {y with key := x.key} else if p = 3 then {y with head := x.head} else if p = 4 then {y with body := x.body} else if p = 5 then {y with n := x.n} else if p = 6 then {y with m := x.m} else if p = 7 then {y with yes := x.yes} else y
/-- the part that comes next -/
def rd1 (y : Me) (s : LSt) (p : Nat) : Me × LSt :=
  if p = 0 then ({y with name := lTextOut s 16}, lText s 16) else if p = 1 then ({y with other := lTextOut s 16}, lText s 16) else if p = 2 then ({y with key := lTextOut s 64}, lText s 64) else if p = 3 then ({y with head := (Hd.hread s).1}, (Hd.hread s).2) else if p = 4 then ({y with body := lTextOut s 256}, lText s 256) else if p = 5 then ({y with n := Oct.val (lOut s.1 8)}, lRaw s 8) else if p = 6 then ({y with m := Oct.val (lOut s.1 8)}, lRaw s 8) else if p = 7 then ({y with yes := Pt.yesOut s}, Pt.yesIn s) else (y, s)
def rdl (l : List Nat) (t : Me × LSt) : Me × LSt := l.foldl (fun t p => rd1 t.1 t.2 p) t
/-- all that is read of a frame's body -/
def rd (c k : UInt8) (b : List UInt8) : Me × LSt := rdl (tells k.toNat) (zero c k, (b, 0))
theorem key_len {bs : List (List UInt8)} {l : List UInt8} (h : Wrd.keyCode bs l = 0) : l.length ≤ 64 := by
  unfold Wrd.keyCode at h
  by_cases h1 : 64 < l.length
  · rw [if_pos h1] at h; omega
  · omega
theorem kcode_len {x : Me} (h : kcode x = 0) : x.key.length ≤ 64 := by
  unfold kcode at h
  split at h <;> exact key_len h
theorem ocode_len {x : Me} (h : ocode x = 0) : x.other.length ≤ 16 := by
  unfold ocode at h
  by_cases h1 : x.other = [] ∧ (x.kd.toNat = 3 ∨ x.kd.toNat = 5)
  · rw [h1.1]; simp
  · rw [if_neg h1] at h; exact (Hd.name_ok_len h).1
theorem lt8 {p : Nat} (h : p < 8) : p = 0 ∨ p = 1 ∨ p = 2 ∨ p = 3 ∨ p = 4 ∨ p = 5 ∨ p = 6 ∨ p = 7 := by omega
theorem rd1_front {x y : Me} {p : Nat} (hp : p < 8) (hf : Fits x) (h : pcode x p = 0) (r : List UInt8) : rd1 y (enc1 x p ++ r, 0) p = (set1 y x p, (r, 0)) := by
  rcases lt8 hp with rfl | rfl | rfl | rfl | rfl | rfl | rfl | rfl
  · have h0 : Wrd.nameCode x.name = 0 := h
    have t := Hd.text_front x.name r 16 (Hd.name_ok_len h0).1 (by decide)
    show ({y with name := lTextOut (Oct.text x.name ++ r, 0) ((16 : Nat) : Int)}, lText (Oct.text x.name ++ r, 0) ((16 : Nat) : Int)) = _
    rw [t.1, t.2]; rfl
  · have h0 : ocode x = 0 := h
    have t := Hd.text_front x.other r 16 (ocode_len h0) (by decide)
    show ({y with other := lTextOut (Oct.text x.other ++ r, 0) ((16 : Nat) : Int)}, lText (Oct.text x.other ++ r, 0) ((16 : Nat) : Int)) = _
    rw [t.1, t.2]; rfl
  · have h0 : kcode x = 0 := h
    have t := Hd.text_front x.key r 64 (kcode_len h0) (by decide)
    show ({y with key := lTextOut (Oct.text x.key ++ r, 0) ((64 : Nat) : Int)}, lText (Oct.text x.key ++ r, 0) ((64 : Nat) : Int)) = _
    rw [t.1, t.2]; rfl
  · have h0 : Hd.hcode x.head = 0 := h
    have t := Hd.hread_henc hf.head h0 r
    show ({y with head := (Hd.hread (Hd.henc x.head ++ r, 0)).1}, (Hd.hread (Hd.henc x.head ++ r, 0)).2) = _
    rw [t]; rfl
  · have h0 : (if 256 < x.body.length then 5 else 0) = 0 := h
    have hl : x.body.length ≤ 256 := by
      by_cases hh : 256 < x.body.length
      · rw [if_pos hh] at h0; omega
      · omega
    have t := Hd.text_front x.body r 256 hl (by decide)
    show ({y with body := lTextOut (Oct.text x.body ++ r, 0) ((256 : Nat) : Int)}, lText (Oct.text x.body ++ r, 0) ((256 : Nat) : Int)) = _
    rw [t.1, t.2]; rfl
  · have t := Pt.num_front hf.n r
    show ({y with n := Oct.val (lOut (Oct.be 8 x.n ++ r) 8)}, lRaw (Oct.be 8 x.n ++ r, 0) 8) = _
    rw [t.1, t.2]; rfl
  · have t := Pt.num_front hf.m r
    show ({y with m := Oct.val (lOut (Oct.be 8 x.m ++ r) 8)}, lRaw (Oct.be 8 x.m ++ r, 0) 8) = _
    rw [t.1, t.2]; rfl
  · have t := Pt.yes_front x.yes r
    show ({y with yes := Pt.yesOut (Pt.yesEnc x.yes ++ r, 0)}, Pt.yesIn (Pt.yesEnc x.yes ++ r, 0)) = _
    rw [t.1, t.2]; rfl
theorem rdl_front {x : Me} (hf : Fits x) : ∀ (l : List Nat) (y : Me) (r : List UInt8), (∀ p ∈ l, p < 8 ∧ pcode x p = 0) → rdl l (y, (l.flatMap (enc1 x) ++ r, 0)) = (l.foldl (fun y p => set1 y x p) y, (r, 0))
  | [], y, r, _ => rfl
  | p :: l, y, r, h => by
    have h0 := h p (by simp)
    rw [List.flatMap_cons, List.append_assoc]
    show rdl l (rd1 y (enc1 x p ++ (l.flatMap (enc1 x) ++ r), 0) p) = _
    rw [rd1_front h0.1 hf h0.2]
    exact rdl_front hf l _ r fun q hq => h q (by simp [hq])
theorem more_no {x : Me} (h : more x = false) {p : Nat} (hp : p < 8) (ht : (tells x.kd.toNat).contains p = false) : lacks x p = true := by
  unfold more at h
  rw [List.any_eq_false] at h
  have := h p (List.mem_range.2 hp)
  rw [ht] at this
  simpa using this
theorem le20 {k : Nat} (h : k ≤ 20) : k = 0 ∨ k = 1 ∨ k = 2 ∨ k = 3 ∨ k = 4 ∨ k = 5 ∨ k = 6 ∨ k = 7 ∨ k = 8 ∨ k = 9 ∨ k = 10 ∨ k = 11 ∨ k = 12 ∨ k = 13 ∨ k = 14 ∨ k = 15 ∨ k = 16 ∨ k = 17 ∨ k = 18 ∨ k = 19 ∨ k = 20 := by omega
/-- zero in what isn't told, the rest is set: it is the method -/
theorem set_all {x : Me} (h20 : x.kd.toNat ≤ 20) (h : more x = false) : (tells x.kd.toNat).foldl (fun y p => set1 y x p) (zero x.ch x.kd) = x := by
  have hn := fun (hp : (tells x.kd.toNat).contains 0 = false) => more_no h (p := 0) (by decide) hp
  have ho := fun (hp : (tells x.kd.toNat).contains 1 = false) => more_no h (p := 1) (by decide) hp
  have hk := fun (hp : (tells x.kd.toNat).contains 2 = false) => more_no h (p := 2) (by decide) hp
  have hh := fun (hp : (tells x.kd.toNat).contains 3 = false) => more_no h (p := 3) (by decide) hp
  have hb := fun (hp : (tells x.kd.toNat).contains 4 = false) => more_no h (p := 4) (by decide) hp
  have h5 := fun (hp : (tells x.kd.toNat).contains 5 = false) => more_no h (p := 5) (by decide) hp
  have h6 := fun (hp : (tells x.kd.toNat).contains 6 = false) => more_no h (p := 6) (by decide) hp
  have hy := fun (hp : (tells x.kd.toNat).contains 7 = false) => more_no h (p := 7) (by decide) hp
  obtain ⟨c, k, name, other, key, head, body, n, m, yes⟩ := x
  simp only [lacks] at *
  rcases le20 h20 with e | e | e | e | e | e | e | e | e | e | e | e | e | e | e | e | e | e | e | e | e <;> rw [e] at hn ho hk hh hb h5 h6 hy ⊢ <;> simp [tells, set1, zero] at hn ho hk hh hb h5 h6 hy ⊢ <;> simp [*]
/-- a method that may be, written, is read as it was -/
theorem rd_enc {x : Me} (hf : Fits x) (h : code x = 0) : rd x.ch x.kd (enc x) = (x, ([], 0)) := by
  obtain ⟨h20, hm, hc⟩ := code_ok h
  have := rdl_front hf (tells x.kd.toNat) (zero x.ch x.kd) [] fun p hp => ⟨tells_lt _ p hp, hc p hp⟩
  rw [List.append_nil, set_all h20 hm] at this
  exact this
/-! ### what was read is written so -/
theorem rd1_fits {y : Me} {s : LSt} {p : Nat} (h : Fits y) : Fits (rd1 y s p).1 := by
  have h8 : Oct.val (lOut s.1 8) < 18446744073709551616 := Nat.lt_of_lt_of_le (val_out_lt s.1 8) (by decide)
  obtain ⟨a, b, c⟩ := h
  unfold rd1
  repeat' split
  all_goals first | exact ⟨a, b, c⟩ | exact ⟨a, b, Hd.hread_fits s⟩ | exact ⟨h8, b, c⟩ | exact ⟨a, h8, c⟩
theorem rdl_fits : ∀ (l : List Nat) (t : Me × LSt), Fits t.1 → Fits (rdl l t).1
  | [], _, h => h
  | p :: l, t, h => rdl_fits l (rd1 t.1 t.2 p) (rd1_fits h)
theorem rd_fits (c k : UInt8) (b : List UInt8) : Fits (rd c k b).1 := rdl_fits _ _ ⟨(by decide : (0 : Nat) < 18446744073709551616), (by decide : (0 : Nat) < 18446744073709551616), fun p hp => by simp [zero] at hp⟩
end Me
end Go.Proofs.YtaikigponkjkgaaGreatDoor
end
