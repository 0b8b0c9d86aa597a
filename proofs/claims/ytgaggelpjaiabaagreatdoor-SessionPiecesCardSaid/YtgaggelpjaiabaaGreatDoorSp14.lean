/-
  WHAT THE WALKS OF METHODS AND REPLIES SHARE: an Out's box, rows beside written boxes, heads that were read. AN APPEND whose run is known, in a region of one order. slices.Clone OF PAIRS: the answer is memory of its own. BOOKS IN MEMORY: exchanges, bindings with their pairs. THE CHAPTER'S EXAMPLE, walked. THE CHAPTER's EXAMPLE; two heads held against each other: THE LAW HeadSame, walked. RULES HELD AGAINST EACH OTHER; the chapter's example: walked. A CELL carried on.
-/
import Derived.Test.YtgaggelpjaiabaaGreatDoorSp03
import Derived.Test.YtgaggelpjaiabaaGreatDoorSp04
import Derived.Test.YtgaggelpjaiabaaGreatDoorSp08
import Derived.Test.YtgaggelpjaiabaaGreatDoorSp09
import Derived.Test.YtgaggelpjaiabaaGreatDoorSp10
import Derived.Test.YtgaggelpjaiabaaGreatDoorSp12
import Derived.Test.YtgaggelpjaiabaaGreatDoorSp13
import Derived.Deep.RegionHeld3
import Derived.Deep.DeepCutAuto
section
namespace Go.Proofs.YtgaggelpjaiabaaGreatDoor
open Go.ChangeShapes Go.WideShapes Go.ChangeAt Go.RowKit
theorem OutB.zero {w W : World} (h : Below w.heap.size w W) (n : Nat) (hn : n = W.heap.size) (t : TypeId) : OutB w n [] (W.alloc (.cells #[.string ⟨#[]⟩, .int .i64 0] t)) := by
  subst hn
  exact OutB.new h [] t
theorem PrAt.aside {W : World} {b o : Nat} {x : Hd.Pr} (h : PrAt W b o x) {g : Nat} (hg : g ≠ b) (j : Nat) (v : Value) : PrAt (W.setCell ⟨g, j, none⟩ v) b o x :=
  ⟨(aside_cell hg _ _ _).trans h.c0, (aside_cell hg _ _ _).trans h.c1, (aside_cell hg _ _ _).trans h.c2, (aside_cell hg _ _ _).trans h.c3⟩
theorem Prs.aside {W : World} {A : Option Addr} {l : List Hd.Pr} (h : Prs W A l) {g : Nat} (hg : ∀ a, A = some a → g ≠ a.block) (j : Nat) (v : Value) : Prs (W.setCell ⟨g, j, none⟩ v) A l := ⟨fun i hi => by
  obtain ⟨b, off, rfl, hb, hat⟩ := h.at_ i hi
  exact ⟨b, off, rfl, by simpa [World.setCell] using hb, hat.aside (hg _ rfl) j v⟩⟩
/-- a number of cells of a block written, one behind the other -/
def putAll (q : Nat) : Nat → List Value → World → World
  | _, [], W => W
  | j, v :: vs, W => putAll q (j + 1) vs (W.setCell ⟨q, j, none⟩ v)
theorem Prs.putAll {A : Option Addr} {l : List Hd.Pr} {g : Nat} (hg : ∀ a, A = some a → g ≠ a.block) : ∀ (vs : List Value) (j : Nat) {W : World}, Prs W A l → Prs (putAll g j vs W) A l
  | [], _, _, h => h
  | v :: vs, j, _, h => Prs.putAll hg vs (j + 1) (h.aside hg j v)
theorem BoxC.putAll_aside {w : World} {c g : Nat} {xs : List Value} (hg : g ≠ c) : ∀ (vs : List Value) (j : Nat) {W : World}, BoxC w c xs W → BoxC w c xs (putAll g j vs W)
  | [], _, _, h => h
  | v :: vs, j, _, h => BoxC.putAll_aside hg vs (j + 1) (h.aside hg j v)
theorem rdr_putAll {b g : Nat} {R : LSt → World → Prop} (hR : Rder b R) {s : LSt} (hg : g ≠ b) : ∀ (vs : List Value) (j : Nat) {W : World}, R s W → R s (putAll g j vs W)
  | [], _, _, h => h
  | v :: vs, j, _, h => rdr_putAll hR hg vs (j + 1) (hR.put h hg j v)
theorem grown_putAll {a : World} {row : Option Nat} {g : Nat} (hg : a.heap.size ≤ g) : ∀ (vs : List Value) (j : Nat) {W : World}, a.grownBy W row → a.grownBy (putAll g j vs W) row
  | [], _, _, h => h
  | v :: vs, j, _, h => grown_putAll hg vs (j + 1) (grown_far h hg j v)
theorem below_putAll {w : World} {g : Nat} (hg : w.heap.size ≤ g) : ∀ (vs : List Value) (j : Nat) {W : World}, Below w.heap.size w W → Below w.heap.size w (putAll g j vs W)
  | [], _, _, h => h
  | v :: vs, j, _, h => below_putAll hg vs (j + 1) (h.setCell hg v)
theorem Parts.putAll {T : Option Addr} {l : List Nat} {g : Nat} (hg : ∀ a, T = some a → g ≠ a.block) : ∀ (vs : List Value) (j : Nat) {W : World}, Parts W T l → Parts (putAll g j vs W) T l
  | [], _, _, h => h
  | v :: vs, j, _, h => Parts.putAll hg vs (j + 1) (h.aside hg j v)
/-- all cells of a box written -/
theorem BoxC.fill {w W : World} {c : Nat} {xs : List Value} (h : BoxC w c xs W) : ∀ (vs : List Value), vs.length = xs.length → BoxC w c vs (Go.Proofs.YtgaggelpjaiabaaGreatDoor.putAll c 0 vs W) := by
  have gen : ∀ (vs us : List Value) (j : Nat) (W : World) (ts : List Value), ts.length = j → us.length = vs.length → BoxC w c (ts ++ us) W → BoxC w c (ts ++ vs) (Go.Proofs.YtgaggelpjaiabaaGreatDoor.putAll c j vs W) := by
    intro vs
    induction vs with
    | nil =>
      intro us j W ts _ hu hb
      rw [List.length_eq_zero_iff.1 hu] at hb
      exact hb
    | cons v vs ih =>
      intro us j W ts ht hu hb
      match us, hu with
      | u :: us, hu =>
        have h1 := hb.put j v (by rw [List.length_append, ht]; simp)
        have e : (ts ++ u :: us).set j v = (ts ++ [v]) ++ us := by
          rw [List.set_append_right _ _ (by omega), ht, Nat.sub_self]
          simp
        rw [e] at h1
        have := ih us (j + 1) (W.setCell ⟨c, j, none⟩ v) (ts ++ [v]) (by simp [ht]) (by simpa using hu) h1
        rw [List.append_assoc] at this
        exact this
  intro vs hv
  exact gen vs xs 0 W [] rfl hv.symm h
/-- what was read of a head is of a length that can be walked -/
theorem rds_low : ∀ (n : Nat) (h : List Hd.Pr) (s : LSt), (∀ p ∈ h, p.key.length ≤ 65536 ∧ p.txt.length ≤ 65536) → ∀ p ∈ (Hd.rds n h s).1, p.key.length ≤ 65536 ∧ p.txt.length ≤ 65536
  | 0, _, _, hf => hf
  | n + 1, h, s, hf => by
    unfold Hd.rds
    split
    · intro p hp; simp at hp
    · refine rds_low n _ _ fun p hp => ?_
      rcases List.mem_append.1 hp with hp | hp
      · exact hf p hp
      · rw [List.mem_singleton] at hp; subst hp; exact rd1_len s
theorem hread_low (s : LSt) : ∀ p ∈ (Hd.hread s).1, p.key.length ≤ 65536 ∧ p.txt.length ≤ 65536 := by
  unfold Hd.hread
  split
  · intro p hp; simp at hp
  · exact rds_low _ _ _ fun p hp => by simp at hp
theorem lite_of {l : List Hd.Pr} (h : ∀ p ∈ l, p.key.length ≤ 65536 ∧ p.txt.length ≤ 65536) : Lite l := fun i hi => by
  have := h (Hd.pr l i) (by rw [Hd.pr_at hi]; exact List.getElem_mem hi)
  omega
end Go.Proofs.YtgaggelpjaiabaaGreatDoor
end
section
namespace Go.Proofs.YtgaggelpjaiabaaGreatDoor
open Go.ChangeShapes Go.WideShapes Go.ChangeAt Go.RowKit
theorem wpList_append_run {P : Program} {ops : Array Oper} {rest : List Oper} {o : Oper} {a : Act} {w : World} {Q : Exit → Act → World → Prop} (hgd : o.guard = none) (s x : Operand) (t : TypeId)
    (ho : o.op = .call { callee := .builtin .append, args := #[s, x], argTypes := #[t, t] }) (v xv : Value) (hs : a.eval s = v) (hx : a.eval x = xv) {v' : Value} {w' : World}
    (hr : (Builtin.append_ #[t, t] o.type #[v, xv]).run P w = .ok v' w') (h : wpList P ops Q rest (a.put o.dst v') w') : wpList P ops Q (o :: rest) a w := by
  have hw : Region.wanted o (yielded ops a.tmps) = true := by simp [Region.wanted, hgd]
  unfold wpList
  rw [if_pos hw]
  refine Or.inl ?_
  have := step_append_run (ops := ops) (K := wpList P ops Q rest) (Q := Q) (E := True) hgd s x t ho v xv hs hx hr h
  rw [if_pos hw] at this
  exact this
end Go.Proofs.YtgaggelpjaiabaaGreatDoor
end
section
namespace Go.Proofs.YtgaggelpjaiabaaGreatDoor
open Go.ChangeShapes Go.WideShapes Go.ChangeAt Go.RowKit
/-- pairs in memory of one's own -/
def OwnPrs (B : Nat) (w : World) (A : Option Addr) (c : Nat) (l : List Hd.Pr) : Prop := w.ownsRow B 94 4 (.slice A l.length c) l.length (prs l)
theorem OwnPrs.row {B : Nat} {w : World} {A : Option Addr} {c : Nat} {l : List Hd.Pr} (h : OwnPrs B w A c l) : Prs w A l ∧ l.length ≤ c ∧ ∀ a, A = some a → B ≤ a.block ∧ a.block < w.heap.size := by
  obtain ⟨A2, c2, e2, hc, -, hP⟩ := rown_prs h
  obtain ⟨rfl, -, rfl⟩ := Value.slice.inj e2
  refine ⟨hP, hc, fun a ha => ?_⟩
  subst ha
  exact World.ownsRow.lt h a.block rfl
theorem OwnPrs.on {B : Nat} {w w' : World} {A : Option Addr} {c : Nat} {l : List Hd.Pr} (h : OwnPrs B w A c l) (hb : Below w.heap.size w w') : OwnPrs B w' A c l :=
  World.ownsRow.kept (row := none) h ⟨hb.os, hb.tape, hb.output, hb.size, fun k hk _ => hb.block k hk⟩ (by
    cases A with
    | none => exact Or.inl rfl
    | some a => exact Or.inr (by simp [Value.ownBlock]))
theorem OwnPrs.aside {B : Nat} {w : World} {A : Option Addr} {c : Nat} {l : List Hd.Pr} (h : OwnPrs B w A c l) {g : Nat} (hg : ∀ a, A = some a → g ≠ a.block) (j : Nat) (v : Value) : OwnPrs B (w.setCell ⟨g, j, none⟩ v) A c l :=
  World.ownsRow.kept (row := some g) h ⟨rfl, rfl, rfl, by simp [World.setCell], fun k _ hk => heap_setCell_other w ⟨g, j, none⟩ k v (fun e => hk (by simp [e]))⟩ (by
    cases A with
    | none => exact Or.inl rfl
    | some a => exact Or.inr (by simp only [Value.ownBlock, ne_eq, Option.some.injEq]; exact fun e => hg a rfl e.symm))
def ClOwn (l : List Hd.Pr) (w : World) (e : Ending) (w' : World) : Prop := ∃ A' c', e = .returned (.slice A' l.length c') ∧ OwnPrs w.heap.size w' A' c' l ∧ Below w.heap.size w w'
set_option maxRecDepth 100000 in
set_option maxHeartbeats 2000000 in
theorem cloneOwn_any (l : List Hd.Pr) (A : Option Addr) (c : Nat) (w : World) (hl : l.length ≤ 100000) (hc : l.length ≤ c) (hp : Prs w A l) : Calls Tryz.prog 74 #[.slice A l.length c] w (ClOwn l w) := by
  have qT : ∀ (w : World) (a : Option Addr) (n c n' c' : Nat), (binOp .eql 22 (.slice a n c) (.slice none n' c')).run Tryz.prog w = .ok (.bool a.isNone) w := fun w a n c n' c' => Lib.run_eql_slice_nil w _ _ a n c n' c' Tryz.underlying22
  cases A with
  | none =>
    have h0 : l = [] := by
      cases l with
      | nil => rfl
      | cons x t => obtain ⟨b, off, e, _⟩ := hp.at_ 0 (by simp); cases e
    subst h0
    go_enter Tryz.func74, Tryz.ntmps74
    go_wp2_with fail
    go_ret
    exact ⟨none, 0, rfl, World.ownsRow_nil _ _ _ _, Below.refl _ _⟩
  | some ad =>
    have hB4 : Below w.heap.size w (w.alloc (.cells #[] 94)) := (Below.refl _ _).alloc (Nat.le_refl _) _
    have hown4 : (w.alloc (.cells #[] 94)).ownsRow w.heap.size 94 4 (.slice (some ⟨w.heap.size, 0, none⟩) 0 0) 0 [] := World.ownsRow_made (e := 94) (size := 4) w #[] 0 (Nat.le_refl _) (by unfold maxLen; omega) rfl
    obtain ⟨A', c', w5, hrun, hown5, hgr5, hc5, hA5⟩ := copy_run (W := w.alloc (.cells #[] 94)) (l := l) (A := some ad) (c := c) hl hc (hp.on hB4) hown4 (by simp)
    have hs4 : (w.alloc (.cells #[] 94)).heap.size = w.heap.size + 1 := by simp
    have hB5 : Below w.heap.size w w5 := hB4.grown hgr5 (by rw [hs4]; omega) (fun k hk => by cases hk; omega)
    have HRUN := Lib.hid hrun
    have HE := Lib.hid (show ClOwn l w (.returned (.slice A' l.length c')) w5 from ⟨A', c', rfl, hown5, hB5⟩)
    clear hB4 hown4 hs4 hrun hown5 hgr5 hc5 hA5 hB5 hp
    go_enter Tryz.func74, Tryz.ntmps74
    go_wp2_with (first
      | (at_builtin; (refine wpList_append_run (by rfl) _ _ 22 (by rfl) _ _ (by rfl) (by rfl) HRUN.out ?_)))
    go_ret
    exact HE.out
end Go.Proofs.YtgaggelpjaiabaaGreatDoor
end
section
namespace Go.Proofs.YtgaggelpjaiabaaGreatDoor
open Go.ChangeShapes Go.WideShapes Go.ChangeAt Go.RowKit
/-- an element of a row of structs -/
theorem Rws.elt {α : Type} (f : α → List Value) (k : Nat) (hf : ∀ x, (f x).length = k) (hk : 0 < k) {w : World} {A : Option Addr} {l : List α} (h : Rws w A (l.flatMap f)) {i : Nat} (hi : i < l.length) :
    ∃ b off, A = some ⟨b, off, none⟩ ∧ b < w.heap.size ∧ ∀ j v, (f l[i])[j]? = some v → w.cell? ⟨b, off + i * k + j, none⟩ = some v := by
  obtain ⟨b, off, e, hlt, hc⟩ := Rws.lies h (by rw [Rw.flat_len f k hf]; exact Nat.mul_pos (by omega) hk)
  refine ⟨b, off, e, hlt, fun j v hv => ?_⟩
  have hj : j < k := by have := (List.getElem?_eq_some_iff.1 hv).1; rwa [hf] at this
  have := hc (i * k + j) v ((Rw.flat_get f k hf hk l i j hi hj).trans hv)
  rwa [← Nat.add_assoc] at this

def shL (x : Sh) : List Value := [.string (ofL x.name), .int .u8 (x.sort : Int), .string (ofL x.to)]
def shV (x : Sh) : Value := .agg #[.string (ofL x.name), .int .u8 (x.sort : Int), .string (ofL x.to)]
def shs (l : List Sh) : List Value := l.flatMap shL
theorem shs_len (l : List Sh) : (shs l).length = l.length * 3 := Rw.flat_len shL 3 (fun _ => rfl) l
theorem shs_app (l m : List Sh) : shs (l ++ m) = shs l ++ shs m := by simp [shs]
theorem shs_one1 (x : Sh) : shs [x] = shL x := by simp [shs]
theorem shs_get {w : World} {A : Option Addr} {l : List Sh} (h : Rws w A (shs l)) {i : Nat} (hi : i < l.length) :
    ∃ b off, A = some ⟨b, off, none⟩ ∧ b < w.heap.size ∧ ∀ j v, (shL l[i])[j]? = some v → w.cell? ⟨b, off + i * 3 + j, none⟩ = some v := Rws.elt shL 3 (fun _ => rfl) (by decide) h hi
/-- a binding, and where its pairs lie -/
structure Bp where
  x : Bd
  A : Option Addr
  c : Nat
def bdL (x : Bd) (A : Option Addr) (c : Nat) : List Value := [.string (ofL x.shop), .string (ofL x.to), .bool x.up, .string (ofL x.key), .slice A x.want.length c, .bool x.all]
def bdV (x : Bd) (A : Option Addr) (c : Nat) : Value := .agg #[.string (ofL x.shop), .string (ofL x.to), .bool x.up, .string (ofL x.key), .slice A x.want.length c, .bool x.all]
def bpL (p : Bp) : List Value := bdL p.x p.A p.c
def bps (l : List Bp) : List Value := l.flatMap bpL
theorem bps_len (l : List Bp) : (bps l).length = l.length * 6 := Rw.flat_len bpL 6 (fun _ => rfl) l
theorem bps_app (l m : List Bp) : bps (l ++ m) = bps l ++ bps m := by simp [bps]
theorem bps_one1 (p : Bp) : bps [p] = bpL p := by simp [bps]
theorem bps_get {w : World} {A : Option Addr} {l : List Bp} (h : Rws w A (bps l)) {i : Nat} (hi : i < l.length) :
    ∃ b off, A = some ⟨b, off, none⟩ ∧ b < w.heap.size ∧ ∀ j v, (bpL l[i])[j]? = some v → w.cell? ⟨b, off + i * 6 + j, none⟩ = some v := Rws.elt bpL 6 (fun _ => rfl) (by decide) h hi
/-- a binding that can be walked -/
structure BdOk (w : World) (x : Bd) (A : Option Addr) (c : Nat) : Prop where
  shop : x.shop.length ≤ 90000
  tol : x.to.length ≤ 90000
  key : x.key.length ≤ 90000
  len : x.want.length ≤ 100000
  cap : x.want.length ≤ c
  lite : Lite x.want
  row : Prs w A x.want
theorem BdOk.on {w w' : World} {x : Bd} {A : Option Addr} {c : Nat} (h : BdOk w x A c) (hb : Below w.heap.size w w') : BdOk w' x A c := ⟨h.shop, h.tol, h.key, h.len, h.cap, h.lite, h.row.on hb⟩
def bdRu (sort : Nat) (x : Bd) : Ru := ⟨sort, x.key, x.want, x.all⟩
theorem BdOk.ru {w : World} {x : Bd} {A : Option Addr} {c : Nat} (h : BdOk w x A c) (sort : Nat) : RuOk w (bdRu sort x) A c := ⟨h.key, h.len, h.cap, h.lite, h.row⟩
/-- exchanges lie there -/
structure Shs (w : World) (A : Option Addr) (l : List Sh) : Prop where
  row : Rws w A (shs l)
theorem Shs.on {w w' : World} {A : Option Addr} {l : List Sh} (h : Shs w A l) (hb : Below w.heap.size w w') : Shs w' A l := ⟨Rws.on h.row hb⟩
theorem Shs.nil (w : World) (A : Option Addr) : Shs w A [] := ⟨Rws.nil w A⟩
/-- bindings lie there, and their pairs -/
structure Bds (w : World) (A : Option Addr) (l : List Bp) : Prop where
  row : Rws w A (bps l)
  ok : ∀ p ∈ l, BdOk w p.x p.A p.c
theorem Bds.on {w w' : World} {A : Option Addr} {l : List Bp} (h : Bds w A l) (hb : Below w.heap.size w w') : Bds w' A l := ⟨Rws.on h.row hb, fun p hp => (h.ok p hp).on hb⟩
theorem Bds.nil (w : World) (A : Option Addr) : Bds w A [] := ⟨Rws.nil w A, fun _ h => by simp at h⟩
theorem bx_len {m : List Bp} {l : List Bd} (h : m.map Bp.x = l) : m.length = l.length := by rw [← h]; simp
/-- a book's value, and what it holds -/
structure BkAt (w : World) (A : Option Addr) (c : Nat) (B : Option Addr) (d : Nat) (b : Bk) (ps : List Bp) : Prop where
  xs : ps.map Bp.x = b.binds
  capA : b.shops.length ≤ c
  nilA : A = none → c = 0
  capB : ps.length ≤ d
  nilB : B = none → d = 0
  shs : Shs w A b.shops
  bds : Bds w B ps
theorem BkAt.on {w w' : World} {A : Option Addr} {c : Nat} {B : Option Addr} {d : Nat} {b : Bk} {ps : List Bp} (h : BkAt w A c B d b ps) (hb : Below w.heap.size w w') : BkAt w' A c B d b ps := ⟨h.xs, h.capA, h.nilA, h.capB, h.nilB, h.shs.on hb, h.bds.on hb⟩
def bkV (A : Option Addr) (c : Nat) (B : Option Addr) (d : Nat) (b : Bk) : Value := .agg #[.slice A b.shops.length c, .slice B b.binds.length d]
theorem BkAt.nil (w : World) : BkAt w none 0 none 0 Bk.empty [] := ⟨rfl, Nat.le_refl _, fun _ => rfl, Nat.le_refl _, fun _ => rfl, Shs.nil _ _, Bds.nil _ _⟩
theorem BkAt.len {w : World} {A : Option Addr} {c : Nat} {B : Option Addr} {d : Nat} {b : Bk} {ps : List Bp} (h : BkAt w A c B d b ps) : ps.length = b.binds.length := bx_len h.xs
/-- in which blocks a book lies -/
structure BkU (U : Nat → Prop) (w : World) (A B : Option Addr) (ps : List Bp) : Prop where
  a : ∀ x, A = some x → U x.block ∧ x.block < w.heap.size
  b : ∀ x, B = some x → U x.block ∧ x.block < w.heap.size
  p : ∀ q ∈ ps, q.x.want ≠ [] → ∀ x, q.A = some x → U x.block ∧ x.block < w.heap.size
theorem BkU.on {U : Nat → Prop} {w w' : World} {A B : Option Addr} {ps : List Bp} (h : BkU U w A B ps) (hb : w.heap.size ≤ w'.heap.size) : BkU U w' A B ps :=
  ⟨fun x hx => ⟨(h.a x hx).1, Nat.lt_of_lt_of_le (h.a x hx).2 hb⟩, fun x hx => ⟨(h.b x hx).1, Nat.lt_of_lt_of_le (h.b x hx).2 hb⟩, fun q hq hw x hx => ⟨(h.p q hq hw x hx).1, Nat.lt_of_lt_of_le (h.p q hq hw x hx).2 hb⟩⟩
theorem BkU.mono {U V : Nat → Prop} {w : World} {A B : Option Addr} {ps : List Bp} (h : BkU U w A B ps) (hv : ∀ g, U g → V g) : BkU V w A B ps :=
  ⟨fun x hx => ⟨hv _ (h.a x hx).1, (h.a x hx).2⟩, fun x hx => ⟨hv _ (h.b x hx).1, (h.b x hx).2⟩, fun q hq hw x hx => ⟨hv _ (h.p q hq hw x hx).1, (h.p q hq hw x hx).2⟩⟩
theorem BkU.self {U : Nat → Prop} {w : World} {A B : Option Addr} {ps : List Bp} (h : BkU U w A B ps) : BkU (fun g => U g ∧ g < w.heap.size) w A B ps :=
  ⟨fun x hx => ⟨h.a x hx, (h.a x hx).2⟩, fun x hx => ⟨h.b x hx, (h.b x hx).2⟩, fun q hq hw x hx => ⟨h.p q hq hw x hx, (h.p q hq hw x hx).2⟩⟩
theorem BkU.nil (U : Nat → Prop) (w : World) : BkU U w none none [] := ⟨(fun x h => by cases h), (fun x h => by cases h), (fun q h => by simp at h)⟩
theorem rwsPut {w : World} {A : Option Addr} {cs : List Value} {b : Nat} (h : Rws w A cs) (hne : ∀ a, A = some a → a.block ≠ b) (j : Nat) (v : Value) : Rws (w.setCell ⟨b, j, none⟩ v) A cs := ⟨fun i u hu => by
  obtain ⟨g, off, rfl, hlt, hc⟩ := h.at_ i u hu
  have hg : g ≠ b := hne _ rfl
  exact ⟨g, off, rfl, by simpa using hlt, (World.cell?_setCell_other _ _ _ _ (by intro e; simp only [Addr.mk.injEq] at e; omega)).trans hc⟩⟩
theorem BdOk.put {w : World} {x : Bd} {A : Option Addr} {c g : Nat} (h : BdOk w x A c) (hg : x.want ≠ [] → ∀ a, A = some a → a.block ≠ g) (j : Nat) (v : Value) : BdOk (w.setCell ⟨g, j, none⟩ v) x A c := by
  refine ⟨h.shop, h.tol, h.key, h.len, h.cap, h.lite, ?_⟩
  by_cases e : x.want = []
  · rw [e]; exact Prs.nil _ _
  · exact h.row.aside (fun a ha => Ne.symm (hg e a ha)) j v
theorem BkAt.put {U : Nat → Prop} {w : World} {A : Option Addr} {c : Nat} {B : Option Addr} {d : Nat} {b : Bk} {ps : List Bp} (h : BkAt w A c B d b ps) (hu : BkU U w A B ps) {g : Nat} (hg : ¬ U g) (j : Nat) (v : Value) : BkAt (w.setCell ⟨g, j, none⟩ v) A c B d b ps :=
  ⟨h.xs, h.capA, h.nilA, h.capB, h.nilB, ⟨rwsPut h.shs.row (fun a ha e => by have h9 := (hu.a a ha).1; rw [e] at h9; exact hg h9) j v⟩, ⟨rwsPut h.bds.row (fun a ha e => by have h9 := (hu.b a ha).1; rw [e] at h9; exact hg h9) j v, fun p hp => (h.bds.ok p hp).put (fun hw a ha e => by have h9 := (hu.p p hp hw a ha).1; rw [e] at h9; exact hg h9) j v⟩⟩
theorem BkU.put {U : Nat → Prop} {w : World} {A B : Option Addr} {ps : List Bp} (h : BkU U w A B ps) (g j : Nat) (v : Value) : BkU U (w.setCell ⟨g, j, none⟩ v) A B ps := h.on (by simp)
/-- what a call leaves that answers a book -/
def BkPost (U : Nat → Prop) (b : Bk) (code : Nat) (w : World) (e : Ending) (w' : World) : Prop := ∃ A c B d ps, e = .returned (.tuple #[bkV A c B d b, .int .i64 (code : Int)]) ∧ BkAt w' A c B d b ps ∧ BkU (fun g => U g ∨ w.heap.size ≤ g) w' A B ps ∧ Below w.heap.size w w'
theorem rtOne (w : World) (o : Obj) : Below w.heap.size w (w.alloc o) := (Below.refl _ _).alloc (Nat.le_refl _) _
theorem rtTwo (w : World) (o o' : Obj) : Below w.heap.size w ((w.alloc o).alloc o') := ((Below.refl _ _).alloc (Nat.le_refl _) _).alloc (by simp) _
theorem rtThree (w : World) (o o' o'' : Obj) : Below w.heap.size w (((w.alloc o).alloc o').alloc o'') := (((Below.refl _ _).alloc (Nat.le_refl _) _).alloc (by simp) _).alloc (by simp; omega) _
theorem rtAt0 (w : World) (c : Array Value) (t : TypeId) : BoxC w w.heap.size c.toList (w.alloc (.cells c t)) := BoxC.new (Nat.le_refl _) c t
theorem rtNext {w W : World} {c : Nat} {xs : List Value} (h : BoxC w c xs W) (o : Obj) : BoxC w c xs (W.alloc o) := h.on (rtOne W o)
theorem rtAt1 (w : World) (o : Obj) (c : Array Value) (t : TypeId) : BoxC w (w.heap.size + 1) c.toList ((w.alloc o).alloc (.cells c t)) := by
  have := BoxC.new (w := w) (W := w.alloc o) (by simp) c t
  rwa [show (w.alloc o).heap.size = w.heap.size + 1 by simp] at this
theorem rtAt2 (w : World) (o o' : Obj) (c : Array Value) (t : TypeId) : BoxC w (w.heap.size + 2) c.toList (((w.alloc o).alloc o').alloc (.cells c t)) := by
  have := BoxC.new (w := w) (W := (w.alloc o).alloc o') (by simp; omega) c t
  rwa [show ((w.alloc o).alloc o').heap.size = w.heap.size + 2 by simp] at this
theorem rtKept {w W W' : World} {c : Nat} {xs : List Value} {row : Option Nat} (h : BoxC w c xs W) (hg : W.grownBy W' row) (hne : some c ≠ row) : BoxC w c xs W' :=
  ⟨h.cs.grown hg hne, h.s.grown hg h.lt hne, Nat.lt_of_lt_of_le h.lt hg.size, h.ge⟩
theorem rtDrew {w W : World} {c : Nat} {xs : List Value} (h : BoxC w c xs W) : BoxC w c xs W.drew := h.on (Below.refl _ _).drew
theorem rtCell {b off : Nat} {w W : World} {v : Value} (hb : Below w.heap.size w W) (h : w.cell? ⟨b, off, none⟩ = some v) : W.cell? ⟨b, off, none⟩ = some v := (hb.cell (p := ⟨b, off, none⟩) (World.block_lt_of_cell? w _ h)).trans h
end Go.Proofs.YtgaggelpjaiabaaGreatDoor
end
section
namespace Go.Proofs.YtgaggelpjaiabaaGreatDoor
open Go.ChangeShapes Go.WideShapes Go.ChangeAt Go.RowKit
def exP : List UInt8 := [97, 46, 42, 46, 35]
def exA : List UInt8 := [97, 46, 98]
def exB : List UInt8 := [97, 46, 98, 46, 99, 46, 100]
def exC : List UInt8 := [97]
def exN : List UInt8 := [97, 45, 49]
theorem ex_a : Wrd.matches' (Wrd.words exP) (Wrd.words exA) = true := by rw [← Wrd.row_all]; decide
theorem ex_b : Wrd.matches' (Wrd.words exP) (Wrd.words exB) = true := by rw [← Wrd.row_all]; decide
theorem ex_c : Wrd.matches' (Wrd.words exP) (Wrd.words exC) = false := by rw [← Wrd.row_all]; decide
theorem ex_n : Wrd.nameCode exN = 0 := by decide
theorem ex_a_at (w : World) (hL : Len w) : Calls Tryz.prog 162 #[.string ⟨#[97, 46, 42, 46, 35]⟩, .string ⟨#[97, 46, 98]⟩] w fun e w' => e = .returned (.bool true) ∧ Below w.heap.size w w' := by
  have h := matches_any exP exA w (by decide) (by decide) hL
  rw [ex_a] at h
  exact h
theorem ex_b_at (w : World) (hL : Len w) : Calls Tryz.prog 162 #[.string ⟨#[97, 46, 42, 46, 35]⟩, .string ⟨#[97, 46, 98, 46, 99, 46, 100]⟩] w fun e w' => e = .returned (.bool true) ∧ Below w.heap.size w w' := by
  have h := matches_any exP exB w (by decide) (by decide) hL
  rw [ex_b] at h
  exact h
theorem ex_c_at (w : World) (hL : Len w) : Calls Tryz.prog 162 #[.string ⟨#[97, 46, 42, 46, 35]⟩, .string ⟨#[97]⟩] w fun e w' => e = .returned (.bool false) ∧ Below w.heap.size w w' := by
  have h := matches_any exP exC w (by decide) (by decide) hL
  rw [ex_c] at h
  exact h
theorem ex_n_at (w : World) : Calls Tryz.prog 130 #[.string ⟨#[97, 45, 49]⟩] w fun e w' => e = .returned (.int .i64 0) ∧ w = w' := by
  have h := name_any exN w (by decide)
  rw [ex_n] at h
  exact h
set_option maxHeartbeats 1000000 in
theorem wawake_any (w : World) (hL : Len w) : Calls Tryz.prog 160 #[] w fun e w' => e = .returned (.bool true) ∧ Below w.heap.size w w' := by
  have HA := Lib.hid (ex_a_at w hL)
  have HL := Lib.hid hL
  clear hL
  go_enter Tryz.func160, Tryz.ntmps160
  go_wp2_with fail
  refine HA.out.mono ?_
  rintro e w1 ⟨rfl, hB1⟩
  have HL1 := Lib.hid (HL.out.on hB1)
  have HB1 := Lib.hid hB1
  clear hB1
  go_wp2_with fail
  refine (ex_b_at _ HL1.out).mono ?_
  rintro e w2 ⟨rfl, hB⟩
  have HL2 := Lib.hid (HL1.out.on hB)
  have HB2 := Lib.hid (HB1.out.trans (hB.mono HB1.out.size))
  clear hB
  go_wp2_with fail
  refine (ex_c_at _ HL2.out).mono ?_
  rintro e w3 ⟨rfl, hB⟩
  have HB3 := Lib.hid (HB2.out.trans (hB.mono HB2.out.size))
  clear hB
  go_wp2_with fail
  refine (ex_n_at _).mono ?_
  rintro e w' ⟨rfl, rfl⟩
  go_wp2_with fail
  go_ret
  exact ⟨rfl, HB3.out⟩
end Go.Proofs.YtgaggelpjaiabaaGreatDoor
end
section
namespace Go.Proofs.YtgaggelpjaiabaaGreatDoor
open Go.ChangeShapes Go.WideShapes Go.ChangeAt Go.RowKit
theorem law4Awake_any (w : World) (hL : Len w) : Calls Tryz.prog 139 #[] w fun e w' => e = .returned (.bool true) ∧ Below w.heap.size w w' := by
  have HA := Lib.hid (wawake_any w hL)
  go_enter Tryz.func139, Tryz.ntmps139
  go_wp2_with fail
  refine HA.out.mono ?_
  rintro x w1 ⟨rfl, b1⟩
  have B1 := Lib.hid b1
  clear b1
  go_wp2_with fail
  go_ret
  exact ⟨rfl, B1.out⟩
theorem lite_nil : Lite [] := fun i hi => absurd hi (by simp)
theorem hbytes_nil (w : World) : Calls Tryz.prog 137 #[.slice none 0 0] w fun e w' => e = .returned (.tuple #[.string ⟨#[0]⟩, .int .i64 0]) ∧ Below w.heap.size w w' := by
  have h := hbytes_any [] none 0 w (by simp) (by simp) lite_nil (Prs.nil _ _)
  rw [show hbytesV [] = .tuple #[.string ⟨#[0]⟩, .int .i64 0] from rfl] at h
  exact h
set_option maxHeartbeats 1000000 in
theorem awake9_any (w : World) (hL : Len w) : Calls Tryz.prog 110 #[] w fun e w' => e = .returned (.bool true) ∧ Below w.heap.size w w' := by
  have HL := Lib.hid hL
  clear hL
  have he : (({ data := #[0] } : ByteArray).toList == [0]) = true := by rw [ByteArray.toList_eq]; rfl
  go_enter Tryz.func110, Tryz.ntmps110
  go_wp2_with fail
  refine (hbytes_nil _).mono ?_
  rintro e w1 ⟨rfl, b1⟩
  have HL1 := Lib.hid (HL.out.on b1)
  have HB1 := Lib.hid b1
  clear b1
  go_wp2_with fail
  refine (octAwake2_any _).mono ?_
  rintro e w2 ⟨rfl, b2⟩
  have HL2 := Lib.hid (HL1.out.on b2)
  have HB2 := Lib.hid (bthen HB1.out b2 (Nat.le_refl _))
  clear b2
  go_wp2_with fail
  refine (law4Awake_any _ HL2.out).mono ?_
  rintro e w3 ⟨rfl, b3⟩
  have HB3 := Lib.hid (bthen HB2.out b3 (Nat.le_refl _))
  clear b3
  go_wp2_with fail
  go_ret
  exact ⟨rfl, HB3.out⟩
end Go.Proofs.YtgaggelpjaiabaaGreatDoor
end
section
namespace Go.Proofs.YtgaggelpjaiabaaGreatDoor
open Go.ChangeShapes Go.WideShapes Go.ChangeAt Go.RowKit
def ruSame (r s : Ru) : Bool := (r.sort == s.sort) && (r.key == s.key) && (r.all == s.all) && decide (r.want = s.want)
set_option maxHeartbeats 4000000 in
theorem mSame_any (r s : Ru) (A : Option Addr) (c : Nat) (B : Option Addr) (d : Nat) (w : World) (hl : r.want.length ≤ 100000) (hm : s.want.length ≤ 100000) (hA : Prs w A r.want) (hB : Prs w B s.want) :
    Calls Tryz.prog 239 #[ruV r A c, ruV s B d] w fun e w' => e = .returned (.bool (ruSame r s)) ∧ Below w.heap.size w w' := by
  have HB0 := Lib.hid (show Below w.heap.size w ((w.alloc (.cells #[.int .u8 (r.sort : Int), .string (ofL r.key), .slice A r.want.length c, .bool r.all] 198)).alloc (.cells #[.int .u8 (s.sort : Int), .string (ofL s.key), .slice B s.want.length d, .bool s.all] 198)) from ((Below.refl _ _).alloc (Nat.le_refl _) _).alloc (by simp) _)
  have HPA := Lib.hid (hA.on HB0.out)
  have HPB := Lib.hid (hB.on HB0.out)
  have HW := Lib.hid (fun W h1 h2 => hsame_any r.want s.want A c B d W hl hm h1 h2)
  have HX : Hid (ruSame r s = ((r.sort == s.sort) && (r.key == s.key) && (r.all == s.all) && decide (r.want = s.want))) := rfl
  clear hA hB
  generalize decide (r.want = s.want) = M at *
  have h1 := cast_beq r.sort s.sort
  have h2 := str_same r.key s.key
  simp only [ruV]
  cases e1 : r.sort == s.sort with
  | false =>
    rw [e1] at h1
    have HC := Lib.hid (show ruSame r s = false by rw [HX.out, e1]; rfl)
    clear e1
    go_enter Tryz.func239, Tryz.ntmps239
    go_wp2_with fail
    go_ret
    exact ⟨ret_bool HC.out.symm, HB0.out⟩
  | true =>
    rw [e1] at h1
    cases e2 : r.key == s.key with
    | false =>
      rw [e2] at h2
      have HC := Lib.hid (show ruSame r s = false by rw [HX.out, e1, e2]; rfl)
      clear e1 e2
      go_enter Tryz.func239, Tryz.ntmps239
      go_wp2_with fail
      go_ret
      exact ⟨ret_bool HC.out.symm, HB0.out⟩
    | true =>
      rw [e2] at h2
      cases e3 : r.all == s.all with
      | false =>
        have HC := Lib.hid (show ruSame r s = false by rw [HX.out, e1, e2, e3]; rfl)
        clear e1 e2
        go_enter Tryz.func239, Tryz.ntmps239
        go_wp2_with fail
        go_ret
        exact ⟨ret_bool HC.out.symm, HB0.out⟩
      | true =>
        have HC := Lib.hid (show ruSame r s = M by rw [HX.out, e1, e2, e3]; simp)
        clear e1 e2
        go_enter Tryz.func239, Tryz.ntmps239
        go_wp2_with fail
        refine (HW.out _ HPA.out HPB.out).mono ?_
        rintro e w1 ⟨rfl, b1⟩
        have HB1 := Lib.hid (bthen HB0.out b1 (Nat.le_refl _))
        clear b1
        go_wp2_with fail
        go_ret
        exact ⟨ret_bool HC.out.symm, HB1.out⟩
def exR : Ru := ⟨2, [97, 46, 35], [], false⟩
theorem exR_code : ruCode exR = 0 := by decide
theorem exR_yes : goesB exR [97, 46, 98] [] = true := by rw [goes_2 rfl, ← Wrd.row_all]; decide
theorem exR_no : goesB exR [98] [] = false := by rw [goes_2 rfl, ← Wrd.row_all]; decide
theorem exR_ok (w : World) : RuOk w exR none 0 := ⟨by decide, by decide, by decide, lite_nil, Prs.nil _ _⟩
theorem ex_check (w : World) (hL : Len w) : Calls Tryz.prog 140 #[.agg #[.int .u8 2, .string ⟨#[97, 46, 35]⟩, .slice none 0 0, .bool false]] w fun e w' => e = .returned (.int .i64 0) ∧ Below w.heap.size w w' := by
  have h := mCheck_any exR none 0 w (exR_ok w) hL
  rw [exR_code] at h
  exact h
theorem ex_yes (w : World) (hL : Len w) : Calls Tryz.prog 141 #[.agg #[.int .u8 2, .string ⟨#[97, 46, 35]⟩, .slice none 0 0, .bool false], .string ⟨#[97, 46, 98]⟩, .slice none 0 0] w fun e w' => e = .returned (.bool true) ∧ Below w.heap.size w w' := by
  have h := mGoes_any exR none 0 [97, 46, 98] [] none 0 w (exR_ok w) (by decide) (by decide) (by decide) (Prs.nil _ _) hL
  rw [exR_yes] at h
  exact h
theorem ex_no (w : World) (hL : Len w) : Calls Tryz.prog 141 #[.agg #[.int .u8 2, .string ⟨#[97, 46, 35]⟩, .slice none 0 0, .bool false], .string ⟨#[98]⟩, .slice none 0 0] w fun e w' => e = .returned (.bool false) ∧ Below w.heap.size w w' := by
  have h := mGoes_any exR none 0 [98] [] none 0 w (exR_ok w) (by decide) (by decide) (by decide) (Prs.nil _ _) hL
  rw [exR_no] at h
  exact h
theorem law9Awake_any (w : World) (hL : Len w) : Calls Tryz.prog 70 #[] w fun e w' => e = .returned (.bool true) ∧ Below w.heap.size w w' := by
  have HA := Lib.hid (awake9_any w hL)
  go_enter Tryz.func70, Tryz.ntmps70
  go_wp2_with fail
  refine HA.out.mono ?_
  rintro x w1 ⟨rfl, b1⟩
  have B1 := Lib.hid b1
  clear b1
  go_wp2_with fail
  go_ret
  exact ⟨rfl, B1.out⟩
set_option maxHeartbeats 2000000 in
theorem awake10_any (w : World) (hL : Len w) : Calls Tryz.prog 106 #[] w fun e w' => e = .returned (.bool true) ∧ Below w.heap.size w w' := by
  have HB0 := Lib.hid (show Below w.heap.size w (w.alloc (.cells #[.int .u8 2, .string ⟨#[97, 46, 35]⟩, .slice none 0 0, .bool false] 198)) from (Below.refl _ _).alloc (Nat.le_refl _) _)
  have HC0 := Lib.hid (Cels.new w #[.int .u8 2, .string ⟨#[97, 46, 35]⟩, .slice none 0 0, .bool false] 198)
  have HL0 := Lib.hid (hL.on HB0.out)
  clear hL
  go_enter Tryz.func106, Tryz.ntmps106
  go_wp2_with fail
  generalize w.alloc (.cells #[.int .u8 2, .string ⟨#[97, 46, 35]⟩, .slice none 0 0, .bool false] 198) = w0 at *
  have hlt0 : w.heap.size < w0.heap.size := World.block_lt_of_cell? w0 _ (HC0.out 0 _ rfl)
  refine (law4Awake_any _ HL0.out).mono ?_
  rintro e w1 ⟨rfl, b1⟩
  have HL1 := Lib.hid (HL0.out.on b1)
  have HC1 := Lib.hid (HC0.out.on b1 hlt0)
  have HB1 := Lib.hid (bthen HB0.out b1 (Nat.le_refl _))
  have hlt1 : w.heap.size < w1.heap.size := Nat.lt_of_lt_of_le hlt0 b1.size
  clear b1 hlt0
  go_wp2_with fail
  refine (law9Awake_any _ HL1.out).mono ?_
  rintro e w2 ⟨rfl, b2⟩
  have HL2 := Lib.hid (HL1.out.on b2)
  have HC2 := Lib.hid (HC1.out.on b2 hlt1)
  have HB2 := Lib.hid (bthen HB1.out b2 (Nat.le_refl _))
  have hlt2 : w.heap.size < w2.heap.size := Nat.lt_of_lt_of_le hlt1 b2.size
  clear b2 hlt1
  have c0 := HC2.out 0 _ rfl
  have c1 := HC2.out 1 _ rfl
  have c2 := HC2.out 2 _ rfl
  have c3 := HC2.out 3 _ rfl
  go_wp2_with fail
  refine (ex_check _ HL2.out).mono ?_
  rintro e w3 ⟨rfl, b3⟩
  have HL3 := Lib.hid (HL2.out.on b3)
  have HC3 := Lib.hid (HC2.out.on b3 hlt2)
  have HB3 := Lib.hid (bthen HB2.out b3 (Nat.le_refl _))
  have hlt3 : w.heap.size < w3.heap.size := Nat.lt_of_lt_of_le hlt2 b3.size
  clear b3 hlt2 c0 c1 c2 c3
  have c0 := HC3.out 0 _ rfl
  have c1 := HC3.out 1 _ rfl
  have c2 := HC3.out 2 _ rfl
  have c3 := HC3.out 3 _ rfl
  go_wp2_with fail
  refine (ex_yes _ HL3.out).mono ?_
  rintro e w4 ⟨rfl, b4⟩
  have HL4 := Lib.hid (HL3.out.on b4)
  have HC4 := Lib.hid (HC3.out.on b4 hlt3)
  have HB4 := Lib.hid (bthen HB3.out b4 (Nat.le_refl _))
  have hlt4 : w.heap.size < w4.heap.size := Nat.lt_of_lt_of_le hlt3 b4.size
  clear b4 hlt3 c0 c1 c2 c3
  have c0 := HC4.out 0 _ rfl
  have c1 := HC4.out 1 _ rfl
  have c2 := HC4.out 2 _ rfl
  have c3 := HC4.out 3 _ rfl
  go_wp2_with fail
  refine (ex_no _ HL4.out).mono ?_
  rintro e w5 ⟨rfl, b5⟩
  have HB5 := Lib.hid (bthen HB4.out b5 (Nat.le_refl _))
  clear b5
  go_wp2_with fail
  go_ret
  exact ⟨rfl, HB5.out⟩
end Go.Proofs.YtgaggelpjaiabaaGreatDoor
end
section
namespace Go.Proofs.YtgaggelpjaiabaaGreatDoor
open Go.ChangeShapes Go.WideShapes Go.ChangeAt Go.RowKit
theorem cell_on {a a' : World} (hb : Below a.heap.size a a') {p : Addr} {v : Value} (h : a.cell? p = some v) : a'.cell? p = some v := (hb.cell (World.block_lt_of_cell? a _ h)).trans h
theorem below_put {B b j : Nat} {w w' : World} {v : Value} (hge : B ≤ b) (h : Below B w w') : Below B w (w'.setCell ⟨b, j, none⟩ v) := h.setCell (p := ⟨b, j, none⟩) hge v
end Go.Proofs.YtgaggelpjaiabaaGreatDoor
end
