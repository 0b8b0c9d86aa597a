/-
  THE BYTES THAT A SESSION TAKES: walked.
-/
import Derived.Test.YtgaggelpjaiabaaGreatDoorSp28

section
namespace Go.Proofs.YtgaggelpjaiabaaGreatDoor
open Go.ChangeShapes Go.WideShapes Go.ChangeAt Go.RowKit
theorem qsp29a (l : List Value) (i : Nat) (v : Value) : l.toArray.setIfInBounds i v = (l.set i v).toArray := by simp
theorem qsp29b (v u : Value) (l : List Value) : (v :: l).set 0 u = u :: l := rfl
theorem qsp29c (v u : Value) (n : Nat) (l : List Value) : (v :: l).set (n + 1) u = v :: l.set n u := rfl
theorem below_setCells3 {B : Nat} {w W : World} (h : Below B w W) {g : Nat} (hg : B ≤ g) (vs : List Value) (j : Nat) : Below B w (W.setCells g j vs) := by
  induction vs generalizing j W with
  | nil => exact h
  | cons v vs ih => exact ih (h.setCell (p := ⟨g, j, none⟩) hg v) (j + 1)
theorem cels_far {W W9 : World} {g B : Nat} {xs : List Value} (h : Cels W g xs) (hb : Below B W W9) (hg : g < B) : Cels W9 g xs := fun j v hj => (hb.cell (p := ⟨g, j, none⟩) hg).trans (h j v hj)
theorem me_got_lowS (c k : UInt8) (body : List UInt8) : MeLow (Me.got c k body) := by
  unfold Me.got
  split
  · exact me_rdl_low _ _ (me_zero_low c _)
  · exact me_zero_low 0 0
/-- the methods that some frames are, up to the first that is none; why that isn't one -/
def oks : List Fr.Frame → List Me × Int
  | [] => ([], 0)
  | f :: fs => if Me.rcode f.c f.k f.b = 0 then (Me.got f.c f.k f.b :: (oks fs).1, (oks fs).2) else ([], Me.rcode f.c f.k f.b)
theorem oks_ok {f : Fr.Frame} {fs : List Fr.Frame} (h : Me.rcode f.c f.k f.b = 0) : oks (f :: fs) = (Me.got f.c f.k f.b :: (oks fs).1, (oks fs).2) := if_pos h
theorem oks_no {f : Fr.Frame} {fs : List Fr.Frame} (h : Me.rcode f.c f.k f.b ≠ 0) : oks (f :: fs) = ([], Me.rcode f.c f.k f.b) := if_neg h
theorem oks_append (a b : List Fr.Frame) : oks (a ++ b) = if (oks a).2 = 0 then ((oks a).1 ++ (oks b).1, (oks b).2) else oks a := by
  induction a with
  | nil => exact (if_pos rfl).symm
  | cons f a ih =>
    by_cases h : Me.rcode f.c f.k f.b = 0
    · rw [List.cons_append, oks_ok h, oks_ok h, ih]
      by_cases h2 : (oks a).2 = 0
      · rw [if_pos h2, if_pos h2]
        rfl
      · rw [if_neg h2, if_neg h2]
    · rw [List.cons_append, oks_no h, oks_no h, if_neg h]
theorem oks_low (l : List Fr.Frame) : ∀ x ∈ (oks l).1, MeLow x := by
  induction l with
  | nil => intro x hx; simp [oks] at hx
  | cons f l ih =>
    by_cases h : Me.rcode f.c f.k f.b = 0
    · rw [oks_ok h]
      intro x hx
      rcases List.mem_cons.1 hx with rfl | hx
      · exact me_got_lowS _ _ _
      · exact ih x hx
    · rw [oks_no h]
      intro x hx
      simp at hx
theorem tab_onS {w w' : World} (h : Tab w) (hb : Below w.heap.size w w') : Tab w' := h.below hb h.pos
/-- methods in memory -/
structure Mq where
  x : Me
  A : Option Addr
  c : Nat
def mqL (p : Mq) : List Value := meL p.x p.A p.c
structure Mqs (w : World) (A : Option Addr) (l : List Mq) : Prop where
  row : Rws w A (l.flatMap mqL)
  ok : ∀ p ∈ l, Prs w p.A p.x.head
theorem Mqs.on {w w' : World} {A : Option Addr} {l : List Mq} (h : Mqs w A l) (hb : Below w.heap.size w w') : Mqs w' A l := ⟨Rws.on h.row hb, fun p hp => (h.ok p hp).on hb⟩
theorem mqs_len (l : List Mq) : (l.flatMap mqL).length = l.length * 10 := Rw.flat_len mqL 10 (fun _ => rfl) l
theorem mq_one (p : Mq) : ∀ u ∈ mqL p, u.oneCell' = true := by
  unfold mqL meL
  intro v hv
  simp only [List.mem_cons, List.not_mem_nil, or_false] at hv
  rcases hv with rfl | rfl | rfl | rfl | rfl | rfl | rfl | rfl | rfl | rfl <;> rfl
theorem mqs_one (l : List Mq) : ∀ u ∈ l.flatMap mqL, u.oneCell' = true := by
  intro u hu
  obtain ⟨p, _, h⟩ := List.mem_flatMap.1 hu
  exact mq_one p u h
theorem Prs.grownN {w w' : World} {A : Option Addr} {l : List Hd.Pr} {row : Option Nat} (h : Prs w A l) (hg : w.grownBy w' row) (hne : l ≠ [] → ∀ a, A = some a → some a.block ≠ row) : Prs w' A l := by
  cases l with
  | nil => exact Prs.nil _ _
  | cons x t => exact h.grown hg (hne (by simp))
theorem prs_lt {w : World} {A : Option Addr} {l : List Hd.Pr} (h : Prs w A l) (hl : l ≠ []) : ∀ a, A = some a → a.block < w.heap.size := by
  intro a ha
  cases l with
  | nil => exact absurd rfl hl
  | cons x t =>
    obtain ⟨b, off, e, hb, -⟩ := h.at_ 0 (by simp)
    rw [ha] at e
    cases e
    exact hb
theorem frmsPut {W : World} {A : Option Addr} {l : List Fr.Frame} {g : Nat} (h : Frms W A l) (hne : ∀ a, A = some a → a.block ≠ g) (j : Nat) (v : Value) : Frms (W.setCell ⟨g, j, none⟩ v) A l := ⟨fun i hi => by
  obtain ⟨b, off, rfl, hlt, h0, h1, h2⟩ := h.at_ i hi
  have hg : b ≠ g := hne _ rfl
  exact ⟨b, off, rfl, by simpa using hlt, ⟨(World.cell?_setCell_other _ _ _ _ (by intro e; simp only [Addr.mk.injEq] at e; omega)).trans h0, (World.cell?_setCell_other _ _ _ _ (by intro e; simp only [Addr.mk.injEq] at e; omega)).trans h1, (World.cell?_setCell_other _ _ _ _ (by intro e; simp only [Addr.mk.injEq] at e; omega)).trans h2⟩⟩⟩
theorem ownRow_onS {w w' : World} {base : Nat} {e : TypeId} {sz n : Nat} {v : Value} {xs : List Value} (h : w.ownsRow base e sz v n xs) (hb : Below w.heap.size w w') : w'.ownsRow base e sz v n xs :=
  World.ownsRow.kept (row := none) h ⟨hb.os, hb.tape, hb.output, hb.size, fun k hk _ => hb.block k hk⟩ (by
    cases hv : v.ownBlock with
    | none => exact Or.inl rfl
    | some a => exact Or.inr (by simp))
theorem infoMeS : (Tryz.prog.info? 25).map (fun i => (i.zero, i.size, i.bytes)) = some (some (.agg #[.int .u8 0, .int .u8 0, .string ⟨#[]⟩, .string ⟨#[]⟩, .string ⟨#[]⟩, .slice none 0 0, .string ⟨#[]⟩, .int .u64 0, .int .u64 0, .bool false]), 10, 120) := by kernel_rfl
theorem prs_setCellsN {W : World} {A : Option Addr} {l : List Hd.Pr} (h : Prs W A l) {g : Nat} (hg : l ≠ [] → ∀ a, A = some a → a.block ≠ g) (vs : List Value) (j : Nat) : Prs (W.setCells g j vs) A l := by
  induction vs generalizing j W with
  | nil => exact h
  | cons v vs ih =>
    cases l with
    | nil => exact Prs.nil _ _
    | cons x t => exact ih (h.aside (fun a ha e => hg (by simp) a ha e.symm) j v) (j + 1)
theorem rws_setCellsN {W : World} {A : Option Addr} {cs : List Value} (h : Rws W A cs) {g : Nat} (hg : ∀ a, A = some a → a.block ≠ g) (vs : List Value) (j : Nat) : Rws (W.setCells g j vs) A cs := by
  induction vs generalizing j W with
  | nil => exact h
  | cons v vs ih => exact ih (rwsPut h hg j v) (j + 1)
theorem mqs_setCells {W : World} {A : Option Addr} {q : List Mq} (h : Mqs W A q) {g : Nat} (hA : ∀ a, A = some a → a.block ≠ g) (hq : ∀ p ∈ q, p.x.head ≠ [] → ∀ a, p.A = some a → a.block ≠ g) (vs : List Value) (j : Nat) : Mqs (W.setCells g j vs) A q :=
  ⟨rws_setCellsN h.row hA vs j, fun p hp => prs_setCellsN (h.ok p hp) (hq p hp) vs j⟩
/-- what the loop keeps of the row -/
structure TkG (w : World) (v : Value) (k : Nat) (q : List Mq) (W : World) : Prop where
  own : W.ownsRow w.heap.size 25 10 v k (q.flatMap mqL)
  ok : ∀ p ∈ q, Prs W p.A p.x.head
  ne : ∀ p ∈ q, p.x.head ≠ [] → ∀ a, p.A = some a → ∀ b, v.ownBlock = some b → a.block ≠ b
  ge : ∀ p ∈ q, p.x.head ≠ [] → ∀ a, p.A = some a → w.heap.size ≤ a.block
/-- it lies in new blocks -/
def FarQ (s : Nat) (A : Option Addr) (q : List Mq) : Prop := (∀ a, A = some a → s ≤ a.block) ∧ ∀ p ∈ q, p.x.head ≠ [] → ∀ a, p.A = some a → s ≤ a.block
theorem far_ne {s g : Nat} {A : Option Addr} {q : List Mq} (h : FarQ s A q) (hg : g < s) : (∀ a, A = some a → a.block ≠ g) ∧ ∀ p ∈ q, p.x.head ≠ [] → ∀ a, p.A = some a → a.block ≠ g :=
  ⟨fun a ha => by have := h.1 a ha; omega, fun p hp hh a ha => by have := h.2 p hp hh a ha; omega⟩
def stC (R : List Fr.Frame × List UInt8 × Nat) : Int := if (oks R.1).2 ≠ 0 then (oks R.1).2 else (R.2.2 : Int)
def SeTkPost (p : List UInt8) (b : Bool) (R : List Fr.Frame × List UInt8 × Nat) (w : World) (e : Ending) (w' : World) : Prop :=
  ∃ A c q, e = .returned (.tuple #[seV p R.2.1 R.2.2 b false, .slice A q.length c, .int .i64 (stC R)]) ∧ q.length ≤ c ∧ q.map Mq.x = (oks R.1).1 ∧ Mqs w' A q ∧ FarQ w.heap.size A q ∧ Below w.heap.size w w'
def SeTkSt (w : World) (R : List Fr.Frame × List UInt8 × Nat) (n g : Nat) (v i : Value) (wr : World) : Prop :=
  ∃ k : Nat, k + g = n ∧ i = .int .i64 (k : Int) ∧ ∃ q : List Mq, q.length = k ∧ oks R.1 = (q.map Mq.x ++ (oks (R.1.drop k)).1, (oks (R.1.drop k)).2) ∧ TkG w v k q wr ∧ Below w.heap.size w wr
set_option maxRecDepth 100000 in
set_option maxHeartbeats 32000000 in
theorem seTake_any (p r s : List UInt8) (b : Bool) (w : World) (hl : r.length + s.length ≤ 100000) (hT : Tab w) (hL : Len w) :
    Calls Tryz.prog 15 #[seV p r 0 b false, .string (ofL s)] w (SeTkPost p b (Fr.feed (r ++ s)) w) := by
  have HF := Lib.hid (fun W h => take_ok r s W hl h)
  have HNB := Lib.hid (show (Fr.feed (r ++ s)).1.length ≤ 100000 by have := Fr.feed_count (r ++ s); rw [List.length_append] at this; omega)
  have HT := Lib.hid hT
  have HL0 := Lib.hid hL
  have HX2 := Lib.hid (rtNext (rtAt0 w #[.string (ofL p), .string (ofL r), .int .i64 ((0 : Nat) : Int), .bool b, .bool false, .int .i64 0, .slice none 0 0, .slice none 0 0, .bool false, .int .u64 0, .bool false, .slice none 0 0, .bool false, .int .i64 0, .slice none 0 0, .slice none 0 0, .bool false, .int .u64 0, .bool false, .slice none 0 0, .bool false, .int .i64 0, .slice none 0 0, .slice none 0 0, .bool false, .int .u64 0, .bool false, .slice none 0 0, .bool false, .int .i64 0, .slice none 0 0, .slice none 0 0, .bool false, .int .u64 0, .bool false, .slice none 0 0, .bool false] 45) (.cells #[.string ⟨#[]⟩, .string ⟨#[]⟩, .int .i64 0, .bool false, .bool false, .int .i64 0, .slice none 0 0, .slice none 0 0, .bool false, .int .u64 0, .bool false, .slice none 0 0, .bool false, .int .i64 0, .slice none 0 0, .slice none 0 0, .bool false, .int .u64 0, .bool false, .slice none 0 0, .bool false, .int .i64 0, .slice none 0 0, .slice none 0 0, .bool false, .int .u64 0, .bool false, .slice none 0 0, .bool false, .int .i64 0, .slice none 0 0, .slice none 0 0, .bool false, .int .u64 0, .bool false, .slice none 0 0, .bool false] 45))
  have HZ2 := Lib.hid (rtAt1 w (.cells #[.string (ofL p), .string (ofL r), .int .i64 ((0 : Nat) : Int), .bool b, .bool false, .int .i64 0, .slice none 0 0, .slice none 0 0, .bool false, .int .u64 0, .bool false, .slice none 0 0, .bool false, .int .i64 0, .slice none 0 0, .slice none 0 0, .bool false, .int .u64 0, .bool false, .slice none 0 0, .bool false, .int .i64 0, .slice none 0 0, .slice none 0 0, .bool false, .int .u64 0, .bool false, .slice none 0 0, .bool false, .int .i64 0, .slice none 0 0, .slice none 0 0, .bool false, .int .u64 0, .bool false, .slice none 0 0, .bool false] 45) #[.string ⟨#[]⟩, .string ⟨#[]⟩, .int .i64 0, .bool false, .bool false, .int .i64 0, .slice none 0 0, .slice none 0 0, .bool false, .int .u64 0, .bool false, .slice none 0 0, .bool false, .int .i64 0, .slice none 0 0, .slice none 0 0, .bool false, .int .u64 0, .bool false, .slice none 0 0, .bool false, .int .i64 0, .slice none 0 0, .slice none 0 0, .bool false, .int .u64 0, .bool false, .slice none 0 0, .bool false, .int .i64 0, .slice none 0 0, .slice none 0 0, .bool false, .int .u64 0, .bool false, .slice none 0 0, .bool false] 45)
  have HB2 := Lib.hid (rtTwo w (.cells #[.string (ofL p), .string (ofL r), .int .i64 ((0 : Nat) : Int), .bool b, .bool false, .int .i64 0, .slice none 0 0, .slice none 0 0, .bool false, .int .u64 0, .bool false, .slice none 0 0, .bool false, .int .i64 0, .slice none 0 0, .slice none 0 0, .bool false, .int .u64 0, .bool false, .slice none 0 0, .bool false, .int .i64 0, .slice none 0 0, .slice none 0 0, .bool false, .int .u64 0, .bool false, .slice none 0 0, .bool false, .int .i64 0, .slice none 0 0, .slice none 0 0, .bool false, .int .u64 0, .bool false, .slice none 0 0, .bool false] 45) (.cells #[.string ⟨#[]⟩, .string ⟨#[]⟩, .int .i64 0, .bool false, .bool false, .int .i64 0, .slice none 0 0, .slice none 0 0, .bool false, .int .u64 0, .bool false, .slice none 0 0, .bool false, .int .i64 0, .slice none 0 0, .slice none 0 0, .bool false, .int .u64 0, .bool false, .slice none 0 0, .bool false, .int .i64 0, .slice none 0 0, .slice none 0 0, .bool false, .int .u64 0, .bool false, .slice none 0 0, .bool false, .int .i64 0, .slice none 0 0, .slice none 0 0, .bool false, .int .u64 0, .bool false, .slice none 0 0, .bool false] 45))
  clear hl hT hL
  obtain ⟨R, hR⟩ : ∃ R, R = Fr.feed (r ++ s) := ⟨_, rfl⟩
  rw [← hR] at HF HNB ⊢
  clear hR
  simp only [seV]
  go_enter Tryz.func15, Tryz.ntmps15
  go_upto_region 1 with fail
  generalize (w.alloc (.cells #[.string (ofL p), .string (ofL r), .int .i64 ((0 : Nat) : Int), .bool b, .bool false, .int .i64 0, .slice none 0 0, .slice none 0 0, .bool false, .int .u64 0, .bool false, .slice none 0 0, .bool false, .int .i64 0, .slice none 0 0, .slice none 0 0, .bool false, .int .u64 0, .bool false, .slice none 0 0, .bool false, .int .i64 0, .slice none 0 0, .slice none 0 0, .bool false, .int .u64 0, .bool false, .slice none 0 0, .bool false, .int .i64 0, .slice none 0 0, .slice none 0 0, .bool false, .int .u64 0, .bool false, .slice none 0 0, .bool false] 45)).alloc (.cells #[.string ⟨#[]⟩, .string ⟨#[]⟩, .int .i64 0, .bool false, .bool false, .int .i64 0, .slice none 0 0, .slice none 0 0, .bool false, .int .u64 0, .bool false, .slice none 0 0, .bool false, .int .i64 0, .slice none 0 0, .slice none 0 0, .bool false, .int .u64 0, .bool false, .slice none 0 0, .bool false, .int .i64 0, .slice none 0 0, .slice none 0 0, .bool false, .int .u64 0, .bool false, .slice none 0 0, .bool false, .int .i64 0, .slice none 0 0, .slice none 0 0, .bool false, .int .u64 0, .bool false, .slice none 0 0, .bool false] 45) = w2 at *
  have c1 := HX2.out.cs 1 _ rfl
  have c2 := HX2.out.cs 2 _ rfl
  have c4 := HX2.out.cs 4 _ rfl
  have cl := HX2.out.lt
  go_wp2_with fail
  refine (HF.out _ (tab_onS HT.out HB2.out)).mono ?_
  rintro e w3 ⟨AF, cF, rfl, hcF, -, hFr, hAF, b3⟩
  simp only [TakeV]
  have HFR3 := Lib.hid hFr
  have HAF := Lib.hid (show ∀ a, AF = some a → w.heap.size + 2 ≤ a.block from fun a ha => by have h1 := hAF a ha; have h2 := HX2.out.lt; have h3 := HZ2.out.lt; omega)
  have HX3 := Lib.hid (HX2.out.on b3)
  have HZ3 := Lib.hid (HZ2.out.on b3)
  have HB3 := Lib.hid (bthen HB2.out b3 (Nat.le_refl _))
  clear hcF hFr hAF b3 c1 c2 c4 cl
  have HX4 := Lib.hid (HX3.out.on (rtOne w3 (.cells #[.string (ofL R.2.1), .int .i64 (R.2.2 : Int)] 33)))
  have HZ4 := Lib.hid (HZ3.out.on (rtOne w3 (.cells #[.string (ofL R.2.1), .int .i64 (R.2.2 : Int)] 33)))
  have HB4 := Lib.hid (bthen HB3.out (rtOne w3 (.cells #[.string (ofL R.2.1), .int .i64 (R.2.2 : Int)] 33)) (Nat.le_refl _))
  have HFR4 := Lib.hid (HFR3.out.on (rtOne w3 (.cells #[.string (ofL R.2.1), .int .i64 (R.2.2 : Int)] 33)))
  have HE4 := Lib.hid (BoxC.new (w := w) (W := w3) HB3.out.size #[.string (ofL R.2.1), .int .i64 (R.2.2 : Int)] 33)
  go_upto_region 4 with fail
  have HG4 := Lib.hid (show w.heap.size + 1 < w3.heap.size from HZ3.out.lt)
  clear HX3 HZ3 HB3 HFR3 HX2 HZ2 HB2
  generalize hg3 : w3.heap.size = g3 at *
  try rw [hg3]
  generalize w3.alloc (.cells #[.string (ofL R.2.1), .int .i64 (R.2.2 : Int)] 33) = w4 at *
  have c1 := HX4.out.cs 1 _ rfl
  have c2 := HX4.out.cs 2 _ rfl
  have cl := HX4.out.lt
  have cf := HX4.out.s
  unfold Soft at cf
  have e0 := HE4.out.cs 0 _ rfl
  have e1 := HE4.out.cs 1 _ rfl
  have el := HE4.out.lt
  obtain ⟨n, hn⟩ : ∃ n, n = R.1.length := ⟨_, rfl⟩
  rw [← hn]
  rw [← hn] at HNB
  have HN := Lib.hid hn
  have hs5 := (HX4.out.put 1 (.string (ofL R.2.1)) (by show _ < 37; omega)).put 2 (.int .i64 (R.2.2 : Int)) (by show _ < 37; omega)
  have HX5 := Lib.hid (show BoxC w w.heap.size (seL p R.2.1 R.2.2 b false) ((w4.setCell ⟨w.heap.size, 1, none⟩ (.string (ofL R.2.1))).setCell ⟨w.heap.size, 2, none⟩ (.int .i64 (R.2.2 : Int))) from hs5)
  have HZ5 := Lib.hid ((HZ4.out.aside (g := w.heap.size) (by omega) 1 (.string (ofL R.2.1))).aside (g := w.heap.size) (by omega) 2 (.int .i64 (R.2.2 : Int)))
  have HFR5 := Lib.hid (frmsPut (g := w.heap.size) (frmsPut (g := w.heap.size) HFR4.out (fun a ha => by have := HAF.out a ha; omega) 1 (.string (ofL R.2.1))) (fun a ha => by have := HAF.out a ha; omega) 2 (.int .i64 (R.2.2 : Int)))
  have HB5 := Lib.hid ((HB4.out.setCell (p := ⟨w.heap.size, 1, none⟩) (Nat.le_refl _) (.string (ofL R.2.1))).setCell (p := ⟨w.heap.size, 2, none⟩) (Nat.le_refl _) (.int .i64 (R.2.2 : Int)))
  clear hn hs5 HX4 HZ4 HB4 HFR4 HE4
  go_upto_region 6 with fail
  generalize (w4.setCell ⟨w.heap.size, 1, none⟩ (.string (ofL R.2.1))).setCell ⟨w.heap.size, 2, none⟩ (.int .i64 (R.2.2 : Int)) = w5 at *
  clear c1 c2 cl cf e0 e1 el
  have HS0 := Lib.hid (show SeTkSt w5 R n n (.slice none 0 0) (.int .i64 ((0 : Nat) : Int)) w5 from ⟨0, by omega, rfl, [], rfl, by simp, ⟨World.ownsRow_nil _ _ _ _, fun p hp => by simp at hp, fun p hp => by simp at hp, fun p hp => by simp at hp⟩, Below.refl _ _⟩)
  go_wp2_with fail
  go_loopg [9, 13, 28] n (fun g v _ i wr => SeTkSt w5 R n g v i wr)
  case atStart => exact HS0.out
  case round =>
    obtain ⟨k, hk, rfl, q, hq, hoks, hG, hBW⟩ := hrel
    obtain ⟨A9, c9, rfl, hc9, hn9, hr9, hb9⟩ := Rws.of_own hG.own
    have HC9 := Lib.hid hc9
    have HR9 := Lib.hid hr9
    have HB9 := Lib.hid hb9
    have HK := Lib.hid hk
    have HQ := Lib.hid hq
    have HOKS := Lib.hid hoks
    have HG := Lib.hid hG
    have HBW5 := Lib.hid hBW
    have HX := Lib.hid (HX5.out.on hBW)
    have HZ := Lib.hid (HZ5.out.on hBW)
    have HFR := Lib.hid (HFR5.out.on hBW)
    have HB := Lib.hid (bthen HB5.out hBW (Nat.le_refl _))
    clear hc9 hn9 hr9 hb9 hk hq hoks hG hBW HS0
    by_cases hlt : k < n
    · have hki : (k : Int) < (n : Int) := by omega
      have hkl : k < R.1.length := by have := HN.out; omega
      obtain ⟨bf, off, rfl, hbf, hat⟩ := HFR.out.at_ k hkl
      have HDR : Hid (R.1.drop k = frm R.1 k :: R.1.drop (k + 1)) := by
        unfold Hid frm
        rw [← List.getElem_cons_drop hkl, List.getD_eq_getElem?_getD, List.getElem?_eq_getElem hkl]
        rfl
      generalize frm R.1 k = f at hat HDR
      obtain ⟨fc, fk, fb⟩ := f
      have f0 := hat.c0
      have f1 := hat.c1
      have f2 := hat.c2
      dsimp only at f0 f1 f2
      clear hat
      have HE5 := Lib.hid (BoxC.new (w := wr) (W := wr) (Nat.le_refl _) #[.int .u8 (fc.toNat : Int), .int .u8 (fk.toNat : Int), .string (ofL fb)] 88)
      have HBX5 := Lib.hid (rtOne wr (.cells #[.int .u8 (fc.toNat : Int), .int .u8 (fk.toNat : Int), .string (ofL fb)] 88))
      go_upto_region 9 with fail
      generalize wr.alloc (.cells #[.int .u8 (fc.toNat : Int), .int .u8 (fk.toNat : Int), .string (ofL fb)] 88) = W5 at *
      clear f0 f1 f2
      have e0 := HE5.out.cs 0 _ rfl
      have e1 := HE5.out.cs 1 _ rfl
      have e2 := HE5.out.cs 2 _ rfl
      have el := HE5.out.lt
      go_wp2_with fail
      refine (me_Of_any fc fk fb _ (HL0.out.on (bthen HB.out HBX5.out (Nat.le_refl _)))).mono ?_
      rintro e w6 ⟨A6, c6, rfl, hl6, hp6, b6, hge6⟩
      have HOK1 : Hid (Me.rcode fc fk fb = 0 → oks (R.1.drop k) = (Me.got fc fk fb :: (oks (R.1.drop (k + 1))).1, (oks (R.1.drop (k + 1))).2)) := fun h => by rw [HDR.out]; exact oks_ok (f := ⟨fc, fk, fb⟩) h
      have HNO1 : Hid (Me.rcode fc fk fb ≠ 0 → oks (R.1.drop k) = ([], Me.rcode fc fk fb)) := fun h => by rw [HDR.out]; exact oks_no (f := ⟨fc, fk, fb⟩) h
      generalize Me.got fc fk fb = y at *
      generalize Me.rcode fc fk fb = C at *
      have HBX6 := Lib.hid (bthen HBX5.out b6 (Nat.le_refl _))
      have HP6 := Lib.hid hp6
      have HGE6 := Lib.hid (show ∀ a, A6 = some a → wr.heap.size + 1 ≤ a.block from fun a ha => Nat.le_trans HE5.out.lt (hge6 a ha))
      clear hl6 hp6 b6 hge6 e0 e1 e2 el HE5
      have HE7 := Lib.hid (BoxC.new (w := wr) (W := w6) HBX6.out.size (meL y A6 c6).toArray 25)
      have HBX7 := Lib.hid (bthen HBX6.out (rtOne w6 (.cells (meL y A6 c6).toArray 25)) (Nat.le_refl _))
      have HP7 := Lib.hid (HP6.out.on (rtOne w6 (.cells (meL y A6 c6).toArray 25)))
      simp only [meL] at HE7 HBX7 HP7
      simp only [meV]
      generalize hg6 : w6.heap.size = g6 at *
      go_upto_region 10 with fail
      try rw [hg6]
      generalize w6.alloc (.cells #[.int .u8 (y.ch.toNat : Int), .int .u8 (y.kd.toNat : Int), .string (ofL y.name), .string (ofL y.other), .string (ofL y.key), .slice A6 y.head.length c6, .string (ofL y.body), .int .u64 (y.n : Int), .int .u64 (y.m : Int), .bool y.yes] 25) = W7 at *
      have HB7 := Lib.hid (bthen HB.out HBX7.out (Nat.le_refl _))
      by_cases hC : C = 0
      · have hC0 : (C != 0) = false := by rw [hC]; rfl
        have HO2 := Lib.hid (HOK1.out hC)
        clear hC
        have m0 := HE7.out.cs 0 _ rfl
        have m1 := HE7.out.cs 1 _ rfl
        have m2 := HE7.out.cs 2 _ rfl
        have m3 := HE7.out.cs 3 _ rfl
        have m4 := HE7.out.cs 4 _ rfl
        have m5 := HE7.out.cs 5 _ rfl
        have m6 := HE7.out.cs 6 _ rfl
        have m7 := HE7.out.cs 7 _ rfl
        have m8 := HE7.out.cs 8 _ rfl
        have m9 := HE7.out.cs 9 _ rfl
        have ml := HE7.out.lt
        have hnk : n ≤ 100000 := HNB.out
        obtain ⟨iD, hiD, hzD, hsD, hbD⟩ := info_parts infoMeS
        have HBXA := Lib.hid (bthen HBX7.out (rtOne W7 (.cells (meL y A6 c6).toArray 25)) (Nat.le_refl _))
        have HOWN := Lib.hid (ownRow_onS HG.out.own HBXA.out)
        have HNW := Lib.hid (BoxC.new (w := wr) (W := W7) HBX7.out.size (meL y A6 c6).toArray 25)
        have HSZA := Lib.hid (show (W7.alloc (.cells (meL y A6 c6).toArray 25)).heap.size = W7.heap.size + 1 by simp)
        have HPA := Lib.hid (HP7.out.on (rtOne W7 (.cells (meL y A6 c6).toArray 25)))
        go_upto_region 13 with (first
          | (at_builtin; refine wpList_append_lies _ (by rfl) _ _ 56 (by rfl) w5.heap.size 25 iD _ 10 120 Tryz.underlying56 hiD hzD hsD hbD (by rfl) (by decide) (.slice A9 k c9) k (q.flatMap mqL) (by rfl) HOWN.out ⟨W7.heap.size, 0, none⟩ 1 1 (meL y A6 c6) (by rfl) rfl (fun j u hj => by rw [rws_add, Nat.zero_add]; exact HNW.out.cs j u hj) (mq_one ⟨y, A6, c6⟩) (by omega) (by unfold maxLen; omega) (by omega) (Nat.le_trans HBW5.out.size HBXA.out.size) (W7.heap.size + 1) HSZA.out ?_; intro gg cap w2 hown hgrow hat hlt'; have HW := Lib.hid hown; have HGR := Lib.hid hgrow; have HAT2 := Lib.hid hat; clear hown hgrow hat hlt'))
        have hne5 : ∀ a, A6 = some a → ∀ bb, (Value.slice A9 k c9).ownBlock = some bb → a.block ≠ bb := fun a ha bb hbb => by
          have h1 := HGE6.out a ha
          have h2 := (HG.out.own.lt bb hbb).2
          omega
        have hA7 : TkG w5 (.slice (some ⟨gg, 0, none⟩) (k + 1) cap) (k + 1) (q ++ [⟨y, A6, c6⟩]) w2 := by
          refine ⟨?_, fun p hp => ?_, fun p hp hh a ha bb hbb => ?_, fun p hp hh a ha => ?_⟩
          · rw [List.flatMap_append, List.flatMap_singleton]; exact HW.out
          · rcases List.mem_append.1 hp with hp | hp
            · exact Prs.grownN ((HG.out.ok p hp).on HBXA.out) HGR.out (fun hh a ha e => HG.out.ne p hp hh a ha a.block e.symm rfl)
            · obtain rfl := List.mem_singleton.1 hp
              exact Prs.grownN HPA.out HGR.out (fun _ a ha e => hne5 a ha a.block e.symm rfl)
          · obtain rfl : gg = bb := by simpa [Value.ownBlock] using hbb
            rcases HAT2.out with h1 | h1
            · rcases List.mem_append.1 hp with hp | hp
              · exact HG.out.ne p hp hh a ha gg h1
              · obtain rfl := List.mem_singleton.1 hp
                exact hne5 a ha gg h1
            · rcases List.mem_append.1 hp with hp | hp
              · have h2 := prs_lt (HG.out.ok p hp) hh a ha
                have h3 := HBX7.out.size
                omega
              · obtain rfl := List.mem_singleton.1 hp
                have h2 := prs_lt HP7.out hh a ha
                omega
          · rcases List.mem_append.1 hp with hp | hp
            · exact HG.out.ge p hp hh a ha
            · obtain rfl := List.mem_singleton.1 hp
              have h1 := HGE6.out a ha
              have h2 := HBW5.out.size
              omega
        have HA7 := Lib.hid hA7
        have HBZ := Lib.hid ((bthen HBW5.out HBXA.out (Nat.le_refl _)).grown HGR.out (bthen HBW5.out HBXA.out (Nat.le_refl _)).size (fun x hx => (HG.out.own.lt x hx).1))
        clear hA7 hne5 m0 m1 m2 m3 m4 m5 m6 m7 m8 m9 ml hiD hzD hsD hbD
        go_wp2_with fail
        go_roundg (gk - 1)
        case rel => exact ⟨k + 1, by have := HK.out; omega, by go_num, q ++ [⟨y, A6, c6⟩], by rw [List.length_append, HQ.out]; rfl, by rw [HOKS.out, HO2.out, List.map_append, List.append_assoc]; rfl, HA7.out, HBZ.out⟩
        case measure => have := HK.out; omega
      · have hC0 : (C != 0) = true := by simpa using hC
        have hst : stC R = C ∧ (oks R.1).1 = q.map Mq.x := by
          have h := HOKS.out
          rw [HNO1.out hC] at h
          have h1 : (oks R.1).2 = C := by rw [h]
          have h2 : (oks R.1).1 = q.map Mq.x := by rw [h]; exact List.append_nil _
          refine ⟨?_, h2⟩
          unfold stC
          rw [h1, if_pos hC]
        have HST := Lib.hid hst
        clear hst hC
        have HX7 := Lib.hid (HX.out.on HBX7.out)
        have HZ7 := Lib.hid (HZ.out.on HBX7.out)
        have HQS7 := Lib.hid (show Mqs W7 A9 q from (⟨HR9.out, HG.out.ok⟩ : Mqs wr A9 q).on HBX7.out)
        go_wp2_with (first
          | (refine wpList_load_mid (by rfl) 45 _ (by rfl) w.heap.size 0 (by rfl) (seL p R.2.1 R.2.2 b false) _ HX7.out.cs.range Tryz.underlying45 rfl (by rw [se_size, seL_len]) ?_)
          | (refine wpList_store_mid (by rfl) 45 _ _ (by rfl) (w.heap.size + 1) 0 (seL p R.2.1 R.2.2 b false).toArray (by rfl) (by rfl) HZ7.out.there (by rw [se_size]; rfl) (se_all _ _ _ _ _) ?_))
        have HR := HZ7.out.over (seL p R.2.1 R.2.2 b false) rfl
        have hres := se_res _ _ _ _ _ _ _ HR.cs
        exact bodyPost_ret (v := .tuple #[seV p R.2.1 R.2.2 b false, .slice A9 k c9, .int .i64 C]) (by simp [results, Tryz.results15, asAddr, hres]) rfl ⟨A9, c9, q, by rw [HST.out.1, HQ.out], by rw [HQ.out]; exact HC9.out, HST.out.2.symm, mqs_setCells HQS7.out (g := w.heap.size + 1) (fun a ha => by have h1 := (HB9.out a ha).1; have h2 := HZ5.out.lt; omega) (fun p hp hh a ha => by have h1 := HG.out.ge p hp hh a ha; have h2 := HZ5.out.lt; omega) _ _, ⟨fun a ha => by have h1 := (HB9.out a ha).1; have h2 := HZ5.out.lt; omega, fun p hp hh a ha => by have h1 := HG.out.ge p hp hh a ha; have h2 := HZ5.out.lt; omega⟩, below_setCells (by omega) _ _ HB7.out⟩
    · have hkn : k = n := by have := HK.out; omega
      have hst : oks R.1 = (q.map Mq.x, 0) := by
        have h := HOKS.out
        rw [hkn, HN.out, List.drop_length] at h
        rw [h]
        show (q.map Mq.x ++ [], 0) = _
        rw [List.append_nil]
      have HST := Lib.hid (show stC R = (R.2.2 : Int) by unfold stC; rw [hst]; exact if_neg (by simp))
      have HOQ := Lib.hid (show q.map Mq.x = (oks R.1).1 by rw [hst])
      clear hst
      have HQS0 := Lib.hid (⟨HR9.out, HG.out.ok⟩ : Mqs wr A9 q)
      have HBW := Lib.hid (show w.heap.size + 1 ≤ wr.heap.size from Nat.le_of_lt HZ.out.lt)
      have HDONE : Hid (∀ W, Mqs W A9 q → Below (w.heap.size + 1) wr W → SeTkPost p b R w (.returned (.tuple #[seV p R.2.1 R.2.2 b false, .slice A9 k c9, .int .i64 (R.2.2 : Int)])) W) := fun W h1 h2 => ⟨A9, c9, q, by rw [HST.out, HQ.out], by rw [HQ.out]; exact HC9.out, HOQ.out, h1, ⟨fun a ha => by have h1 := (HB9.out a ha).1; have h2 := HZ5.out.lt; omega, fun p hp hh a ha => by have h1 := HG.out.ge p hp hh a ha; have h2 := HZ5.out.lt; omega⟩, HB.out.trans (h2.mono (Nat.le_succ _))⟩
      have HMS : Hid (∀ W, Mqs W A9 q → Mqs (W.setCells (w.heap.size + 1) 0 (seL p R.2.1 R.2.2 b false)) A9 q) := fun W h => mqs_setCells h (g := w.heap.size + 1) (fun a ha => by have h1 := (HB9.out a ha).1; have h2 := HZ5.out.lt; omega) (fun p hp hh a ha => by have h1 := HG.out.ge p hp hh a ha; have h2 := HZ5.out.lt; omega) _ _
      replace HZ := Lib.hid (rtDrew HZ.out)
      have HQS := Lib.hid (HQS0.out.on (Below.refl _ _).drew)
      have c1 := HX.out.cs 1 _ rfl
      have c2 := HX.out.cs 2 _ rfl
      have cl := HX.out.lt
      subst hkn
      go_upto_region 14 with fail
      refine wp_region_held_drew (S := fun a => Below ((w.heap.size + 1)) wr a) (by kernel_rfl) (by (try dsimp only); exact (Below.refl _ _).drew) (fun hHeld => ?_)
      refine wpAnyH_take (i := 0) (oi := ⟨some 47, .load 45 (.tmp 2), 45, "session.go:66", #[], none⟩) (v := .agg (seL p R.2.1 R.2.2 b false).toArray) rfl (by kernel_rfl) (by kernel_rfl) (by kernel_rfl) (fun _ _ _ h => h) (yieldsIf_load_mid (by rfl) 45 _ (by rfl) w.heap.size 0 (by rfl) (seL p R.2.1 R.2.2 b false) _ (fun W9 h9 => (cels_far HX.out.cs h9 (by omega)).range) Tryz.underlying45 rfl (by rw [se_size, seL_len])) (by assumption) ?_
      try simp only [Act.put, qsp29a, qsp29b, qsp29c]
      refine wpAnyH_take (i := 1) (oi := ⟨some 48, .move (.tmp 9), 56, "session.go:66", #[⟨5, .gcOnly .lateStores⟩], none⟩) (v := ?_) rfl (by kernel_rfl) (by kernel_rfl) (by kernel_rfl) (fun _ _ _ h => h) (Or.inl ⟨by rfl, ?_⟩) (by assumption) ?_
      rotate_left 1
      · intro wS hSw; (try dsimp only at hSw); go_simp; try with_reducible rfl
      try simp only [Act.put, qsp29a, qsp29b, qsp29c]
      refine wpAnyH_take (i := 2) (oi := ⟨some 49, .fieldAddr 45 (.tmp 2) 1, 0, "session.go:66", #[], none⟩) (v := ?_) rfl (by kernel_rfl) (by kernel_rfl) (by kernel_rfl) (fun _ _ _ h => h) (Or.inl ⟨by rfl, ?_⟩) (by assumption) ?_
      rotate_left 1
      · intro wS hSw; (try dsimp only at hSw); go_simp; try with_reducible rfl
      try simp only [Act.put, qsp29a, qsp29b, qsp29c]
      refine wpAnyH_take (i := 3) (oi := ⟨some 50, .load 33 (.tmp 49), 33, "session.go:66", #[⟨2, .data⟩], none⟩) (v := ?_) rfl (by kernel_rfl) (by kernel_rfl) (by kernel_rfl) (fun _ _ _ h => h) (Or.inl ⟨by rfl, ?_⟩) (by assumption) ?_
      rotate_left 1
      · intro wS hSw; (try dsimp only at hSw); have c1 := (hSw.cell (p := ⟨w.heap.size, 1, none⟩) (by show _ < _; simp)).trans c1; have c2 := (hSw.cell (p := ⟨w.heap.size, 2, none⟩) (by show _ < _; simp)).trans c2; go_simp; try with_reducible rfl
      try simp only [Act.put, qsp29a, qsp29b, qsp29c]
      refine wpAnyH_ready (rs := [4]) (by kernel_rfl) (by simp) ?_
      refine AllReadyH.cons (o := ⟨some 51, .call { callee := .value (.func 34), args := #[.tmp 50], argTypes := #[33] }, 31, "session.go:66", #[⟨3, .data⟩], none⟩) rfl (fun K hK => ?_) (AllReadyH.nil)
      go_simp
      go_at_call 34
      refine (ferr_any _ _ _).mono ?_
      rintro e wx ⟨rfl, hb2⟩
      replace HZ := Lib.hid (HZ.out.on hb2)
      replace HQS := Lib.hid (HQS.out.on hb2)
      refine hK.out _ _ (hHeld.trans (hb2.mono (Nat.le_trans HBW.out hHeld.size))) (fun hHeld2 => ?_)
      clear hK K hHeld hb2
      have hHeld := hHeld2
      clear hHeld2
      try simp only [Act.put, qsp29a, qsp29b, qsp29c]
      refine wpAnyH_ready (rs := [5]) (by kernel_rfl) (by simp) ?_
      refine AllReadyH.cons (o := ⟨none, .store 45 (.tmp 4) (.tmp 47), 0, "session.go:66", #[⟨0, .data⟩, ⟨4, .chain⟩, ⟨0, .phase⟩, ⟨1, .textOnly .lateStores⟩, ⟨2, .textOnly .lateStores⟩, ⟨3, .textOnly .lateStores⟩, ⟨4, .textOnly .lateStoresUnsure⟩], none⟩) rfl (fun K hK => ?_) (AllReadyH.nil)
      rw [if_pos (by rfl)]
      refine wp_store_mid 45 _ _ (by rfl) (w.heap.size + 1) 0 (seL p R.2.1 R.2.2 b false).toArray (by rfl) (by rfl) HZ.out.there (by rw [se_size]; rfl) (se_all _ _ _ _ _) ?_
      refine hK.out _ _ ?_ (fun hHeld2 => ?_)
      · (try dsimp only); exact below_setCells3 hHeld (Nat.le_refl _) _ _
      clear hK K hHeld
      have hHeld := hHeld2
      clear hHeld2
      try simp only [Act.put]
      refine wpAnyH_take (i := 6) (oi := ⟨some 5, .assign (.tmp 48), 56, "session.go:66", #[⟨1, .data⟩, ⟨5, .chain⟩, ⟨0, .phase⟩, ⟨1, .phase⟩, ⟨2, .textOnly .lateStores⟩, ⟨3, .textOnly .lateStores⟩, ⟨4, .textOnly .lateStoresUnsure⟩, ⟨5, .phase⟩], none⟩) (v := ?_) rfl (by kernel_rfl) (by kernel_rfl) (by kernel_rfl) (fun _ _ _ h => h) (Or.inl ⟨by rfl, ?_⟩) (by assumption) ?_
      rotate_left 1
      · intro wS hSw; (try dsimp only at hSw); go_simp; try with_reducible rfl
      try simp only [Act.put, qsp29a, qsp29b, qsp29c]
      refine wpAnyH_take (i := 7) (oi := ⟨some 6, .assign (.tmp 51), 31, "session.go:66", #[⟨4, .data⟩, ⟨6, .chain⟩, ⟨0, .phase⟩, ⟨1, .phase⟩, ⟨2, .phase⟩, ⟨3, .phase⟩, ⟨4, .phase⟩, ⟨5, .phase⟩, ⟨6, .phase⟩], none⟩) (v := ?_) rfl (by kernel_rfl) (by kernel_rfl) (by kernel_rfl) (fun _ _ _ h => h) (Or.inl ⟨by rfl, ?_⟩) (by assumption) ?_
      rotate_left 1
      · intro wS hSw; (try dsimp only at hSw); go_simp; try with_reducible rfl
      try simp only [Act.put]
      refine wpAnyH_done (by kernel_rfl) ?_ _
      have hZ := hHeld
      clear hHeld
      go_wp2_with fail
      have HR := HZ.out.over (seL p R.2.1 R.2.2 b false) rfl
      have hres := se_res _ _ _ _ _ _ _ HR.cs
      exact bodyPost_ret (v := .tuple #[seV p R.2.1 R.2.2 b false, .slice A9 k c9, .int .i64 (R.2.2 : Int)]) (by simp [results, Tryz.results15, asAddr, hres]) rfl (HDONE.out _ (HMS.out _ HQS.out) hZ)
end Go.Proofs.YtgaggelpjaiabaaGreatDoor
end
