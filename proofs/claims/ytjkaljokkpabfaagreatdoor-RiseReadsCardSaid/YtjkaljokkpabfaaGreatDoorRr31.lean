/-
  ROWS OF MESSAGES IN MEMORY: each with where its head lies. RISE's CALLS: how many, the first above a number: walked.
-/
import Derived.Test.YtjkaljokkpabfaaGreatDoorRr04
import Derived.Test.YtjkaljokkpabfaaGreatDoorRr08
import Derived.Test.YtjkaljokkpabfaaGreatDoorRr25
import Derived.Test.YtjkaljokkpabfaaGreatDoorRr30
import Derived.Deep.RegionHeld3
import Derived.Deep.DeepCutAuto
section
namespace Go.Proofs.YtjkaljokkpabfaaGreatDoor
open Go.ChangeShapes Go.WideShapes Go.ChangeAt Go.RowKit
/-- a message, and where its head lies -/
structure Mp where
  x : Ml
  A : Option Addr
  c : Nat
namespace Mp
def zero : Mp := ⟨Ml.zero, none, 0⟩
end Mp
def mpL (p : Mp) : List Value := maL p.x p.A p.c
def mcs (l : List Mp) : List Value := l.flatMap mpL
theorem mcs_len (l : List Mp) : (mcs l).length = l.length * 7 := Rw.flat_len mpL 7 (fun _ => rfl) l
theorem mcs_app (l m : List Mp) : mcs (l ++ m) = mcs l ++ mcs m := by simp [mcs]
theorem mcs_one1 (p : Mp) : mcs [p] = mpL p := by simp [mcs]
theorem mcs_drop (l : List Mp) (i : Nat) : (mcs l).drop (i * 7) = mcs (l.drop i) := flat_cut mpL 7 (fun _ => rfl) l i
theorem mcs_one (l : List Mp) : ∀ u ∈ mcs l, u.oneCell' = true := by
  intro u hu
  obtain ⟨f, _, hf⟩ := List.mem_flatMap.1 hu
  simp only [mpL, maL, List.mem_cons, List.not_mem_nil, or_false] at hf
  rcases hf with rfl | rfl | rfl | rfl | rfl | rfl | rfl <;> rfl
theorem mcs_at {l : List Mp} {i j : Nat} (h : i < l.length) (hj : j < 7) : (mcs l)[i * 7 + j]? = (mpL (l.getD i Mp.zero))[j]? := by
  have e := Rw.flat_get mpL 7 (fun _ => rfl) (by decide) l i j h hj
  have e2 : l.getD i Mp.zero = l[i] := by rw [List.getD_eq_getElem?_getD, List.getElem?_eq_getElem h]; rfl
  rw [e2]
  exact e
theorem mp_getD (l : List Mp) (i : Nat) : (l.getD i Mp.zero).x = (l.map Mp.x).getD i Ml.zero := by
  rw [List.getD_eq_getElem?_getD, List.getD_eq_getElem?_getD, List.getElem?_map]
  cases l[i]? <;> rfl
/-- messages lie there, and their heads -/
structure Mas (w : World) (A : Option Addr) (l : List Mp) : Prop where
  row : Rws w A (mcs l)
  hd : ∀ p ∈ l, MaOk w p.x p.A p.c
theorem Mas.nil (w : World) (A : Option Addr) : Mas w A [] := ⟨Rws.nil w A, fun _ h => by simp at h⟩
theorem Mas.on {w w' : World} {A : Option Addr} {l : List Mp} (h : Mas w A l) (hb : Below w.heap.size w w') : Mas w' A l := ⟨Rws.on h.row hb, fun p hp => (h.hd p hp).on hb⟩
theorem Mas.ok {w : World} {A : Option Addr} {l : List Mp} (h : Mas w A l) {i : Nat} (hi : i < l.length) : MaOk w (l.getD i Mp.zero).x (l.getD i Mp.zero).A (l.getD i Mp.zero).c := by
  have e2 : l.getD i Mp.zero = l[i] := by rw [List.getD_eq_getElem?_getD, List.getElem?_eq_getElem hi]; rfl
  rw [e2]
  exact h.hd _ (List.getElem_mem hi)
theorem Mas.get {w : World} {A : Option Addr} {l : List Mp} (h : Mas w A l) {i : Nat} (hi : i < l.length) :
    ∃ b off, A = some ⟨b, off, none⟩ ∧ b < w.heap.size ∧ ∀ j v, (mpL (l.getD i Mp.zero))[j]? = some v → w.cell? ⟨b, off + i * 7 + j, none⟩ = some v := by
  obtain ⟨b, off, e, hlt, hc⟩ := Rws.lies h.row (by rw [mcs_len]; omega)
  refine ⟨b, off, e, hlt, fun j v hv => ?_⟩
  have hj : j < 7 := by
    rcases Nat.lt_or_ge j 7 with h | h
    · exact h
    · rw [List.getElem?_eq_none (by show (mpL _).length ≤ j; exact h)] at hv; cases hv
  have := hc _ _ ((mcs_at hi hj).trans hv)
  rw [← Nat.add_assoc] at this
  exact this
theorem Rws.putR {w : World} {A : Option Addr} {cs : List Value} {b : Nat} (h : Rws w A cs) (hne : ∀ a, A = some a → a.block ≠ b) (j : Nat) (v : Value) : Rws (w.setCell ⟨b, j, none⟩ v) A cs := ⟨fun i u hu => by
  obtain ⟨g, off, rfl, hlt, hc⟩ := h.at_ i u hu
  have hg : g ≠ b := hne _ rfl
  exact ⟨g, off, rfl, by simpa using hlt, (World.cell?_setCell_other _ _ _ _ (by intro e; simp only [Addr.mk.injEq] at e; omega)).trans hc⟩⟩
/-- a rise as it is kept: how many came, and what is kept -/
structure RsIn (w : World) (v : Value) (T : Nat) (l : List Mp) : Prop where
  at_ : ∃ A c, v = .agg #[.int .u64 (T : Int), .slice A l.length c] ∧ l.length ≤ c ∧ (A = none → c = 0) ∧ Mas w A l
theorem RsIn.on {w w' : World} {v : Value} {T : Nat} {l : List Mp} (h : RsIn w v T l) (hb : Below w.heap.size w w') : RsIn w' v T l := by
  obtain ⟨A, c, h1, h2, h3, h4⟩ := h.at_
  exact ⟨A, c, h1, h2, h3, h4.on hb⟩
end Go.Proofs.YtjkaljokkpabfaaGreatDoor
end
section
namespace Go.Proofs.YtjkaljokkpabfaaGreatDoor
open Go.ChangeShapes Go.WideShapes Go.ChangeAt Go.RowKit
theorem rs_two (w : World) (o o' : Obj) : Below w.heap.size w ((w.alloc o).alloc o') := ((Below.refl _ _).alloc (Nat.le_refl _) _).alloc (by simp) _
theorem rs_box1 (w : World) (o : Obj) (c : Array Value) (t : TypeId) : BoxC w (w.heap.size + 1) c.toList ((w.alloc o).alloc (.cells c t)) := by
  have := BoxC.new (w := w) (W := w.alloc o) (by simp) c t
  rwa [show (w.alloc o).heap.size = w.heap.size + 1 by simp] at this
theorem OwnPrs.fills {B : Nat} {A : Option Addr} {c : Nat} {l : List Hd.Pr} {g : Nat} (hg : ∀ a, A = some a → g ≠ a.block) : ∀ (vs : List Value) (j : Nat) {W : World}, OwnPrs B W A c l → OwnPrs B (Go.Proofs.YtjkaljokkpabfaaGreatDoor.putAll g j vs W) A c l
  | [], _, _, h => h
  | v :: vs, j, _, h => OwnPrs.fills hg vs (j + 1) (h.aside hg j v)
theorem rsTotal_any (T n c : Nat) (A : Option Addr) (w : World) : Calls Tryz.prog 42 #[.agg #[.int .u64 (T : Int), .slice A n c]] w fun e w' => e = .returned (.int .u64 (T : Int)) ∧ Below w.heap.size w w' := by
  go_enter Tryz.func42, Tryz.ntmps42
  go_wp2_with fail
  go_ret
  exact ⟨rfl, (Below.refl _ _).alloc (Nat.le_refl _) _⟩
def RsAftPost (T : Nat) (l : List Ml) (k : Nat) (w : World) (e : Ending) (w' : World) : Prop := ∃ A' c', e = .returned (.tuple #[.int .u64 (Rs.aftN T l.length k : Int), maV (Rs.aft T l k) A' c', .bool (decide (k < T))]) ∧ OwnPrs w.heap.size w' A' c' (Rs.aft T l k).head ∧ Below w.heap.size w w'
set_option maxRecDepth 100000 in
set_option maxHeartbeats 2000000 in
theorem rsAfter_any (T c : Nat) (A : Option Addr) (l : List Mp) (k : Nat) (w : World) (hl : l.length ≤ 100000) (hlT : l.length ≤ T) (h0 : 0 < T → 0 < l.length) (hT : T < 18446744073709551616) (_hk : k < 18446744073709551616) (h : Mas w A l) :
    Calls Tryz.prog 15 #[.agg #[.int .u64 (T : Int), .slice A l.length c], .int .u64 (k : Int)] w (RsAftPost T (l.map Mp.x) k w) := by
  unfold RsAftPost Rs.aft
  rw [List.length_map]
  by_cases h1 : T ≤ k
  · have e1 : Rs.aftN T l.length k = 0 := by unfold Rs.aftN; rw [if_pos h1]
    have e2 : decide (k < T) = false := by simp; omega
    rw [e1, e2, if_pos h1]
    go_enter Tryz.func15, Tryz.ntmps15
    go_wp2_with fail
    refine bodyPost_ret (v := .tuple #[.int .u64 0, .agg #[.int .u64 0, .string ⟨#[]⟩, .string ⟨#[]⟩, .slice none 0 0, .string ⟨#[]⟩, .int .u64 0, .int .u8 0], .bool false]) (by simp [results, Tryz.results15, go_sem]) rfl ?_
    exact ⟨none, 0, rfl, World.ownsRow_nil _ _ _ _, ((Below.refl _ _).alloc (Nat.le_refl _) _).alloc (by simp) _⟩
  · have hn := h0 (by omega)
    have hi := Rs.aftI_lt (T := T) (n := l.length) (k := k) (by omega) hlT hn
    have e2 : decide (k < T) = true := by simp; omega
    rw [e2, if_neg h1, ← mp_getD]
    unfold Rs.aftN
    rw [if_neg h1]
    obtain ⟨i, hi1, hi2⟩ : ∃ i : Nat, Rs.aftI T l.length k = i ∧ max (k : Int) ((T : Int) - (l.length : Int)) - ((T : Int) - (l.length : Int)) = (i : Int) := ⟨_, rfl, by unfold Rs.aftI; omega⟩
    rw [hi1] at hi ⊢
    have hi3 : (T : Int) - (l.length : Int) + (i : Int) + 1 = ((max k (T - l.length) + 1 : Nat) : Int) := by unfold Rs.aftI at hi1; omega
    have hMx : max k (T - l.length) + 1 < 18446744073709551616 := by omega
    have hW : Below w.heap.size w ((w.alloc (.cells #[.int .u64 (T : Int), .slice A l.length c] 35)).alloc (.cells #[.int .u64 0, .string ⟨#[]⟩, .string ⟨#[]⟩, .slice none 0 0, .string ⟨#[]⟩, .int .u64 0, .int .u8 0] 25)) := ((Below.refl _ _).alloc (Nat.le_refl _) _).alloc (by simp) _
    have h' := h.on hW
    obtain ⟨b, off, rfl, hb, hc⟩ := h'.get hi
    have hok := h'.ok hi
    generalize l.getD i Mp.zero = p at *
    have HC := Lib.hid (maCopy_any p.x p.A p.c _ hok.len hok.cap hok.row)
    unfold MaCopyPost at HC
    simp only [maV] at HC ⊢
    obtain ⟨y, Ap, cp⟩ := p
    dsimp only at *
    have q0 := hc 0 _ rfl
    have q1 := hc 1 _ rfl
    have q2 := hc 2 _ rfl
    have q3 := hc 3 _ rfl
    have q4 := hc 4 _ rfl
    have q5 := hc 5 _ rfl
    have q6 := hc 6 _ rfl
    rw [Nat.add_zero] at q0
    dsimp only at q0 q1 q2 q3 q4 q5 q6
    clear hc h h' hok
    have HW := Lib.hid hW
    have HR0 := Lib.hid (rs_box1 w (.cells #[.int .u64 (T : Int), .slice (some ⟨b, off, none⟩) l.length c] 35) #[.int .u64 0, .string ⟨#[]⟩, .string ⟨#[]⟩, .slice none 0 0, .string ⟨#[]⟩, .int .u64 0, .int .u8 0] 25)
    have HSZ := Lib.hid (show ((w.alloc (.cells #[.int .u64 (T : Int), .slice (some ⟨b, off, none⟩) l.length c] 35)).alloc (.cells #[.int .u64 0, .string ⟨#[]⟩, .string ⟨#[]⟩, .slice none 0 0, .string ⟨#[]⟩, .int .u64 0, .int .u8 0] 25)).heap.size = w.heap.size + 2 by simp)
    clear hW
    generalize max k (T - l.length) + 1 = N at *
    go_enter Tryz.func15, Tryz.ntmps15
    go_wp2_with fail
    generalize ((w.alloc (.cells #[.int .u64 (T : Int), .slice (some ⟨b, off, none⟩) l.length c] 35)).alloc (.cells #[.int .u64 0, .string ⟨#[]⟩, .string ⟨#[]⟩, .slice none 0 0, .string ⟨#[]⟩, .int .u64 0, .int .u8 0] 25)) = w2 at *
    refine HC.out.mono ?_
    rintro e w3 ⟨Aq, cq, rfl, ho, hb3⟩
    have HR3 := Lib.hid (HR0.out.on hb3)
    have HO3 := Lib.hid ho
    have HB3 := Lib.hid (bthen HW.out hb3 (Nat.le_refl _))
    have HA3 := Lib.hid (show ∀ a, Aq = some a → w.heap.size + 2 ≤ a.block from fun a ha => by have := (ho.row.2.2 a ha).1; have := HSZ.out; omega)
    clear ho hb3
    have r0 := HR3.out.cs 0 _ rfl
    have r1 := HR3.out.cs 1 _ rfl
    have r2 := HR3.out.cs 2 _ rfl
    have r3 := HR3.out.cs 3 _ rfl
    have r4 := HR3.out.cs 4 _ rfl
    have r5 := HR3.out.cs 5 _ rfl
    have r6 := HR3.out.cs 6 _ rfl
    have rl := HR3.out.lt
    have rf : ∀ j, w3.frozen? ⟨w.heap.size + 1, j, none⟩ = false := HR3.out.s
    go_wp2_with fail
    have hQ4 := HR3.out.fill [.int .u64 (y.id : Int), .string (ofL y.shop), .string (ofL y.key), .slice Aq y.head.length cq, .string (ofL y.body), .int .u64 (y.due : Int), .int .u8 (y.hops : Int)] rfl
    have hO4 := HO3.out.fills (g := w.heap.size + 1) (fun a ha => by have := HA3.out a ha; omega) [.int .u64 (y.id : Int), .string (ofL y.shop), .string (ofL y.key), .slice Aq y.head.length cq, .string (ofL y.body), .int .u64 (y.due : Int), .int .u8 (y.hops : Int)] 0
    have hB4 := below_putAll (g := w.heap.size + 1) (by omega) [.int .u64 (y.id : Int), .string (ofL y.shop), .string (ofL y.key), .slice Aq y.head.length cq, .string (ofL y.body), .int .u64 (y.due : Int), .int .u8 (y.hops : Int)] 0 HB3.out
    simp only [putAll] at hQ4 hO4 hB4
    have g0 := hQ4.cs 0 _ rfl
    have g1 := hQ4.cs 1 _ rfl
    have g2 := hQ4.cs 2 _ rfl
    have g3 := hQ4.cs 3 _ rfl
    have g4 := hQ4.cs 4 _ rfl
    have g5 := hQ4.cs 5 _ rfl
    have g6 := hQ4.cs 6 _ rfl
    exact bodyPost_ret (v := .tuple #[.int .u64 (N : Int), .agg #[.int .u64 (y.id : Int), .string (ofL y.shop), .string (ofL y.key), .slice Aq y.head.length cq, .string (ofL y.body), .int .u64 (y.due : Int), .int .u8 (y.hops : Int)], .bool true]) (by simp [results, Tryz.results15, go_sem, g0, g1, g2, g3, g4, g5, g6]) rfl ⟨Aq, cq, rfl, World.ownsRow.mono hO4 (by have := HSZ.out; omega), hB4⟩
end Go.Proofs.YtjkaljokkpabfaaGreatDoor
end
