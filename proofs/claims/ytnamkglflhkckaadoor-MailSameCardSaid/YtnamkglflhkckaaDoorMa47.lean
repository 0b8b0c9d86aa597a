/-
  THE LAW MailSame, walked: whether any two messages are the same; a copy has a head of its own.
-/
import Derived.Test.YtnamkglflhkckaaDoorMa44
import Derived.Test.YtnamkglflhkckaaDoorMa45
import Derived.Test.YtnamkglflhkckaaDoorMa46
import Derived.Deep.RegionHeld3
import Derived.Deep.DeepCutAuto
section
namespace Go.Proofs.YtnamkglflhkckaaDoor
open Go.ChangeShapes Go.WideShapes Go.ChangeAt Go.RowKit
/-- a key with one byte more -/
def axp (p : Hd.Pr) : Hd.Pr := {p with key := p.key ++ [120]}
/-- the first k keys are so -/
def bump (k : Nat) (l : List Hd.Pr) : List Hd.Pr := (l.take k).map axp ++ l.drop k
theorem bump_zero (l : List Hd.Pr) : bump 0 l = l := by unfold bump; simp
theorem bump_len (k : Nat) (l : List Hd.Pr) : (bump k l).length = l.length := by unfold bump; rw [List.length_append, List.length_map, List.length_take, List.length_drop]; omega
theorem bump_all {k : Nat} {l : List Hd.Pr} (h : l.length ≤ k) : bump k l = l.map axp := by unfold bump; rw [List.take_of_length_le h, List.drop_eq_nil_of_le h, List.append_nil]
theorem bump_at {k : Nat} {l : List Hd.Pr} (h : k < l.length) : Hd.pr (bump k l) k = Hd.pr l k := by
  rw [Hd.pr_at (by rw [bump_len]; exact h), Hd.pr_at h]
  unfold bump
  rw [List.getElem_append_right (by simp; omega)]
  simp [List.length_take, Nat.min_eq_left (Nat.le_of_lt h)]
theorem bump_next {k : Nat} {l : List Hd.Pr} (h : k < l.length) : (bump k l).set k (axp (Hd.pr l k)) = bump (k + 1) l := by
  unfold bump
  have hk : ((l.take k).map axp).length = k := by rw [List.length_map, List.length_take]; omega
  rw [List.set_append_right _ _ (by omega), hk, Nat.sub_self, List.drop_eq_getElem_cons h, List.set_cons_zero, List.take_succ_eq_append_getElem h, List.map_append, Hd.pr_at h]
  simp
theorem flat_set {α : Type} (f : α → List Value) (n : Nat) (hf : ∀ x, (f x).length = n) : ∀ (l : List α) (k t : Nat) (x' : α) (v : Value), (h : k < l.length) → t < n → (f l[k]).set t v = f x' → (l.flatMap f).set (k * n + t) v = (l.set k x').flatMap f
  | a :: l, 0, t, x', v, _, ht, e => by
    have e2 : (f a).set t v = f x' := e
    rw [List.flatMap_cons, List.set_cons_zero, List.flatMap_cons, ← e2, Nat.zero_mul, Nat.zero_add, List.set_append_left _ _ (by rw [hf]; exact ht)]
  | a :: l, k + 1, t, x', v, h, ht, e => by
    have ih := flat_set f n hf l k t x' v (by simpa using h) ht (by simpa using e)
    rw [List.flatMap_cons, List.set_cons_succ, List.flatMap_cons, ← ih, List.set_append_right _ _ (by rw [hf, Nat.succ_mul]; omega)]
    congr 2
    rw [hf, Nat.succ_mul]
    omega
theorem axp_ne : ∀ {l : List Hd.Pr}, l ≠ [] → l ≠ l.map axp
  | p :: l, _, e => by
    have h : p = axp p := (List.cons.inj e).1
    have h2 := congrArg (fun q : Hd.Pr => q.key.length) h
    simp [axp] at h2
/-- the copy's row, its first k keys with one byte more -/
theorem OwnPrs.bumped {C : Nat} {w : World} {g : Nat} {c : Nat} {l : List Hd.Pr} {k : Nat} (h : OwnPrs C w (some ⟨g, 0, none⟩) c (bump k l)) (hk : k < l.length) : OwnPrs C (w.setCell ⟨g, k * 4, none⟩ (.string (ofL ((Hd.pr l k).key ++ [120])))) (some ⟨g, 0, none⟩) c (bump (k + 1) l) := by
  have hk2 : k < (bump k l).length := by rw [bump_len]; exact hk
  have h2 := (World.ownsRow.stored h (k * 4) (.string (ofL ((Hd.pr l k).key ++ [120])))).1
  have e := flat_set prL 4 (fun _ => rfl) (bump k l) k 0 (axp (Hd.pr l k)) (.string (ofL ((Hd.pr l k).key ++ [120]))) hk2 (by decide) (by rw [← Hd.pr_at hk2, bump_at hk]; rfl)
  rw [Nat.add_zero, bump_next hk] at e
  unfold OwnPrs
  rw [bump_len]
  rw [bump_len] at h2
  rw [show prs (bump (k + 1) l) = (prs (bump k l)).set (k * 4) (.string (ofL ((Hd.pr l k).key ++ [120]))) from e.symm]
  exact h2
/-- the law's boxes -/
structure MsC (w : World) (x : Ml) (A : Option Addr) (c : Nat) (y : Ml) (B : Option Addr) (d : Nat) (W : World) : Prop where
  p : BoxC w w.heap.size (maL x A c) W
  q : BoxC w (w.heap.size + 1) (maL y B d) W
  ra : Prs W A x.head
  rb : Prs W B y.head
  B : Below w.heap.size w W
theorem MsC.on {w : World} {x : Ml} {A : Option Addr} {c : Nat} {y : Ml} {B : Option Addr} {d : Nat} {W W' : World} (h : MsC w x A c y B d W) (hb : Below W.heap.size W W') : MsC w x A c y B d W' := ⟨h.p.on hb, h.q.on hb, h.ra.on hb, h.rb.on hb, bthen h.B hb (Nat.le_refl _)⟩
theorem MsC.start (w : World) (x : Ml) (A : Option Addr) (c : Nat) (y : Ml) (B : Option Addr) (d : Nat) (hA : Prs w A x.head) (hB : Prs w B y.head) : MsC w x A c y B d ((w.alloc (.cells #[.int .u64 (x.id : Int), .string (ofL x.shop), .string (ofL x.key), .slice A x.head.length c, .string (ofL x.body), .int .u64 (x.due : Int), .int .u8 (x.hops : Int)] 28)).alloc (.cells #[.int .u64 (y.id : Int), .string (ofL y.shop), .string (ofL y.key), .slice B y.head.length d, .string (ofL y.body), .int .u64 (y.due : Int), .int .u8 (y.hops : Int)] 28)) := by
  have h1 : BoxC w w.heap.size (maL x A c) (w.alloc (.cells #[.int .u64 (x.id : Int), .string (ofL x.shop), .string (ofL x.key), .slice A x.head.length c, .string (ofL x.body), .int .u64 (x.due : Int), .int .u8 (x.hops : Int)] 28)) := BoxC.new (Nat.le_refl _) #[.int .u64 (x.id : Int), .string (ofL x.shop), .string (ofL x.key), .slice A x.head.length c, .string (ofL x.body), .int .u64 (x.due : Int), .int .u8 (x.hops : Int)] 28
  have h2 : BoxC w (w.heap.size + 1) (maL y B d) ((w.alloc (.cells #[.int .u64 (x.id : Int), .string (ofL x.shop), .string (ofL x.key), .slice A x.head.length c, .string (ofL x.body), .int .u64 (x.due : Int), .int .u8 (x.hops : Int)] 28)).alloc (.cells #[.int .u64 (y.id : Int), .string (ofL y.shop), .string (ofL y.key), .slice B y.head.length d, .string (ofL y.body), .int .u64 (y.due : Int), .int .u8 (y.hops : Int)] 28)) := by
    have := BoxC.new (w := w) (W := (w.alloc (.cells #[.int .u64 (x.id : Int), .string (ofL x.shop), .string (ofL x.key), .slice A x.head.length c, .string (ofL x.body), .int .u64 (x.due : Int), .int .u8 (x.hops : Int)] 28))) (by simp) #[.int .u64 (y.id : Int), .string (ofL y.shop), .string (ofL y.key), .slice B y.head.length d, .string (ofL y.body), .int .u64 (y.due : Int), .int .u8 (y.hops : Int)] 28
    simpa [maL] using this
  have hb0 : Below w.heap.size w (w.alloc (.cells #[.int .u64 (x.id : Int), .string (ofL x.shop), .string (ofL x.key), .slice A x.head.length c, .string (ofL x.body), .int .u64 (x.due : Int), .int .u8 (x.hops : Int)] 28)) := (Below.refl _ _).alloc (Nat.le_refl _) _
  have hb : Below (w.alloc (.cells #[.int .u64 (x.id : Int), .string (ofL x.shop), .string (ofL x.key), .slice A x.head.length c, .string (ofL x.body), .int .u64 (x.due : Int), .int .u8 (x.hops : Int)] 28)).heap.size (w.alloc (.cells #[.int .u64 (x.id : Int), .string (ofL x.shop), .string (ofL x.key), .slice A x.head.length c, .string (ofL x.body), .int .u64 (x.due : Int), .int .u8 (x.hops : Int)] 28)) ((w.alloc (.cells #[.int .u64 (x.id : Int), .string (ofL x.shop), .string (ofL x.key), .slice A x.head.length c, .string (ofL x.body), .int .u64 (x.due : Int), .int .u8 (x.hops : Int)] 28)).alloc (.cells #[.int .u64 (y.id : Int), .string (ofL y.shop), .string (ofL y.key), .slice B y.head.length d, .string (ofL y.body), .int .u64 (y.due : Int), .int .u8 (y.hops : Int)] 28)) := (Below.refl _ _).alloc (Nat.le_refl _) _
  exact ⟨h1.on hb, h2, (hA.on hb0).on hb, (hB.on hb0).on hb, bthen hb0 hb (Nat.le_refl _)⟩
/-- with the copy's box and row -/
structure MsD (w : World) (x : Ml) (A : Option Addr) (c : Nat) (y : Ml) (B : Option Addr) (d : Nat) (A2 : Option Addr) (k2 g n : Nat) (l : List Hd.Pr) (W : World) : Prop where
  m : MsC w x A c y B d W
  k : BoxC w g [.int .u64 (x.id : Int), .string (ofL x.shop), .string (ofL x.key), .slice A2 x.head.length k2, .string (ofL x.body), .int .u64 (x.due : Int), .int .u8 (x.hops : Int)] W
  o : OwnPrs n W A2 k2 l
  g1 : n ≤ g
  gA : ∀ a, A2 = some a → a.block < g
  wn : w.heap.size + 1 < n
theorem MsD.on {w : World} {x : Ml} {A : Option Addr} {c : Nat} {y : Ml} {B : Option Addr} {d : Nat} {A2 : Option Addr} {k2 g n : Nat} {l : List Hd.Pr} {W W' : World} (h : MsD w x A c y B d A2 k2 g n l W) (hb : Below W.heap.size W W') : MsD w x A c y B d A2 k2 g n l W' := ⟨h.m.on hb, h.k.on hb, h.o.on hb, h.g1, h.gA, h.wn⟩
abbrev MsS (w : World) (x : Ml) (A : Option Addr) (c : Nat) (y : Ml) (B : Option Addr) (d : Nat) (A2 : Option Addr) (k2 g n : Nat) (l : List Hd.Pr) (W : World) : Prop :=
  ((W.cell? ⟨w.heap.size, 0, none⟩ = some (.int .u64 (x.id : Int)) ∧ W.cell? ⟨w.heap.size, 1, none⟩ = some (.string (ofL x.shop)) ∧ W.cell? ⟨w.heap.size, 2, none⟩ = some (.string (ofL x.key)) ∧ W.cell? ⟨w.heap.size, 3, none⟩ = some (.slice A x.head.length c) ∧ W.cell? ⟨w.heap.size, 4, none⟩ = some (.string (ofL x.body)) ∧ W.cell? ⟨w.heap.size, 5, none⟩ = some (.int .u64 (x.due : Int)) ∧ W.cell? ⟨w.heap.size, 6, none⟩ = some (.int .u8 (x.hops : Int))) ∧ w.heap.size < W.heap.size ∧ (W.cell? ⟨w.heap.size + 1, 0, none⟩ = some (.int .u64 (y.id : Int)) ∧ W.cell? ⟨w.heap.size + 1, 1, none⟩ = some (.string (ofL y.shop)) ∧ W.cell? ⟨w.heap.size + 1, 2, none⟩ = some (.string (ofL y.key)) ∧ W.cell? ⟨w.heap.size + 1, 3, none⟩ = some (.slice B y.head.length d) ∧ W.cell? ⟨w.heap.size + 1, 4, none⟩ = some (.string (ofL y.body)) ∧ W.cell? ⟨w.heap.size + 1, 5, none⟩ = some (.int .u64 (y.due : Int)) ∧ W.cell? ⟨w.heap.size + 1, 6, none⟩ = some (.int .u8 (y.hops : Int))) ∧ w.heap.size + 1 < W.heap.size ∧ (W.cell? ⟨g, 0, none⟩ = some (.int .u64 (x.id : Int)) ∧ W.cell? ⟨g, 1, none⟩ = some (.string (ofL x.shop)) ∧ W.cell? ⟨g, 2, none⟩ = some (.string (ofL x.key)) ∧ W.cell? ⟨g, 3, none⟩ = some (.slice A2 x.head.length k2) ∧ W.cell? ⟨g, 4, none⟩ = some (.string (ofL x.body)) ∧ W.cell? ⟨g, 5, none⟩ = some (.int .u64 (x.due : Int)) ∧ W.cell? ⟨g, 6, none⟩ = some (.int .u8 (x.hops : Int))) ∧ g < W.heap.size) ∧ MsD w x A c y B d A2 k2 g n l W
theorem MsD.s {w : World} {x : Ml} {A : Option Addr} {c : Nat} {y : Ml} {B : Option Addr} {d : Nat} {A2 : Option Addr} {k2 g n : Nat} {l : List Hd.Pr} {W : World} (h : MsD w x A c y B d A2 k2 g n l W) : MsS w x A c y B d A2 k2 g n l W :=
  ⟨⟨⟨h.m.p.cs 0 _ rfl, h.m.p.cs 1 _ rfl, h.m.p.cs 2 _ rfl, h.m.p.cs 3 _ rfl, h.m.p.cs 4 _ rfl, h.m.p.cs 5 _ rfl, h.m.p.cs 6 _ rfl⟩, h.m.p.lt, ⟨h.m.q.cs 0 _ rfl, h.m.q.cs 1 _ rfl, h.m.q.cs 2 _ rfl, h.m.q.cs 3 _ rfl, h.m.q.cs 4 _ rfl, h.m.q.cs 5 _ rfl, h.m.q.cs 6 _ rfl⟩, h.m.q.lt, ⟨h.k.cs 0 _ rfl, h.k.cs 1 _ rfl, h.k.cs 2 _ rfl, h.k.cs 3 _ rfl, h.k.cs 4 _ rfl, h.k.cs 5 _ rfl, h.k.cs 6 _ rfl⟩, h.k.lt⟩, h⟩
theorem MsD.start {w : World} {x : Ml} {A : Option Addr} {c : Nat} {y : Ml} {B : Option Addr} {d : Nat} {W W1 : World} (hm : MsC w x A c y B d W) (hw : w.heap.size + 1 < W.heap.size) {A2 : Option Addr} {k2 : Nat} (ho : OwnPrs W.heap.size W1 A2 k2 x.head) (hb : Below W.heap.size W W1) : MsD w x A c y B d A2 k2 W1.heap.size W.heap.size x.head (W1.alloc (.cells #[.int .u64 (x.id : Int), .string (ofL x.shop), .string (ofL x.key), .slice A2 x.head.length k2, .string (ofL x.body), .int .u64 (x.due : Int), .int .u8 (x.hops : Int)] 28)) := by
  have a : Below W1.heap.size W1 (W1.alloc (.cells #[.int .u64 (x.id : Int), .string (ofL x.shop), .string (ofL x.key), .slice A2 x.head.length k2, .string (ofL x.body), .int .u64 (x.due : Int), .int .u8 (x.hops : Int)] 28)) := (Below.refl _ _).alloc (Nat.le_refl _) _
  have hs := hb.size
  exact ⟨(hm.on hb).on a, BoxC.new (by omega) #[.int .u64 (x.id : Int), .string (ofL x.shop), .string (ofL x.key), .slice A2 x.head.length k2, .string (ofL x.body), .int .u64 (x.due : Int), .int .u8 (x.hops : Int)] 28, ho.on a, hs, fun a ha => (ho.row.2.2 a ha).2, hw⟩
theorem Prs.aside_far {w0 W : World} {A : Option Addr} {l : List Hd.Pr} (h0 : Prs w0 A l) (h : Prs W A l) {g : Nat} (hg : w0.heap.size ≤ g) (j : Nat) (v : Value) : Prs (W.setCell ⟨g, j, none⟩ v) A l := ⟨fun i hi => by
  obtain ⟨b0, off0, hA0, hlt0, -⟩ := h0.at_ i hi
  exact (h.aside (g := g) (fun a ha e => by
    rw [hA0] at ha
    obtain rfl := Option.some.inj ha
    have e2 : g = b0 := e
    omega) j v).at_ i hi⟩
theorem MsC.aside {w : World} {x : Ml} {A : Option Addr} {c : Nat} {y : Ml} {B : Option Addr} {d : Nat} {W : World} (h : MsC w x A c y B d W) {g : Nat} (hg : w.heap.size + 1 < g) (hA : Prs w A x.head) (hB : Prs w B y.head) (j : Nat) (v : Value) : MsC w x A c y B d (W.setCell ⟨g, j, none⟩ v) :=
  ⟨h.p.aside (by omega) j v, h.q.aside (by omega) j v, hA.aside_far h.ra (by omega) j v, hB.aside_far h.rb (by omega) j v, h.B.setCell (by show w.heap.size ≤ g; omega) v⟩
set_option maxRecDepth 100000 in
set_option maxHeartbeats 16000000 in
theorem mailSame_walk (x y : Ml) (A : Option Addr) (c : Nat) (B : Option Addr) (d : Nat) (w : World) (hx : MaIn w x A c) (hy : MaIn w y B d) (hL : Len w) :
    Calls Tryd.prog 6 #[maV x A c, maV y B d] w fun e w' => e = .returned (.bool true) ∧ Below w.heap.size w w' := by
  have HM0 := Lib.hid (MsC.start w x A c y B d hx.row hy.row)
  have HAW := Lib.hid (awake13_any _ (hL.on HM0.out.B))
  have HLX := Lib.hid (fun W h => ml_light_any x A c W hx.big h)
  have HLY := Lib.hid (fun W h => ml_light_any y B d W hy.big h)
  clear hL
  simp only [maV] at HLX HLY ⊢
  cases hlx : maLight x with
  | false =>
    rw [hlx] at HLX
    clear hlx
    go_enter Tryd.func6, Tryd.ntmps6
    go_wp2_with fail
    refine HAW.out.mono ?_
    rintro e w1 ⟨rfl, b1⟩
    have HM1 := Lib.hid (HM0.out.on b1)
    clear b1
    have c0 := HM1.out.p.cs 0 _ rfl
    have c1 := HM1.out.p.cs 1 _ rfl
    have c2 := HM1.out.p.cs 2 _ rfl
    have c3 := HM1.out.p.cs 3 _ rfl
    have c4 := HM1.out.p.cs 4 _ rfl
    have c5 := HM1.out.p.cs 5 _ rfl
    have c6 := HM1.out.p.cs 6 _ rfl
    have cl := HM1.out.p.lt
    go_wp2_with fail
    refine (HLX.out _ HM1.out.ra).mono ?_
    rintro e w2 ⟨rfl, b2⟩
    have HM2 := Lib.hid (HM1.out.on b2)
    clear b2 c0 c1 c2 c3 c4 c5 c6 cl
    go_wp2_with fail
    go_ret
    exact ⟨rfl, HM2.out.B⟩
  | true =>
    have hxl := ml_len hlx
    have hlite := (light_lite (ml_light_ok hlx).2.2.1).2.2
    rw [hlx] at HLX
    clear hlx
    cases hly : maLight y with
    | false =>
      rw [hly] at HLY
      clear hly
      go_enter Tryd.func6, Tryd.ntmps6
      go_wp2_with fail
      refine HAW.out.mono ?_
      rintro e w1 ⟨rfl, b1⟩
      have HM1 := Lib.hid (HM0.out.on b1)
      clear b1
      have c0 := HM1.out.p.cs 0 _ rfl
      have c1 := HM1.out.p.cs 1 _ rfl
      have c2 := HM1.out.p.cs 2 _ rfl
      have c3 := HM1.out.p.cs 3 _ rfl
      have c4 := HM1.out.p.cs 4 _ rfl
      have c5 := HM1.out.p.cs 5 _ rfl
      have c6 := HM1.out.p.cs 6 _ rfl
      have cl := HM1.out.p.lt
      go_wp2_with fail
      refine (HLX.out _ HM1.out.ra).mono ?_
      rintro e w2 ⟨rfl, b2⟩
      have HM2 := Lib.hid (HM1.out.on b2)
      clear b2 c0 c1 c2 c3 c4 c5 c6 cl
      have c0 := HM2.out.q.cs 0 _ rfl
      have c1 := HM2.out.q.cs 1 _ rfl
      have c2 := HM2.out.q.cs 2 _ rfl
      have c3 := HM2.out.q.cs 3 _ rfl
      have c4 := HM2.out.q.cs 4 _ rfl
      have c5 := HM2.out.q.cs 5 _ rfl
      have c6 := HM2.out.q.cs 6 _ rfl
      have cl := HM2.out.q.lt
      go_wp2_with fail
      refine (HLY.out _ HM2.out.rb).mono ?_
      rintro e w3 ⟨rfl, b3⟩
      have HM3 := Lib.hid (HM2.out.on b3)
      clear b3 c0 c1 c2 c3 c4 c5 c6 cl
      go_wp2_with fail
      go_ret
      exact ⟨rfl, HM3.out.B⟩
    | true =>
      have hyl := ml_len hly
      rw [hly] at HLY
      clear hly
      have HCP := Lib.hid (fun W h1 => maCopy_any x A c W (by omega) hx.cap h1)
      unfold MaCopyPost at HCP
      have H1 := Lib.hid (fun W h1 h2 => ml_Same_any x y A c B d W (by omega) (by omega) h1 h2)
      have H2 := Lib.hid (fun W h1 h2 => r13Same_any x y A c B d W (by omega) (by omega) h1 h2)
      have H3 := Lib.hid (fun W h1 => ml_Same_any x x A c A c W (by omega) (by omega) h1 h1)
      have H4 := Lib.hid (fun A2 k2 W h1 h2 => ml_Same_any x x A c A2 k2 W (by omega) (by omega) h1 h2)
      have H5 := Lib.hid (fun A2 k2 W h1 h2 => ml_Same_any x {x with head := x.head.map axp} A c A2 k2 W (by omega) (by simp; omega) h1 h2)
      rw [maEq_self] at H3 H4
      generalize maEq x y = XY at *
      simp only [maV] at HCP H1 H2 H3 H4 H5
      rw [List.length_map] at H5
      have HRX := Lib.hid hx.row
      have HRY := Lib.hid hy.row
      have HXL := Lib.hid hxl
      have HKL := Lib.hid (show ∀ p ∈ x.head, p.key.length ≤ 40 from fun p hp => (hlite p hp).1)
      clear hx hy hyl hlite
      go_enter Tryd.func6, Tryd.ntmps6
      go_wp2_with fail
      refine HAW.out.mono ?_
      rintro e w1 ⟨rfl, b1⟩
      have HM1 := Lib.hid (HM0.out.on b1)
      clear b1
      have c0 := HM1.out.p.cs 0 _ rfl
      have c1 := HM1.out.p.cs 1 _ rfl
      have c2 := HM1.out.p.cs 2 _ rfl
      have c3 := HM1.out.p.cs 3 _ rfl
      have c4 := HM1.out.p.cs 4 _ rfl
      have c5 := HM1.out.p.cs 5 _ rfl
      have c6 := HM1.out.p.cs 6 _ rfl
      have cl := HM1.out.p.lt
      go_wp2_with fail
      refine (HLX.out _ HM1.out.ra).mono ?_
      rintro e w2 ⟨rfl, b2⟩
      have HM2 := Lib.hid (HM1.out.on b2)
      clear b2 c0 c1 c2 c3 c4 c5 c6 cl
      have c0 := HM2.out.q.cs 0 _ rfl
      have c1 := HM2.out.q.cs 1 _ rfl
      have c2 := HM2.out.q.cs 2 _ rfl
      have c3 := HM2.out.q.cs 3 _ rfl
      have c4 := HM2.out.q.cs 4 _ rfl
      have c5 := HM2.out.q.cs 5 _ rfl
      have c6 := HM2.out.q.cs 6 _ rfl
      have cl := HM2.out.q.lt
      go_wp2_with fail
      refine (HLY.out _ HM2.out.rb).mono ?_
      rintro e w3 ⟨rfl, b3⟩
      have HM3 := Lib.hid (HM2.out.on b3)
      clear b3 c0 c1 c2 c3 c4 c5 c6 cl
      have c0 := HM3.out.p.cs 0 _ rfl
      have c1 := HM3.out.p.cs 1 _ rfl
      have c2 := HM3.out.p.cs 2 _ rfl
      have c3 := HM3.out.p.cs 3 _ rfl
      have c4 := HM3.out.p.cs 4 _ rfl
      have c5 := HM3.out.p.cs 5 _ rfl
      have c6 := HM3.out.p.cs 6 _ rfl
      have cl := HM3.out.p.lt
      go_wp2_with fail
      refine (HCP.out _ HM3.out.ra).mono ?_
      rintro e w4 ⟨A2, k2, rfl, ho, b4⟩
      have HS := Lib.hid (MsD.start HM3.out HM3.out.q.lt ho b4)
      clear ho b4 c0 c1 c2 c3 c4 c5 c6 cl
      go_upto_region 6 with fail
      generalize w4.alloc (.cells #[.int .u64 (x.id : Int), .string (ofL x.shop), .string (ofL x.key), .slice A2 x.head.length k2, .string (ofL x.body), .int .u64 (x.due : Int), .int .u8 (x.hops : Int)] 28) = w5 at *
      generalize w4.heap.size = g at *
      generalize w3.heap.size = n at *
      have HX := Lib.hid ((HS.out.on (Below.refl _ _).drew).s)
      have hxy : (XY != XY) = false := by simp
      clear HS HM0 HM1 HM2 HM3 HAW HLX HLY HCP
      refine wp_region_noPanic ?_
      refine wp_region_held_drew (S := MsS w x A c y B d A2 k2 g n x.head) (by kernel_rfl) ?_ (fun hHeld => ?_)
      · (try dsimp only); (first | assumption | exact HX.out | exact (hHeld.2.on hb2).s)
      refine wpAnyH_take (i := 0) (v := ?_) rfl (by kernel_rfl) (by kernel_rfl) (by kernel_rfl) (fun _ _ _ h => h) (Or.inl ⟨by rfl, ?_⟩) (by assumption) ?_
      rotate_left
      · intro w hSw; (try dsimp only at hSw); go_simp; try with_reducible rfl
      (try simp only [List.getElem_toArray, List.getElem_cons_zero, Act.put, List.setIfInBounds_toArray, List.set_cons_zero, List.set_cons_succ])
      refine wpAnyH_take (i := 1) (v := ?_) rfl (by kernel_rfl) (by kernel_rfl) (by kernel_rfl) (fun _ _ _ h => h) (Or.inl ⟨by rfl, ?_⟩) (by assumption) ?_
      rotate_left
      · intro w hSw; (try dsimp only at hSw); go_simp; try with_reducible rfl
      (try simp only [List.getElem_toArray, List.getElem_cons_succ, List.getElem_cons_zero, Act.put, List.setIfInBounds_toArray, List.set_cons_zero, List.set_cons_succ])
      refine wpAnyH_take (i := 3) (v := ?_) rfl (by kernel_rfl) (by kernel_rfl) (by kernel_rfl) (fun _ _ _ h => h) (Or.inl ⟨by rfl, ?_⟩) (by assumption) ?_
      rotate_left
      · intro w hSw; (try dsimp only at hSw); go_simp; try with_reducible rfl
      (try simp only [List.getElem_toArray, List.getElem_cons_succ, List.getElem_cons_zero, Act.put, List.setIfInBounds_toArray, List.set_cons_zero, List.set_cons_succ])
      refine wpAnyH_take (i := 4) (v := ?_) rfl (by kernel_rfl) (by kernel_rfl) (by kernel_rfl) (fun _ _ _ h => h) (Or.inl ⟨by rfl, ?_⟩) (by assumption) ?_
      rotate_left
      · intro w hSw; (try dsimp only at hSw); go_simp; try with_reducible rfl
      (try simp only [List.getElem_toArray, List.getElem_cons_succ, List.getElem_cons_zero, Act.put, List.setIfInBounds_toArray, List.set_cons_zero, List.set_cons_succ])
      refine wpAnyH_ready (rs := [2]) (by kernel_rfl) (by simp) ?_
      refine AllReadyH.cons rfl (fun K hK => ?_) (AllReadyH.nil)
      · go_simp
        (go_at_call 25; ((refine (H1.out _ hHeld.2.m.ra hHeld.2.m.rb).mono ?_); rintro e' wz ⟨rfl, hb2⟩))
        refine hK.out _ _ ?_ (fun hHeld => ?_)
        · (try dsimp only); (first | assumption | exact HX.out | exact (hHeld.2.on hb2).s)
        clear hK K
        (try simp only [List.getElem_toArray, List.getElem_cons_succ, List.getElem_cons_zero, Act.put, List.setIfInBounds_toArray, List.set_cons_zero, List.set_cons_succ])
        refine wpAnyH_ready (rs := [5]) (by kernel_rfl) (by simp) ?_
        refine AllReadyH.cons rfl (fun K hK => ?_) (AllReadyH.nil)
        · go_simp
          (go_at_call 21; ((refine (H2.out _ hHeld.2.m.ra hHeld.2.m.rb).mono ?_); rintro e' wz ⟨rfl, hb2⟩))
          refine hK.out _ _ ?_ (fun hHeld => ?_)
          · (try dsimp only); (first | assumption | exact HX.out | exact (hHeld.2.on hb2).s)
          clear hK K
          (try simp only [List.getElem_toArray, List.getElem_cons_succ, List.getElem_cons_zero, Act.put, List.setIfInBounds_toArray, List.set_cons_zero, List.set_cons_succ])
          refine wpAnyH_take (i := 6) (v := ?_) rfl (by kernel_rfl) (by kernel_rfl) (by kernel_rfl) (fun _ _ _ h => h) (Or.inl ⟨by rfl, ?_⟩) (by assumption) ?_
          rotate_left
          · intro w hSw; (try dsimp only at hSw); go_simp; try with_reducible rfl
          (try simp only [List.getElem_toArray, List.getElem_cons_succ, List.getElem_cons_zero, Act.put, List.setIfInBounds_toArray, List.set_cons_zero, List.set_cons_succ])
          refine wpAnyH_take (i := 7) (v := ?_) rfl (by kernel_rfl) (by kernel_rfl) (by kernel_rfl) (fun _ _ _ h => h) (Or.inl ⟨by rfl, ?_⟩) (by assumption) ?_
          rotate_left
          · intro w hSw; (try dsimp only at hSw); go_simp; try with_reducible rfl
          (try simp only [List.getElem_toArray, List.getElem_cons_succ, List.getElem_cons_zero, Act.put, List.setIfInBounds_toArray, List.set_cons_zero, List.set_cons_succ])
          refine wpAnyH_take (i := 8) (v := ?_) rfl (by kernel_rfl) (by kernel_rfl) (by kernel_rfl) (fun _ _ _ h => h) (Or.inl ⟨by rfl, ?_⟩) (by assumption) ?_
          rotate_left
          · intro w hSw; (try dsimp only at hSw); go_simp; try with_reducible rfl
          (try simp only [List.getElem_toArray, List.getElem_cons_succ, List.getElem_cons_zero, Act.put, List.setIfInBounds_toArray, List.set_cons_zero, List.set_cons_succ])
          refine wpAnyH_take (i := 9) (v := ?_) rfl (by kernel_rfl) (by kernel_rfl) (by kernel_rfl) (fun _ _ _ h => h) (Or.inl ⟨by rfl, ?_⟩) (by assumption) ?_
          rotate_left
          · intro w hSw; (try dsimp only at hSw); go_simp; try with_reducible rfl
          (try simp only [List.getElem_toArray, List.getElem_cons_succ, List.getElem_cons_zero, Act.put, List.setIfInBounds_toArray, List.set_cons_zero, List.set_cons_succ])
          refine wpAnyH_ready (rs := [10]) (by kernel_rfl) (by simp) ?_
          refine AllReadyH.cons rfl (fun K hK => ?_) (AllReadyH.nil)
          · go_simp
            (go_at_call 25; ((refine (H3.out _ hHeld.2.m.ra).mono ?_); rintro e' wz ⟨rfl, hb2⟩))
            refine hK.out _ _ ?_ (fun hHeld => ?_)
            · (try dsimp only); (first | assumption | exact HX.out | exact (hHeld.2.on hb2).s)
            clear hK K
            (try simp only [List.getElem_toArray, List.getElem_cons_succ, List.getElem_cons_zero, Act.put, List.setIfInBounds_toArray, List.set_cons_zero, List.set_cons_succ])
            refine wpAnyH_take (i := 11) (v := ?_) rfl (by kernel_rfl) (by kernel_rfl) (by kernel_rfl) (fun _ _ _ h => h) (Or.inl ⟨by rfl, ?_⟩) (by assumption) ?_
            rotate_left
            · intro w hSw; (try dsimp only at hSw); go_simp; try with_reducible rfl
            (try simp only [List.getElem_toArray, List.getElem_cons_succ, List.getElem_cons_zero, Act.put, List.setIfInBounds_toArray, List.set_cons_zero, List.set_cons_succ])
            refine wpAnyH_take (i := 12) (v := ?_) rfl (by kernel_rfl) (by kernel_rfl) (by kernel_rfl) (fun _ _ _ h => h) (Or.inl ⟨by rfl, ?_⟩) (by assumption) ?_
            rotate_left
            · intro w hSw; (try dsimp only at hSw); go_simp; try with_reducible rfl
            (try simp only [List.getElem_toArray, List.getElem_cons_succ, List.getElem_cons_zero, Act.put, List.setIfInBounds_toArray, List.set_cons_zero, List.set_cons_succ])
            refine wpAnyH_take (i := 13) (v := ?_) rfl (by kernel_rfl) (by kernel_rfl) (by kernel_rfl) (fun _ _ _ h => h) (Or.inl ⟨by rfl, ?_⟩) (by assumption) ?_
            rotate_left
            · intro w hSw; (try dsimp only at hSw); go_simp; try with_reducible rfl
            (try simp only [List.getElem_toArray, List.getElem_cons_succ, List.getElem_cons_zero, Act.put, List.setIfInBounds_toArray, List.set_cons_zero, List.set_cons_succ])
            refine wpAnyH_take (i := 14) (v := ?_) rfl (by kernel_rfl) (by kernel_rfl) (by kernel_rfl) (fun _ _ _ h => h) (Or.inl ⟨by rfl, ?_⟩) (by assumption) ?_
            rotate_left
            · intro w hSw; (try dsimp only at hSw); go_simp; try with_reducible rfl
            (try simp only [List.getElem_toArray, List.getElem_cons_succ, List.getElem_cons_zero, Act.put, List.setIfInBounds_toArray, List.set_cons_zero, List.set_cons_succ])
            refine wpAnyH_take (i := 15) (v := ?_) rfl (by kernel_rfl) (by kernel_rfl) (by kernel_rfl) (fun _ _ _ h => h) (Or.inl ⟨by rfl, ?_⟩) (by assumption) ?_
            rotate_left
            · intro w hSw; (try dsimp only at hSw); go_simp; try with_reducible rfl
            (try simp only [List.getElem_toArray, List.getElem_cons_succ, List.getElem_cons_zero, Act.put, List.setIfInBounds_toArray, List.set_cons_zero, List.set_cons_succ])
            refine wpAnyH_ready (rs := [16]) (by kernel_rfl) (by simp) ?_
            refine AllReadyH.cons rfl (fun K hK => ?_) (AllReadyH.nil)
            · go_simp
              (go_at_call 25; ((refine (H4.out _ _ _ hHeld.2.m.ra hHeld.2.o.row.1).mono ?_); rintro e' wz ⟨rfl, hb2⟩))
              refine hK.out _ _ ?_ (fun hHeld => ?_)
              · (try dsimp only); (first | assumption | exact HX.out | exact (hHeld.2.on hb2).s)
              clear hK K
              (try simp only [List.getElem_toArray, List.getElem_cons_succ, List.getElem_cons_zero, Act.put, List.setIfInBounds_toArray, List.set_cons_zero, List.set_cons_succ])
              refine wpAnyH_take (i := 17) (v := ?_) rfl (by kernel_rfl) (by kernel_rfl) (by kernel_rfl) (fun _ _ _ h => h) (Or.inl ⟨by rfl, ?_⟩) (by assumption) ?_
              rotate_left
              · intro w hSw; (try dsimp only at hSw); go_simp; try with_reducible rfl
              (try simp only [List.getElem_toArray, List.getElem_cons_succ, List.getElem_cons_zero, Act.put, List.setIfInBounds_toArray, List.set_cons_zero, List.set_cons_succ])
              refine wpAnyH_take (i := 18) (v := ?_) rfl (by kernel_rfl) (by kernel_rfl) (by kernel_rfl) (fun _ _ _ h => h) (Or.inl ⟨by rfl, ?_⟩) (by assumption) ?_
              rotate_left
              · intro w hSw; (try dsimp only at hSw); go_simp; try with_reducible rfl
              (try simp only [List.getElem_toArray, List.getElem_cons_succ, List.getElem_cons_zero, Act.put, List.setIfInBounds_toArray, List.set_cons_zero, List.set_cons_succ])
              refine wpAnyH_done (by kernel_rfl) ?_ _
              refine NoPanic.normal ?_
              have HZ := Lib.hid hHeld.2
              clear hHeld H1 H2 H3 H4 HX
              obtain ⟨N, hN⟩ : ∃ N, N = x.head.length := ⟨_, rfl⟩
              have HN := Lib.hid hN
              have hN12 : N ≤ 12 := by have := HXL.out; omega
              have k3 : wz.cell? ⟨g, 3, none⟩ = some (.slice A2 N k2) := by rw [hN]; exact HZ.out.k.cs 3 _ rfl
              have kl := HZ.out.k.lt
              clear hN
              go_wp2_with fail
              go_loopg [41] N (fun gk i wr => ∃ k : Nat, k + gk = N ∧ i = .int .i64 (k : Int) ∧ MsD w x A c y B d A2 k2 g n (bump k x.head) wr)
              case atStart => exact ⟨0, by omega, rfl, by rw [bump_zero]; exact HZ.out⟩
              case round =>
                obtain ⟨k, hk, rfl, hD⟩ := hrel
                have HD := Lib.hid hD
                clear HZ k3 kl
                by_cases hlt : k < N
                · have hkl : k < x.head.length := by have := HN.out; omega
                  have hne : x.head ≠ [] := fun e => by rw [e] at hkl; exact absurd hkl (by simp)
                  obtain ⟨hP, hc2, hA2⟩ := hD.o.row
                  obtain ⟨b, off, hAe, hb, hat⟩ := hP.at_ k (by rw [bump_len]; exact hkl)
                  have HOFF : b = b ∧ off = 0 := by
                    rcases hD.o.2 with ⟨he, -⟩ | ⟨g', cap, cur, he, -⟩
                    · exact absurd (hAe ▸ (Value.slice.inj he).1) (by simp)
                    · have := (Value.slice.inj he).1
                      rw [hAe] at this
                      exact ⟨rfl, congrArg Addr.off (Option.some.inj this)⟩
                  obtain ⟨-, rfl⟩ := HOFF
                  subst hAe
                  rw [bump_at hkl] at hat
                  have hgb : b < g := hD.gA _ rfl
                  have hnb : n ≤ b := (hA2 _ rfl).1
                  have hwn := hD.wn
                  have hfz := World.ownsRow.frozenAt hD.o
                  have HNX := Lib.hid (show MsD w x A c y B d (some ⟨b, 0, none⟩) k2 g n (bump (k + 1) x.head) (wr.setCell ⟨b, k * 4, none⟩ (.string (ofL ((Hd.pr x.head k).key ++ [120])))) from
                    ⟨hD.m.aside (by omega) HRX.out HRY.out _ _, hD.k.aside (by omega) _ _, hD.o.bumped hkl, hD.g1, hD.gA, hD.wn⟩)
                  obtain ⟨c0, -, -, -⟩ := hat
                  have k3 : wr.cell? ⟨g, 3, none⟩ = some (.slice (some ⟨b, 0, none⟩) N k2) := by rw [HN.out]; exact hD.k.cs 3 _ rfl
                  have kl := hD.k.lt
                  have hkey := HKL.out (Hd.pr x.head k) (by rw [Hd.pr_at hkl]; exact List.getElem_mem hkl)
                  generalize Hd.pr x.head k = pk at *
                  have hks : (ofL pk.key).size ≤ 40 := by rw [ofL_size]; exact hkey
                  have happ : ofL pk.key ++ ⟨#[120]⟩ = ofL (pk.key ++ [120]) := ofL_app pk.key [120]
                  have hbl := hb
                  simp only [Nat.zero_add] at c0
                  clear hD hP hc2 hA2 hne hkl hkey
                  go_wp2_with fail
                  go_roundg (gk - 1)
                  case rel => exact ⟨k + 1, by omega, by go_num, HNX.out⟩
                  case measure => omega
                · have hkN : x.head.length ≤ k := by have := HN.out; omega
                  rw [bump_all hkN] at hD
                  have HD2 := Lib.hid hD
                  have c3 : wr.cell? ⟨w.heap.size, 3, none⟩ = some (.slice A N c) := by rw [HN.out]; exact hD.m.p.cs 3 _ rfl
                  have cl := hD.m.p.lt
                  have HSM := Lib.hid (H5.out A2 k2 wr hD.m.ra hD.o.row.1)
                  have HEQ := Lib.hid (fun (h : x.head ≠ []) => show maEq x {x with head := x.head.map axp} = false by unfold maEq; simp [axp_ne h])
                  clear hD
                  by_cases h0 : N = 0
                  · have hk0 : ((N : Int) == 0) = true := by rw [h0]; rfl
                    clear h0
                    go_wp2_with fail
                    go_ret
                    exact ⟨rfl, HD2.out.m.B⟩
                  · have hk0 : ((N : Int) == 0) = false := beq_eq_false_iff_ne.2 (by omega)
                    have hne : x.head ≠ [] := fun e => by have := HN.out; rw [e] at this; simp at this; omega
                    rw [HEQ.out hne] at HSM
                    clear h0 hne c3 cl
                    have c0 := HD2.out.m.p.cs 0 _ rfl
                    have c1 := HD2.out.m.p.cs 1 _ rfl
                    have c2 := HD2.out.m.p.cs 2 _ rfl
                    have c3 := HD2.out.m.p.cs 3 _ rfl
                    have c4 := HD2.out.m.p.cs 4 _ rfl
                    have c5 := HD2.out.m.p.cs 5 _ rfl
                    have c6 := HD2.out.m.p.cs 6 _ rfl
                    have cl := HD2.out.m.p.lt
                    have q0 := HD2.out.k.cs 0 _ rfl
                    have q1 := HD2.out.k.cs 1 _ rfl
                    have q2 := HD2.out.k.cs 2 _ rfl
                    have q3 := HD2.out.k.cs 3 _ rfl
                    have q4 := HD2.out.k.cs 4 _ rfl
                    have q5 := HD2.out.k.cs 5 _ rfl
                    have q6 := HD2.out.k.cs 6 _ rfl
                    have kl := HD2.out.k.lt
                    rw [← HN.out] at HSM c3 q3
                    go_wp2_with fail
                    refine HSM.out.mono ?_
                    rintro e w9 ⟨rfl, b9⟩
                    have HD3 := Lib.hid (HD2.out.on b9)
                    clear b9
                    go_wp2_with fail
                    go_ret
                    exact ⟨rfl, HD3.out.m.B⟩
end Go.Proofs.YtnamkglflhkckaaDoor
end
