/-
  slices.Clone OF PAIRS; THE RULE that is in a method: walked. THE CHAPTER's EXAMPLE (methods); THE LAW MethodSame, walked: whether any two methods are the same; the rule that is in one.
-/
import Derived.Test.YtgaggelpjaiabaaGreatDoorSp14
import Derived.Test.YtgaggelpjaiabaaGreatDoorSp19
import Derived.Test.YtgaggelpjaiabaaGreatDoorSp21
import Derived.Test.YtgaggelpjaiabaaGreatDoorSp28
import Derived.Test.YtgaggelpjaiabaaGreatDoorSp42
import Derived.Deep.RegionHeld3
import Derived.Deep.DeepCutAuto
section
namespace Go.Proofs.YtgaggelpjaiabaaGreatDoor
open Go.ChangeShapes Go.WideShapes Go.ChangeAt Go.RowKit
/-- the rule that is in a method -/
def Me.rule (x : Me) (s : Nat) : Ru := ⟨s, x.key, x.head, x.yes⟩
structure MeRu (w : World) (x : Me) (A : Option Addr) (c : Nat) (ys : List Value) (W : World) : Prop where
  p : BoxC w w.heap.size (meL x A c) W
  q : BoxC w (w.heap.size + 1) ys W
  B : Below w.heap.size w W
theorem MeRu.on {w : World} {x : Me} {A : Option Addr} {c : Nat} {ys : List Value} {W W' : World} (h : MeRu w x A c ys W) (hb : Below W.heap.size W W') : MeRu w x A c ys W' := ⟨h.p.on hb, h.q.on hb, bthen h.B hb (Nat.le_refl _)⟩
theorem MeRu.start (w : World) (x : Me) (A : Option Addr) (c : Nat) : MeRu w x A c [.int .u8 0, .string ⟨#[]⟩, .slice none 0 0, .bool false] ((w.alloc (.cells #[.int .u8 (x.ch.toNat : Int), .int .u8 (x.kd.toNat : Int), .string (ofL x.name), .string (ofL x.other), .string (ofL x.key), .slice A x.head.length c, .string (ofL x.body), .int .u64 (x.n : Int), .int .u64 (x.m : Int), .bool x.yes] 25)).alloc (.cells #[.int .u8 0, .string ⟨#[]⟩, .slice none 0 0, .bool false] 198)) := by
  have h1 : BoxC w w.heap.size (meL x A c) (w.alloc (.cells #[.int .u8 (x.ch.toNat : Int), .int .u8 (x.kd.toNat : Int), .string (ofL x.name), .string (ofL x.other), .string (ofL x.key), .slice A x.head.length c, .string (ofL x.body), .int .u64 (x.n : Int), .int .u64 (x.m : Int), .bool x.yes] 25)) := BoxC.new (Nat.le_refl _) #[.int .u8 (x.ch.toNat : Int), .int .u8 (x.kd.toNat : Int), .string (ofL x.name), .string (ofL x.other), .string (ofL x.key), .slice A x.head.length c, .string (ofL x.body), .int .u64 (x.n : Int), .int .u64 (x.m : Int), .bool x.yes] 25
  have h2 : BoxC w (w.heap.size + 1) [.int .u8 0, .string ⟨#[]⟩, .slice none 0 0, .bool false] ((w.alloc (.cells #[.int .u8 (x.ch.toNat : Int), .int .u8 (x.kd.toNat : Int), .string (ofL x.name), .string (ofL x.other), .string (ofL x.key), .slice A x.head.length c, .string (ofL x.body), .int .u64 (x.n : Int), .int .u64 (x.m : Int), .bool x.yes] 25)).alloc (.cells #[.int .u8 0, .string ⟨#[]⟩, .slice none 0 0, .bool false] 198)) := by
    have := BoxC.new (w := w) (W := (w.alloc (.cells #[.int .u8 (x.ch.toNat : Int), .int .u8 (x.kd.toNat : Int), .string (ofL x.name), .string (ofL x.other), .string (ofL x.key), .slice A x.head.length c, .string (ofL x.body), .int .u64 (x.n : Int), .int .u64 (x.m : Int), .bool x.yes] 25))) (by simp) #[.int .u8 0, .string ⟨#[]⟩, .slice none 0 0, .bool false] 198
    simpa using this
  exact ⟨h1.on ((Below.refl _ _).alloc (Nat.le_refl _) _), h2, ((Below.refl _ _).alloc (Nat.le_refl _) _).alloc (by simp) _⟩
abbrev MeRuS (w : World) (x : Me) (A : Option Addr) (c : Nat) (W : World) : Prop :=
  ((W.cell? ⟨w.heap.size, 4, none⟩ = some (.string (ofL x.key)) ∧ W.cell? ⟨w.heap.size, 5, none⟩ = some (.slice A x.head.length c) ∧ W.cell? ⟨w.heap.size, 9, none⟩ = some (.bool x.yes)) ∧ w.heap.size < W.heap.size) ∧ ∃ ys, MeRu w x A c ys W
theorem MeRu.s {w : World} {x : Me} {A : Option Addr} {c : Nat} {ys : List Value} {W : World} (h : MeRu w x A c ys W) : MeRuS w x A c W := ⟨⟨⟨h.p.cs 4 _ rfl, h.p.cs 5 _ rfl, h.p.cs 9 _ rfl⟩, h.p.lt⟩, ys, h⟩
theorem MeRu.done {w : World} {x : Me} {A : Option Addr} {c : Nat} {W : World} {a0 a1 a2 a3 : Value} (h : MeRu w x A c [a0, a1, a2, a3] W) (v0 v1 v2 v3 : Value) : MeRu w x A c [v0, v1, v2, v3] ((((W.setCell ⟨w.heap.size + 1, 0, none⟩ v0).setCell ⟨w.heap.size + 1, 1, none⟩ v1).setCell ⟨w.heap.size + 1, 2, none⟩ v2).setCell ⟨w.heap.size + 1, 3, none⟩ v3) :=
  ⟨(((h.p.aside (by omega) 0 _).aside (by omega) 1 _).aside (by omega) 2 _).aside (by omega) 3 _, (((h.q.put 0 _ (by simp)).put 1 _ (by simp)).put 2 _ (by simp)).put 3 _ (by simp), (((h.B.setCell h.q.ge _).setCell h.q.ge _).setCell h.q.ge _).setCell h.q.ge _⟩
end Go.Proofs.YtgaggelpjaiabaaGreatDoor
end
section
namespace Go.Proofs.YtgaggelpjaiabaaGreatDoor
open Go.ChangeShapes Go.WideShapes Go.ChangeAt Go.RowKit
theorem me_law10_any (w : World) (hL : Len w) : Calls Tryz.prog 68 #[] w fun e w' => e = .returned (.bool true) ∧ Below w.heap.size w w' := by
  have HA := Lib.hid (awake10_any w hL)
  go_enter Tryz.func68, Tryz.ntmps68
  go_wp2_with fail
  refine HA.out.mono ?_
  rintro x w1 ⟨rfl, b1⟩
  have B1 := Lib.hid b1
  clear b1
  go_wp2_with fail
  go_ret
  exact ⟨rfl, B1.out⟩
def exO : Me := Me.zero 1 1
theorem exO_frame (w : World) (hL : Len w) : Calls Tryz.prog 67 #[.agg #[.int .u8 1, .int .u8 1, .string ⟨#[]⟩, .string ⟨#[]⟩, .string ⟨#[]⟩, .slice none 0 0, .string ⟨#[]⟩, .int .u64 0, .int .u64 0, .bool false]] w fun e w' => e = .returned (.tuple #[.agg #[.int .u8 1, .int .u8 1, .string ⟨#[]⟩], .int .i64 0]) ∧ Below w.heap.size w w' := by
  have h := me_Frame_any exO none 0 w ⟨Nat.zero_le _, Nat.zero_le _, Nat.zero_le _, Nat.zero_le _, Nat.zero_le _, Nat.le_refl _, lite_nil, Prs.nil _ _⟩ ⟨(by decide : (0 : Nat) < 18446744073709551616), (by decide : (0 : Nat) < 18446744073709551616), fun p hp => by simp [exO, Me.zero] at hp⟩ hL
  rw [show meFrameV exO = .tuple #[.agg #[.int .u8 1, .int .u8 1, .string ⟨#[]⟩], .int .i64 0] from by
    unfold meFrameV
    rw [if_pos (show exO.code = 0 by decide)]
    rfl] at h
  exact h
set_option maxHeartbeats 2000000 in
theorem awake11_any (w : World) (hT : Tab w) (hL : Len w) : Calls Tryz.prog 37 #[] w fun e w' => e = .returned (.bool true) ∧ Below w.heap.size w w' := by
  have HF := Lib.hid (exO_frame w hL)
  have HLL := Lib.hid hL
  have HTT := Lib.hid hT
  have HE := Lib.hid (fun W h => law7Awake_any W h)
  have HN := Lib.hid (fun W h => me_law10_any W h)
  clear hL hT
  go_enter Tryz.func37, Tryz.ntmps37
  go_wp2_with fail
  refine HF.out.mono ?_
  rintro e w1 ⟨rfl, b1⟩
  have HB2 := Lib.hid (show Below w.heap.size w (w1.alloc (.cells #[.int .u8 1, .int .u8 1, .string ⟨#[]⟩] 88)) from b1.alloc b1.size _)
  have HC2 := Lib.hid (Cels.new w1 #[.int .u8 1, .int .u8 1, .string ⟨#[]⟩] 88)
  have HT2 := Lib.hid (HTT.out.below HB2.out HTT.out.pos)
  have HL2 := Lib.hid (HLL.out.on HB2.out)
  clear b1 HF
  go_wp2_with fail
  generalize w1.alloc (.cells #[.int .u8 1, .int .u8 1, .string ⟨#[]⟩] 88) = w2 at *
  have hlt2 : w1.heap.size < w2.heap.size := World.block_lt_of_cell? w2 _ (HC2.out 0 _ rfl)
  refine (HE.out _ HT2.out).mono ?_
  rintro e w3 ⟨rfl, b3⟩
  have HB3 := Lib.hid (bthen HB2.out b3 (Nat.le_refl _))
  have HL3 := Lib.hid (HL2.out.on b3)
  have HC3 := Lib.hid (HC2.out.on b3 hlt2)
  have hlt3 : w1.heap.size < w3.heap.size := Nat.lt_of_lt_of_le hlt2 b3.size
  clear b3
  go_wp2_with fail
  refine (HN.out _ HL3.out).mono ?_
  rintro e w4 ⟨rfl, b4⟩
  have HB4 := Lib.hid (bthen HB3.out b4 (Nat.le_refl _))
  have HC4 := Lib.hid (HC3.out.on b4 hlt3)
  have hlt4 : w1.heap.size < w4.heap.size := Nat.lt_of_lt_of_le hlt3 b4.size
  clear b4
  have c0 := HC4.out 0 _ rfl
  have c1 := HC4.out 1 _ rfl
  have c2 := HC4.out 2 _ rfl
  go_wp2_with fail
  go_ret
  exact ⟨rfl, HB4.out⟩
/-- the law's two boxes, the rows of its methods -/
structure MeSa (w : World) (x : Me) (A : Option Addr) (c : Nat) (y : Me) (B : Option Addr) (d : Nat) (W : World) : Prop where
  p : BoxC w w.heap.size (meL x A c) W
  q : BoxC w (w.heap.size + 1) (meL y B d) W
  ra : Prs W A x.head
  rb : Prs W B y.head
  B : Below w.heap.size w W
theorem MeSa.on {w : World} {x : Me} {A : Option Addr} {c : Nat} {y : Me} {B : Option Addr} {d : Nat} {W W' : World} (h : MeSa w x A c y B d W) (hb : Below W.heap.size W W') : MeSa w x A c y B d W' :=
  ⟨h.p.on hb, h.q.on hb, h.ra.on hb, h.rb.on hb, bthen h.B hb (Nat.le_refl _)⟩
theorem MeSa.start (w : World) (x : Me) (A : Option Addr) (c : Nat) (y : Me) (B : Option Addr) (d : Nat) (hA : Prs w A x.head) (hB : Prs w B y.head) : MeSa w x A c y B d ((w.alloc (.cells #[.int .u8 (x.ch.toNat : Int), .int .u8 (x.kd.toNat : Int), .string (ofL x.name), .string (ofL x.other), .string (ofL x.key), .slice A x.head.length c, .string (ofL x.body), .int .u64 (x.n : Int), .int .u64 (x.m : Int), .bool x.yes] 25)).alloc (.cells #[.int .u8 (y.ch.toNat : Int), .int .u8 (y.kd.toNat : Int), .string (ofL y.name), .string (ofL y.other), .string (ofL y.key), .slice B y.head.length d, .string (ofL y.body), .int .u64 (y.n : Int), .int .u64 (y.m : Int), .bool y.yes] 25)) := by
  have h1 : BoxC w w.heap.size (meL x A c) (w.alloc (.cells #[.int .u8 (x.ch.toNat : Int), .int .u8 (x.kd.toNat : Int), .string (ofL x.name), .string (ofL x.other), .string (ofL x.key), .slice A x.head.length c, .string (ofL x.body), .int .u64 (x.n : Int), .int .u64 (x.m : Int), .bool x.yes] 25)) := BoxC.new (Nat.le_refl _) #[.int .u8 (x.ch.toNat : Int), .int .u8 (x.kd.toNat : Int), .string (ofL x.name), .string (ofL x.other), .string (ofL x.key), .slice A x.head.length c, .string (ofL x.body), .int .u64 (x.n : Int), .int .u64 (x.m : Int), .bool x.yes] 25
  have h2 : BoxC w (w.heap.size + 1) (meL y B d) ((w.alloc (.cells #[.int .u8 (x.ch.toNat : Int), .int .u8 (x.kd.toNat : Int), .string (ofL x.name), .string (ofL x.other), .string (ofL x.key), .slice A x.head.length c, .string (ofL x.body), .int .u64 (x.n : Int), .int .u64 (x.m : Int), .bool x.yes] 25)).alloc (.cells #[.int .u8 (y.ch.toNat : Int), .int .u8 (y.kd.toNat : Int), .string (ofL y.name), .string (ofL y.other), .string (ofL y.key), .slice B y.head.length d, .string (ofL y.body), .int .u64 (y.n : Int), .int .u64 (y.m : Int), .bool y.yes] 25)) := by
    have := BoxC.new (w := w) (W := (w.alloc (.cells #[.int .u8 (x.ch.toNat : Int), .int .u8 (x.kd.toNat : Int), .string (ofL x.name), .string (ofL x.other), .string (ofL x.key), .slice A x.head.length c, .string (ofL x.body), .int .u64 (x.n : Int), .int .u64 (x.m : Int), .bool x.yes] 25))) (by simp) #[.int .u8 (y.ch.toNat : Int), .int .u8 (y.kd.toNat : Int), .string (ofL y.name), .string (ofL y.other), .string (ofL y.key), .slice B y.head.length d, .string (ofL y.body), .int .u64 (y.n : Int), .int .u64 (y.m : Int), .bool y.yes] 25
    simpa [meL] using this
  have hb0 : Below w.heap.size w (w.alloc (.cells #[.int .u8 (x.ch.toNat : Int), .int .u8 (x.kd.toNat : Int), .string (ofL x.name), .string (ofL x.other), .string (ofL x.key), .slice A x.head.length c, .string (ofL x.body), .int .u64 (x.n : Int), .int .u64 (x.m : Int), .bool x.yes] 25)) := (Below.refl _ _).alloc (Nat.le_refl _) _
  have hb : Below (w.alloc (.cells #[.int .u8 (x.ch.toNat : Int), .int .u8 (x.kd.toNat : Int), .string (ofL x.name), .string (ofL x.other), .string (ofL x.key), .slice A x.head.length c, .string (ofL x.body), .int .u64 (x.n : Int), .int .u64 (x.m : Int), .bool x.yes] 25)).heap.size (w.alloc (.cells #[.int .u8 (x.ch.toNat : Int), .int .u8 (x.kd.toNat : Int), .string (ofL x.name), .string (ofL x.other), .string (ofL x.key), .slice A x.head.length c, .string (ofL x.body), .int .u64 (x.n : Int), .int .u64 (x.m : Int), .bool x.yes] 25)) ((w.alloc (.cells #[.int .u8 (x.ch.toNat : Int), .int .u8 (x.kd.toNat : Int), .string (ofL x.name), .string (ofL x.other), .string (ofL x.key), .slice A x.head.length c, .string (ofL x.body), .int .u64 (x.n : Int), .int .u64 (x.m : Int), .bool x.yes] 25)).alloc (.cells #[.int .u8 (y.ch.toNat : Int), .int .u8 (y.kd.toNat : Int), .string (ofL y.name), .string (ofL y.other), .string (ofL y.key), .slice B y.head.length d, .string (ofL y.body), .int .u64 (y.n : Int), .int .u64 (y.m : Int), .bool y.yes] 25)) := (Below.refl _ _).alloc (Nat.le_refl _) _
  exact ⟨h1.on hb, h2, (hA.on hb0).on hb, (hB.on hb0).on hb, bthen hb0 hb (Nat.le_refl _)⟩
/-- the rule's box with them -/
structure MeSb (w : World) (x : Me) (A : Option Addr) (c : Nat) (y : Me) (B : Option Addr) (d : Nat) (s g : Nat) (W : World) : Prop where
  m : MeSa w x A c y B d W
  r : BoxC w g [.int .u8 (s : Int), .string (ofL x.key), .slice A x.head.length c, .bool x.yes] W
theorem MeSb.on {w : World} {x : Me} {A : Option Addr} {c : Nat} {y : Me} {B : Option Addr} {d : Nat} {s g : Nat} {W W' : World} (h : MeSb w x A c y B d s g W) (hb : Below W.heap.size W W') : MeSb w x A c y B d s g W' := ⟨h.m.on hb, h.r.on hb⟩
theorem MeSa.more {w : World} {x : Me} {A : Option Addr} {c : Nat} {y : Me} {B : Option Addr} {d : Nat} {W : World} (h : MeSa w x A c y B d W) (s : Nat) : MeSb w x A c y B d s W.heap.size (W.alloc (.cells #[.int .u8 (s : Int), .string (ofL x.key), .slice A x.head.length c, .bool x.yes] 198)) :=
  ⟨h.on ((Below.refl _ _).alloc (Nat.le_refl _) _), BoxC.new h.B.size #[.int .u8 (s : Int), .string (ofL x.key), .slice A x.head.length c, .bool x.yes] 198⟩
abbrev MeSbS (w : World) (x : Me) (A : Option Addr) (c : Nat) (y : Me) (B : Option Addr) (d : Nat) (s g : Nat) (W : World) : Prop :=
  ((W.cell? ⟨w.heap.size, 0, none⟩ = some (.int .u8 (x.ch.toNat : Int)) ∧ W.cell? ⟨w.heap.size, 1, none⟩ = some (.int .u8 (x.kd.toNat : Int)) ∧ W.cell? ⟨w.heap.size, 2, none⟩ = some (.string (ofL x.name)) ∧ W.cell? ⟨w.heap.size, 3, none⟩ = some (.string (ofL x.other)) ∧ W.cell? ⟨w.heap.size, 4, none⟩ = some (.string (ofL x.key)) ∧ W.cell? ⟨w.heap.size, 5, none⟩ = some (.slice A x.head.length c) ∧ W.cell? ⟨w.heap.size, 6, none⟩ = some (.string (ofL x.body)) ∧ W.cell? ⟨w.heap.size, 7, none⟩ = some (.int .u64 (x.n : Int)) ∧ W.cell? ⟨w.heap.size, 8, none⟩ = some (.int .u64 (x.m : Int)) ∧ W.cell? ⟨w.heap.size, 9, none⟩ = some (.bool x.yes)) ∧ w.heap.size < W.heap.size ∧ (W.cell? ⟨w.heap.size + 1, 0, none⟩ = some (.int .u8 (y.ch.toNat : Int)) ∧ W.cell? ⟨w.heap.size + 1, 1, none⟩ = some (.int .u8 (y.kd.toNat : Int)) ∧ W.cell? ⟨w.heap.size + 1, 2, none⟩ = some (.string (ofL y.name)) ∧ W.cell? ⟨w.heap.size + 1, 3, none⟩ = some (.string (ofL y.other)) ∧ W.cell? ⟨w.heap.size + 1, 4, none⟩ = some (.string (ofL y.key)) ∧ W.cell? ⟨w.heap.size + 1, 5, none⟩ = some (.slice B y.head.length d) ∧ W.cell? ⟨w.heap.size + 1, 6, none⟩ = some (.string (ofL y.body)) ∧ W.cell? ⟨w.heap.size + 1, 7, none⟩ = some (.int .u64 (y.n : Int)) ∧ W.cell? ⟨w.heap.size + 1, 8, none⟩ = some (.int .u64 (y.m : Int)) ∧ W.cell? ⟨w.heap.size + 1, 9, none⟩ = some (.bool y.yes)) ∧ w.heap.size + 1 < W.heap.size ∧ (W.cell? ⟨g, 0, none⟩ = some (.int .u8 (s : Int)) ∧ W.cell? ⟨g, 1, none⟩ = some (.string (ofL x.key)) ∧ W.cell? ⟨g, 2, none⟩ = some (.slice A x.head.length c) ∧ W.cell? ⟨g, 3, none⟩ = some (.bool x.yes)) ∧ g < W.heap.size) ∧ MeSb w x A c y B d s g W
theorem MeSb.s {w : World} {x : Me} {A : Option Addr} {c : Nat} {y : Me} {B : Option Addr} {d : Nat} {s g : Nat} {W : World} (h : MeSb w x A c y B d s g W) : MeSbS w x A c y B d s g W :=
  ⟨⟨⟨h.m.p.cs 0 _ rfl, h.m.p.cs 1 _ rfl, h.m.p.cs 2 _ rfl, h.m.p.cs 3 _ rfl, h.m.p.cs 4 _ rfl, h.m.p.cs 5 _ rfl, h.m.p.cs 6 _ rfl, h.m.p.cs 7 _ rfl, h.m.p.cs 8 _ rfl, h.m.p.cs 9 _ rfl⟩, h.m.p.lt, ⟨h.m.q.cs 0 _ rfl, h.m.q.cs 1 _ rfl, h.m.q.cs 2 _ rfl, h.m.q.cs 3 _ rfl, h.m.q.cs 4 _ rfl, h.m.q.cs 5 _ rfl, h.m.q.cs 6 _ rfl, h.m.q.cs 7 _ rfl, h.m.q.cs 8 _ rfl, h.m.q.cs 9 _ rfl⟩, h.m.q.lt, ⟨h.r.cs 0 _ rfl, h.r.cs 1 _ rfl, h.r.cs 2 _ rfl, h.r.cs 3 _ rfl⟩, h.r.lt⟩, h⟩
theorem MeSbS.on {w : World} {x : Me} {A : Option Addr} {c : Nat} {y : Me} {B : Option Addr} {d : Nat} {s g : Nat} {W W' : World} (h : MeSbS w x A c y B d s g W) (hb : Below W.heap.size W W') : MeSbS w x A c y B d s g W' := (h.2.on hb).s
end Go.Proofs.YtgaggelpjaiabaaGreatDoor
end
