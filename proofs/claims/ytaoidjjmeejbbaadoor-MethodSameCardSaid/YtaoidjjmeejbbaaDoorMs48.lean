/-
  THE CHAPTER's EXAMPLE (methods); THE LAW MethodSame, walked: whether any two methods are the same; the rule that is in one.
-/
import Derived.Test.YtaoidjjmeejbbaaDoorMs25
import Derived.Test.YtaoidjjmeejbbaaDoorMs37
import Derived.Test.YtaoidjjmeejbbaaDoorMs40
import Derived.Test.YtaoidjjmeejbbaaDoorMs47
import Derived.Deep.RegionHeld3
import Derived.Deep.DeepCutAuto
section
namespace Go.Proofs.YtaoidjjmeejbbaaDoor
open Go.ChangeShapes Go.WideShapes Go.ChangeAt Go.RowKit
theorem me_law10_any (w : World) (hL : Len w) : Calls Tryd.prog 28 #[] w fun e w' => e = .returned (.bool true) ∧ Below w.heap.size w w' := by
  have HA := Lib.hid (awake10_any w hL)
  go_enter Tryd.func28, Tryd.ntmps28
  go_wp2_with fail
  refine HA.out.mono ?_
  rintro x w1 ⟨rfl, b1⟩
  have B1 := Lib.hid b1
  clear b1
  go_wp2_with fail
  go_ret
  exact ⟨rfl, B1.out⟩
def exO : Me := Me.zero 1 1
theorem exO_frame (w : World) (hL : Len w) : Calls Tryd.prog 26 #[.agg #[.int .u8 1, .int .u8 1, .string ⟨#[]⟩, .string ⟨#[]⟩, .string ⟨#[]⟩, .slice none 0 0, .string ⟨#[]⟩, .int .u64 0, .int .u64 0, .bool false]] w fun e w' => e = .returned (.tuple #[.agg #[.int .u8 1, .int .u8 1, .string ⟨#[]⟩], .int .i64 0]) ∧ Below w.heap.size w w' := by
  have h := me_Frame_any exO none 0 w ⟨Nat.zero_le _, Nat.zero_le _, Nat.zero_le _, Nat.zero_le _, Nat.zero_le _, Nat.le_refl _, lite_nil, Prs.nil _ _⟩ ⟨(by decide : (0 : Nat) < 18446744073709551616), (by decide : (0 : Nat) < 18446744073709551616), fun p hp => by simp [exO, Me.zero] at hp⟩ hL
  rw [show meFrameV exO = .tuple #[.agg #[.int .u8 1, .int .u8 1, .string ⟨#[]⟩], .int .i64 0] from by
    unfold meFrameV
    rw [if_pos (show exO.code = 0 by decide)]
    rfl] at h
  exact h
set_option maxHeartbeats 2000000 in
theorem awake11_any (w : World) (hT : Tab w) (hL : Len w) : Calls Tryd.prog 7 #[] w fun e w' => e = .returned (.bool true) ∧ Below w.heap.size w w' := by
  have HF := Lib.hid (exO_frame w hL)
  have HLL := Lib.hid hL
  have HTT := Lib.hid hT
  have HE := Lib.hid (fun W h => law7Awake_any W h)
  have HN := Lib.hid (fun W h => me_law10_any W h)
  clear hL hT
  go_enter Tryd.func7, Tryd.ntmps7
  go_wp2_with fail
  refine HF.out.mono ?_
  rintro e w1 ⟨rfl, b1⟩
  have HB2 := Lib.hid (show Below w.heap.size w (w1.alloc (.cells #[.int .u8 1, .int .u8 1, .string ⟨#[]⟩] 46)) from b1.alloc b1.size _)
  have HC2 := Lib.hid (Cels.new w1 #[.int .u8 1, .int .u8 1, .string ⟨#[]⟩] 46)
  have HT2 := Lib.hid (HTT.out.below HB2.out HTT.out.pos)
  have HL2 := Lib.hid (HLL.out.on HB2.out)
  clear b1 HF
  go_wp2_with fail
  generalize w1.alloc (.cells #[.int .u8 1, .int .u8 1, .string ⟨#[]⟩] 46) = w2 at *
  have hlt2 : w1.heap.size < w2.heap.size := World.block_lt_of_cell? w2 _ (HC2.out 0 _ rfl)
  refine (HE.out _ HT2.out).mono ?_
  rintro e w3 ⟨rfl, b3⟩
  have HB3 := Lib.hid (bthen HB2.out b3 (Nat.le_refl _))
  have HL3 := Lib.hid (HL2.out.on b3)
  have HC3 := Lib.hid (HC2.out.on b3 hlt2)
  have hlt3 : w1.heap.size < w3.heap.size := Nat.lt_of_lt_of_le hlt2 b3.size
  clear b3
  go_wp2_with fail
  refine (HN.out _ HL3.out).mono ?_
  rintro e w4 ⟨rfl, b4⟩
  have HB4 := Lib.hid (bthen HB3.out b4 (Nat.le_refl _))
  have HC4 := Lib.hid (HC3.out.on b4 hlt3)
  have hlt4 : w1.heap.size < w4.heap.size := Nat.lt_of_lt_of_le hlt3 b4.size
  clear b4
  have c0 := HC4.out 0 _ rfl
  have c1 := HC4.out 1 _ rfl
  have c2 := HC4.out 2 _ rfl
  go_wp2_with fail
  go_ret
  exact ⟨rfl, HB4.out⟩
/-- the law's two boxes, the rows of its methods -/
structure MeSa (w : World) (x : Me) (A : Option Addr) (c : Nat) (y : Me) (B : Option Addr) (d : Nat) (W : World) : Prop where
  p : BoxC w w.heap.size (meL x A c) W
  q : BoxC w (w.heap.size + 1) (meL y B d) W
  ra : Prs W A x.head
  rb : Prs W B y.head
  B : Below w.heap.size w W
theorem MeSa.on {w : World} {x : Me} {A : Option Addr} {c : Nat} {y : Me} {B : Option Addr} {d : Nat} {W W' : World} (h : MeSa w x A c y B d W) (hb : Below W.heap.size W W') : MeSa w x A c y B d W' :=
  ⟨h.p.on hb, h.q.on hb, h.ra.on hb, h.rb.on hb, bthen h.B hb (Nat.le_refl _)⟩
theorem MeSa.start (w : World) (x : Me) (A : Option Addr) (c : Nat) (y : Me) (B : Option Addr) (d : Nat) (hA : Prs w A x.head) (hB : Prs w B y.head) : MeSa w x A c y B d ((w.alloc (.cells #[.int .u8 (x.ch.toNat : Int), .int .u8 (x.kd.toNat : Int), .string (ofL x.name), .string (ofL x.other), .string (ofL x.key), .slice A x.head.length c, .string (ofL x.body), .int .u64 (x.n : Int), .int .u64 (x.m : Int), .bool x.yes] 25)).alloc (.cells #[.int .u8 (y.ch.toNat : Int), .int .u8 (y.kd.toNat : Int), .string (ofL y.name), .string (ofL y.other), .string (ofL y.key), .slice B y.head.length d, .string (ofL y.body), .int .u64 (y.n : Int), .int .u64 (y.m : Int), .bool y.yes] 25)) := by
  have h1 : BoxC w w.heap.size (meL x A c) (w.alloc (.cells #[.int .u8 (x.ch.toNat : Int), .int .u8 (x.kd.toNat : Int), .string (ofL x.name), .string (ofL x.other), .string (ofL x.key), .slice A x.head.length c, .string (ofL x.body), .int .u64 (x.n : Int), .int .u64 (x.m : Int), .bool x.yes] 25)) := BoxC.new (Nat.le_refl _) #[.int .u8 (x.ch.toNat : Int), .int .u8 (x.kd.toNat : Int), .string (ofL x.name), .string (ofL x.other), .string (ofL x.key), .slice A x.head.length c, .string (ofL x.body), .int .u64 (x.n : Int), .int .u64 (x.m : Int), .bool x.yes] 25
  have h2 : BoxC w (w.heap.size + 1) (meL y B d) ((w.alloc (.cells #[.int .u8 (x.ch.toNat : Int), .int .u8 (x.kd.toNat : Int), .string (ofL x.name), .string (ofL x.other), .string (ofL x.key), .slice A x.head.length c, .string (ofL x.body), .int .u64 (x.n : Int), .int .u64 (x.m : Int), .bool x.yes] 25)).alloc (.cells #[.int .u8 (y.ch.toNat : Int), .int .u8 (y.kd.toNat : Int), .string (ofL y.name), .string (ofL y.other), .string (ofL y.key), .slice B y.head.length d, .string (ofL y.body), .int .u64 (y.n : Int), .int .u64 (y.m : Int), .bool y.yes] 25)) := by
    have := BoxC.new (w := w) (W := (w.alloc (.cells #[.int .u8 (x.ch.toNat : Int), .int .u8 (x.kd.toNat : Int), .string (ofL x.name), .string (ofL x.other), .string (ofL x.key), .slice A x.head.length c, .string (ofL x.body), .int .u64 (x.n : Int), .int .u64 (x.m : Int), .bool x.yes] 25))) (by simp) #[.int .u8 (y.ch.toNat : Int), .int .u8 (y.kd.toNat : Int), .string (ofL y.name), .string (ofL y.other), .string (ofL y.key), .slice B y.head.length d, .string (ofL y.body), .int .u64 (y.n : Int), .int .u64 (y.m : Int), .bool y.yes] 25
    simpa [meL] using this
  have hb0 : Below w.heap.size w (w.alloc (.cells #[.int .u8 (x.ch.toNat : Int), .int .u8 (x.kd.toNat : Int), .string (ofL x.name), .string (ofL x.other), .string (ofL x.key), .slice A x.head.length c, .string (ofL x.body), .int .u64 (x.n : Int), .int .u64 (x.m : Int), .bool x.yes] 25)) := (Below.refl _ _).alloc (Nat.le_refl _) _
  have hb : Below (w.alloc (.cells #[.int .u8 (x.ch.toNat : Int), .int .u8 (x.kd.toNat : Int), .string (ofL x.name), .string (ofL x.other), .string (ofL x.key), .slice A x.head.length c, .string (ofL x.body), .int .u64 (x.n : Int), .int .u64 (x.m : Int), .bool x.yes] 25)).heap.size (w.alloc (.cells #[.int .u8 (x.ch.toNat : Int), .int .u8 (x.kd.toNat : Int), .string (ofL x.name), .string (ofL x.other), .string (ofL x.key), .slice A x.head.length c, .string (ofL x.body), .int .u64 (x.n : Int), .int .u64 (x.m : Int), .bool x.yes] 25)) ((w.alloc (.cells #[.int .u8 (x.ch.toNat : Int), .int .u8 (x.kd.toNat : Int), .string (ofL x.name), .string (ofL x.other), .string (ofL x.key), .slice A x.head.length c, .string (ofL x.body), .int .u64 (x.n : Int), .int .u64 (x.m : Int), .bool x.yes] 25)).alloc (.cells #[.int .u8 (y.ch.toNat : Int), .int .u8 (y.kd.toNat : Int), .string (ofL y.name), .string (ofL y.other), .string (ofL y.key), .slice B y.head.length d, .string (ofL y.body), .int .u64 (y.n : Int), .int .u64 (y.m : Int), .bool y.yes] 25)) := (Below.refl _ _).alloc (Nat.le_refl _) _
  exact ⟨h1.on hb, h2, (hA.on hb0).on hb, (hB.on hb0).on hb, bthen hb0 hb (Nat.le_refl _)⟩
/-- the rule's box with them -/
structure MeSb (w : World) (x : Me) (A : Option Addr) (c : Nat) (y : Me) (B : Option Addr) (d : Nat) (s g : Nat) (W : World) : Prop where
  m : MeSa w x A c y B d W
  r : BoxC w g [.int .u8 (s : Int), .string (ofL x.key), .slice A x.head.length c, .bool x.yes] W
theorem MeSb.on {w : World} {x : Me} {A : Option Addr} {c : Nat} {y : Me} {B : Option Addr} {d : Nat} {s g : Nat} {W W' : World} (h : MeSb w x A c y B d s g W) (hb : Below W.heap.size W W') : MeSb w x A c y B d s g W' := ⟨h.m.on hb, h.r.on hb⟩
theorem MeSa.more {w : World} {x : Me} {A : Option Addr} {c : Nat} {y : Me} {B : Option Addr} {d : Nat} {W : World} (h : MeSa w x A c y B d W) (s : Nat) : MeSb w x A c y B d s W.heap.size (W.alloc (.cells #[.int .u8 (s : Int), .string (ofL x.key), .slice A x.head.length c, .bool x.yes] 29)) :=
  ⟨h.on ((Below.refl _ _).alloc (Nat.le_refl _) _), BoxC.new h.B.size #[.int .u8 (s : Int), .string (ofL x.key), .slice A x.head.length c, .bool x.yes] 29⟩
abbrev MeSbS (w : World) (x : Me) (A : Option Addr) (c : Nat) (y : Me) (B : Option Addr) (d : Nat) (s g : Nat) (W : World) : Prop :=
  ((W.cell? ⟨w.heap.size, 0, none⟩ = some (.int .u8 (x.ch.toNat : Int)) ∧ W.cell? ⟨w.heap.size, 1, none⟩ = some (.int .u8 (x.kd.toNat : Int)) ∧ W.cell? ⟨w.heap.size, 2, none⟩ = some (.string (ofL x.name)) ∧ W.cell? ⟨w.heap.size, 3, none⟩ = some (.string (ofL x.other)) ∧ W.cell? ⟨w.heap.size, 4, none⟩ = some (.string (ofL x.key)) ∧ W.cell? ⟨w.heap.size, 5, none⟩ = some (.slice A x.head.length c) ∧ W.cell? ⟨w.heap.size, 6, none⟩ = some (.string (ofL x.body)) ∧ W.cell? ⟨w.heap.size, 7, none⟩ = some (.int .u64 (x.n : Int)) ∧ W.cell? ⟨w.heap.size, 8, none⟩ = some (.int .u64 (x.m : Int)) ∧ W.cell? ⟨w.heap.size, 9, none⟩ = some (.bool x.yes)) ∧ w.heap.size < W.heap.size ∧ (W.cell? ⟨w.heap.size + 1, 0, none⟩ = some (.int .u8 (y.ch.toNat : Int)) ∧ W.cell? ⟨w.heap.size + 1, 1, none⟩ = some (.int .u8 (y.kd.toNat : Int)) ∧ W.cell? ⟨w.heap.size + 1, 2, none⟩ = some (.string (ofL y.name)) ∧ W.cell? ⟨w.heap.size + 1, 3, none⟩ = some (.string (ofL y.other)) ∧ W.cell? ⟨w.heap.size + 1, 4, none⟩ = some (.string (ofL y.key)) ∧ W.cell? ⟨w.heap.size + 1, 5, none⟩ = some (.slice B y.head.length d) ∧ W.cell? ⟨w.heap.size + 1, 6, none⟩ = some (.string (ofL y.body)) ∧ W.cell? ⟨w.heap.size + 1, 7, none⟩ = some (.int .u64 (y.n : Int)) ∧ W.cell? ⟨w.heap.size + 1, 8, none⟩ = some (.int .u64 (y.m : Int)) ∧ W.cell? ⟨w.heap.size + 1, 9, none⟩ = some (.bool y.yes)) ∧ w.heap.size + 1 < W.heap.size ∧ (W.cell? ⟨g, 0, none⟩ = some (.int .u8 (s : Int)) ∧ W.cell? ⟨g, 1, none⟩ = some (.string (ofL x.key)) ∧ W.cell? ⟨g, 2, none⟩ = some (.slice A x.head.length c) ∧ W.cell? ⟨g, 3, none⟩ = some (.bool x.yes)) ∧ g < W.heap.size) ∧ MeSb w x A c y B d s g W
theorem MeSb.s {w : World} {x : Me} {A : Option Addr} {c : Nat} {y : Me} {B : Option Addr} {d : Nat} {s g : Nat} {W : World} (h : MeSb w x A c y B d s g W) : MeSbS w x A c y B d s g W :=
  ⟨⟨⟨h.m.p.cs 0 _ rfl, h.m.p.cs 1 _ rfl, h.m.p.cs 2 _ rfl, h.m.p.cs 3 _ rfl, h.m.p.cs 4 _ rfl, h.m.p.cs 5 _ rfl, h.m.p.cs 6 _ rfl, h.m.p.cs 7 _ rfl, h.m.p.cs 8 _ rfl, h.m.p.cs 9 _ rfl⟩, h.m.p.lt, ⟨h.m.q.cs 0 _ rfl, h.m.q.cs 1 _ rfl, h.m.q.cs 2 _ rfl, h.m.q.cs 3 _ rfl, h.m.q.cs 4 _ rfl, h.m.q.cs 5 _ rfl, h.m.q.cs 6 _ rfl, h.m.q.cs 7 _ rfl, h.m.q.cs 8 _ rfl, h.m.q.cs 9 _ rfl⟩, h.m.q.lt, ⟨h.r.cs 0 _ rfl, h.r.cs 1 _ rfl, h.r.cs 2 _ rfl, h.r.cs 3 _ rfl⟩, h.r.lt⟩, h⟩
theorem MeSbS.on {w : World} {x : Me} {A : Option Addr} {c : Nat} {y : Me} {B : Option Addr} {d : Nat} {s g : Nat} {W W' : World} (h : MeSbS w x A c y B d s g W) (hb : Below W.heap.size W W') : MeSbS w x A c y B d s g W' := (h.2.on hb).s
set_option maxRecDepth 100000 in
set_option maxHeartbeats 16000000 in
theorem methodSame_walk (x y : Me) (A : Option Addr) (c : Nat) (B : Option Addr) (d s : Nat) (w : World) (hx : MeIn w x A c) (hy : MeIn w y B d) (_hs : s < 256) (hT : Tab w) (hL : Len w) :
    Calls Tryd.prog 3 #[meV x A c, meV y B d, .int .u8 (s : Int)] w fun e w' => e = .returned (.bool true) ∧ Below w.heap.size w w' := by
  have HM0 := Lib.hid (MeSa.start w x A c y B d hx.row hy.row)
  have HAW := Lib.hid (awake11_any _ (hT.below HM0.out.B hT.pos) (hL.on HM0.out.B))
  have HLX := Lib.hid (fun W h => me_light_any x A c W hx.big h)
  have HLY := Lib.hid (fun W h => me_light_any y B d W hy.big h)
  clear hL hT
  simp only [meV] at HLX HLY ⊢
  cases hlx : meLight x with
  | false =>
    rw [hlx] at HLX
    clear hlx
    go_enter Tryd.func3, Tryd.ntmps3
    go_wp2_with fail
    refine HAW.out.mono ?_
    rintro e w1 ⟨rfl, b1⟩
    have HM1 := Lib.hid (HM0.out.on b1)
    clear b1
    have c0 := HM1.out.p.cs 0 _ rfl
    have c1 := HM1.out.p.cs 1 _ rfl
    have c2 := HM1.out.p.cs 2 _ rfl
    have c3 := HM1.out.p.cs 3 _ rfl
    have c4 := HM1.out.p.cs 4 _ rfl
    have c5 := HM1.out.p.cs 5 _ rfl
    have c6 := HM1.out.p.cs 6 _ rfl
    have c7 := HM1.out.p.cs 7 _ rfl
    have c8 := HM1.out.p.cs 8 _ rfl
    have c9 := HM1.out.p.cs 9 _ rfl
    have cl := HM1.out.p.lt
    go_wp2_with fail
    refine (HLX.out _ HM1.out.ra).mono ?_
    rintro e w2 ⟨rfl, b2⟩
    have HB2 := Lib.hid (bthen HM1.out.B b2 (Nat.le_refl _))
    clear b2
    go_wp2_with fail
    go_ret
    exact ⟨rfl, HB2.out⟩
  | true =>
    have hxl := me_len hlx
    rw [hlx] at HLX
    clear hlx
    cases hly : meLight y with
    | false =>
      rw [hly] at HLY
      clear hly
      go_enter Tryd.func3, Tryd.ntmps3
      go_wp2_with fail
      refine HAW.out.mono ?_
      rintro e w1 ⟨rfl, b1⟩
      have HM1 := Lib.hid (HM0.out.on b1)
      clear b1
      have c0 := HM1.out.p.cs 0 _ rfl
      have c1 := HM1.out.p.cs 1 _ rfl
      have c2 := HM1.out.p.cs 2 _ rfl
      have c3 := HM1.out.p.cs 3 _ rfl
      have c4 := HM1.out.p.cs 4 _ rfl
      have c5 := HM1.out.p.cs 5 _ rfl
      have c6 := HM1.out.p.cs 6 _ rfl
      have c7 := HM1.out.p.cs 7 _ rfl
      have c8 := HM1.out.p.cs 8 _ rfl
      have c9 := HM1.out.p.cs 9 _ rfl
      have cl := HM1.out.p.lt
      go_wp2_with fail
      refine (HLX.out _ HM1.out.ra).mono ?_
      rintro e w2 ⟨rfl, b2⟩
      have HM2 := Lib.hid (HM1.out.on b2)
      clear b2 c0 c1 c2 c3 c4 c5 c6 c7 c8 c9 cl
      have c0 := HM2.out.q.cs 0 _ rfl
      have c1 := HM2.out.q.cs 1 _ rfl
      have c2 := HM2.out.q.cs 2 _ rfl
      have c3 := HM2.out.q.cs 3 _ rfl
      have c4 := HM2.out.q.cs 4 _ rfl
      have c5 := HM2.out.q.cs 5 _ rfl
      have c6 := HM2.out.q.cs 6 _ rfl
      have c7 := HM2.out.q.cs 7 _ rfl
      have c8 := HM2.out.q.cs 8 _ rfl
      have c9 := HM2.out.q.cs 9 _ rfl
      have cl := HM2.out.q.lt
      go_wp2_with fail
      refine (HLY.out _ HM2.out.rb).mono ?_
      rintro e w3 ⟨rfl, b3⟩
      have HB3 := Lib.hid (bthen HM2.out.B b3 (Nat.le_refl _))
      clear b3
      go_wp2_with fail
      go_ret
      exact ⟨rfl, HB3.out⟩
    | true =>
      have hyl := me_len hly
      rw [hly] at HLY
      clear hly
      have H1 := Lib.hid (fun W h1 h2 => me_Same_any x y A c B d W (by omega) (by omega) h1 h2)
      have H2 := Lib.hid (fun W h1 => me_To_any x A c W (by omega) hx.cap h1)
      have H3 := Lib.hid (fun W h1 => me_To_any y B d W (by omega) hy.cap h1)
      have H4 := Lib.hid (fun A1 c1 A2 c2 W h1 h2 => r11Same_any x y A1 c1 A2 c2 W (by omega) (by omega) h1 h2)
      have H5 := Lib.hid (fun W h1 => me_Same_any x x A c A c W (by omega) (by omega) h1 h1)
      have H6 := Lib.hid (fun W h1 => me_Rule_any x A c s W (by omega) hx.cap h1)
      have H7 := Lib.hid (fun A1 c1 W h1 h2 => mSame_any (x.rule s) (x.rule s) A1 c1 A c W (show x.head.length ≤ 100000 by omega) (show x.head.length ≤ 100000 by omega) h1 h2)
      rw [ruSame_self] at H7
      rw [meEq_self] at H5
      generalize meEq x y = X at *
      unfold MeToPost at H2 H3
      unfold MeRuPost at H6
      simp only [meV] at H1 H2 H3 H4 H5 H6
      simp only [ruV, Me.rule] at H6 H7
      have hxx : (X == X) = true := by simp
      go_enter Tryd.func3, Tryd.ntmps3
      go_wp2_with fail
      refine HAW.out.mono ?_
      rintro e w1 ⟨rfl, b1⟩
      have HM1 := Lib.hid (HM0.out.on b1)
      clear b1
      have c0 := HM1.out.p.cs 0 _ rfl
      have c1 := HM1.out.p.cs 1 _ rfl
      have c2 := HM1.out.p.cs 2 _ rfl
      have c3 := HM1.out.p.cs 3 _ rfl
      have c4 := HM1.out.p.cs 4 _ rfl
      have c5 := HM1.out.p.cs 5 _ rfl
      have c6 := HM1.out.p.cs 6 _ rfl
      have c7 := HM1.out.p.cs 7 _ rfl
      have c8 := HM1.out.p.cs 8 _ rfl
      have c9 := HM1.out.p.cs 9 _ rfl
      have cl := HM1.out.p.lt
      go_wp2_with fail
      refine (HLX.out _ HM1.out.ra).mono ?_
      rintro e w2 ⟨rfl, b2⟩
      have HM2 := Lib.hid (HM1.out.on b2)
      clear b2 c0 c1 c2 c3 c4 c5 c6 c7 c8 c9 cl
      have c0 := HM2.out.q.cs 0 _ rfl
      have c1 := HM2.out.q.cs 1 _ rfl
      have c2 := HM2.out.q.cs 2 _ rfl
      have c3 := HM2.out.q.cs 3 _ rfl
      have c4 := HM2.out.q.cs 4 _ rfl
      have c5 := HM2.out.q.cs 5 _ rfl
      have c6 := HM2.out.q.cs 6 _ rfl
      have c7 := HM2.out.q.cs 7 _ rfl
      have c8 := HM2.out.q.cs 8 _ rfl
      have c9 := HM2.out.q.cs 9 _ rfl
      have cl := HM2.out.q.lt
      go_wp2_with fail
      refine (HLY.out _ HM2.out.rb).mono ?_
      rintro e w3 ⟨rfl, b3⟩
      have HM3 := Lib.hid (HM2.out.on b3)
      clear b3 c0 c1 c2 c3 c4 c5 c6 c7 c8 c9 cl
      have c4 := HM3.out.p.cs 4 _ rfl
      have c5 := HM3.out.p.cs 5 _ rfl
      have c9 := HM3.out.p.cs 9 _ rfl
      have cl := HM3.out.p.lt
      have HM4 := Lib.hid (HM3.out.more s)
      go_upto_region 6 with fail
      generalize w3.alloc (.cells #[.int .u8 (s : Int), .string (ofL x.key), .slice A x.head.length c, .bool x.yes] 29) = w4 at *
      generalize w3.heap.size = g at *
      have HX := Lib.hid ((HM4.out.on (Below.refl _ _).drew).s)
      clear HM0 HM1 HM2 HM3 HM4 HAW HLX HLY c4 c5 c9 cl
      refine wp_region_noPanic ?_
      refine wp_region_held_drew (S := MeSbS w x A c y B d s g) (by kernel_rfl) ?_ (fun hHeld => ?_)
      · (try dsimp only); (first | assumption | exact HX.out | exact MeSbS.on (by assumption) hb2)
      refine wpAnyH_take (i := 0) (v := ?_) rfl (by kernel_rfl) (by kernel_rfl) (by kernel_rfl) (fun _ _ _ h => h) (Or.inl ⟨by rfl, ?_⟩) (by assumption) ?_
      rotate_left
      · intro w hSw; (try dsimp only at hSw); go_simp; try with_reducible rfl
      (try simp only [List.getElem_toArray, List.getElem_cons_zero, Act.put, List.setIfInBounds_toArray, List.set_cons_zero, List.set_cons_succ])
      refine wpAnyH_take (i := 1) (v := ?_) rfl (by kernel_rfl) (by kernel_rfl) (by kernel_rfl) (fun _ _ _ h => h) (Or.inl ⟨by rfl, ?_⟩) (by assumption) ?_
      rotate_left
      · intro w hSw; (try dsimp only at hSw); go_simp; try with_reducible rfl
      (try simp only [List.getElem_toArray, List.getElem_cons_succ, List.getElem_cons_zero, Act.put, List.setIfInBounds_toArray, List.set_cons_zero, List.set_cons_succ])
      refine wpAnyH_take (i := 3) (v := ?_) rfl (by kernel_rfl) (by kernel_rfl) (by kernel_rfl) (fun _ _ _ h => h) (Or.inl ⟨by rfl, ?_⟩) (by assumption) ?_
      rotate_left
      · intro w hSw; (try dsimp only at hSw); go_simp; try with_reducible rfl
      (try simp only [List.getElem_toArray, List.getElem_cons_succ, List.getElem_cons_zero, Act.put, List.setIfInBounds_toArray, List.set_cons_zero, List.set_cons_succ])
      refine wpAnyH_take (i := 5) (v := ?_) rfl (by kernel_rfl) (by kernel_rfl) (by kernel_rfl) (fun _ _ _ h => h) (Or.inl ⟨by rfl, ?_⟩) (by assumption) ?_
      rotate_left
      · intro w hSw; (try dsimp only at hSw); go_simp; try with_reducible rfl
      (try simp only [List.getElem_toArray, List.getElem_cons_succ, List.getElem_cons_zero, Act.put, List.setIfInBounds_toArray, List.set_cons_zero, List.set_cons_succ])
      refine wpAnyH_ready (rs := [2]) (by kernel_rfl) (by simp) ?_
      refine AllReadyH.cons rfl (fun K hK => ?_) (AllReadyH.nil)
      · go_simp
        (go_at_call 9; ((refine (H1.out _ hHeld.2.m.ra hHeld.2.m.rb).mono ?_); rintro e' wz ⟨rfl, hb2⟩))
        refine hK.out _ _ ?_ (fun hHeld => ?_)
        · (try dsimp only); (first | assumption | exact HX.out | exact MeSbS.on (by assumption) hb2)
        clear hK K
        (try simp only [List.getElem_toArray, List.getElem_cons_succ, List.getElem_cons_zero, Act.put, List.setIfInBounds_toArray, List.set_cons_zero, List.set_cons_succ])
        refine wpAnyH_ready (rs := [4]) (by kernel_rfl) (by simp) ?_
        refine AllReadyH.cons rfl (fun K hK => ?_) (AllReadyH.nil)
        · go_simp
          (go_at_call 11; ((refine (H2.out _ hHeld.2.m.ra).mono ?_); rintro e' wz ⟨A1, c1, rfl, -, hp1, hb2⟩); have HP1 := Lib.hid hp1; clear hp1)
          refine hK.out _ _ ?_ (fun hHeld => ?_)
          · (try dsimp only); (first | assumption | exact HX.out | exact MeSbS.on (by assumption) hb2)
          clear hK K
          (try simp only [List.getElem_toArray, List.getElem_cons_succ, List.getElem_cons_zero, Act.put, List.setIfInBounds_toArray, List.set_cons_zero, List.set_cons_succ])
          refine wpAnyH_ready (rs := [6]) (by kernel_rfl) (by simp) ?_
          refine AllReadyH.cons rfl (fun K hK => ?_) (AllReadyH.nil)
          · go_simp
            (go_at_call 11; ((refine (H3.out _ hHeld.2.m.rb).mono ?_); rintro e' wz ⟨A2, c2, rfl, -, hp2, hb2⟩); have HP2 := Lib.hid hp2; have HP1 := Lib.hid (HP1.out.on hb2); clear hp2)
            refine hK.out _ _ ?_ (fun hHeld => ?_)
            · (try dsimp only); (first | assumption | exact HX.out | exact MeSbS.on (by assumption) hb2)
            clear hK K
            (try simp only [List.getElem_toArray, List.getElem_cons_succ, List.getElem_cons_zero, Act.put, List.setIfInBounds_toArray, List.set_cons_zero, List.set_cons_succ])
            refine wpAnyH_ready (rs := [7]) (by kernel_rfl) (by simp) ?_
            refine AllReadyH.cons rfl (fun K hK => ?_) (AllReadyH.nil)
            · go_simp
              (go_at_call 10; ((refine (H4.out A1 c1 A2 c2 _ HP1.out HP2.out).mono ?_); rintro e' wz ⟨rfl, hb2⟩))
              refine hK.out _ _ ?_ (fun hHeld => ?_)
              · (try dsimp only); (first | assumption | exact HX.out | exact MeSbS.on (by assumption) hb2)
              clear hK K
              (try simp only [List.getElem_toArray, List.getElem_cons_succ, List.getElem_cons_zero, Act.put, List.setIfInBounds_toArray, List.set_cons_zero, List.set_cons_succ])
              refine wpAnyH_take (i := 8) (v := ?_) rfl (by kernel_rfl) (by kernel_rfl) (by kernel_rfl) (fun _ _ _ h => h) (Or.inl ⟨by rfl, ?_⟩) (by assumption) ?_
              rotate_left
              · intro w hSw; (try dsimp only at hSw); go_simp; try with_reducible rfl
              (try simp only [List.getElem_toArray, List.getElem_cons_succ, List.getElem_cons_zero, Act.put, List.setIfInBounds_toArray, List.set_cons_zero, List.set_cons_succ])
              refine wpAnyH_take (i := 9) (v := ?_) rfl (by kernel_rfl) (by kernel_rfl) (by kernel_rfl) (fun _ _ _ h => h) (Or.inl ⟨by rfl, ?_⟩) (by assumption) ?_
              rotate_left
              · intro w hSw; (try dsimp only at hSw); go_simp; try with_reducible rfl
              (try simp only [List.getElem_toArray, List.getElem_cons_succ, List.getElem_cons_zero, Act.put, List.setIfInBounds_toArray, List.set_cons_zero, List.set_cons_succ])
              refine wpAnyH_take (i := 10) (v := ?_) rfl (by kernel_rfl) (by kernel_rfl) (by kernel_rfl) (fun _ _ _ h => h) (Or.inl ⟨by rfl, ?_⟩) (by assumption) ?_
              rotate_left
              · intro w hSw; (try dsimp only at hSw); go_simp; try with_reducible rfl
              (try simp only [List.getElem_toArray, List.getElem_cons_succ, List.getElem_cons_zero, Act.put, List.setIfInBounds_toArray, List.set_cons_zero, List.set_cons_succ])
              refine wpAnyH_take (i := 11) (v := ?_) rfl (by kernel_rfl) (by kernel_rfl) (by kernel_rfl) (fun _ _ _ h => h) (Or.inl ⟨by rfl, ?_⟩) (by assumption) ?_
              rotate_left
              · intro w hSw; (try dsimp only at hSw); go_simp; try with_reducible rfl
              (try simp only [List.getElem_toArray, List.getElem_cons_succ, List.getElem_cons_zero, Act.put, List.setIfInBounds_toArray, List.set_cons_zero, List.set_cons_succ])
              refine wpAnyH_ready (rs := [12]) (by kernel_rfl) (by simp) ?_
              refine AllReadyH.cons rfl (fun K hK => ?_) (AllReadyH.nil)
              · go_simp
                (go_at_call 9; ((refine (H5.out _ hHeld.2.m.ra).mono ?_); rintro e' wz ⟨rfl, hb2⟩))
                refine hK.out _ _ ?_ (fun hHeld => ?_)
                · (try dsimp only); (first | assumption | exact HX.out | exact MeSbS.on (by assumption) hb2)
                clear hK K
                (try simp only [List.getElem_toArray, List.getElem_cons_succ, List.getElem_cons_zero, Act.put, List.setIfInBounds_toArray, List.set_cons_zero, List.set_cons_succ])
                refine wpAnyH_take (i := 13) (v := ?_) rfl (by kernel_rfl) (by kernel_rfl) (by kernel_rfl) (fun _ _ _ h => h) (Or.inl ⟨by rfl, ?_⟩) (by assumption) ?_
                rotate_left
                · intro w hSw; (try dsimp only at hSw); go_simp; try with_reducible rfl
                (try simp only [List.getElem_toArray, List.getElem_cons_succ, List.getElem_cons_zero, Act.put, List.setIfInBounds_toArray, List.set_cons_zero, List.set_cons_succ])
                refine wpAnyH_take (i := 14) (v := ?_) rfl (by kernel_rfl) (by kernel_rfl) (by kernel_rfl) (fun _ _ _ h => h) (Or.inl ⟨by rfl, ?_⟩) (by assumption) ?_
                rotate_left
                · intro w hSw; (try dsimp only at hSw); go_simp; try with_reducible rfl
                (try simp only [List.getElem_toArray, List.getElem_cons_succ, List.getElem_cons_zero, Act.put, List.setIfInBounds_toArray, List.set_cons_zero, List.set_cons_succ])
                refine wpAnyH_take (i := 15) (v := ?_) rfl (by kernel_rfl) (by kernel_rfl) (by kernel_rfl) (fun _ _ _ h => h) (Or.inl ⟨by rfl, ?_⟩) (by assumption) ?_
                rotate_left
                · intro w hSw; (try dsimp only at hSw); go_simp; try with_reducible rfl
                (try simp only [List.getElem_toArray, List.getElem_cons_succ, List.getElem_cons_zero, Act.put, List.setIfInBounds_toArray, List.set_cons_zero, List.set_cons_succ])
                refine wpAnyH_take (i := 16) (v := ?_) rfl (by kernel_rfl) (by kernel_rfl) (by kernel_rfl) (fun _ _ _ h => h) (Or.inl ⟨by rfl, ?_⟩) (by assumption) ?_
                rotate_left
                · intro w hSw; (try dsimp only at hSw); go_simp; try with_reducible rfl
                (try simp only [List.getElem_toArray, List.getElem_cons_succ, List.getElem_cons_zero, Act.put, List.setIfInBounds_toArray, List.set_cons_zero, List.set_cons_succ])
                refine wpAnyH_take (i := 18) (v := ?_) rfl (by kernel_rfl) (by kernel_rfl) (by kernel_rfl) (fun _ _ _ h => h) (Or.inl ⟨by rfl, ?_⟩) (by assumption) ?_
                rotate_left
                · intro w hSw; (try dsimp only at hSw); go_simp; try with_reducible rfl
                (try simp only [List.getElem_toArray, List.getElem_cons_succ, List.getElem_cons_zero, Act.put, List.setIfInBounds_toArray, List.set_cons_zero, List.set_cons_succ])
                refine wpAnyH_ready (rs := [17]) (by kernel_rfl) (by simp) ?_
                refine AllReadyH.cons rfl (fun K hK => ?_) (AllReadyH.nil)
                · go_simp
                  (go_at_call 13; ((refine (H6.out _ hHeld.2.m.ra).mono ?_); rintro e' wz ⟨A3, c3, rfl, hp3, hb2⟩); have HP3 := Lib.hid hp3; clear hp3)
                  refine hK.out _ _ ?_ (fun hHeld => ?_)
                  · (try dsimp only); (first | assumption | exact HX.out | exact MeSbS.on (by assumption) hb2)
                  clear hK K
                  (try simp only [List.getElem_toArray, List.getElem_cons_succ, List.getElem_cons_zero, Act.put, List.setIfInBounds_toArray, List.set_cons_zero, List.set_cons_succ])
                  refine wpAnyH_ready (rs := [19]) (by kernel_rfl) (by simp) ?_
                  refine AllReadyH.cons rfl (fun K hK => ?_) (AllReadyH.nil)
                  · go_simp
                    (go_at_call 12; ((refine (H7.out A3 c3 _ HP3.out hHeld.2.m.ra).mono ?_); rintro e' wz ⟨rfl, hb2⟩))
                    refine hK.out _ _ ?_ (fun hHeld => ?_)
                    · (try dsimp only); (first | assumption | exact HX.out | exact MeSbS.on (by assumption) hb2)
                    clear hK K
                    (try simp only [List.getElem_toArray, List.getElem_cons_succ, List.getElem_cons_zero, Act.put, List.setIfInBounds_toArray, List.set_cons_zero, List.set_cons_succ])
                    refine wpAnyH_take (i := 20) (v := ?_) rfl (by kernel_rfl) (by kernel_rfl) (by kernel_rfl) (fun _ _ _ h => h) (Or.inl ⟨by rfl, ?_⟩) (by assumption) ?_
                    rotate_left
                    · intro w hSw; (try dsimp only at hSw); go_simp; try with_reducible rfl
                    (try simp only [List.getElem_toArray, List.getElem_cons_succ, List.getElem_cons_zero, Act.put, List.setIfInBounds_toArray, List.set_cons_zero, List.set_cons_succ])
                    refine wpAnyH_take (i := 21) (v := ?_) rfl (by kernel_rfl) (by kernel_rfl) (by kernel_rfl) (fun _ _ _ h => h) (Or.inl ⟨by rfl, ?_⟩) (by assumption) ?_
                    rotate_left
                    · intro w hSw; (try dsimp only at hSw); go_simp; try with_reducible rfl
                    (try simp only [List.getElem_toArray, List.getElem_cons_succ, List.getElem_cons_zero, Act.put, List.setIfInBounds_toArray, List.set_cons_zero, List.set_cons_succ])
                    refine wpAnyH_done (by kernel_rfl) ?_ _
                    refine NoPanic.normal ?_
                    have HBZ := Lib.hid hHeld.2.m.B
                    clear hHeld
                    go_wp2_with fail
                    go_ret
                    exact ⟨rfl, HBZ.out⟩
end Go.Proofs.YtaoidjjmeejbbaaDoor
end
