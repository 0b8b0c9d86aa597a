/-
  THE CHAPTER's EXAMPLE (replies); THE LAW ReplySame, walked: whether any two replies are the same.
-/
import Derived.Test.YtnjlhafhgfpfiaaGreatDoorRb27
import Derived.Test.YtnjlhafhgfpfiaaGreatDoorRb30
import Derived.Test.YtnjlhafhgfpfiaaGreatDoorRb32
import Derived.Test.YtnjlhafhgfpfiaaGreatDoorRb34
import Derived.Test.YtnjlhafhgfpfiaaGreatDoorRb42
import Derived.Deep.RegionHeld3
import Derived.Deep.DeepCutAuto
section
namespace Go.Proofs.YtnjlhafhgfpfiaaGreatDoor
open Go.ChangeShapes Go.WideShapes Go.ChangeAt Go.RowKit
theorem re_law8_any (w : World) (hT : Tab w) : Calls Tryz.prog 17 #[] w fun e w' => e = .returned (.bool true) ∧ Below w.heap.size w w' := by
  have HA := Lib.hid (fdAwake_any w hT)
  go_enter Tryz.func17, Tryz.ntmps17
  go_wp2_with fail
  refine HA.out.mono ?_
  rintro x w1 ⟨rfl, b1⟩
  have B1 := Lib.hid b1
  clear b1
  go_wp2_with fail
  go_ret
  exact ⟨rfl, B1.out⟩
theorem re_law9_any (w : World) (hL : Len w) : Calls Tryz.prog 18 #[] w fun e w' => e = .returned (.bool true) ∧ Below w.heap.size w w' := by
  have HA := Lib.hid (awake9_any w hL)
  go_enter Tryz.func18, Tryz.ntmps18
  go_wp2_with fail
  refine HA.out.mono ?_
  rintro x w1 ⟨rfl, b1⟩
  have B1 := Lib.hid b1
  clear b1
  go_wp2_with fail
  go_ret
  exact ⟨rfl, B1.out⟩
def exD : Re := Re.zero 1 1
theorem exD_frame (w : World) (hL : Len w) : Calls Tryz.prog 16 #[.agg #[.int .u8 1, .int .u8 1, .int .u64 0, .int .u64 0, .bool false, .string ⟨#[]⟩, .int .u64 0, .string ⟨#[]⟩, .string ⟨#[]⟩, .slice none 0 0, .string ⟨#[]⟩, .int .u64 0, .int .u8 0]] w fun e w' => e = .returned (.tuple #[.agg #[.int .u8 1, .int .u8 65, .string ⟨#[]⟩], .int .i64 0]) ∧ Below w.heap.size w w' := by
  have h := re_Frame_any exD none 0 w ⟨Nat.zero_le _, Nat.zero_le _, Nat.zero_le _, Nat.zero_le _, Nat.zero_le _, Nat.le_refl _, lite_nil, Prs.nil _ _⟩ ⟨(by decide : (0 : Nat) < 18446744073709551616), (by decide : (0 : Nat) < 18446744073709551616), fun p hp => by simp [exD, Re.zero] at hp⟩ hL
  rw [show reFrameV exD = .tuple #[.agg #[.int .u8 1, .int .u8 65, .string ⟨#[]⟩], .int .i64 0] from by
    unfold reFrameV
    rw [if_pos (show exD.code = 0 by decide)]
    rfl] at h
  exact h
set_option maxHeartbeats 2000000 in
theorem awake12_any (w : World) (hT : Tab w) (hL : Len w) : Calls Tryz.prog 4 #[] w fun e w' => e = .returned (.bool true) ∧ Below w.heap.size w w' := by
  have HF := Lib.hid (exD_frame w hL)
  have HLL := Lib.hid hL
  have HTT := Lib.hid hT
  have HE := Lib.hid (fun W h => re_law8_any W h)
  have HN := Lib.hid (fun W h => re_law9_any W h)
  clear hL hT
  go_enter Tryz.func4, Tryz.ntmps4
  go_wp2_with fail
  refine HF.out.mono ?_
  rintro e w1 ⟨rfl, b1⟩
  have HB2 := Lib.hid (show Below w.heap.size w (w1.alloc (.cells #[.int .u8 1, .int .u8 65, .string ⟨#[]⟩] 50)) from b1.alloc b1.size _)
  have HC2 := Lib.hid (Cels.new w1 #[.int .u8 1, .int .u8 65, .string ⟨#[]⟩] 50)
  have HT2 := Lib.hid (HTT.out.below HB2.out HTT.out.pos)
  have HL2 := Lib.hid (HLL.out.on HB2.out)
  clear b1 HF
  go_wp2_with fail
  generalize w1.alloc (.cells #[.int .u8 1, .int .u8 65, .string ⟨#[]⟩] 50) = w2 at *
  have hlt2 : w1.heap.size < w2.heap.size := World.block_lt_of_cell? w2 _ (HC2.out 0 _ rfl)
  refine (HE.out _ HT2.out).mono ?_
  rintro e w3 ⟨rfl, b3⟩
  have HB3 := Lib.hid (bthen HB2.out b3 (Nat.le_refl _))
  have HL3 := Lib.hid (HL2.out.on b3)
  have HC3 := Lib.hid (HC2.out.on b3 hlt2)
  have hlt3 : w1.heap.size < w3.heap.size := Nat.lt_of_lt_of_le hlt2 b3.size
  clear b3
  go_wp2_with fail
  refine (HN.out _ HL3.out).mono ?_
  rintro e w4 ⟨rfl, b4⟩
  have HB4 := Lib.hid (bthen HB3.out b4 (Nat.le_refl _))
  have HC4 := Lib.hid (HC3.out.on b4 hlt3)
  have hlt4 : w1.heap.size < w4.heap.size := Nat.lt_of_lt_of_le hlt3 b4.size
  clear b4
  have c0 := HC4.out 0 _ rfl
  have c1 := HC4.out 1 _ rfl
  have c2 := HC4.out 2 _ rfl
  go_wp2_with fail
  go_ret
  exact ⟨rfl, HB4.out⟩
/-- the law's two boxes, the rows of its replies -/
structure ReSa (w : World) (x : Re) (A : Option Addr) (c : Nat) (y : Re) (B : Option Addr) (d : Nat) (W : World) : Prop where
  p : BoxC w w.heap.size (reL x A c) W
  q : BoxC w (w.heap.size + 1) (reL y B d) W
  ra : Prs W A x.head
  rb : Prs W B y.head
  B : Below w.heap.size w W
theorem ReSa.on {w : World} {x : Re} {A : Option Addr} {c : Nat} {y : Re} {B : Option Addr} {d : Nat} {W W' : World} (h : ReSa w x A c y B d W) (hb : Below W.heap.size W W') : ReSa w x A c y B d W' :=
  ⟨h.p.on hb, h.q.on hb, h.ra.on hb, h.rb.on hb, bthen h.B hb (Nat.le_refl _)⟩
abbrev ReSaS (w : World) (x : Re) (A : Option Addr) (c : Nat) (y : Re) (B : Option Addr) (d : Nat) (W : World) : Prop :=
  ((W.cell? ⟨w.heap.size, 0, none⟩ = some (.int .u8 (x.ch.toNat : Int)) ∧ W.cell? ⟨w.heap.size, 1, none⟩ = some (.int .u8 (x.kd.toNat : Int)) ∧ W.cell? ⟨w.heap.size, 2, none⟩ = some (.int .u64 (x.n : Int)) ∧ W.cell? ⟨w.heap.size, 3, none⟩ = some (.int .u64 (x.m : Int)) ∧ W.cell? ⟨w.heap.size, 4, none⟩ = some (.bool x.yes) ∧ W.cell? ⟨w.heap.size, 5, none⟩ = some (.string (ofL x.name)) ∧ W.cell? ⟨w.heap.size, 6, none⟩ = some (.int .u64 (x.id : Int)) ∧ W.cell? ⟨w.heap.size, 7, none⟩ = some (.string (ofL x.shop)) ∧ W.cell? ⟨w.heap.size, 8, none⟩ = some (.string (ofL x.key)) ∧ W.cell? ⟨w.heap.size, 9, none⟩ = some (.slice A x.head.length c) ∧ W.cell? ⟨w.heap.size, 10, none⟩ = some (.string (ofL x.body)) ∧ W.cell? ⟨w.heap.size, 11, none⟩ = some (.int .u64 (x.due : Int)) ∧ W.cell? ⟨w.heap.size, 12, none⟩ = some (.int .u8 (x.hops : Int))) ∧ w.heap.size < W.heap.size ∧ (W.cell? ⟨w.heap.size + 1, 0, none⟩ = some (.int .u8 (y.ch.toNat : Int)) ∧ W.cell? ⟨w.heap.size + 1, 1, none⟩ = some (.int .u8 (y.kd.toNat : Int)) ∧ W.cell? ⟨w.heap.size + 1, 2, none⟩ = some (.int .u64 (y.n : Int)) ∧ W.cell? ⟨w.heap.size + 1, 3, none⟩ = some (.int .u64 (y.m : Int)) ∧ W.cell? ⟨w.heap.size + 1, 4, none⟩ = some (.bool y.yes) ∧ W.cell? ⟨w.heap.size + 1, 5, none⟩ = some (.string (ofL y.name)) ∧ W.cell? ⟨w.heap.size + 1, 6, none⟩ = some (.int .u64 (y.id : Int)) ∧ W.cell? ⟨w.heap.size + 1, 7, none⟩ = some (.string (ofL y.shop)) ∧ W.cell? ⟨w.heap.size + 1, 8, none⟩ = some (.string (ofL y.key)) ∧ W.cell? ⟨w.heap.size + 1, 9, none⟩ = some (.slice B y.head.length d) ∧ W.cell? ⟨w.heap.size + 1, 10, none⟩ = some (.string (ofL y.body)) ∧ W.cell? ⟨w.heap.size + 1, 11, none⟩ = some (.int .u64 (y.due : Int)) ∧ W.cell? ⟨w.heap.size + 1, 12, none⟩ = some (.int .u8 (y.hops : Int))) ∧ w.heap.size + 1 < W.heap.size) ∧ ReSa w x A c y B d W
theorem ReSa.s {w : World} {x : Re} {A : Option Addr} {c : Nat} {y : Re} {B : Option Addr} {d : Nat} {W : World} (h : ReSa w x A c y B d W) : ReSaS w x A c y B d W :=
  ⟨⟨⟨h.p.cs 0 _ rfl, h.p.cs 1 _ rfl, h.p.cs 2 _ rfl, h.p.cs 3 _ rfl, h.p.cs 4 _ rfl, h.p.cs 5 _ rfl, h.p.cs 6 _ rfl, h.p.cs 7 _ rfl, h.p.cs 8 _ rfl, h.p.cs 9 _ rfl, h.p.cs 10 _ rfl, h.p.cs 11 _ rfl, h.p.cs 12 _ rfl⟩, h.p.lt, ⟨h.q.cs 0 _ rfl, h.q.cs 1 _ rfl, h.q.cs 2 _ rfl, h.q.cs 3 _ rfl, h.q.cs 4 _ rfl, h.q.cs 5 _ rfl, h.q.cs 6 _ rfl, h.q.cs 7 _ rfl, h.q.cs 8 _ rfl, h.q.cs 9 _ rfl, h.q.cs 10 _ rfl, h.q.cs 11 _ rfl, h.q.cs 12 _ rfl⟩, h.q.lt⟩, h⟩
theorem ReSaS.on {w : World} {x : Re} {A : Option Addr} {c : Nat} {y : Re} {B : Option Addr} {d : Nat} {W W' : World} (h : ReSaS w x A c y B d W) (hb : Below W.heap.size W W') : ReSaS w x A c y B d W' := (h.2.on hb).s
theorem ReSa.start (w : World) (x : Re) (A : Option Addr) (c : Nat) (y : Re) (B : Option Addr) (d : Nat) (hA : Prs w A x.head) (hB : Prs w B y.head) : ReSa w x A c y B d ((w.alloc (.cells #[.int .u8 (x.ch.toNat : Int), .int .u8 (x.kd.toNat : Int), .int .u64 (x.n : Int), .int .u64 (x.m : Int), .bool x.yes, .string (ofL x.name), .int .u64 (x.id : Int), .string (ofL x.shop), .string (ofL x.key), .slice A x.head.length c, .string (ofL x.body), .int .u64 (x.due : Int), .int .u8 (x.hops : Int)] 30)).alloc (.cells #[.int .u8 (y.ch.toNat : Int), .int .u8 (y.kd.toNat : Int), .int .u64 (y.n : Int), .int .u64 (y.m : Int), .bool y.yes, .string (ofL y.name), .int .u64 (y.id : Int), .string (ofL y.shop), .string (ofL y.key), .slice B y.head.length d, .string (ofL y.body), .int .u64 (y.due : Int), .int .u8 (y.hops : Int)] 30)) := by
  have h1 : BoxC w w.heap.size (reL x A c) (w.alloc (.cells #[.int .u8 (x.ch.toNat : Int), .int .u8 (x.kd.toNat : Int), .int .u64 (x.n : Int), .int .u64 (x.m : Int), .bool x.yes, .string (ofL x.name), .int .u64 (x.id : Int), .string (ofL x.shop), .string (ofL x.key), .slice A x.head.length c, .string (ofL x.body), .int .u64 (x.due : Int), .int .u8 (x.hops : Int)] 30)) := BoxC.new (Nat.le_refl _) #[.int .u8 (x.ch.toNat : Int), .int .u8 (x.kd.toNat : Int), .int .u64 (x.n : Int), .int .u64 (x.m : Int), .bool x.yes, .string (ofL x.name), .int .u64 (x.id : Int), .string (ofL x.shop), .string (ofL x.key), .slice A x.head.length c, .string (ofL x.body), .int .u64 (x.due : Int), .int .u8 (x.hops : Int)] 30
  have h2 : BoxC w (w.heap.size + 1) (reL y B d) ((w.alloc (.cells #[.int .u8 (x.ch.toNat : Int), .int .u8 (x.kd.toNat : Int), .int .u64 (x.n : Int), .int .u64 (x.m : Int), .bool x.yes, .string (ofL x.name), .int .u64 (x.id : Int), .string (ofL x.shop), .string (ofL x.key), .slice A x.head.length c, .string (ofL x.body), .int .u64 (x.due : Int), .int .u8 (x.hops : Int)] 30)).alloc (.cells #[.int .u8 (y.ch.toNat : Int), .int .u8 (y.kd.toNat : Int), .int .u64 (y.n : Int), .int .u64 (y.m : Int), .bool y.yes, .string (ofL y.name), .int .u64 (y.id : Int), .string (ofL y.shop), .string (ofL y.key), .slice B y.head.length d, .string (ofL y.body), .int .u64 (y.due : Int), .int .u8 (y.hops : Int)] 30)) := by
    have := BoxC.new (w := w) (W := (w.alloc (.cells #[.int .u8 (x.ch.toNat : Int), .int .u8 (x.kd.toNat : Int), .int .u64 (x.n : Int), .int .u64 (x.m : Int), .bool x.yes, .string (ofL x.name), .int .u64 (x.id : Int), .string (ofL x.shop), .string (ofL x.key), .slice A x.head.length c, .string (ofL x.body), .int .u64 (x.due : Int), .int .u8 (x.hops : Int)] 30))) (by simp) #[.int .u8 (y.ch.toNat : Int), .int .u8 (y.kd.toNat : Int), .int .u64 (y.n : Int), .int .u64 (y.m : Int), .bool y.yes, .string (ofL y.name), .int .u64 (y.id : Int), .string (ofL y.shop), .string (ofL y.key), .slice B y.head.length d, .string (ofL y.body), .int .u64 (y.due : Int), .int .u8 (y.hops : Int)] 30
    simpa [reL] using this
  have hb0 : Below w.heap.size w (w.alloc (.cells #[.int .u8 (x.ch.toNat : Int), .int .u8 (x.kd.toNat : Int), .int .u64 (x.n : Int), .int .u64 (x.m : Int), .bool x.yes, .string (ofL x.name), .int .u64 (x.id : Int), .string (ofL x.shop), .string (ofL x.key), .slice A x.head.length c, .string (ofL x.body), .int .u64 (x.due : Int), .int .u8 (x.hops : Int)] 30)) := (Below.refl _ _).alloc (Nat.le_refl _) _
  have hb : Below (w.alloc (.cells #[.int .u8 (x.ch.toNat : Int), .int .u8 (x.kd.toNat : Int), .int .u64 (x.n : Int), .int .u64 (x.m : Int), .bool x.yes, .string (ofL x.name), .int .u64 (x.id : Int), .string (ofL x.shop), .string (ofL x.key), .slice A x.head.length c, .string (ofL x.body), .int .u64 (x.due : Int), .int .u8 (x.hops : Int)] 30)).heap.size (w.alloc (.cells #[.int .u8 (x.ch.toNat : Int), .int .u8 (x.kd.toNat : Int), .int .u64 (x.n : Int), .int .u64 (x.m : Int), .bool x.yes, .string (ofL x.name), .int .u64 (x.id : Int), .string (ofL x.shop), .string (ofL x.key), .slice A x.head.length c, .string (ofL x.body), .int .u64 (x.due : Int), .int .u8 (x.hops : Int)] 30)) ((w.alloc (.cells #[.int .u8 (x.ch.toNat : Int), .int .u8 (x.kd.toNat : Int), .int .u64 (x.n : Int), .int .u64 (x.m : Int), .bool x.yes, .string (ofL x.name), .int .u64 (x.id : Int), .string (ofL x.shop), .string (ofL x.key), .slice A x.head.length c, .string (ofL x.body), .int .u64 (x.due : Int), .int .u8 (x.hops : Int)] 30)).alloc (.cells #[.int .u8 (y.ch.toNat : Int), .int .u8 (y.kd.toNat : Int), .int .u64 (y.n : Int), .int .u64 (y.m : Int), .bool y.yes, .string (ofL y.name), .int .u64 (y.id : Int), .string (ofL y.shop), .string (ofL y.key), .slice B y.head.length d, .string (ofL y.body), .int .u64 (y.due : Int), .int .u8 (y.hops : Int)] 30)) := (Below.refl _ _).alloc (Nat.le_refl _) _
  exact ⟨h1.on hb, h2, (hA.on hb0).on hb, (hB.on hb0).on hb, bthen hb0 hb (Nat.le_refl _)⟩
end Go.Proofs.YtnjlhafhgfpfiaaGreatDoor
end
