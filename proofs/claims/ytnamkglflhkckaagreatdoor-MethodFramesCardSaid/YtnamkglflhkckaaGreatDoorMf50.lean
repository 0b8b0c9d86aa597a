/-
  THE LAW MethodFrames, walked: the frame of any method, or why it may not be; read again it is that.
-/
import Derived.Test.YtnamkglflhkckaaGreatDoorMf36
import Derived.Test.YtnamkglflhkckaaGreatDoorMf40
import Derived.Test.YtnamkglflhkckaaGreatDoorMf44
import Derived.Test.YtnamkglflhkckaaGreatDoorMf49
import Derived.Deep.RegionHeld3
import Derived.Deep.DeepCutAuto
section
namespace Go.Proofs.YtnamkglflhkckaaGreatDoor
open Go.ChangeShapes Go.WideShapes Go.ChangeAt Go.RowKit
attribute [local go_sem ↓] rfrm_eql
attribute [local go_sem] guardRF
/-- a method that may be, framed, is read as it was -/
theorem me_back {x : Me} (hf : Me.Fits x) (h : x.code = 0) : Me.rcode x.ch x.kd x.enc = 0 ∧ Me.got x.ch x.kd x.enc = x := by
  obtain ⟨h20, -, -⟩ := Me.code_ok h
  have hr := Me.rd_enc hf h
  have h1 : Me.rcode x.ch x.kd x.enc = 0 := by
    unfold Me.rcode
    rw [if_neg (by omega)]
    unfold Me.tail
    rw [hr]
    show (if lEnd ([], 0) ≠ 0 then lEnd ([], 0) else (x.code : Int)) = 0
    rw [if_neg (by decide), h]
    rfl
  refine ⟨h1, ?_⟩
  unfold Me.got
  rw [if_pos h1, hr]
/-- the law's box, its reply's row -/
structure MeFx (w : World) (x : Me) (A : Option Addr) (c : Nat) (W : World) : Prop where
  p : BoxC w w.heap.size (meL x A c) W
  ra : Prs W A x.head
  B : Below w.heap.size w W
theorem MeFx.on {w : World} {x : Me} {A : Option Addr} {c : Nat} {W W' : World} (h : MeFx w x A c W) (hb : Below W.heap.size W W') : MeFx w x A c W' := ⟨h.p.on hb, h.ra.on hb, bthen h.B hb (Nat.le_refl _)⟩
theorem MeFx.start (w : World) (x : Me) (A : Option Addr) (c : Nat) (hA : Prs w A x.head) : MeFx w x A c (w.alloc (.cells #[.int .u8 (x.ch.toNat : Int), .int .u8 (x.kd.toNat : Int), .string (ofL x.name), .string (ofL x.other), .string (ofL x.key), .slice A x.head.length c, .string (ofL x.body), .int .u64 (x.n : Int), .int .u64 (x.m : Int), .bool x.yes] 25)) := by
  have hb : Below w.heap.size w (w.alloc (.cells #[.int .u8 (x.ch.toNat : Int), .int .u8 (x.kd.toNat : Int), .string (ofL x.name), .string (ofL x.other), .string (ofL x.key), .slice A x.head.length c, .string (ofL x.body), .int .u64 (x.n : Int), .int .u64 (x.m : Int), .bool x.yes] 25)) := (Below.refl _ _).alloc (Nat.le_refl _) _
  exact ⟨BoxC.new (Nat.le_refl _) #[.int .u8 (x.ch.toNat : Int), .int .u8 (x.kd.toNat : Int), .string (ofL x.name), .string (ofL x.other), .string (ofL x.key), .slice A x.head.length c, .string (ofL x.body), .int .u64 (x.n : Int), .int .u64 (x.m : Int), .bool x.yes] 25, hA.on hb, hb⟩
/-- with its frame's box -/
structure MeFy (w : World) (x : Me) (A : Option Addr) (c g : Nat) (fs : List Value) (W : World) : Prop where
  m : MeFx w x A c W
  f : BoxC w g fs W
theorem MeFy.on {w : World} {x : Me} {A : Option Addr} {c g : Nat} {fs : List Value} {W W' : World} (h : MeFy w x A c g fs W) (hb : Below W.heap.size W W') : MeFy w x A c g fs W' := ⟨h.m.on hb, h.f.on hb⟩
theorem MeFx.more {w : World} {x : Me} {A : Option Addr} {c : Nat} {W : World} (h : MeFx w x A c W) (v0 v1 v2 : Value) : MeFy w x A c W.heap.size [v0, v1, v2] (W.alloc (.cells #[v0, v1, v2] 32)) :=
  ⟨h.on ((Below.refl _ _).alloc (Nat.le_refl _) _), BoxC.new h.B.size #[v0, v1, v2] 32⟩
/-- with the reply's that is read again -/
structure MeFz (w : World) (x : Me) (A : Option Addr) (c g : Nat) (fs : List Value) (A2 : Option Addr) (c2 g2 : Nat) (W : World) : Prop where
  y : MeFy w x A c g fs W
  q : BoxC w g2 (meL x A2 c2) W
  rb : Prs W A2 x.head
theorem MeFz.on {w : World} {x : Me} {A : Option Addr} {c g : Nat} {fs : List Value} {A2 : Option Addr} {c2 g2 : Nat} {W W' : World} (h : MeFz w x A c g fs A2 c2 g2 W) (hb : Below W.heap.size W W') : MeFz w x A c g fs A2 c2 g2 W' := ⟨h.y.on hb, h.q.on hb, h.rb.on hb⟩
theorem MeFy.more {w : World} {x : Me} {A : Option Addr} {c g : Nat} {fs : List Value} {W : World} (h : MeFy w x A c g fs W) (A2 : Option Addr) (c2 : Nat) (h2 : Prs W A2 x.head) : MeFz w x A c g fs A2 c2 W.heap.size (W.alloc (.cells #[.int .u8 (x.ch.toNat : Int), .int .u8 (x.kd.toNat : Int), .string (ofL x.name), .string (ofL x.other), .string (ofL x.key), .slice A2 x.head.length c2, .string (ofL x.body), .int .u64 (x.n : Int), .int .u64 (x.m : Int), .bool x.yes] 25)) :=
  ⟨h.on ((Below.refl _ _).alloc (Nat.le_refl _) _), BoxC.new h.m.B.size #[.int .u8 (x.ch.toNat : Int), .int .u8 (x.kd.toNat : Int), .string (ofL x.name), .string (ofL x.other), .string (ofL x.key), .slice A2 x.head.length c2, .string (ofL x.body), .int .u64 (x.n : Int), .int .u64 (x.m : Int), .bool x.yes] 25, h2.on ((Below.refl _ _).alloc (Nat.le_refl _) _)⟩
abbrev MeFzS (w : World) (x : Me) (A : Option Addr) (c g : Nat) (A2 : Option Addr) (c2 g2 : Nat) (W : World) : Prop :=
  ((W.cell? ⟨w.heap.size, 0, none⟩ = some (.int .u8 (x.ch.toNat : Int)) ∧ W.cell? ⟨w.heap.size, 1, none⟩ = some (.int .u8 (x.kd.toNat : Int)) ∧ W.cell? ⟨w.heap.size, 2, none⟩ = some (.string (ofL x.name)) ∧ W.cell? ⟨w.heap.size, 3, none⟩ = some (.string (ofL x.other)) ∧ W.cell? ⟨w.heap.size, 4, none⟩ = some (.string (ofL x.key)) ∧ W.cell? ⟨w.heap.size, 5, none⟩ = some (.slice A x.head.length c) ∧ W.cell? ⟨w.heap.size, 6, none⟩ = some (.string (ofL x.body)) ∧ W.cell? ⟨w.heap.size, 7, none⟩ = some (.int .u64 (x.n : Int)) ∧ W.cell? ⟨w.heap.size, 8, none⟩ = some (.int .u64 (x.m : Int)) ∧ W.cell? ⟨w.heap.size, 9, none⟩ = some (.bool x.yes)) ∧ w.heap.size < W.heap.size ∧ (W.cell? ⟨g, 0, none⟩ = some (.int .u8 (x.ch.toNat : Int)) ∧ W.cell? ⟨g, 1, none⟩ = some (.int .u8 (x.kd.toNat : Int)) ∧ W.cell? ⟨g, 2, none⟩ = some (.string (ofL x.enc))) ∧ g < W.heap.size ∧ (W.cell? ⟨g2, 0, none⟩ = some (.int .u8 (x.ch.toNat : Int)) ∧ W.cell? ⟨g2, 1, none⟩ = some (.int .u8 (x.kd.toNat : Int)) ∧ W.cell? ⟨g2, 2, none⟩ = some (.string (ofL x.name)) ∧ W.cell? ⟨g2, 3, none⟩ = some (.string (ofL x.other)) ∧ W.cell? ⟨g2, 4, none⟩ = some (.string (ofL x.key)) ∧ W.cell? ⟨g2, 5, none⟩ = some (.slice A2 x.head.length c2) ∧ W.cell? ⟨g2, 6, none⟩ = some (.string (ofL x.body)) ∧ W.cell? ⟨g2, 7, none⟩ = some (.int .u64 (x.n : Int)) ∧ W.cell? ⟨g2, 8, none⟩ = some (.int .u64 (x.m : Int)) ∧ W.cell? ⟨g2, 9, none⟩ = some (.bool x.yes)) ∧ g2 < W.heap.size) ∧ MeFz w x A c g [.int .u8 (x.ch.toNat : Int), .int .u8 (x.kd.toNat : Int), .string (ofL x.enc)] A2 c2 g2 W
theorem MeFz.s {w : World} {x : Me} {A : Option Addr} {c g : Nat} {A2 : Option Addr} {c2 g2 : Nat} {W : World} (h : MeFz w x A c g [.int .u8 (x.ch.toNat : Int), .int .u8 (x.kd.toNat : Int), .string (ofL x.enc)] A2 c2 g2 W) : MeFzS w x A c g A2 c2 g2 W :=
  ⟨⟨⟨h.y.m.p.cs 0 _ rfl, h.y.m.p.cs 1 _ rfl, h.y.m.p.cs 2 _ rfl, h.y.m.p.cs 3 _ rfl, h.y.m.p.cs 4 _ rfl, h.y.m.p.cs 5 _ rfl, h.y.m.p.cs 6 _ rfl, h.y.m.p.cs 7 _ rfl, h.y.m.p.cs 8 _ rfl, h.y.m.p.cs 9 _ rfl⟩, h.y.m.p.lt, ⟨h.y.f.cs 0 _ rfl, h.y.f.cs 1 _ rfl, h.y.f.cs 2 _ rfl⟩, h.y.f.lt, ⟨h.q.cs 0 _ rfl, h.q.cs 1 _ rfl, h.q.cs 2 _ rfl, h.q.cs 3 _ rfl, h.q.cs 4 _ rfl, h.q.cs 5 _ rfl, h.q.cs 6 _ rfl, h.q.cs 7 _ rfl, h.q.cs 8 _ rfl, h.q.cs 9 _ rfl⟩, h.q.lt⟩, h⟩
theorem MeFzS.on {w : World} {x : Me} {A : Option Addr} {c g : Nat} {A2 : Option Addr} {c2 g2 : Nat} {W W' : World} (h : MeFzS w x A c g A2 c2 g2 W) (hb : Below W.heap.size W W') : MeFzS w x A c g A2 c2 g2 W' := (h.2.on hb).s
set_option maxRecDepth 100000 in
set_option maxHeartbeats 16000000 in
theorem methodFrames_walk (x : Me) (A : Option Addr) (c : Nat) (w : World) (hx : MeIn w x A c) (hT : Tab w) (hL : Len w) :
    Calls Tryz.prog 3 #[meV x A c] w fun e w' => e = .returned (.bool true) ∧ Below w.heap.size w w' := by
  have HM0 := Lib.hid (MeFx.start w x A c hx.row)
  have HAW := Lib.hid (awake11_any _ (hT.below HM0.out.B hT.pos) (hL.on HM0.out.B))
  have HLX := Lib.hid (fun W h => me_light_any x A c W hx.big h)
  have HLL := Lib.hid hL
  clear hL hT
  cases hlx : meLight x with
  | false =>
    rw [hlx] at HLX
    clear hlx
    simp only [meV] at HLX ⊢
    go_enter Tryz.func3, Tryz.ntmps3
    go_wp2_with fail
    refine HAW.out.mono ?_
    rintro e w1 ⟨rfl, b1⟩
    have HM1 := Lib.hid (HM0.out.on b1)
    clear b1
    have c0 := HM1.out.p.cs 0 _ rfl
    have c1 := HM1.out.p.cs 1 _ rfl
    have c2 := HM1.out.p.cs 2 _ rfl
    have c3 := HM1.out.p.cs 3 _ rfl
    have c4 := HM1.out.p.cs 4 _ rfl
    have c5 := HM1.out.p.cs 5 _ rfl
    have c6 := HM1.out.p.cs 6 _ rfl
    have c7 := HM1.out.p.cs 7 _ rfl
    have c8 := HM1.out.p.cs 8 _ rfl
    have c9 := HM1.out.p.cs 9 _ rfl
    have cl := HM1.out.p.lt
    go_wp2_with fail
    refine (HLX.out _ HM1.out.ra).mono ?_
    rintro e w2 ⟨rfl, b2⟩
    have HM2 := Lib.hid (HM1.out.on b2)
    clear b2 c0 c1 c2 c3 c4 c5 c6 c7 c8 c9 cl
    go_wp2_with fail
    go_ret
    exact ⟨rfl, HM2.out.B⟩
  | true =>
    have hxl := me_len hlx
    have HOK := Lib.hid (fun W (g : Prs W A x.head) => me_light_Ok (w := W) hlx hx.cap g)
    have HOK1 := Lib.hid (fun A1 c1 W (hc : x.head.length ≤ c1) (g : Prs W A1 x.head) => me_light_Ok (w := W) (A := A1) (c := c1) hlx hc g)
    have HTO := Lib.hid (fun W h1 => me_To_any x A c W (by omega) hx.cap h1)
    have HCK := Lib.hid (fun A1 c1 W h => r11Check_any x A1 c1 W h)
    have HFR := Lib.hid (fun W h1 h2 => me_Frame_any x A c W h1 hx.fits h2)
    have HCH := Lib.hid (fun W h1 h2 => me_Check_any x A c W h1 h2)
    unfold MeToPost at HTO
    rw [hlx] at HLX
    clear hlx
    by_cases h0 : x.code = 0
    · have h0i : (x.code : Int) = 0 := by rw [h0]; rfl
      rw [show meFrameV x = .tuple #[.agg #[.int .u8 (x.ch.toNat : Int), .int .u8 (x.kd.toNat : Int), .string (ofL x.enc)], .int .i64 0] by unfold meFrameV; rw [if_pos h0]] at HFR
      rw [h0i] at HCK HCH
      have HOF := Lib.hid (fun W h => me_Of_any x.ch x.kd x.enc W h)
      rw [(me_back hx.fits h0).1, (me_back hx.fits h0).2] at HOF
      unfold MeOfPost at HOF
      have HRF := Lib.hid (fun A1 c1 W h => r11Bytes_any x A1 c1 W h hx.fits h0)
      have HSM := Lib.hid (fun A2 c2 W h1 h2 => me_Same_any x x A c A2 c2 W (by omega) (by omega) h1 h2)
      rw [meEq_self] at HSM
      have hfe := frmEq_self (x.ch.toNat : Int) (x.kd.toNat : Int) (ofL x.enc)
      simp only [meV] at HLX HTO HCK HFR HCH HOF HRF HSM ⊢
      clear h0 h0i
      go_enter Tryz.func3, Tryz.ntmps3
      go_wp2_with fail
      refine HAW.out.mono ?_
      rintro e w1 ⟨rfl, b1⟩
      have HM1 := Lib.hid (HM0.out.on b1)
      clear b1
      have c0 := HM1.out.p.cs 0 _ rfl
      have c1 := HM1.out.p.cs 1 _ rfl
      have c2 := HM1.out.p.cs 2 _ rfl
      have c3 := HM1.out.p.cs 3 _ rfl
      have c4 := HM1.out.p.cs 4 _ rfl
      have c5 := HM1.out.p.cs 5 _ rfl
      have c6 := HM1.out.p.cs 6 _ rfl
      have c7 := HM1.out.p.cs 7 _ rfl
      have c8 := HM1.out.p.cs 8 _ rfl
      have c9 := HM1.out.p.cs 9 _ rfl
      have cl := HM1.out.p.lt
      go_wp2_with fail
      refine (HLX.out _ HM1.out.ra).mono ?_
      rintro e w2 ⟨rfl, b2⟩
      have HM2 := Lib.hid (HM1.out.on b2)
      clear b2 c0 c1 c2 c3 c4 c5 c6 c7 c8 c9 cl
      have c0 := HM2.out.p.cs 0 _ rfl
      have c1 := HM2.out.p.cs 1 _ rfl
      have c2 := HM2.out.p.cs 2 _ rfl
      have c3 := HM2.out.p.cs 3 _ rfl
      have c4 := HM2.out.p.cs 4 _ rfl
      have c5 := HM2.out.p.cs 5 _ rfl
      have c6 := HM2.out.p.cs 6 _ rfl
      have c7 := HM2.out.p.cs 7 _ rfl
      have c8 := HM2.out.p.cs 8 _ rfl
      have c9 := HM2.out.p.cs 9 _ rfl
      have cl := HM2.out.p.lt
      go_wp2_with fail
      refine (HTO.out _ HM2.out.ra).mono ?_
      rintro e w3 ⟨A1, k1, rfl, hc1, hp1, b3⟩
      have HM3 := Lib.hid (HM2.out.on b3)
      have HK3 := Lib.hid (HCK.out A1 k1 w3 (HOK1.out A1 k1 w3 hc1 hp1))
      clear b3 hc1 hp1 c0 c1 c2 c3 c4 c5 c6 c7 c8 c9 cl
      go_wp2_with fail
      refine HK3.out.mono ?_
      rintro e w4 ⟨rfl, b4⟩
      have HM4 := Lib.hid (HM3.out.on b4)
      clear b4 HK3
      have c0 := HM4.out.p.cs 0 _ rfl
      have c1 := HM4.out.p.cs 1 _ rfl
      have c2 := HM4.out.p.cs 2 _ rfl
      have c3 := HM4.out.p.cs 3 _ rfl
      have c4 := HM4.out.p.cs 4 _ rfl
      have c5 := HM4.out.p.cs 5 _ rfl
      have c6 := HM4.out.p.cs 6 _ rfl
      have c7 := HM4.out.p.cs 7 _ rfl
      have c8 := HM4.out.p.cs 8 _ rfl
      have c9 := HM4.out.p.cs 9 _ rfl
      have cl := HM4.out.p.lt
      go_wp2_with fail
      refine (HFR.out _ (HOK.out _ HM4.out.ra) (HLL.out.on HM4.out.B)).mono ?_
      rintro e w5 ⟨rfl, b5⟩
      have HM5 := Lib.hid (HM4.out.on b5)
      clear b5 c0 c1 c2 c3 c4 c5 c6 c7 c8 c9 cl
      have c0 := HM5.out.p.cs 0 _ rfl
      have c1 := HM5.out.p.cs 1 _ rfl
      have c2 := HM5.out.p.cs 2 _ rfl
      have c3 := HM5.out.p.cs 3 _ rfl
      have c4 := HM5.out.p.cs 4 _ rfl
      have c5 := HM5.out.p.cs 5 _ rfl
      have c6 := HM5.out.p.cs 6 _ rfl
      have c7 := HM5.out.p.cs 7 _ rfl
      have c8 := HM5.out.p.cs 8 _ rfl
      have c9 := HM5.out.p.cs 9 _ rfl
      have cl := HM5.out.p.lt
      have HM6 := Lib.hid (HM5.out.more (.int .u8 (x.ch.toNat : Int)) (.int .u8 (x.kd.toNat : Int)) (.string (ofL x.enc)))
      go_wp2_with fail
      generalize w5.alloc (.cells #[.int .u8 (x.ch.toNat : Int), .int .u8 (x.kd.toNat : Int), .string (ofL x.enc)] 32) = w6 at *
      generalize w5.heap.size = g at *
      refine (HCH.out _ (HOK.out _ HM6.out.m.ra) (HLL.out.on HM6.out.m.B)).mono ?_
      rintro e w7 ⟨rfl, b7⟩
      have HM7 := Lib.hid (HM6.out.on b7)
      clear b7 c0 c1 c2 c3 c4 c5 c6 c7 c8 c9 cl
      have f0 := HM7.out.f.cs 0 _ rfl
      have f1 := HM7.out.f.cs 1 _ rfl
      have f2 := HM7.out.f.cs 2 _ rfl
      have fl := HM7.out.f.lt
      go_wp2_with fail
      refine (HOF.out _ (HLL.out.on HM7.out.m.B)).mono ?_
      rintro e w8 ⟨A2, k2, rfl, -, hp2, b8, -⟩
      have HM8 := Lib.hid (HM7.out.on b8)
      have HM9 := Lib.hid (HM8.out.more A2 k2 hp2)
      clear b8 hp2 f0 f1 f2 fl
      go_upto_region 12 with fail
      generalize w8.alloc (.cells #[.int .u8 (x.ch.toNat : Int), .int .u8 (x.kd.toNat : Int), .string (ofL x.name), .string (ofL x.other), .string (ofL x.key), .slice A2 x.head.length k2, .string (ofL x.body), .int .u64 (x.n : Int), .int .u64 (x.m : Int), .bool x.yes] 25) = w9 at *
      generalize w8.heap.size = g2 at *
      have HX := Lib.hid ((HM9.out.on (Below.refl _ _).drew).s)
      clear HM0 HM1 HM2 HM3 HM4 HM5 HM6 HM7 HM8 HM9 HAW HLX HFR HCH HOF HCK
      refine wp_region_noPanic ?_
      refine wp_region_held_drew (S := MeFzS w x A c g A2 k2 g2) (by kernel_rfl) ?_ (fun hHeld => ?_)
      · (try dsimp only); (first | assumption | exact HX.out | exact MeFzS.on (by assumption) hb2)
      refine wpAnyH_take (i := 0) (v := ?_) rfl (by kernel_rfl) (by kernel_rfl) (by kernel_rfl) (fun _ _ _ h => h) (Or.inl ⟨by rfl, ?_⟩) (by assumption) ?_
      rotate_left
      · intro w hSw; (try dsimp only at hSw); go_simp; try with_reducible rfl
      (try simp only [List.getElem_toArray, List.getElem_cons_zero, Act.put, List.setIfInBounds_toArray, List.set_cons_zero, List.set_cons_succ])
      refine wpAnyH_take (i := 1) (v := ?_) rfl (by kernel_rfl) (by kernel_rfl) (by kernel_rfl) (fun _ _ _ h => h) (Or.inl ⟨by rfl, ?_⟩) (by assumption) ?_
      rotate_left
      · intro w hSw; (try dsimp only at hSw); go_simp; try with_reducible rfl
      (try simp only [List.getElem_toArray, List.getElem_cons_succ, List.getElem_cons_zero, Act.put, List.setIfInBounds_toArray, List.set_cons_zero, List.set_cons_succ])
      refine wpAnyH_take (i := 2) (v := ?_) rfl (by kernel_rfl) (by kernel_rfl) (by kernel_rfl) (fun _ _ _ h => h) (Or.inl ⟨by rfl, ?_⟩) (by assumption) ?_
      rotate_left
      · intro w hSw; (try dsimp only at hSw); go_simp; try with_reducible rfl
      (try simp only [List.getElem_toArray, List.getElem_cons_succ, List.getElem_cons_zero, Act.put, List.setIfInBounds_toArray, List.set_cons_zero, List.set_cons_succ])
      refine wpAnyH_take (i := 3) (v := ?_) rfl (by kernel_rfl) (by kernel_rfl) (by kernel_rfl) (fun _ _ _ h => h) (Or.inl ⟨by rfl, ?_⟩) (by assumption) ?_
      rotate_left
      · intro w hSw; (try dsimp only at hSw); go_simp; try with_reducible rfl
      (try simp only [List.getElem_toArray, List.getElem_cons_succ, List.getElem_cons_zero, Act.put, List.setIfInBounds_toArray, List.set_cons_zero, List.set_cons_succ])
      refine wpAnyH_take (i := 4) (v := ?_) rfl (by kernel_rfl) (by kernel_rfl) (by kernel_rfl) (fun _ _ _ h => h) (Or.inl ⟨by rfl, ?_⟩) (by assumption) ?_
      rotate_left
      · intro w hSw; (try dsimp only at hSw); go_simp; try with_reducible rfl
      (try simp only [List.getElem_toArray, List.getElem_cons_succ, List.getElem_cons_zero, Act.put, List.setIfInBounds_toArray, List.set_cons_zero, List.set_cons_succ])
      refine wpAnyH_take (i := 5) (v := ?_) rfl (by kernel_rfl) (by kernel_rfl) (by kernel_rfl) (fun _ _ _ h => h) (Or.inl ⟨by rfl, ?_⟩) (by assumption) ?_
      rotate_left
      · intro w hSw; (try dsimp only at hSw); go_simp; try with_reducible rfl
      (try simp only [List.getElem_toArray, List.getElem_cons_succ, List.getElem_cons_zero, Act.put, List.setIfInBounds_toArray, List.set_cons_zero, List.set_cons_succ])
      refine wpAnyH_ready (rs := [6]) (by kernel_rfl) (by simp) ?_
      refine AllReadyH.cons rfl (fun K hK => ?_) (AllReadyH.nil)
      · go_simp
        (go_at_call 12; ((refine (HTO.out _ hHeld.2.y.m.ra).mono ?_); rintro e' wz ⟨A1, k1, rfl, hc1, hp1, hb2⟩); have HK1 := Lib.hid (HOK1.out A1 k1 _ hc1 hp1); clear hc1 hp1)
        refine hK.out _ _ ?_ (fun hHeld => ?_)
        · (try dsimp only); (first | assumption | exact HX.out | exact MeFzS.on (by assumption) hb2)
        clear hK K
        (try simp only [List.getElem_toArray, List.getElem_cons_succ, List.getElem_cons_zero, Act.put, List.setIfInBounds_toArray, List.set_cons_zero, List.set_cons_succ])
        refine wpAnyH_ready (rs := [7]) (by kernel_rfl) (by simp) ?_
        refine AllReadyH.cons rfl (fun K hK => ?_) (AllReadyH.nil)
        · go_simp
          (go_at_call 17; ((refine (HRF.out A1 k1 _ HK1.out.row).mono ?_); rintro e' wz ⟨rfl, hb2⟩))
          refine hK.out _ _ ?_ (fun hHeld => ?_)
          · (try dsimp only); (first | assumption | exact HX.out | exact MeFzS.on (by assumption) hb2)
          clear hK K
          (try simp only [List.getElem_toArray, List.getElem_cons_succ, List.getElem_cons_zero, Act.put, List.setIfInBounds_toArray, List.set_cons_zero, List.set_cons_succ])
          refine wpAnyH_take (i := 8) (v := ?_) rfl (by kernel_rfl) (by kernel_rfl) (by kernel_rfl) (fun _ _ _ h => h) (Or.inl ⟨by rfl, ?_⟩) (by assumption) ?_
          rotate_left
          · intro w hSw; (try dsimp only at hSw); go_simp; try with_reducible rfl
          (try simp only [List.getElem_toArray, List.getElem_cons_succ, List.getElem_cons_zero, Act.put, List.setIfInBounds_toArray, List.set_cons_zero, List.set_cons_succ])
          refine wpAnyH_take (i := 9) (v := ?_) rfl (by kernel_rfl) (by kernel_rfl) (by kernel_rfl) (fun _ _ _ h => h) (Or.inl ⟨by rfl, ?_⟩) (by assumption) ?_
          rotate_left
          · intro w hSw; (try dsimp only at hSw); go_simp; try with_reducible rfl
          (try simp only [List.getElem_toArray, List.getElem_cons_succ, List.getElem_cons_zero, Act.put, List.setIfInBounds_toArray, List.set_cons_zero, List.set_cons_succ])
          refine wpAnyH_take (i := 10) (v := ?_) rfl (by kernel_rfl) (by kernel_rfl) (by kernel_rfl) (fun _ _ _ h => h) (Or.inl ⟨by rfl, ?_⟩) (by assumption) ?_
          rotate_left
          · intro w hSw; (try dsimp only at hSw); go_simp; try with_reducible rfl
          (try simp only [List.getElem_toArray, List.getElem_cons_succ, List.getElem_cons_zero, Act.put, List.setIfInBounds_toArray, List.set_cons_zero, List.set_cons_succ])
          refine wpAnyH_take (i := 11) (v := ?_) rfl (by kernel_rfl) (by kernel_rfl) (by kernel_rfl) (fun _ _ _ h => h) (Or.inl ⟨by rfl, ?_⟩) (by assumption) ?_
          rotate_left
          · intro w hSw; (try dsimp only at hSw); go_simp; try with_reducible rfl
          (try simp only [List.getElem_toArray, List.getElem_cons_succ, List.getElem_cons_zero, Act.put, List.setIfInBounds_toArray, List.set_cons_zero, List.set_cons_succ])
          refine wpAnyH_take (i := 12) (v := ?_) rfl (by kernel_rfl) (by kernel_rfl) (by kernel_rfl) (fun _ _ _ h => h) (Or.inl ⟨by rfl, ?_⟩) (by assumption) ?_
          rotate_left
          · intro w hSw; (try dsimp only at hSw); go_simp; try with_reducible rfl
          (try simp only [List.getElem_toArray, List.getElem_cons_succ, List.getElem_cons_zero, Act.put, List.setIfInBounds_toArray, List.set_cons_zero, List.set_cons_succ])
          refine wpAnyH_take (i := 13) (v := ?_) rfl (by kernel_rfl) (by kernel_rfl) (by kernel_rfl) (fun _ _ _ h => h) (Or.inl ⟨by rfl, ?_⟩) (by assumption) ?_
          rotate_left
          · intro w hSw; (try dsimp only at hSw); go_simp; try with_reducible rfl
          (try simp only [List.getElem_toArray, List.getElem_cons_succ, List.getElem_cons_zero, Act.put, List.setIfInBounds_toArray, List.set_cons_zero, List.set_cons_succ])
          refine wpAnyH_take (i := 14) (v := ?_) rfl (by kernel_rfl) (by kernel_rfl) (by kernel_rfl) (fun _ _ _ h => h) (Or.inl ⟨by rfl, ?_⟩) (by assumption) ?_
          rotate_left
          · intro w hSw; (try dsimp only at hSw); go_simp; try with_reducible rfl
          (try simp only [List.getElem_toArray, List.getElem_cons_succ, List.getElem_cons_zero, Act.put, List.setIfInBounds_toArray, List.set_cons_zero, List.set_cons_succ])
          refine wpAnyH_take (i := 15) (v := ?_) rfl (by kernel_rfl) (by kernel_rfl) (by kernel_rfl) (fun _ _ _ h => h) (Or.inl ⟨by rfl, ?_⟩) (by assumption) ?_
          rotate_left
          · intro w hSw; (try dsimp only at hSw); go_simp; try with_reducible rfl
          (try simp only [List.getElem_toArray, List.getElem_cons_succ, List.getElem_cons_zero, Act.put, List.setIfInBounds_toArray, List.set_cons_zero, List.set_cons_succ])
          refine wpAnyH_take (i := 16) (v := ?_) rfl (by kernel_rfl) (by kernel_rfl) (by kernel_rfl) (fun _ _ _ h => h) (Or.inl ⟨by rfl, ?_⟩) (by assumption) ?_
          rotate_left
          · intro w hSw; (try dsimp only at hSw); go_simp; try with_reducible rfl
          (try simp only [List.getElem_toArray, List.getElem_cons_succ, List.getElem_cons_zero, Act.put, List.setIfInBounds_toArray, List.set_cons_zero, List.set_cons_succ])
          refine wpAnyH_ready (rs := [17]) (by kernel_rfl) (by simp) ?_
          refine AllReadyH.cons rfl (fun K hK => ?_) (AllReadyH.nil)
          · go_simp
            (go_at_call 18; ((refine (HSM.out A2 k2 _ hHeld.2.y.m.ra hHeld.2.rb).mono ?_); rintro e' wz ⟨rfl, hb2⟩))
            refine hK.out _ _ ?_ (fun hHeld => ?_)
            · (try dsimp only); (first | assumption | exact HX.out | exact MeFzS.on (by assumption) hb2)
            clear hK K
            (try simp only [List.getElem_toArray, List.getElem_cons_succ, List.getElem_cons_zero, Act.put, List.setIfInBounds_toArray, List.set_cons_zero, List.set_cons_succ])
            refine wpAnyH_take (i := 18) (v := ?_) rfl (by kernel_rfl) (by kernel_rfl) (by kernel_rfl) (fun _ _ _ h => h) (Or.inl ⟨by rfl, ?_⟩) (by assumption) ?_
            rotate_left
            · intro w hSw; (try dsimp only at hSw); go_simp; try with_reducible rfl
            (try simp only [List.getElem_toArray, List.getElem_cons_succ, List.getElem_cons_zero, Act.put, List.setIfInBounds_toArray, List.set_cons_zero, List.set_cons_succ])
            refine wpAnyH_take (i := 19) (v := ?_) rfl (by kernel_rfl) (by kernel_rfl) (by kernel_rfl) (fun _ _ _ h => h) (Or.inl ⟨by rfl, ?_⟩) (by assumption) ?_
            rotate_left
            · intro w hSw; (try dsimp only at hSw); go_simp; try with_reducible rfl
            (try simp only [List.getElem_toArray, List.getElem_cons_succ, List.getElem_cons_zero, Act.put, List.setIfInBounds_toArray, List.set_cons_zero, List.set_cons_succ])
            refine wpAnyH_done (by kernel_rfl) ?_ _
            refine NoPanic.normal ?_
            have HBZ := Lib.hid hHeld.2.y.m.B
            clear hHeld
            go_wp2_with fail
            go_ret
            exact ⟨rfl, HBZ.out⟩
    · have hne : ((x.code : Int) != 0) = true := code_ne h0
      rw [show meFrameV x = .tuple #[.agg #[.int .u8 0, .int .u8 0, .string ⟨#[]⟩], .int .i64 (x.code : Int)] by unfold meFrameV; rw [if_neg h0]] at HFR
      have HFM := Lib.hid (fun W => fsame_any 0 0 ⟨#[]⟩ 0 0 ⟨#[]⟩ W)
      rw [frmEq_self] at HFM
      have hcc : ((x.code : Int) != (x.code : Int)) = false := by simp
      clear h0
      generalize x.code = K at *
      simp only [meV] at HLX HTO HCK HFR HCH ⊢
      go_enter Tryz.func3, Tryz.ntmps3
      go_wp2_with fail
      refine HAW.out.mono ?_
      rintro e w1 ⟨rfl, b1⟩
      have HM1 := Lib.hid (HM0.out.on b1)
      clear b1
      have c0 := HM1.out.p.cs 0 _ rfl
      have c1 := HM1.out.p.cs 1 _ rfl
      have c2 := HM1.out.p.cs 2 _ rfl
      have c3 := HM1.out.p.cs 3 _ rfl
      have c4 := HM1.out.p.cs 4 _ rfl
      have c5 := HM1.out.p.cs 5 _ rfl
      have c6 := HM1.out.p.cs 6 _ rfl
      have c7 := HM1.out.p.cs 7 _ rfl
      have c8 := HM1.out.p.cs 8 _ rfl
      have c9 := HM1.out.p.cs 9 _ rfl
      have cl := HM1.out.p.lt
      go_wp2_with fail
      refine (HLX.out _ HM1.out.ra).mono ?_
      rintro e w2 ⟨rfl, b2⟩
      have HM2 := Lib.hid (HM1.out.on b2)
      clear b2 c0 c1 c2 c3 c4 c5 c6 c7 c8 c9 cl
      have c0 := HM2.out.p.cs 0 _ rfl
      have c1 := HM2.out.p.cs 1 _ rfl
      have c2 := HM2.out.p.cs 2 _ rfl
      have c3 := HM2.out.p.cs 3 _ rfl
      have c4 := HM2.out.p.cs 4 _ rfl
      have c5 := HM2.out.p.cs 5 _ rfl
      have c6 := HM2.out.p.cs 6 _ rfl
      have c7 := HM2.out.p.cs 7 _ rfl
      have c8 := HM2.out.p.cs 8 _ rfl
      have c9 := HM2.out.p.cs 9 _ rfl
      have cl := HM2.out.p.lt
      go_wp2_with fail
      refine (HTO.out _ HM2.out.ra).mono ?_
      rintro e w3 ⟨A1, k1, rfl, hc1, hp1, b3⟩
      have HM3 := Lib.hid (HM2.out.on b3)
      have HK3 := Lib.hid (HCK.out A1 k1 w3 (HOK1.out A1 k1 w3 hc1 hp1))
      clear b3 hc1 hp1 c0 c1 c2 c3 c4 c5 c6 c7 c8 c9 cl
      go_wp2_with fail
      refine HK3.out.mono ?_
      rintro e w4 ⟨rfl, b4⟩
      have HM4 := Lib.hid (HM3.out.on b4)
      clear b4 HK3
      have c0 := HM4.out.p.cs 0 _ rfl
      have c1 := HM4.out.p.cs 1 _ rfl
      have c2 := HM4.out.p.cs 2 _ rfl
      have c3 := HM4.out.p.cs 3 _ rfl
      have c4 := HM4.out.p.cs 4 _ rfl
      have c5 := HM4.out.p.cs 5 _ rfl
      have c6 := HM4.out.p.cs 6 _ rfl
      have c7 := HM4.out.p.cs 7 _ rfl
      have c8 := HM4.out.p.cs 8 _ rfl
      have c9 := HM4.out.p.cs 9 _ rfl
      have cl := HM4.out.p.lt
      go_wp2_with fail
      refine (HFR.out _ (HOK.out _ HM4.out.ra) (HLL.out.on HM4.out.B)).mono ?_
      rintro e w5 ⟨rfl, b5⟩
      have HM5 := Lib.hid (HM4.out.on b5)
      clear b5 c0 c1 c2 c3 c4 c5 c6 c7 c8 c9 cl
      have c0 := HM5.out.p.cs 0 _ rfl
      have c1 := HM5.out.p.cs 1 _ rfl
      have c2 := HM5.out.p.cs 2 _ rfl
      have c3 := HM5.out.p.cs 3 _ rfl
      have c4 := HM5.out.p.cs 4 _ rfl
      have c5 := HM5.out.p.cs 5 _ rfl
      have c6 := HM5.out.p.cs 6 _ rfl
      have c7 := HM5.out.p.cs 7 _ rfl
      have c8 := HM5.out.p.cs 8 _ rfl
      have c9 := HM5.out.p.cs 9 _ rfl
      have cl := HM5.out.p.lt
      have HM6 := Lib.hid (HM5.out.more (.int .u8 0) (.int .u8 0) (.string ⟨#[]⟩))
      go_wp2_with fail
      generalize w5.alloc (.cells #[.int .u8 0, .int .u8 0, .string ⟨#[]⟩] 32) = w6 at *
      generalize w5.heap.size = g at *
      refine (HCH.out _ (HOK.out _ HM6.out.m.ra) (HLL.out.on HM6.out.m.B)).mono ?_
      rintro e w7 ⟨rfl, b7⟩
      have HM7 := Lib.hid (HM6.out.on b7)
      clear b7 c0 c1 c2 c3 c4 c5 c6 c7 c8 c9 cl
      have f0 := HM7.out.f.cs 0 _ rfl
      have f1 := HM7.out.f.cs 1 _ rfl
      have f2 := HM7.out.f.cs 2 _ rfl
      have fl := HM7.out.f.lt
      go_wp2_with fail
      refine (HFM.out _).mono ?_
      rintro e w8 ⟨rfl, b8⟩
      have HM8 := Lib.hid (HM7.out.on b8)
      clear b8 f0 f1 f2 fl
      go_wp2_with fail
      go_ret
      exact ⟨rfl, HM8.out.m.B⟩
end Go.Proofs.YtnamkglflhkckaaGreatDoor
end
