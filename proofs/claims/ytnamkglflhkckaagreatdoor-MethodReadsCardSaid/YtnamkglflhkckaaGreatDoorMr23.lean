/-
  A METHOD READ OF A FRAME, as the document has it: one class of kinds.
-/
import Derived.Test.YtnamkglflhkckaaGreatDoorMr19
import Derived.Deep.DeepCutAuto
section
namespace Go.Proofs.YtnamkglflhkckaaGreatDoor
open Go.ChangeShapes Go.WideShapes Go.ChangeAt Go.RowKit
set_option maxRecDepth 100000 in
set_option maxHeartbeats 8000000 in
theorem r11Parse_b_core (c k : UInt8) (body : List UInt8) (w : World) (R : Nat → LSt → World → Prop) (hR : ∀ b, Rder b (R b)) (s0 s1 s2 s3 s4 s5 sv : LSt) (NM : List UInt8) (OT : List UInt8) (K : List UInt8) (H : List Hd.Pr) (YB : Bool) (v : Nat) (BG : Bool) (EC C RC : Int) (GT y : Me) (hy : ⟨c, k, NM, OT, K, H, [], 0, 0, YB⟩ = y)
    (hk : decide ((20 : Int) < (k.toNat : Int)) = false) (q1 : ((v : Int) == 1) = YB) (q2 : decide ((1 : Int) < (v : Int)) = BG)
    (r0 : ∀ b W, R b s0 W → Calls Tryz.prog 64 #[.pointer (some ⟨b, 0, none⟩), .int .i64 16] W (fun e w' => e = .returned (.string (ofL NM)) ∧ R b s1 w' ∧ W.grownBy w' (some b)))
    (r1 : ∀ b W, R b s1 W → Calls Tryz.prog 64 #[.pointer (some ⟨b, 0, none⟩), .int .i64 16] W (fun e w' => e = .returned (.string (ofL OT)) ∧ R b s2 w' ∧ W.grownBy w' (some b)))
    (r2 : ∀ b W, R b s2 W → Calls Tryz.prog 64 #[.pointer (some ⟨b, 0, none⟩), .int .i64 64] W (fun e w' => e = .returned (.string (ofL K)) ∧ R b s3 w' ∧ W.grownBy w' (some b)))
    (r3 : ∀ b W, R b s3 W → Calls Tryz.prog 66 #[.pointer (some ⟨b, 0, none⟩)] W (fun e w' => ∃ A q, e = .returned (.slice A H.length q) ∧ H.length ≤ q ∧ Prs w' A H ∧ R b s4 w' ∧ W.grownBy w' (some b) ∧ ∀ a, A = some a → W.heap.size ≤ a.block))
    (r4 : ∀ b W, R b s4 W → Calls Tryz.prog 65 #[.pointer (some ⟨b, 0, none⟩), .int .i64 1] W (fun e w' => e = .returned (.int .u64 (v : Int)) ∧ R b sv w' ∧ W.grownBy w' (some b))) (rF : BG = true → ∀ b W, R b sv W → Calls Tryz.prog 67 #[.pointer (some ⟨b, 0, none⟩), .int .i64 4] W (fun e w' => e = .returned (.tuple #[]) ∧ R b s5 w' ∧ W.grownBy w' (some b))) (rS : BG = false → s5 = sv)
    (hE : ∀ b W, R b s5 W → Calls Tryz.prog 68 #[.pointer (some ⟨b, 0, none⟩)] W (fun e w' => e = .returned (.int .i64 EC) ∧ ∃ n, w' = W.drewN n))
    (hC : ∀ A q W, y.head.length ≤ q → Prs W A y.head → Calls Tryz.prog 11 #[meV y A q] W (fun e w' => e = .returned (.int .i64 C) ∧ Below W.heap.size W w'))
    (hRC : RC = if EC ≠ 0 then EC else C) (hGT : GT = if RC = 0 then y else Me.zero 0 0)
    (hOF : Calls Tryz.prog 49 #[.int .u8 (k.toNat : Int)] ((w.alloc (.cells #[.int .u8 (c.toNat : Int), .int .u8 (k.toNat : Int), .string (ofL body)] 40)).alloc (.cells #[.int .u8 0, .int .u8 0, .string ⟨#[]⟩, .string ⟨#[]⟩, .string ⟨#[]⟩, .slice none 0 0, .string ⟨#[]⟩, .int .u64 0, .int .u64 0, .bool false] 29)) fun e w' => e = .returned (.agg #[.bool true, .bool true, .bool false, .bool true, .bool true, .bool true, .bool false, .bool false, .bool false, .bool true]) ∧ Below ((w.alloc (.cells #[.int .u8 (c.toNat : Int), .int .u8 (k.toNat : Int), .string (ofL body)] 40)).alloc (.cells #[.int .u8 0, .int .u8 0, .string ⟨#[]⟩, .string ⟨#[]⟩, .string ⟨#[]⟩, .slice none 0 0, .string ⟨#[]⟩, .int .u64 0, .int .u64 0, .bool false] 29)).heap.size ((w.alloc (.cells #[.int .u8 (c.toNat : Int), .int .u8 (k.toNat : Int), .string (ofL body)] 40)).alloc (.cells #[.int .u8 0, .int .u8 0, .string ⟨#[]⟩, .string ⟨#[]⟩, .string ⟨#[]⟩, .slice none 0 0, .string ⟨#[]⟩, .int .u64 0, .int .u64 0, .bool false] 29)) w')
    (hF : ∀ w1, Below ((w.alloc (.cells #[.int .u8 (c.toNat : Int), .int .u8 (k.toNat : Int), .string (ofL body)] 40)).alloc (.cells #[.int .u8 0, .int .u8 0, .string ⟨#[]⟩, .string ⟨#[]⟩, .string ⟨#[]⟩, .slice none 0 0, .string ⟨#[]⟩, .int .u64 0, .int .u64 0, .bool false] 29)).heap.size ((w.alloc (.cells #[.int .u8 (c.toNat : Int), .int .u8 (k.toNat : Int), .string (ofL body)] 40)).alloc (.cells #[.int .u8 0, .int .u8 0, .string ⟨#[]⟩, .string ⟨#[]⟩, .string ⟨#[]⟩, .slice none 0 0, .string ⟨#[]⟩, .int .u64 0, .int .u64 0, .bool false] 29)) w1 → w1.cell? ⟨w.heap.size, 0, none⟩ = some (.int .u8 (c.toNat : Int)) ∧ w1.cell? ⟨w.heap.size, 1, none⟩ = some (.int .u8 (k.toNat : Int)) ∧ w1.cell? ⟨w.heap.size, 2, none⟩ = some (.string (ofL body)))
    (hS0 : ∀ w1, Below ((w.alloc (.cells #[.int .u8 (c.toNat : Int), .int .u8 (k.toNat : Int), .string (ofL body)] 40)).alloc (.cells #[.int .u8 0, .int .u8 0, .string ⟨#[]⟩, .string ⟨#[]⟩, .string ⟨#[]⟩, .slice none 0 0, .string ⟨#[]⟩, .int .u64 0, .int .u64 0, .bool false] 29)).heap.size ((w.alloc (.cells #[.int .u8 (c.toNat : Int), .int .u8 (k.toNat : Int), .string (ofL body)] 40)).alloc (.cells #[.int .u8 0, .int .u8 0, .string ⟨#[]⟩, .string ⟨#[]⟩, .string ⟨#[]⟩, .slice none 0 0, .string ⟨#[]⟩, .int .u64 0, .int .u64 0, .bool false] 29)) w1 → MpC w (R (w1.heap.size + 1 + 1)) (w1.heap.size + 1 + 1) (w1.heap.size + 1) w1.heap.size [.bool true, .bool true, .bool false, .bool true, .bool true, .bool true, .bool false, .bool false, .bool false, .bool true] (Me.zero c k) s0 none 0 (((w1.alloc (.cells #[.bool true, .bool true, .bool false, .bool true, .bool true, .bool true, .bool false, .bool false, .bool false, .bool true] 108)).alloc (.cells #[.int .u8 (c.toNat : Int), .int .u8 (k.toNat : Int), .string ⟨#[]⟩, .string ⟨#[]⟩, .string ⟨#[]⟩, .slice none 0 0, .string ⟨#[]⟩, .int .u64 0, .int .u64 0, .bool false] 29)).alloc (.cells #[.string (ofL body), .int .i64 0, .int .i64 0] 129))) :
    Calls Tryz.prog 19 #[.agg #[.int .u8 (c.toNat : Int), .int .u8 (k.toNat : Int), .string (ofL body)]] w (MeOfPost GT RC w) := by
  have HYX := Lib.hid hy
  have R0X := Lib.hid r0
  have R1X := Lib.hid r1
  have R2X := Lib.hid r2
  have R3X := Lib.hid r3
  have R4X := Lib.hid r4
  have RFX := Lib.hid rF
  have RSX := Lib.hid rS
  have HEX := Lib.hid hE
  have HCX := Lib.hid hC
  have HRCX := Lib.hid hRC
  have HGTX := Lib.hid hGT
  have HOFX := Lib.hid hOF
  have HFX := Lib.hid hF
  have HS0X := Lib.hid hS0
  have HRX := Lib.hid hR
  clear hy r0 r1 r2 r3 r4 rF rS hE hC hRC hGT hOF hS0 hF hR
  go_enter Tryz.func19, Tryz.ntmps19
  go_wp2_with fail
  refine HOFX.out.mono ?_
  rintro e w1 ⟨rfl, b1⟩
  have HF := Lib.hid (HFX.out w1 b1)
  have HS0 := Lib.hid (HS0X.out w1 b1)
  have R0Z := Lib.hid (fun W h => R0X.out (w1.heap.size + 1 + 1) W h)
  have R1Z := Lib.hid (fun W h => R1X.out (w1.heap.size + 1 + 1) W h)
  have R2Z := Lib.hid (fun W h => R2X.out (w1.heap.size + 1 + 1) W h)
  have R3Z := Lib.hid (fun W h => R3X.out (w1.heap.size + 1 + 1) W h)
  have R4Z := Lib.hid (fun W h => R4X.out (w1.heap.size + 1 + 1) W h)
  have RFZ := Lib.hid (fun h0 W h => RFX.out h0 (w1.heap.size + 1 + 1) W h)
  have RSZ := RSX
  clear R0X R1X R2X R3X R4X RFX RSX
  have HE := Lib.hid (fun W h => HEX.out (w1.heap.size + 1 + 1) W h)
  have HRR := Lib.hid (HRX.out (w1.heap.size + 1 + 1))
  clear b1 HFX HS0X HEX HRX
  generalize R (w1.heap.size + 1 + 1) = Rb at *
  have hz1 : w.heap.size < w1.heap.size := by have h1 := HS0.out.hq; omega
  have f0 : w1.cell? ⟨w.heap.size, 0, none⟩ = some (.int .u8 (c.toNat : Int)) := HF.out.1
  have f1 : w1.cell? ⟨w.heap.size, 1, none⟩ = some (.int .u8 (k.toNat : Int)) := HF.out.2.1
  have f2 : w1.cell? ⟨w.heap.size, 2, none⟩ = some (.string (ofL body)) := HF.out.2.2
  go_upto_if 26 with fail
  clear f0 f1 f2 HOFX HF
  generalize (((w1.alloc (.cells #[.bool true, .bool true, .bool false, .bool true, .bool true, .bool true, .bool false, .bool false, .bool false, .bool true] 108)).alloc (.cells #[.int .u8 (c.toNat : Int), .int .u8 (k.toNat : Int), .string ⟨#[]⟩, .string ⟨#[]⟩, .string ⟨#[]⟩, .slice none 0 0, .string ⟨#[]⟩, .int .u64 0, .int .u64 0, .bool false] 29)).alloc (.cells #[.string (ofL body), .int .i64 0, .int .i64 0] 129)) = v0 at *
  generalize hg1 : w1.heap.size + 1 = g at *
  have hgg := HS0.out.o.gb
  have c0 := HS0.out.o.m.cs 0 _ rfl
  have c1 := HS0.out.o.m.cs 1 _ rfl
  have c2 := HS0.out.o.m.cs 2 _ rfl
  have c3 := HS0.out.o.m.cs 3 _ rfl
  have c4 := HS0.out.o.m.cs 4 _ rfl
  have c5 := HS0.out.o.m.cs 5 _ rfl
  have c6 := HS0.out.o.m.cs 6 _ rfl
  have c7 := HS0.out.o.m.cs 7 _ rfl
  have c8 := HS0.out.o.m.cs 8 _ rfl
  have c9 := HS0.out.o.m.cs 9 _ rfl
  have cl := HS0.out.o.m.lt
  have cf : ∀ j, v0.frozen? ⟨g, j, none⟩ = false := HS0.out.o.m.s
  have h0 := HS0.out.h.cs 0 _ rfl
  have h1 := HS0.out.h.cs 1 _ rfl
  have h2 := HS0.out.h.cs 2 _ rfl
  have h3 := HS0.out.h.cs 3 _ rfl
  have h4 := HS0.out.h.cs 4 _ rfl
  have h5 := HS0.out.h.cs 5 _ rfl
  have h6 := HS0.out.h.cs 6 _ rfl
  have h7 := HS0.out.h.cs 7 _ rfl
  have h8 := HS0.out.h.cs 8 _ rfl
  have h9 := HS0.out.h.cs 9 _ rfl
  have hl := HS0.out.h.lt
  go_wp2_with fail
  refine (R0Z.out _ HS0.out.o.ri).mono ?_
  rintro e u0 ⟨rfl, hi, hg⟩
  have HM0 := Lib.hid (HS0.out.moved hi hg)
  have HP0 := Lib.hid (HM0.out.put HRR.out ⟨c, k, NM, [], [], [], [], 0, 0, false⟩ 2 (.string (ofL NM)) (by decide) rfl rfl)
  clear hi hg c0 c1 c2 c3 c4 c5 c6 c7 c8 c9 cl cf h0 h1 h2 h3 h4 h5 h6 h7 h8 h9 hl
  have c0 := HM0.out.o.m.cs 0 _ rfl
  have c1 := HM0.out.o.m.cs 1 _ rfl
  have c2 := HM0.out.o.m.cs 2 _ rfl
  have c3 := HM0.out.o.m.cs 3 _ rfl
  have c4 := HM0.out.o.m.cs 4 _ rfl
  have c5 := HM0.out.o.m.cs 5 _ rfl
  have c6 := HM0.out.o.m.cs 6 _ rfl
  have c7 := HM0.out.o.m.cs 7 _ rfl
  have c8 := HM0.out.o.m.cs 8 _ rfl
  have c9 := HM0.out.o.m.cs 9 _ rfl
  have cl := HM0.out.o.m.lt
  have cf : ∀ j, u0.frozen? ⟨g, j, none⟩ = false := HM0.out.o.m.s
  have h0 := HM0.out.h.cs 0 _ rfl
  have h1 := HM0.out.h.cs 1 _ rfl
  have h2 := HM0.out.h.cs 2 _ rfl
  have h3 := HM0.out.h.cs 3 _ rfl
  have h4 := HM0.out.h.cs 4 _ rfl
  have h5 := HM0.out.h.cs 5 _ rfl
  have h6 := HM0.out.h.cs 6 _ rfl
  have h7 := HM0.out.h.cs 7 _ rfl
  have h8 := HM0.out.h.cs 8 _ rfl
  have h9 := HM0.out.h.cs 9 _ rfl
  have hl := HM0.out.h.lt
  go_wp2_with fail
  generalize u0.setCell ⟨g, 2, none⟩ (.string (ofL NM)) = v0 at *
  clear c0 c1 c2 c3 c4 c5 c6 c7 c8 c9 cl cf h0 h1 h2 h3 h4 h5 h6 h7 h8 h9 hl
  have c0 := HP0.out.o.m.cs 0 _ rfl
  have c1 := HP0.out.o.m.cs 1 _ rfl
  have c2 := HP0.out.o.m.cs 2 _ rfl
  have c3 := HP0.out.o.m.cs 3 _ rfl
  have c4 := HP0.out.o.m.cs 4 _ rfl
  have c5 := HP0.out.o.m.cs 5 _ rfl
  have c6 := HP0.out.o.m.cs 6 _ rfl
  have c7 := HP0.out.o.m.cs 7 _ rfl
  have c8 := HP0.out.o.m.cs 8 _ rfl
  have c9 := HP0.out.o.m.cs 9 _ rfl
  have cl := HP0.out.o.m.lt
  have cf : ∀ j, v0.frozen? ⟨g, j, none⟩ = false := HP0.out.o.m.s
  have h0 := HP0.out.h.cs 0 _ rfl
  have h1 := HP0.out.h.cs 1 _ rfl
  have h2 := HP0.out.h.cs 2 _ rfl
  have h3 := HP0.out.h.cs 3 _ rfl
  have h4 := HP0.out.h.cs 4 _ rfl
  have h5 := HP0.out.h.cs 5 _ rfl
  have h6 := HP0.out.h.cs 6 _ rfl
  have h7 := HP0.out.h.cs 7 _ rfl
  have h8 := HP0.out.h.cs 8 _ rfl
  have h9 := HP0.out.h.cs 9 _ rfl
  have hl := HP0.out.h.lt
  refine (R1Z.out _ HP0.out.o.ri).mono ?_
  rintro e u1 ⟨rfl, hi, hg⟩
  have HM1 := Lib.hid (HP0.out.moved hi hg)
  have HP1 := Lib.hid (HM1.out.put HRR.out ⟨c, k, NM, OT, [], [], [], 0, 0, false⟩ 3 (.string (ofL OT)) (by decide) rfl rfl)
  clear hi hg c0 c1 c2 c3 c4 c5 c6 c7 c8 c9 cl cf h0 h1 h2 h3 h4 h5 h6 h7 h8 h9 hl
  have c0 := HM1.out.o.m.cs 0 _ rfl
  have c1 := HM1.out.o.m.cs 1 _ rfl
  have c2 := HM1.out.o.m.cs 2 _ rfl
  have c3 := HM1.out.o.m.cs 3 _ rfl
  have c4 := HM1.out.o.m.cs 4 _ rfl
  have c5 := HM1.out.o.m.cs 5 _ rfl
  have c6 := HM1.out.o.m.cs 6 _ rfl
  have c7 := HM1.out.o.m.cs 7 _ rfl
  have c8 := HM1.out.o.m.cs 8 _ rfl
  have c9 := HM1.out.o.m.cs 9 _ rfl
  have cl := HM1.out.o.m.lt
  have cf : ∀ j, u1.frozen? ⟨g, j, none⟩ = false := HM1.out.o.m.s
  have h0 := HM1.out.h.cs 0 _ rfl
  have h1 := HM1.out.h.cs 1 _ rfl
  have h2 := HM1.out.h.cs 2 _ rfl
  have h3 := HM1.out.h.cs 3 _ rfl
  have h4 := HM1.out.h.cs 4 _ rfl
  have h5 := HM1.out.h.cs 5 _ rfl
  have h6 := HM1.out.h.cs 6 _ rfl
  have h7 := HM1.out.h.cs 7 _ rfl
  have h8 := HM1.out.h.cs 8 _ rfl
  have h9 := HM1.out.h.cs 9 _ rfl
  have hl := HM1.out.h.lt
  go_wp2_with fail
  generalize u1.setCell ⟨g, 3, none⟩ (.string (ofL OT)) = v1 at *
  clear c0 c1 c2 c3 c4 c5 c6 c7 c8 c9 cl cf h0 h1 h2 h3 h4 h5 h6 h7 h8 h9 hl
  have c0 := HP1.out.o.m.cs 0 _ rfl
  have c1 := HP1.out.o.m.cs 1 _ rfl
  have c2 := HP1.out.o.m.cs 2 _ rfl
  have c3 := HP1.out.o.m.cs 3 _ rfl
  have c4 := HP1.out.o.m.cs 4 _ rfl
  have c5 := HP1.out.o.m.cs 5 _ rfl
  have c6 := HP1.out.o.m.cs 6 _ rfl
  have c7 := HP1.out.o.m.cs 7 _ rfl
  have c8 := HP1.out.o.m.cs 8 _ rfl
  have c9 := HP1.out.o.m.cs 9 _ rfl
  have cl := HP1.out.o.m.lt
  have cf : ∀ j, v1.frozen? ⟨g, j, none⟩ = false := HP1.out.o.m.s
  have h0 := HP1.out.h.cs 0 _ rfl
  have h1 := HP1.out.h.cs 1 _ rfl
  have h2 := HP1.out.h.cs 2 _ rfl
  have h3 := HP1.out.h.cs 3 _ rfl
  have h4 := HP1.out.h.cs 4 _ rfl
  have h5 := HP1.out.h.cs 5 _ rfl
  have h6 := HP1.out.h.cs 6 _ rfl
  have h7 := HP1.out.h.cs 7 _ rfl
  have h8 := HP1.out.h.cs 8 _ rfl
  have h9 := HP1.out.h.cs 9 _ rfl
  have hl := HP1.out.h.lt
  refine (R2Z.out _ HP1.out.o.ri).mono ?_
  rintro e u2 ⟨rfl, hi, hg⟩
  have HM2 := Lib.hid (HP1.out.moved hi hg)
  have HP2 := Lib.hid (HM2.out.put HRR.out ⟨c, k, NM, OT, K, [], [], 0, 0, false⟩ 4 (.string (ofL K)) (by decide) rfl rfl)
  clear hi hg c0 c1 c2 c3 c4 c5 c6 c7 c8 c9 cl cf h0 h1 h2 h3 h4 h5 h6 h7 h8 h9 hl
  have c0 := HM2.out.o.m.cs 0 _ rfl
  have c1 := HM2.out.o.m.cs 1 _ rfl
  have c2 := HM2.out.o.m.cs 2 _ rfl
  have c3 := HM2.out.o.m.cs 3 _ rfl
  have c4 := HM2.out.o.m.cs 4 _ rfl
  have c5 := HM2.out.o.m.cs 5 _ rfl
  have c6 := HM2.out.o.m.cs 6 _ rfl
  have c7 := HM2.out.o.m.cs 7 _ rfl
  have c8 := HM2.out.o.m.cs 8 _ rfl
  have c9 := HM2.out.o.m.cs 9 _ rfl
  have cl := HM2.out.o.m.lt
  have cf : ∀ j, u2.frozen? ⟨g, j, none⟩ = false := HM2.out.o.m.s
  have h0 := HM2.out.h.cs 0 _ rfl
  have h1 := HM2.out.h.cs 1 _ rfl
  have h2 := HM2.out.h.cs 2 _ rfl
  have h3 := HM2.out.h.cs 3 _ rfl
  have h4 := HM2.out.h.cs 4 _ rfl
  have h5 := HM2.out.h.cs 5 _ rfl
  have h6 := HM2.out.h.cs 6 _ rfl
  have h7 := HM2.out.h.cs 7 _ rfl
  have h8 := HM2.out.h.cs 8 _ rfl
  have h9 := HM2.out.h.cs 9 _ rfl
  have hl := HM2.out.h.lt
  go_wp2_with fail
  generalize u2.setCell ⟨g, 4, none⟩ (.string (ofL K)) = v2 at *
  clear c0 c1 c2 c3 c4 c5 c6 c7 c8 c9 cl cf h0 h1 h2 h3 h4 h5 h6 h7 h8 h9 hl
  have c0 := HP2.out.o.m.cs 0 _ rfl
  have c1 := HP2.out.o.m.cs 1 _ rfl
  have c2 := HP2.out.o.m.cs 2 _ rfl
  have c3 := HP2.out.o.m.cs 3 _ rfl
  have c4 := HP2.out.o.m.cs 4 _ rfl
  have c5 := HP2.out.o.m.cs 5 _ rfl
  have c6 := HP2.out.o.m.cs 6 _ rfl
  have c7 := HP2.out.o.m.cs 7 _ rfl
  have c8 := HP2.out.o.m.cs 8 _ rfl
  have c9 := HP2.out.o.m.cs 9 _ rfl
  have cl := HP2.out.o.m.lt
  have cf : ∀ j, v2.frozen? ⟨g, j, none⟩ = false := HP2.out.o.m.s
  have h0 := HP2.out.h.cs 0 _ rfl
  have h1 := HP2.out.h.cs 1 _ rfl
  have h2 := HP2.out.h.cs 2 _ rfl
  have h3 := HP2.out.h.cs 3 _ rfl
  have h4 := HP2.out.h.cs 4 _ rfl
  have h5 := HP2.out.h.cs 5 _ rfl
  have h6 := HP2.out.h.cs 6 _ rfl
  have h7 := HP2.out.h.cs 7 _ rfl
  have h8 := HP2.out.h.cs 8 _ rfl
  have h9 := HP2.out.h.cs 9 _ rfl
  have hl := HP2.out.h.lt
  refine (R3Z.out _ HP2.out.o.ri).mono ?_
  rintro e u3 ⟨A, q, rfl, hc, hp, hi, hg, hA⟩
  have HM3 := Lib.hid (HP2.out.moved hi hg)
  have HP3 := Lib.hid (HM3.out.putH HRR.out H A q hc hp (fun a ha => by have := hA a ha; have := HRR.out.lt HP2.out.o.ri; omega))
  clear hc hp hi hg hA c0 c1 c2 c3 c4 c5 c6 c7 c8 c9 cl cf h0 h1 h2 h3 h4 h5 h6 h7 h8 h9 hl
  have c0 := HM3.out.o.m.cs 0 _ rfl
  have c1 := HM3.out.o.m.cs 1 _ rfl
  have c2 := HM3.out.o.m.cs 2 _ rfl
  have c3 := HM3.out.o.m.cs 3 _ rfl
  have c4 := HM3.out.o.m.cs 4 _ rfl
  have c5 := HM3.out.o.m.cs 5 _ rfl
  have c6 := HM3.out.o.m.cs 6 _ rfl
  have c7 := HM3.out.o.m.cs 7 _ rfl
  have c8 := HM3.out.o.m.cs 8 _ rfl
  have c9 := HM3.out.o.m.cs 9 _ rfl
  have cl := HM3.out.o.m.lt
  have cf : ∀ j, u3.frozen? ⟨g, j, none⟩ = false := HM3.out.o.m.s
  have h0 := HM3.out.h.cs 0 _ rfl
  have h1 := HM3.out.h.cs 1 _ rfl
  have h2 := HM3.out.h.cs 2 _ rfl
  have h3 := HM3.out.h.cs 3 _ rfl
  have h4 := HM3.out.h.cs 4 _ rfl
  have h5 := HM3.out.h.cs 5 _ rfl
  have h6 := HM3.out.h.cs 6 _ rfl
  have h7 := HM3.out.h.cs 7 _ rfl
  have h8 := HM3.out.h.cs 8 _ rfl
  have h9 := HM3.out.h.cs 9 _ rfl
  have hl := HM3.out.h.lt
  go_wp2_with fail
  generalize u3.setCell ⟨g, 5, none⟩ (.slice A H.length q) = v3 at *
  clear c0 c1 c2 c3 c4 c5 c6 c7 c8 c9 cl cf h0 h1 h2 h3 h4 h5 h6 h7 h8 h9 hl
  have c0 := HP3.out.o.m.cs 0 _ rfl
  have c1 := HP3.out.o.m.cs 1 _ rfl
  have c2 := HP3.out.o.m.cs 2 _ rfl
  have c3 := HP3.out.o.m.cs 3 _ rfl
  have c4 := HP3.out.o.m.cs 4 _ rfl
  have c5 := HP3.out.o.m.cs 5 _ rfl
  have c6 := HP3.out.o.m.cs 6 _ rfl
  have c7 := HP3.out.o.m.cs 7 _ rfl
  have c8 := HP3.out.o.m.cs 8 _ rfl
  have c9 := HP3.out.o.m.cs 9 _ rfl
  have cl := HP3.out.o.m.lt
  have cf : ∀ j, v3.frozen? ⟨g, j, none⟩ = false := HP3.out.o.m.s
  have h0 := HP3.out.h.cs 0 _ rfl
  have h1 := HP3.out.h.cs 1 _ rfl
  have h2 := HP3.out.h.cs 2 _ rfl
  have h3 := HP3.out.h.cs 3 _ rfl
  have h4 := HP3.out.h.cs 4 _ rfl
  have h5 := HP3.out.h.cs 5 _ rfl
  have h6 := HP3.out.h.cs 6 _ rfl
  have h7 := HP3.out.h.cs 7 _ rfl
  have h8 := HP3.out.h.cs 8 _ rfl
  have h9 := HP3.out.h.cs 9 _ rfl
  have hl := HP3.out.h.lt
  refine (R4Z.out _ HP3.out.o.ri).mono ?_
  rintro e u4 ⟨rfl, hi, hg⟩
  have HM4 := Lib.hid (HP3.out.moved hi hg)
  have HP4 := Lib.hid (HM4.out.put HRR.out ⟨c, k, NM, OT, K, H, [], 0, 0, YB⟩ 9 (.bool YB) (by decide) rfl rfl)
  clear hi hg c0 c1 c2 c3 c4 c5 c6 c7 c8 c9 cl cf h0 h1 h2 h3 h4 h5 h6 h7 h8 h9 hl
  have c0 := HM4.out.o.m.cs 0 _ rfl
  have c1 := HM4.out.o.m.cs 1 _ rfl
  have c2 := HM4.out.o.m.cs 2 _ rfl
  have c3 := HM4.out.o.m.cs 3 _ rfl
  have c4 := HM4.out.o.m.cs 4 _ rfl
  have c5 := HM4.out.o.m.cs 5 _ rfl
  have c6 := HM4.out.o.m.cs 6 _ rfl
  have c7 := HM4.out.o.m.cs 7 _ rfl
  have c8 := HM4.out.o.m.cs 8 _ rfl
  have c9 := HM4.out.o.m.cs 9 _ rfl
  have cl := HM4.out.o.m.lt
  have cf : ∀ j, u4.frozen? ⟨g, j, none⟩ = false := HM4.out.o.m.s
  have h0 := HM4.out.h.cs 0 _ rfl
  have h1 := HM4.out.h.cs 1 _ rfl
  have h2 := HM4.out.h.cs 2 _ rfl
  have h3 := HM4.out.h.cs 3 _ rfl
  have h4 := HM4.out.h.cs 4 _ rfl
  have h5 := HM4.out.h.cs 5 _ rfl
  have h6 := HM4.out.h.cs 6 _ rfl
  have h7 := HM4.out.h.cs 7 _ rfl
  have h8 := HM4.out.h.cs 8 _ rfl
  have h9 := HM4.out.h.cs 9 _ rfl
  have hl := HM4.out.h.lt
  cases BG with
  | false =>
    have e34 := RSZ.out rfl
    subst e34
    clear RSZ RFZ
    go_wp2_with fail
    generalize u4.setCell ⟨g, 9, none⟩ (.bool YB) = v4 at *
    clear c0 c1 c2 c3 c4 c5 c6 c7 c8 c9 cl cf h0 h1 h2 h3 h4 h5 h6 h7 h8 h9 hl
    rw [HYX.out] at HP4
    refine (HE.out _ HP4.out.o.ri).mono ?_
    rintro e x9 ⟨rfl, nq, hw9⟩
    have HP90 := Lib.hid (HP4.out.on HRR.out (show Below v4.heap.size v4 x9 by rw [hw9]; exact drewN_below (Below.refl _ _) nq))
    clear hw9
    by_cases e0 : EC = 0
    · by_cases c0 : C = 0
      · have hrc : RC = 0 := by rw [HRCX.out, if_neg (by omega), c0]
        have hgt : GT = y := by rw [HGTX.out, if_pos hrc]
        have HCK := Lib.hid (HCX.out A q x9 HP90.out.o.hc HP90.out.o.hp)
        rw [c0] at HCK
        rw [e0]
        clear e0 c0
        simp only [meV] at HCK
        have c0 := HP90.out.o.m.cs 0 _ rfl
        have c1 := HP90.out.o.m.cs 1 _ rfl
        have c2 := HP90.out.o.m.cs 2 _ rfl
        have c3 := HP90.out.o.m.cs 3 _ rfl
        have c4 := HP90.out.o.m.cs 4 _ rfl
        have c5 := HP90.out.o.m.cs 5 _ rfl
        have c6 := HP90.out.o.m.cs 6 _ rfl
        have c7 := HP90.out.o.m.cs 7 _ rfl
        have c8 := HP90.out.o.m.cs 8 _ rfl
        have c9 := HP90.out.o.m.cs 9 _ rfl
        have cl := HP90.out.o.m.lt
        have cf : ∀ j, x9.frozen? ⟨g, j, none⟩ = false := HP90.out.o.m.s
        have h0 := HP90.out.h.cs 0 _ rfl
        have h1 := HP90.out.h.cs 1 _ rfl
        have h2 := HP90.out.h.cs 2 _ rfl
        have h3 := HP90.out.h.cs 3 _ rfl
        have h4 := HP90.out.h.cs 4 _ rfl
        have h5 := HP90.out.h.cs 5 _ rfl
        have h6 := HP90.out.h.cs 6 _ rfl
        have h7 := HP90.out.h.cs 7 _ rfl
        have h8 := HP90.out.h.cs 8 _ rfl
        have h9 := HP90.out.h.cs 9 _ rfl
        have hl := HP90.out.h.lt
        go_wp2_with fail
        refine HCK.out.mono ?_
        rintro e x10 ⟨rfl, hb⟩
        have HP91 := Lib.hid (HP90.out.on HRR.out hb)
        clear hb c0 c1 c2 c3 c4 c5 c6 c7 c8 c9 cl cf h0 h1 h2 h3 h4 h5 h6 h7 h8 h9 hl
        have c0 := HP91.out.o.m.cs 0 _ rfl
        have c1 := HP91.out.o.m.cs 1 _ rfl
        have c2 := HP91.out.o.m.cs 2 _ rfl
        have c3 := HP91.out.o.m.cs 3 _ rfl
        have c4 := HP91.out.o.m.cs 4 _ rfl
        have c5 := HP91.out.o.m.cs 5 _ rfl
        have c6 := HP91.out.o.m.cs 6 _ rfl
        have c7 := HP91.out.o.m.cs 7 _ rfl
        have c8 := HP91.out.o.m.cs 8 _ rfl
        have c9 := HP91.out.o.m.cs 9 _ rfl
        have cl := HP91.out.o.m.lt
        have cf : ∀ j, x10.frozen? ⟨g, j, none⟩ = false := HP91.out.o.m.s
        have h0 := HP91.out.h.cs 0 _ rfl
        have h1 := HP91.out.h.cs 1 _ rfl
        have h2 := HP91.out.h.cs 2 _ rfl
        have h3 := HP91.out.h.cs 3 _ rfl
        have h4 := HP91.out.h.cs 4 _ rfl
        have h5 := HP91.out.h.cs 5 _ rfl
        have h6 := HP91.out.h.cs 6 _ rfl
        have h7 := HP91.out.h.cs 7 _ rfl
        have h8 := HP91.out.h.cs 8 _ rfl
        have h9 := HP91.out.h.cs 9 _ rfl
        have hl := HP91.out.h.lt
        have z0 := HP91.out.o.q.cs 0 _ rfl
        have z1 := HP91.out.o.q.cs 1 _ rfl
        have z2 := HP91.out.o.q.cs 2 _ rfl
        have z3 := HP91.out.o.q.cs 3 _ rfl
        have z4 := HP91.out.o.q.cs 4 _ rfl
        have z5 := HP91.out.o.q.cs 5 _ rfl
        have z6 := HP91.out.o.q.cs 6 _ rfl
        have z7 := HP91.out.o.q.cs 7 _ rfl
        have z8 := HP91.out.o.q.cs 8 _ rfl
        have z9 := HP91.out.o.q.cs 9 _ rfl
        have zf : ∀ j, x10.frozen? ⟨w.heap.size + 1, j, none⟩ = false := HP91.out.o.q.s
        have zl := HP91.out.o.q.lt
        go_wp2_with fail
        have hF := HP91.out.o.q.fill (meL y A q) rfl
        have hBF := below_putAll HP91.out.o.q.ge (meL y A q) 0 HP91.out.o.B
        have hPF := Prs.putAll (g := w.heap.size + 1) (fun a ha => fun e => (HP91.out.o.hA a ha).2.2.1 e.symm) (meL y A q) 0 HP91.out.o.hp
        simp only [putAll, meL] at hF hBF hPF
        have g0 := hF.cs 0 _ rfl
        have g1 := hF.cs 1 _ rfl
        have g2 := hF.cs 2 _ rfl
        have g3 := hF.cs 3 _ rfl
        have g4 := hF.cs 4 _ rfl
        have g5 := hF.cs 5 _ rfl
        have g6 := hF.cs 6 _ rfl
        have g7 := hF.cs 7 _ rfl
        have g8 := hF.cs 8 _ rfl
        have g9 := hF.cs 9 _ rfl
        refine bodyPost_ret (v := .tuple #[meV y A q, .int .i64 0]) (by simp [results, Tryz.results19, meV, go_sem, g0, g1, g2, g3, g4, g5, g6, g7, g8, g9]) rfl ?_
        rw [hrc, hgt]
        exact ⟨A, q, rfl, HP91.out.o.hc, hPF, hBF, fun a ha => (HP91.out.o.hA a ha).2.2.2⟩
      · have hrc : RC = C := by rw [HRCX.out, if_neg (by omega)]
        have hgt : GT = Me.zero 0 0 := by rw [HGTX.out, if_neg (by rw [hrc]; exact c0)]
        have HCK := Lib.hid (HCX.out A q x9 HP90.out.o.hc HP90.out.o.hp)
        have hk0 : (C != 0) = true := by rw [bne_iff_ne]; exact c0
        rw [e0]
        clear e0 c0
        simp only [meV] at HCK
        have c0 := HP90.out.o.m.cs 0 _ rfl
        have c1 := HP90.out.o.m.cs 1 _ rfl
        have c2 := HP90.out.o.m.cs 2 _ rfl
        have c3 := HP90.out.o.m.cs 3 _ rfl
        have c4 := HP90.out.o.m.cs 4 _ rfl
        have c5 := HP90.out.o.m.cs 5 _ rfl
        have c6 := HP90.out.o.m.cs 6 _ rfl
        have c7 := HP90.out.o.m.cs 7 _ rfl
        have c8 := HP90.out.o.m.cs 8 _ rfl
        have c9 := HP90.out.o.m.cs 9 _ rfl
        have cl := HP90.out.o.m.lt
        have cf : ∀ j, x9.frozen? ⟨g, j, none⟩ = false := HP90.out.o.m.s
        have h0 := HP90.out.h.cs 0 _ rfl
        have h1 := HP90.out.h.cs 1 _ rfl
        have h2 := HP90.out.h.cs 2 _ rfl
        have h3 := HP90.out.h.cs 3 _ rfl
        have h4 := HP90.out.h.cs 4 _ rfl
        have h5 := HP90.out.h.cs 5 _ rfl
        have h6 := HP90.out.h.cs 6 _ rfl
        have h7 := HP90.out.h.cs 7 _ rfl
        have h8 := HP90.out.h.cs 8 _ rfl
        have h9 := HP90.out.h.cs 9 _ rfl
        have hl := HP90.out.h.lt
        go_wp2_with fail
        refine HCK.out.mono ?_
        rintro e x10 ⟨rfl, hb⟩
        have HP91 := Lib.hid (HP90.out.on HRR.out hb)
        clear hb c0 c1 c2 c3 c4 c5 c6 c7 c8 c9 cl cf h0 h1 h2 h3 h4 h5 h6 h7 h8 h9 hl
        have z0 := HP91.out.o.q.cs 0 _ rfl
        have z1 := HP91.out.o.q.cs 1 _ rfl
        have z2 := HP91.out.o.q.cs 2 _ rfl
        have z3 := HP91.out.o.q.cs 3 _ rfl
        have z4 := HP91.out.o.q.cs 4 _ rfl
        have z5 := HP91.out.o.q.cs 5 _ rfl
        have z6 := HP91.out.o.q.cs 6 _ rfl
        have z7 := HP91.out.o.q.cs 7 _ rfl
        have z8 := HP91.out.o.q.cs 8 _ rfl
        have z9 := HP91.out.o.q.cs 9 _ rfl
        have zf : ∀ j, x10.frozen? ⟨w.heap.size + 1, j, none⟩ = false := HP91.out.o.q.s
        have zl := HP91.out.o.q.lt
        go_wp2_with fail
        have hF := HP91.out.o.q.fill [.int .u8 0, .int .u8 0, .string ⟨#[]⟩, .string ⟨#[]⟩, .string ⟨#[]⟩, .slice none 0 0, .string ⟨#[]⟩, .int .u64 0, .int .u64 0, .bool false] rfl
        have hBF := below_putAll HP91.out.o.q.ge [.int .u8 0, .int .u8 0, .string ⟨#[]⟩, .string ⟨#[]⟩, .string ⟨#[]⟩, .slice none 0 0, .string ⟨#[]⟩, .int .u64 0, .int .u64 0, .bool false] 0 HP91.out.o.B
        simp only [putAll] at hF hBF
        have g0 := hF.cs 0 _ rfl
        have g1 := hF.cs 1 _ rfl
        have g2 := hF.cs 2 _ rfl
        have g3 := hF.cs 3 _ rfl
        have g4 := hF.cs 4 _ rfl
        have g5 := hF.cs 5 _ rfl
        have g6 := hF.cs 6 _ rfl
        have g7 := hF.cs 7 _ rfl
        have g8 := hF.cs 8 _ rfl
        have g9 := hF.cs 9 _ rfl
        refine bodyPost_ret (v := .tuple #[.agg #[.int .u8 0, .int .u8 0, .string ⟨#[]⟩, .string ⟨#[]⟩, .string ⟨#[]⟩, .slice none 0 0, .string ⟨#[]⟩, .int .u64 0, .int .u64 0, .bool false], .int .i64 C]) (by simp [results, Tryz.results19, go_sem, g0, g1, g2, g3, g4, g5, g6, g7, g8, g9]) rfl ?_
        rw [hrc, hgt]
        exact me_zero_post hBF
    · have hrc : RC = EC := by rw [HRCX.out, if_pos e0]
      have hgt : GT = Me.zero 0 0 := by rw [HGTX.out, if_neg (by rw [hrc]; exact e0)]
      have hk0 : (EC != 0) = true := by rw [bne_iff_ne]; exact e0
      have hk1 : (EC == 0) = false := by rw [beq_eq_false_iff_ne]; exact e0
      clear e0
      have z0 := HP90.out.o.q.cs 0 _ rfl
      have z1 := HP90.out.o.q.cs 1 _ rfl
      have z2 := HP90.out.o.q.cs 2 _ rfl
      have z3 := HP90.out.o.q.cs 3 _ rfl
      have z4 := HP90.out.o.q.cs 4 _ rfl
      have z5 := HP90.out.o.q.cs 5 _ rfl
      have z6 := HP90.out.o.q.cs 6 _ rfl
      have z7 := HP90.out.o.q.cs 7 _ rfl
      have z8 := HP90.out.o.q.cs 8 _ rfl
      have z9 := HP90.out.o.q.cs 9 _ rfl
      have zf : ∀ j, x9.frozen? ⟨w.heap.size + 1, j, none⟩ = false := HP90.out.o.q.s
      have zl := HP90.out.o.q.lt
      go_wp2_with fail
      have hF := HP90.out.o.q.fill [.int .u8 0, .int .u8 0, .string ⟨#[]⟩, .string ⟨#[]⟩, .string ⟨#[]⟩, .slice none 0 0, .string ⟨#[]⟩, .int .u64 0, .int .u64 0, .bool false] rfl
      have hBF := below_putAll HP90.out.o.q.ge [.int .u8 0, .int .u8 0, .string ⟨#[]⟩, .string ⟨#[]⟩, .string ⟨#[]⟩, .slice none 0 0, .string ⟨#[]⟩, .int .u64 0, .int .u64 0, .bool false] 0 HP90.out.o.B
      simp only [putAll] at hF hBF
      have g0 := hF.cs 0 _ rfl
      have g1 := hF.cs 1 _ rfl
      have g2 := hF.cs 2 _ rfl
      have g3 := hF.cs 3 _ rfl
      have g4 := hF.cs 4 _ rfl
      have g5 := hF.cs 5 _ rfl
      have g6 := hF.cs 6 _ rfl
      have g7 := hF.cs 7 _ rfl
      have g8 := hF.cs 8 _ rfl
      have g9 := hF.cs 9 _ rfl
      refine bodyPost_ret (v := .tuple #[.agg #[.int .u8 0, .int .u8 0, .string ⟨#[]⟩, .string ⟨#[]⟩, .string ⟨#[]⟩, .slice none 0 0, .string ⟨#[]⟩, .int .u64 0, .int .u64 0, .bool false], .int .i64 EC]) (by simp [results, Tryz.results19, go_sem, g0, g1, g2, g3, g4, g5, g6, g7, g8, g9]) rfl ?_
      rw [hrc, hgt]
      exact me_zero_post hBF
  | true =>
    have HFY := Lib.hid (RFZ.out rfl)
    clear RSZ RFZ
    go_wp2_with fail
    generalize u4.setCell ⟨g, 9, none⟩ (.bool YB) = v4 at *
    clear c0 c1 c2 c3 c4 c5 c6 c7 c8 c9 cl cf h0 h1 h2 h3 h4 h5 h6 h7 h8 h9 hl
    have c0 := HP4.out.o.m.cs 0 _ rfl
    have c1 := HP4.out.o.m.cs 1 _ rfl
    have c2 := HP4.out.o.m.cs 2 _ rfl
    have c3 := HP4.out.o.m.cs 3 _ rfl
    have c4 := HP4.out.o.m.cs 4 _ rfl
    have c5 := HP4.out.o.m.cs 5 _ rfl
    have c6 := HP4.out.o.m.cs 6 _ rfl
    have c7 := HP4.out.o.m.cs 7 _ rfl
    have c8 := HP4.out.o.m.cs 8 _ rfl
    have c9 := HP4.out.o.m.cs 9 _ rfl
    have cl := HP4.out.o.m.lt
    have cf : ∀ j, v4.frozen? ⟨g, j, none⟩ = false := HP4.out.o.m.s
    have h0 := HP4.out.h.cs 0 _ rfl
    have h1 := HP4.out.h.cs 1 _ rfl
    have h2 := HP4.out.h.cs 2 _ rfl
    have h3 := HP4.out.h.cs 3 _ rfl
    have h4 := HP4.out.h.cs 4 _ rfl
    have h5 := HP4.out.h.cs 5 _ rfl
    have h6 := HP4.out.h.cs 6 _ rfl
    have h7 := HP4.out.h.cs 7 _ rfl
    have h8 := HP4.out.h.cs 8 _ rfl
    have h9 := HP4.out.h.cs 9 _ rfl
    have hl := HP4.out.h.lt
    refine (HFY.out _ HP4.out.o.ri).mono ?_
    rintro e v99 ⟨rfl, hi, hg⟩
    have HP99 := Lib.hid (HP4.out.moved hi hg)
    clear hi hg c0 c1 c2 c3 c4 c5 c6 c7 c8 c9 cl cf h0 h1 h2 h3 h4 h5 h6 h7 h8 h9 hl
    have c0 := HP99.out.o.m.cs 0 _ rfl
    have c1 := HP99.out.o.m.cs 1 _ rfl
    have c2 := HP99.out.o.m.cs 2 _ rfl
    have c3 := HP99.out.o.m.cs 3 _ rfl
    have c4 := HP99.out.o.m.cs 4 _ rfl
    have c5 := HP99.out.o.m.cs 5 _ rfl
    have c6 := HP99.out.o.m.cs 6 _ rfl
    have c7 := HP99.out.o.m.cs 7 _ rfl
    have c8 := HP99.out.o.m.cs 8 _ rfl
    have c9 := HP99.out.o.m.cs 9 _ rfl
    have cl := HP99.out.o.m.lt
    have cf : ∀ j, v99.frozen? ⟨g, j, none⟩ = false := HP99.out.o.m.s
    have h0 := HP99.out.h.cs 0 _ rfl
    have h1 := HP99.out.h.cs 1 _ rfl
    have h2 := HP99.out.h.cs 2 _ rfl
    have h3 := HP99.out.h.cs 3 _ rfl
    have h4 := HP99.out.h.cs 4 _ rfl
    have h5 := HP99.out.h.cs 5 _ rfl
    have h6 := HP99.out.h.cs 6 _ rfl
    have h7 := HP99.out.h.cs 7 _ rfl
    have h8 := HP99.out.h.cs 8 _ rfl
    have h9 := HP99.out.h.cs 9 _ rfl
    have hl := HP99.out.h.lt
    go_wp2_with fail
    clear c0 c1 c2 c3 c4 c5 c6 c7 c8 c9 cl cf h0 h1 h2 h3 h4 h5 h6 h7 h8 h9 hl
    rw [HYX.out] at HP99
    refine (HE.out _ HP99.out.o.ri).mono ?_
    rintro e x9 ⟨rfl, nq, hw9⟩
    have HP90 := Lib.hid (HP99.out.on HRR.out (show Below v99.heap.size v99 x9 by rw [hw9]; exact drewN_below (Below.refl _ _) nq))
    clear hw9
    by_cases e0 : EC = 0
    · by_cases c0 : C = 0
      · have hrc : RC = 0 := by rw [HRCX.out, if_neg (by omega), c0]
        have hgt : GT = y := by rw [HGTX.out, if_pos hrc]
        have HCK := Lib.hid (HCX.out A q x9 HP90.out.o.hc HP90.out.o.hp)
        rw [c0] at HCK
        rw [e0]
        clear e0 c0
        simp only [meV] at HCK
        have c0 := HP90.out.o.m.cs 0 _ rfl
        have c1 := HP90.out.o.m.cs 1 _ rfl
        have c2 := HP90.out.o.m.cs 2 _ rfl
        have c3 := HP90.out.o.m.cs 3 _ rfl
        have c4 := HP90.out.o.m.cs 4 _ rfl
        have c5 := HP90.out.o.m.cs 5 _ rfl
        have c6 := HP90.out.o.m.cs 6 _ rfl
        have c7 := HP90.out.o.m.cs 7 _ rfl
        have c8 := HP90.out.o.m.cs 8 _ rfl
        have c9 := HP90.out.o.m.cs 9 _ rfl
        have cl := HP90.out.o.m.lt
        have cf : ∀ j, x9.frozen? ⟨g, j, none⟩ = false := HP90.out.o.m.s
        have h0 := HP90.out.h.cs 0 _ rfl
        have h1 := HP90.out.h.cs 1 _ rfl
        have h2 := HP90.out.h.cs 2 _ rfl
        have h3 := HP90.out.h.cs 3 _ rfl
        have h4 := HP90.out.h.cs 4 _ rfl
        have h5 := HP90.out.h.cs 5 _ rfl
        have h6 := HP90.out.h.cs 6 _ rfl
        have h7 := HP90.out.h.cs 7 _ rfl
        have h8 := HP90.out.h.cs 8 _ rfl
        have h9 := HP90.out.h.cs 9 _ rfl
        have hl := HP90.out.h.lt
        go_wp2_with fail
        refine HCK.out.mono ?_
        rintro e x10 ⟨rfl, hb⟩
        have HP91 := Lib.hid (HP90.out.on HRR.out hb)
        clear hb c0 c1 c2 c3 c4 c5 c6 c7 c8 c9 cl cf h0 h1 h2 h3 h4 h5 h6 h7 h8 h9 hl
        have c0 := HP91.out.o.m.cs 0 _ rfl
        have c1 := HP91.out.o.m.cs 1 _ rfl
        have c2 := HP91.out.o.m.cs 2 _ rfl
        have c3 := HP91.out.o.m.cs 3 _ rfl
        have c4 := HP91.out.o.m.cs 4 _ rfl
        have c5 := HP91.out.o.m.cs 5 _ rfl
        have c6 := HP91.out.o.m.cs 6 _ rfl
        have c7 := HP91.out.o.m.cs 7 _ rfl
        have c8 := HP91.out.o.m.cs 8 _ rfl
        have c9 := HP91.out.o.m.cs 9 _ rfl
        have cl := HP91.out.o.m.lt
        have cf : ∀ j, x10.frozen? ⟨g, j, none⟩ = false := HP91.out.o.m.s
        have h0 := HP91.out.h.cs 0 _ rfl
        have h1 := HP91.out.h.cs 1 _ rfl
        have h2 := HP91.out.h.cs 2 _ rfl
        have h3 := HP91.out.h.cs 3 _ rfl
        have h4 := HP91.out.h.cs 4 _ rfl
        have h5 := HP91.out.h.cs 5 _ rfl
        have h6 := HP91.out.h.cs 6 _ rfl
        have h7 := HP91.out.h.cs 7 _ rfl
        have h8 := HP91.out.h.cs 8 _ rfl
        have h9 := HP91.out.h.cs 9 _ rfl
        have hl := HP91.out.h.lt
        have z0 := HP91.out.o.q.cs 0 _ rfl
        have z1 := HP91.out.o.q.cs 1 _ rfl
        have z2 := HP91.out.o.q.cs 2 _ rfl
        have z3 := HP91.out.o.q.cs 3 _ rfl
        have z4 := HP91.out.o.q.cs 4 _ rfl
        have z5 := HP91.out.o.q.cs 5 _ rfl
        have z6 := HP91.out.o.q.cs 6 _ rfl
        have z7 := HP91.out.o.q.cs 7 _ rfl
        have z8 := HP91.out.o.q.cs 8 _ rfl
        have z9 := HP91.out.o.q.cs 9 _ rfl
        have zf : ∀ j, x10.frozen? ⟨w.heap.size + 1, j, none⟩ = false := HP91.out.o.q.s
        have zl := HP91.out.o.q.lt
        go_wp2_with fail
        have hF := HP91.out.o.q.fill (meL y A q) rfl
        have hBF := below_putAll HP91.out.o.q.ge (meL y A q) 0 HP91.out.o.B
        have hPF := Prs.putAll (g := w.heap.size + 1) (fun a ha => fun e => (HP91.out.o.hA a ha).2.2.1 e.symm) (meL y A q) 0 HP91.out.o.hp
        simp only [putAll, meL] at hF hBF hPF
        have g0 := hF.cs 0 _ rfl
        have g1 := hF.cs 1 _ rfl
        have g2 := hF.cs 2 _ rfl
        have g3 := hF.cs 3 _ rfl
        have g4 := hF.cs 4 _ rfl
        have g5 := hF.cs 5 _ rfl
        have g6 := hF.cs 6 _ rfl
        have g7 := hF.cs 7 _ rfl
        have g8 := hF.cs 8 _ rfl
        have g9 := hF.cs 9 _ rfl
        refine bodyPost_ret (v := .tuple #[meV y A q, .int .i64 0]) (by simp [results, Tryz.results19, meV, go_sem, g0, g1, g2, g3, g4, g5, g6, g7, g8, g9]) rfl ?_
        rw [hrc, hgt]
        exact ⟨A, q, rfl, HP91.out.o.hc, hPF, hBF, fun a ha => (HP91.out.o.hA a ha).2.2.2⟩
      · have hrc : RC = C := by rw [HRCX.out, if_neg (by omega)]
        have hgt : GT = Me.zero 0 0 := by rw [HGTX.out, if_neg (by rw [hrc]; exact c0)]
        have HCK := Lib.hid (HCX.out A q x9 HP90.out.o.hc HP90.out.o.hp)
        have hk0 : (C != 0) = true := by rw [bne_iff_ne]; exact c0
        rw [e0]
        clear e0 c0
        simp only [meV] at HCK
        have c0 := HP90.out.o.m.cs 0 _ rfl
        have c1 := HP90.out.o.m.cs 1 _ rfl
        have c2 := HP90.out.o.m.cs 2 _ rfl
        have c3 := HP90.out.o.m.cs 3 _ rfl
        have c4 := HP90.out.o.m.cs 4 _ rfl
        have c5 := HP90.out.o.m.cs 5 _ rfl
        have c6 := HP90.out.o.m.cs 6 _ rfl
        have c7 := HP90.out.o.m.cs 7 _ rfl
        have c8 := HP90.out.o.m.cs 8 _ rfl
        have c9 := HP90.out.o.m.cs 9 _ rfl
        have cl := HP90.out.o.m.lt
        have cf : ∀ j, x9.frozen? ⟨g, j, none⟩ = false := HP90.out.o.m.s
        have h0 := HP90.out.h.cs 0 _ rfl
        have h1 := HP90.out.h.cs 1 _ rfl
        have h2 := HP90.out.h.cs 2 _ rfl
        have h3 := HP90.out.h.cs 3 _ rfl
        have h4 := HP90.out.h.cs 4 _ rfl
        have h5 := HP90.out.h.cs 5 _ rfl
        have h6 := HP90.out.h.cs 6 _ rfl
        have h7 := HP90.out.h.cs 7 _ rfl
        have h8 := HP90.out.h.cs 8 _ rfl
        have h9 := HP90.out.h.cs 9 _ rfl
        have hl := HP90.out.h.lt
        go_wp2_with fail
        refine HCK.out.mono ?_
        rintro e x10 ⟨rfl, hb⟩
        have HP91 := Lib.hid (HP90.out.on HRR.out hb)
        clear hb c0 c1 c2 c3 c4 c5 c6 c7 c8 c9 cl cf h0 h1 h2 h3 h4 h5 h6 h7 h8 h9 hl
        have z0 := HP91.out.o.q.cs 0 _ rfl
        have z1 := HP91.out.o.q.cs 1 _ rfl
        have z2 := HP91.out.o.q.cs 2 _ rfl
        have z3 := HP91.out.o.q.cs 3 _ rfl
        have z4 := HP91.out.o.q.cs 4 _ rfl
        have z5 := HP91.out.o.q.cs 5 _ rfl
        have z6 := HP91.out.o.q.cs 6 _ rfl
        have z7 := HP91.out.o.q.cs 7 _ rfl
        have z8 := HP91.out.o.q.cs 8 _ rfl
        have z9 := HP91.out.o.q.cs 9 _ rfl
        have zf : ∀ j, x10.frozen? ⟨w.heap.size + 1, j, none⟩ = false := HP91.out.o.q.s
        have zl := HP91.out.o.q.lt
        go_wp2_with fail
        have hF := HP91.out.o.q.fill [.int .u8 0, .int .u8 0, .string ⟨#[]⟩, .string ⟨#[]⟩, .string ⟨#[]⟩, .slice none 0 0, .string ⟨#[]⟩, .int .u64 0, .int .u64 0, .bool false] rfl
        have hBF := below_putAll HP91.out.o.q.ge [.int .u8 0, .int .u8 0, .string ⟨#[]⟩, .string ⟨#[]⟩, .string ⟨#[]⟩, .slice none 0 0, .string ⟨#[]⟩, .int .u64 0, .int .u64 0, .bool false] 0 HP91.out.o.B
        simp only [putAll] at hF hBF
        have g0 := hF.cs 0 _ rfl
        have g1 := hF.cs 1 _ rfl
        have g2 := hF.cs 2 _ rfl
        have g3 := hF.cs 3 _ rfl
        have g4 := hF.cs 4 _ rfl
        have g5 := hF.cs 5 _ rfl
        have g6 := hF.cs 6 _ rfl
        have g7 := hF.cs 7 _ rfl
        have g8 := hF.cs 8 _ rfl
        have g9 := hF.cs 9 _ rfl
        refine bodyPost_ret (v := .tuple #[.agg #[.int .u8 0, .int .u8 0, .string ⟨#[]⟩, .string ⟨#[]⟩, .string ⟨#[]⟩, .slice none 0 0, .string ⟨#[]⟩, .int .u64 0, .int .u64 0, .bool false], .int .i64 C]) (by simp [results, Tryz.results19, go_sem, g0, g1, g2, g3, g4, g5, g6, g7, g8, g9]) rfl ?_
        rw [hrc, hgt]
        exact me_zero_post hBF
    · have hrc : RC = EC := by rw [HRCX.out, if_pos e0]
      have hgt : GT = Me.zero 0 0 := by rw [HGTX.out, if_neg (by rw [hrc]; exact e0)]
      have hk0 : (EC != 0) = true := by rw [bne_iff_ne]; exact e0
      have hk1 : (EC == 0) = false := by rw [beq_eq_false_iff_ne]; exact e0
      clear e0
      have z0 := HP90.out.o.q.cs 0 _ rfl
      have z1 := HP90.out.o.q.cs 1 _ rfl
      have z2 := HP90.out.o.q.cs 2 _ rfl
      have z3 := HP90.out.o.q.cs 3 _ rfl
      have z4 := HP90.out.o.q.cs 4 _ rfl
      have z5 := HP90.out.o.q.cs 5 _ rfl
      have z6 := HP90.out.o.q.cs 6 _ rfl
      have z7 := HP90.out.o.q.cs 7 _ rfl
      have z8 := HP90.out.o.q.cs 8 _ rfl
      have z9 := HP90.out.o.q.cs 9 _ rfl
      have zf : ∀ j, x9.frozen? ⟨w.heap.size + 1, j, none⟩ = false := HP90.out.o.q.s
      have zl := HP90.out.o.q.lt
      go_wp2_with fail
      have hF := HP90.out.o.q.fill [.int .u8 0, .int .u8 0, .string ⟨#[]⟩, .string ⟨#[]⟩, .string ⟨#[]⟩, .slice none 0 0, .string ⟨#[]⟩, .int .u64 0, .int .u64 0, .bool false] rfl
      have hBF := below_putAll HP90.out.o.q.ge [.int .u8 0, .int .u8 0, .string ⟨#[]⟩, .string ⟨#[]⟩, .string ⟨#[]⟩, .slice none 0 0, .string ⟨#[]⟩, .int .u64 0, .int .u64 0, .bool false] 0 HP90.out.o.B
      simp only [putAll] at hF hBF
      have g0 := hF.cs 0 _ rfl
      have g1 := hF.cs 1 _ rfl
      have g2 := hF.cs 2 _ rfl
      have g3 := hF.cs 3 _ rfl
      have g4 := hF.cs 4 _ rfl
      have g5 := hF.cs 5 _ rfl
      have g6 := hF.cs 6 _ rfl
      have g7 := hF.cs 7 _ rfl
      have g8 := hF.cs 8 _ rfl
      have g9 := hF.cs 9 _ rfl
      refine bodyPost_ret (v := .tuple #[.agg #[.int .u8 0, .int .u8 0, .string ⟨#[]⟩, .string ⟨#[]⟩, .string ⟨#[]⟩, .slice none 0 0, .string ⟨#[]⟩, .int .u64 0, .int .u64 0, .bool false], .int .i64 EC]) (by simp [results, Tryz.results19, go_sem, g0, g1, g2, g3, g4, g5, g6, g7, g8, g9]) rfl ?_
      rw [hrc, hgt]
      exact me_zero_post hBF
end Go.Proofs.YtnamkglflhkckaaGreatDoor
end
