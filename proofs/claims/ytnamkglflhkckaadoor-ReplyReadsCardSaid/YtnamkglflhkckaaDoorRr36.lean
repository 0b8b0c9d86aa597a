/-
  A MESSAGE READ OF A FRAME, as the document has it: walked.
-/
import Derived.Test.YtnamkglflhkckaaDoorRr35
import Derived.Deep.DeepCutAuto
section
namespace Go.Proofs.YtnamkglflhkckaaDoor
open Go.ChangeShapes Go.WideShapes Go.ChangeAt Go.RowKit
set_option maxRecDepth 100000 in
set_option maxHeartbeats 8000000 in
theorem r12Parse3_core (c k D : UInt8) (body : List UInt8) (w : World) (R : LSt → World → Prop) (hR : Rder (w.heap.size + 1 + 1 + 1) R) (s0 s1 s2 s3 s4 s5 s6 s7 s8 : LSt) (N M v : Nat) (YB BG : Bool) (S K : List UInt8) (H : List Hd.Pr) (T : List UInt8) (EC C RC : Int) (GT y : Re) (hy : ⟨c, D, N, M, YB, [], 0, S, K, H, T, 0, 0⟩ = y)
    (hz : decide ((k.toNat : Int) < 64) = false) (hz2 : decide ((71 : Int) < (k.toNat : Int)) = false) (hdn : IntKind.u8.wrap ((k.toNat : Int) - 64) = (D.toNat : Int)) (hD : D.toNat = 3)
    (q1 : ((v : Int) == 1) = YB) (q2 : decide ((1 : Int) < (v : Int)) = BG) (q3 : decide (1 < v) = BG)
    (h1 : ∀ W, R s0 W → Calls Tryd.prog 39 #[.pointer (some ⟨w.heap.size + 1 + 1 + 1, 0, none⟩), .int .i64 8] W (fun e w' => e = .returned (.int .u64 (N : Int)) ∧ R s1 w' ∧ W.grownBy w' (some (w.heap.size + 1 + 1 + 1))))
    (h2 : ∀ W, R s1 W → Calls Tryd.prog 39 #[.pointer (some ⟨w.heap.size + 1 + 1 + 1, 0, none⟩), .int .i64 8] W (fun e w' => e = .returned (.int .u64 (M : Int)) ∧ R s2 w' ∧ W.grownBy w' (some (w.heap.size + 1 + 1 + 1))))
    (h3 : ∀ W, R s2 W → Calls Tryd.prog 39 #[.pointer (some ⟨w.heap.size + 1 + 1 + 1, 0, none⟩), .int .i64 1] W (fun e w' => e = .returned (.int .u64 (v : Int)) ∧ R s3 w' ∧ W.grownBy w' (some (w.heap.size + 1 + 1 + 1))))
    (hF : BG = true → ∀ W, R s3 W → Calls Tryd.prog 41 #[.pointer (some ⟨w.heap.size + 1 + 1 + 1, 0, none⟩), .int .i64 4] W (fun e w' => e = .returned (.tuple #[]) ∧ R s4 w' ∧ W.grownBy w' (some (w.heap.size + 1 + 1 + 1)))) (h34 : BG = false → s4 = s3)
    (h5 : ∀ W, R s4 W → Calls Tryd.prog 37 #[.pointer (some ⟨w.heap.size + 1 + 1 + 1, 0, none⟩), .int .i64 16] W (fun e w' => e = .returned (.string (ofL S)) ∧ R s5 w' ∧ W.grownBy w' (some (w.heap.size + 1 + 1 + 1))))
    (h6 : ∀ W, R s5 W → Calls Tryd.prog 37 #[.pointer (some ⟨w.heap.size + 1 + 1 + 1, 0, none⟩), .int .i64 64] W (fun e w' => e = .returned (.string (ofL K)) ∧ R s6 w' ∧ W.grownBy w' (some (w.heap.size + 1 + 1 + 1))))
    (h7 : ∀ W, R s6 W → Calls Tryd.prog 42 #[.pointer (some ⟨w.heap.size + 1 + 1 + 1, 0, none⟩)] W (fun e w' => ∃ A c, e = .returned (.slice A H.length c) ∧ H.length ≤ c ∧ Prs w' A H ∧ R s7 w' ∧ W.grownBy w' (some (w.heap.size + 1 + 1 + 1)) ∧ ∀ a, A = some a → W.heap.size ≤ a.block))
    (h8 : ∀ W, R s7 W → Calls Tryd.prog 37 #[.pointer (some ⟨w.heap.size + 1 + 1 + 1, 0, none⟩), .int .i64 256] W (fun e w' => e = .returned (.string (ofL T)) ∧ R s8 w' ∧ W.grownBy w' (some (w.heap.size + 1 + 1 + 1))))
    (hE : ∀ W, R s8 W → Calls Tryd.prog 43 #[.pointer (some ⟨w.heap.size + 1 + 1 + 1, 0, none⟩)] W (fun e w' => e = .returned (.int .i64 EC) ∧ ∃ n, w' = W.drewN n))
    (hC : ∀ A q W, y.head.length ≤ q → Prs W A y.head → Calls Tryd.prog 44 #[reV y A q] W (fun e w' => e = .returned (.int .i64 C) ∧ Below W.heap.size W w'))
    (hRC : RC = if EC ≠ 0 then EC else C) (hGT : GT = if RC = 0 then y else Re.zero 0 0)
    (hS0 : ReOf w R (w.heap.size + 1 + 1 + 1) (w.heap.size + 1 + 1) (Re.zero c D) s0 none 0 ((((w.alloc (.cells #[.int .u8 (c.toNat : Int), .int .u8 (k.toNat : Int), .string (ofL body)] 37)).alloc (.cells #[.int .u8 0, .int .u8 0, .int .u64 0, .int .u64 0, .bool false, .string ⟨#[]⟩, .int .u64 0, .string ⟨#[]⟩, .string ⟨#[]⟩, .slice none 0 0, .string ⟨#[]⟩, .int .u64 0, .int .u8 0] 34)).alloc (.cells #[.int .u8 (c.toNat : Int), .int .u8 (D.toNat : Int), .int .u64 0, .int .u64 0, .bool false, .string ⟨#[]⟩, .int .u64 0, .string ⟨#[]⟩, .string ⟨#[]⟩, .slice none 0 0, .string ⟨#[]⟩, .int .u64 0, .int .u8 0] 34)).alloc (.cells #[.string (ofL body), .int .i64 0, .int .i64 0] 58))) :
    Calls Tryd.prog 9 #[.agg #[.int .u8 (c.toNat : Int), .int .u8 (k.toNat : Int), .string (ofL body)]] w (ReOfPost GT RC w) := by
  have HTN := Lib.hid (fun W => tellsN_any D.toNat W)
  have HTM := Lib.hid (fun W => tellsM_any D.toNat W)
  have k0 : ((D.toNat : Int) == 0) = false := beq_eq_false_iff_ne.2 (by omega)
  have k3 : ((D.toNat : Int) == 3) = true := by rw [hD]; rfl
  rw [show Re.tellsN D.toNat = true by rw [hD]; rfl] at HTN
  rw [show Re.tellsM D.toNat = true by rw [hD]; rfl] at HTM
  have HYX := Lib.hid hy
  have H1X := Lib.hid h1
  have H2X := Lib.hid h2
  have H3X := Lib.hid h3
  have HFX := Lib.hid hF
  have H34X := Lib.hid h34
  have H5X := Lib.hid h5
  have H6X := Lib.hid h6
  have H7X := Lib.hid h7
  have H8X := Lib.hid h8
  have HEX := Lib.hid hE
  have HCX := Lib.hid hC
  have HRCX := Lib.hid hRC
  have HGTX := Lib.hid hGT
  have HS0X := Lib.hid hS0
  have HRR := Lib.hid hR
  clear hy h1 h2 h3 hF h34 h5 h6 h7 h8 hE hC hRC hGT hS0 hR hD
  go_enter Tryd.func9, Tryd.ntmps9
  go_wp2_with fail
  generalize ((((w.alloc (.cells #[.int .u8 (c.toNat : Int), .int .u8 (k.toNat : Int), .string (ofL body)] 37)).alloc (.cells #[.int .u8 0, .int .u8 0, .int .u64 0, .int .u64 0, .bool false, .string ⟨#[]⟩, .int .u64 0, .string ⟨#[]⟩, .string ⟨#[]⟩, .slice none 0 0, .string ⟨#[]⟩, .int .u64 0, .int .u8 0] 34)).alloc (.cells #[.int .u8 (c.toNat : Int), .int .u8 (D.toNat : Int), .int .u64 0, .int .u64 0, .bool false, .string ⟨#[]⟩, .int .u64 0, .string ⟨#[]⟩, .string ⟨#[]⟩, .slice none 0 0, .string ⟨#[]⟩, .int .u64 0, .int .u8 0] 34)).alloc (.cells #[.string (ofL body), .int .i64 0, .int .i64 0] 58)) = v0 at *
  have c0 := HS0X.out.m.cs 0 _ rfl
  have c1 : v0.cell? ⟨w.heap.size + 1 + 1, 1, none⟩ = some (.int .u8 (D.toNat : Int)) := HS0X.out.m.cs 1 _ rfl
  have c2 := HS0X.out.m.cs 2 _ rfl
  have c3 := HS0X.out.m.cs 3 _ rfl
  have c4 := HS0X.out.m.cs 4 _ rfl
  have c5 := HS0X.out.m.cs 5 _ rfl
  have c6 := HS0X.out.m.cs 6 _ rfl
  have c7 := HS0X.out.m.cs 7 _ rfl
  have c8 := HS0X.out.m.cs 8 _ rfl
  have c9 := HS0X.out.m.cs 9 _ rfl
  have c10 := HS0X.out.m.cs 10 _ rfl
  have c11 := HS0X.out.m.cs 11 _ rfl
  have c12 := HS0X.out.m.cs 12 _ rfl
  have cl := HS0X.out.m.lt
  have cf : ∀ j, v0.frozen? ⟨w.heap.size + 1 + 1, j, none⟩ = false := HS0X.out.m.s
  refine (HTN.out _).mono ?_
  rintro e w9 ⟨rfl, rfl⟩
  go_wp2_with fail
  refine (H1X.out _ HS0X.out.ri).mono ?_
  rintro e u1 ⟨rfl, hi, hg⟩
  have HM1 := Lib.hid (HS0X.out.moved hi hg)
  have HP1 := Lib.hid (HM1.out.put HRR.out ⟨c, D, N, 0, false, [], 0, [], [], [], [], 0, 0⟩ 2 (.int .u64 (N : Int)) (by decide) rfl rfl)
  clear hi hg c0 c1 c2 c3 c4 c5 c6 c7 c8 c9 c10 c11 c12 cl cf
  have c0 := HM1.out.m.cs 0 _ rfl
  have c1 : u1.cell? ⟨w.heap.size + 1 + 1, 1, none⟩ = some (.int .u8 (D.toNat : Int)) := HM1.out.m.cs 1 _ rfl
  have c2 := HM1.out.m.cs 2 _ rfl
  have c3 := HM1.out.m.cs 3 _ rfl
  have c4 := HM1.out.m.cs 4 _ rfl
  have c5 := HM1.out.m.cs 5 _ rfl
  have c6 := HM1.out.m.cs 6 _ rfl
  have c7 := HM1.out.m.cs 7 _ rfl
  have c8 := HM1.out.m.cs 8 _ rfl
  have c9 := HM1.out.m.cs 9 _ rfl
  have c10 := HM1.out.m.cs 10 _ rfl
  have c11 := HM1.out.m.cs 11 _ rfl
  have c12 := HM1.out.m.cs 12 _ rfl
  have cl := HM1.out.m.lt
  have cf : ∀ j, u1.frozen? ⟨w.heap.size + 1 + 1, j, none⟩ = false := HM1.out.m.s
  go_wp2_with fail
  generalize u1.setCell ⟨w.heap.size + 1 + 1, 2, none⟩ (.int .u64 (N : Int)) = v1 at *
  clear c0 c1 c2 c3 c4 c5 c6 c7 c8 c9 c10 c11 c12 cl cf
  have c0 := HP1.out.m.cs 0 _ rfl
  have c1 : v1.cell? ⟨w.heap.size + 1 + 1, 1, none⟩ = some (.int .u8 (D.toNat : Int)) := HP1.out.m.cs 1 _ rfl
  have c2 := HP1.out.m.cs 2 _ rfl
  have c3 := HP1.out.m.cs 3 _ rfl
  have c4 := HP1.out.m.cs 4 _ rfl
  have c5 := HP1.out.m.cs 5 _ rfl
  have c6 := HP1.out.m.cs 6 _ rfl
  have c7 := HP1.out.m.cs 7 _ rfl
  have c8 := HP1.out.m.cs 8 _ rfl
  have c9 := HP1.out.m.cs 9 _ rfl
  have c10 := HP1.out.m.cs 10 _ rfl
  have c11 := HP1.out.m.cs 11 _ rfl
  have c12 := HP1.out.m.cs 12 _ rfl
  have cl := HP1.out.m.lt
  have cf : ∀ j, v1.frozen? ⟨w.heap.size + 1 + 1, j, none⟩ = false := HP1.out.m.s
  refine (HTM.out _).mono ?_
  rintro e w9 ⟨rfl, rfl⟩
  go_wp2_with fail
  refine (H2X.out _ HP1.out.ri).mono ?_
  rintro e u2 ⟨rfl, hi, hg⟩
  have HM2 := Lib.hid (HP1.out.moved hi hg)
  have HP2 := Lib.hid (HM2.out.put HRR.out ⟨c, D, N, M, false, [], 0, [], [], [], [], 0, 0⟩ 3 (.int .u64 (M : Int)) (by decide) rfl rfl)
  clear hi hg c0 c1 c2 c3 c4 c5 c6 c7 c8 c9 c10 c11 c12 cl cf
  have c0 := HM2.out.m.cs 0 _ rfl
  have c1 : u2.cell? ⟨w.heap.size + 1 + 1, 1, none⟩ = some (.int .u8 (D.toNat : Int)) := HM2.out.m.cs 1 _ rfl
  have c2 := HM2.out.m.cs 2 _ rfl
  have c3 := HM2.out.m.cs 3 _ rfl
  have c4 := HM2.out.m.cs 4 _ rfl
  have c5 := HM2.out.m.cs 5 _ rfl
  have c6 := HM2.out.m.cs 6 _ rfl
  have c7 := HM2.out.m.cs 7 _ rfl
  have c8 := HM2.out.m.cs 8 _ rfl
  have c9 := HM2.out.m.cs 9 _ rfl
  have c10 := HM2.out.m.cs 10 _ rfl
  have c11 := HM2.out.m.cs 11 _ rfl
  have c12 := HM2.out.m.cs 12 _ rfl
  have cl := HM2.out.m.lt
  have cf : ∀ j, u2.frozen? ⟨w.heap.size + 1 + 1, j, none⟩ = false := HM2.out.m.s
  go_wp2_with fail
  generalize u2.setCell ⟨w.heap.size + 1 + 1, 3, none⟩ (.int .u64 (M : Int)) = v2 at *
  clear c0 c1 c2 c3 c4 c5 c6 c7 c8 c9 c10 c11 c12 cl cf
  have c0 := HP2.out.m.cs 0 _ rfl
  have c1 : v2.cell? ⟨w.heap.size + 1 + 1, 1, none⟩ = some (.int .u8 (D.toNat : Int)) := HP2.out.m.cs 1 _ rfl
  have c2 := HP2.out.m.cs 2 _ rfl
  have c3 := HP2.out.m.cs 3 _ rfl
  have c4 := HP2.out.m.cs 4 _ rfl
  have c5 := HP2.out.m.cs 5 _ rfl
  have c6 := HP2.out.m.cs 6 _ rfl
  have c7 := HP2.out.m.cs 7 _ rfl
  have c8 := HP2.out.m.cs 8 _ rfl
  have c9 := HP2.out.m.cs 9 _ rfl
  have c10 := HP2.out.m.cs 10 _ rfl
  have c11 := HP2.out.m.cs 11 _ rfl
  have c12 := HP2.out.m.cs 12 _ rfl
  have cl := HP2.out.m.lt
  have cf : ∀ j, v2.frozen? ⟨w.heap.size + 1 + 1, j, none⟩ = false := HP2.out.m.s
  refine (H3X.out _ HP2.out.ri).mono ?_
  rintro e u3 ⟨rfl, hi, hg⟩
  have HM3 := Lib.hid (HP2.out.moved hi hg)
  have HP3 := Lib.hid (HM3.out.put HRR.out ⟨c, D, N, M, YB, [], 0, [], [], [], [], 0, 0⟩ 4 (.bool YB) (by decide) rfl rfl)
  clear hi hg c0 c1 c2 c3 c4 c5 c6 c7 c8 c9 c10 c11 c12 cl cf
  have c0 := HM3.out.m.cs 0 _ rfl
  have c1 : u3.cell? ⟨w.heap.size + 1 + 1, 1, none⟩ = some (.int .u8 (D.toNat : Int)) := HM3.out.m.cs 1 _ rfl
  have c2 := HM3.out.m.cs 2 _ rfl
  have c3 := HM3.out.m.cs 3 _ rfl
  have c4 := HM3.out.m.cs 4 _ rfl
  have c5 := HM3.out.m.cs 5 _ rfl
  have c6 := HM3.out.m.cs 6 _ rfl
  have c7 := HM3.out.m.cs 7 _ rfl
  have c8 := HM3.out.m.cs 8 _ rfl
  have c9 := HM3.out.m.cs 9 _ rfl
  have c10 := HM3.out.m.cs 10 _ rfl
  have c11 := HM3.out.m.cs 11 _ rfl
  have c12 := HM3.out.m.cs 12 _ rfl
  have cl := HM3.out.m.lt
  have cf : ∀ j, u3.frozen? ⟨w.heap.size + 1 + 1, j, none⟩ = false := HM3.out.m.s
  cases BG with
  | false =>
    have e34 := H34X.out rfl
    subst e34
    clear H34X HFX
    go_wp2_with fail
    generalize u3.setCell ⟨w.heap.size + 1 + 1, 4, none⟩ (.bool YB) = v3 at *
    clear c0 c1 c2 c3 c4 c5 c6 c7 c8 c9 c10 c11 c12 cl cf
    have c0 := HP3.out.m.cs 0 _ rfl
    have c1 : v3.cell? ⟨w.heap.size + 1 + 1, 1, none⟩ = some (.int .u8 (D.toNat : Int)) := HP3.out.m.cs 1 _ rfl
    have c2 := HP3.out.m.cs 2 _ rfl
    have c3 := HP3.out.m.cs 3 _ rfl
    have c4 := HP3.out.m.cs 4 _ rfl
    have c5 := HP3.out.m.cs 5 _ rfl
    have c6 := HP3.out.m.cs 6 _ rfl
    have c7 := HP3.out.m.cs 7 _ rfl
    have c8 := HP3.out.m.cs 8 _ rfl
    have c9 := HP3.out.m.cs 9 _ rfl
    have c10 := HP3.out.m.cs 10 _ rfl
    have c11 := HP3.out.m.cs 11 _ rfl
    have c12 := HP3.out.m.cs 12 _ rfl
    have cl := HP3.out.m.lt
    have cf : ∀ j, v3.frozen? ⟨w.heap.size + 1 + 1, j, none⟩ = false := HP3.out.m.s
    refine (H5X.out _ HP3.out.ri).mono ?_
    rintro e u5 ⟨rfl, hi, hg⟩
    have HM5 := Lib.hid (HP3.out.moved hi hg)
    have HP5 := Lib.hid (HM5.out.put HRR.out ⟨c, D, N, M, YB, [], 0, S, [], [], [], 0, 0⟩ 7 (.string (ofL S)) (by decide) rfl rfl)
    clear hi hg c0 c1 c2 c3 c4 c5 c6 c7 c8 c9 c10 c11 c12 cl cf
    have c0 := HM5.out.m.cs 0 _ rfl
    have c1 : u5.cell? ⟨w.heap.size + 1 + 1, 1, none⟩ = some (.int .u8 (D.toNat : Int)) := HM5.out.m.cs 1 _ rfl
    have c2 := HM5.out.m.cs 2 _ rfl
    have c3 := HM5.out.m.cs 3 _ rfl
    have c4 := HM5.out.m.cs 4 _ rfl
    have c5 := HM5.out.m.cs 5 _ rfl
    have c6 := HM5.out.m.cs 6 _ rfl
    have c7 := HM5.out.m.cs 7 _ rfl
    have c8 := HM5.out.m.cs 8 _ rfl
    have c9 := HM5.out.m.cs 9 _ rfl
    have c10 := HM5.out.m.cs 10 _ rfl
    have c11 := HM5.out.m.cs 11 _ rfl
    have c12 := HM5.out.m.cs 12 _ rfl
    have cl := HM5.out.m.lt
    have cf : ∀ j, u5.frozen? ⟨w.heap.size + 1 + 1, j, none⟩ = false := HM5.out.m.s
    go_wp2_with fail
    generalize u5.setCell ⟨w.heap.size + 1 + 1, 7, none⟩ (.string (ofL S)) = v5 at *
    clear c0 c1 c2 c3 c4 c5 c6 c7 c8 c9 c10 c11 c12 cl cf
    have c0 := HP5.out.m.cs 0 _ rfl
    have c1 : v5.cell? ⟨w.heap.size + 1 + 1, 1, none⟩ = some (.int .u8 (D.toNat : Int)) := HP5.out.m.cs 1 _ rfl
    have c2 := HP5.out.m.cs 2 _ rfl
    have c3 := HP5.out.m.cs 3 _ rfl
    have c4 := HP5.out.m.cs 4 _ rfl
    have c5 := HP5.out.m.cs 5 _ rfl
    have c6 := HP5.out.m.cs 6 _ rfl
    have c7 := HP5.out.m.cs 7 _ rfl
    have c8 := HP5.out.m.cs 8 _ rfl
    have c9 := HP5.out.m.cs 9 _ rfl
    have c10 := HP5.out.m.cs 10 _ rfl
    have c11 := HP5.out.m.cs 11 _ rfl
    have c12 := HP5.out.m.cs 12 _ rfl
    have cl := HP5.out.m.lt
    have cf : ∀ j, v5.frozen? ⟨w.heap.size + 1 + 1, j, none⟩ = false := HP5.out.m.s
    refine (H6X.out _ HP5.out.ri).mono ?_
    rintro e u6 ⟨rfl, hi, hg⟩
    have HM6 := Lib.hid (HP5.out.moved hi hg)
    have HP6 := Lib.hid (HM6.out.put HRR.out ⟨c, D, N, M, YB, [], 0, S, K, [], [], 0, 0⟩ 8 (.string (ofL K)) (by decide) rfl rfl)
    clear hi hg c0 c1 c2 c3 c4 c5 c6 c7 c8 c9 c10 c11 c12 cl cf
    have c0 := HM6.out.m.cs 0 _ rfl
    have c1 : u6.cell? ⟨w.heap.size + 1 + 1, 1, none⟩ = some (.int .u8 (D.toNat : Int)) := HM6.out.m.cs 1 _ rfl
    have c2 := HM6.out.m.cs 2 _ rfl
    have c3 := HM6.out.m.cs 3 _ rfl
    have c4 := HM6.out.m.cs 4 _ rfl
    have c5 := HM6.out.m.cs 5 _ rfl
    have c6 := HM6.out.m.cs 6 _ rfl
    have c7 := HM6.out.m.cs 7 _ rfl
    have c8 := HM6.out.m.cs 8 _ rfl
    have c9 := HM6.out.m.cs 9 _ rfl
    have c10 := HM6.out.m.cs 10 _ rfl
    have c11 := HM6.out.m.cs 11 _ rfl
    have c12 := HM6.out.m.cs 12 _ rfl
    have cl := HM6.out.m.lt
    have cf : ∀ j, u6.frozen? ⟨w.heap.size + 1 + 1, j, none⟩ = false := HM6.out.m.s
    go_wp2_with fail
    generalize u6.setCell ⟨w.heap.size + 1 + 1, 8, none⟩ (.string (ofL K)) = v6 at *
    clear c0 c1 c2 c3 c4 c5 c6 c7 c8 c9 c10 c11 c12 cl cf
    have c0 := HP6.out.m.cs 0 _ rfl
    have c1 : v6.cell? ⟨w.heap.size + 1 + 1, 1, none⟩ = some (.int .u8 (D.toNat : Int)) := HP6.out.m.cs 1 _ rfl
    have c2 := HP6.out.m.cs 2 _ rfl
    have c3 := HP6.out.m.cs 3 _ rfl
    have c4 := HP6.out.m.cs 4 _ rfl
    have c5 := HP6.out.m.cs 5 _ rfl
    have c6 := HP6.out.m.cs 6 _ rfl
    have c7 := HP6.out.m.cs 7 _ rfl
    have c8 := HP6.out.m.cs 8 _ rfl
    have c9 := HP6.out.m.cs 9 _ rfl
    have c10 := HP6.out.m.cs 10 _ rfl
    have c11 := HP6.out.m.cs 11 _ rfl
    have c12 := HP6.out.m.cs 12 _ rfl
    have cl := HP6.out.m.lt
    have cf : ∀ j, v6.frozen? ⟨w.heap.size + 1 + 1, j, none⟩ = false := HP6.out.m.s
    refine (H7X.out _ HP6.out.ri).mono ?_
    rintro e u7 ⟨A, q, rfl, hc, hp, hi, hg, hA⟩
    have HM7 := Lib.hid (HP6.out.moved hi hg)
    have HP7 := Lib.hid (HM7.out.putH HRR.out H A q hc hp (fun a ha => by have := hA a ha; have := HRR.out.lt HP6.out.ri; omega))
    clear hc hp hi hg hA c0 c1 c2 c3 c4 c5 c6 c7 c8 c9 c10 c11 c12 cl cf
    have c0 := HM7.out.m.cs 0 _ rfl
    have c1 : u7.cell? ⟨w.heap.size + 1 + 1, 1, none⟩ = some (.int .u8 (D.toNat : Int)) := HM7.out.m.cs 1 _ rfl
    have c2 := HM7.out.m.cs 2 _ rfl
    have c3 := HM7.out.m.cs 3 _ rfl
    have c4 := HM7.out.m.cs 4 _ rfl
    have c5 := HM7.out.m.cs 5 _ rfl
    have c6 := HM7.out.m.cs 6 _ rfl
    have c7 := HM7.out.m.cs 7 _ rfl
    have c8 := HM7.out.m.cs 8 _ rfl
    have c9 := HM7.out.m.cs 9 _ rfl
    have c10 := HM7.out.m.cs 10 _ rfl
    have c11 := HM7.out.m.cs 11 _ rfl
    have c12 := HM7.out.m.cs 12 _ rfl
    have cl := HM7.out.m.lt
    have cf : ∀ j, u7.frozen? ⟨w.heap.size + 1 + 1, j, none⟩ = false := HM7.out.m.s
    go_wp2_with fail
    generalize u7.setCell ⟨w.heap.size + 1 + 1, 9, none⟩ (.slice A H.length q) = v7 at *
    clear c0 c1 c2 c3 c4 c5 c6 c7 c8 c9 c10 c11 c12 cl cf
    have c0 := HP7.out.m.cs 0 _ rfl
    have c1 : v7.cell? ⟨w.heap.size + 1 + 1, 1, none⟩ = some (.int .u8 (D.toNat : Int)) := HP7.out.m.cs 1 _ rfl
    have c2 := HP7.out.m.cs 2 _ rfl
    have c3 := HP7.out.m.cs 3 _ rfl
    have c4 := HP7.out.m.cs 4 _ rfl
    have c5 := HP7.out.m.cs 5 _ rfl
    have c6 := HP7.out.m.cs 6 _ rfl
    have c7 := HP7.out.m.cs 7 _ rfl
    have c8 := HP7.out.m.cs 8 _ rfl
    have c9 := HP7.out.m.cs 9 _ rfl
    have c10 := HP7.out.m.cs 10 _ rfl
    have c11 := HP7.out.m.cs 11 _ rfl
    have c12 := HP7.out.m.cs 12 _ rfl
    have cl := HP7.out.m.lt
    have cf : ∀ j, v7.frozen? ⟨w.heap.size + 1 + 1, j, none⟩ = false := HP7.out.m.s
    refine (H8X.out _ HP7.out.ri).mono ?_
    rintro e u8 ⟨rfl, hi, hg⟩
    have HM8 := Lib.hid (HP7.out.moved hi hg)
    have HP8 := Lib.hid (HM8.out.put HRR.out ⟨c, D, N, M, YB, [], 0, S, K, H, T, 0, 0⟩ 10 (.string (ofL T)) (by decide) rfl rfl)
    clear hi hg c0 c1 c2 c3 c4 c5 c6 c7 c8 c9 c10 c11 c12 cl cf
    have c0 := HM8.out.m.cs 0 _ rfl
    have c1 : u8.cell? ⟨w.heap.size + 1 + 1, 1, none⟩ = some (.int .u8 (D.toNat : Int)) := HM8.out.m.cs 1 _ rfl
    have c2 := HM8.out.m.cs 2 _ rfl
    have c3 := HM8.out.m.cs 3 _ rfl
    have c4 := HM8.out.m.cs 4 _ rfl
    have c5 := HM8.out.m.cs 5 _ rfl
    have c6 := HM8.out.m.cs 6 _ rfl
    have c7 := HM8.out.m.cs 7 _ rfl
    have c8 := HM8.out.m.cs 8 _ rfl
    have c9 := HM8.out.m.cs 9 _ rfl
    have c10 := HM8.out.m.cs 10 _ rfl
    have c11 := HM8.out.m.cs 11 _ rfl
    have c12 := HM8.out.m.cs 12 _ rfl
    have cl := HM8.out.m.lt
    have cf : ∀ j, u8.frozen? ⟨w.heap.size + 1 + 1, j, none⟩ = false := HM8.out.m.s
    go_wp2_with fail
    generalize u8.setCell ⟨w.heap.size + 1 + 1, 10, none⟩ (.string (ofL T)) = v8 at *
    clear c0 c1 c2 c3 c4 c5 c6 c7 c8 c9 c10 c11 c12 cl cf
    have c0 := HP8.out.m.cs 0 _ rfl
    have c1 : v8.cell? ⟨w.heap.size + 1 + 1, 1, none⟩ = some (.int .u8 (D.toNat : Int)) := HP8.out.m.cs 1 _ rfl
    have c2 := HP8.out.m.cs 2 _ rfl
    have c3 := HP8.out.m.cs 3 _ rfl
    have c4 := HP8.out.m.cs 4 _ rfl
    have c5 := HP8.out.m.cs 5 _ rfl
    have c6 := HP8.out.m.cs 6 _ rfl
    have c7 := HP8.out.m.cs 7 _ rfl
    have c8 := HP8.out.m.cs 8 _ rfl
    have c9 := HP8.out.m.cs 9 _ rfl
    have c10 := HP8.out.m.cs 10 _ rfl
    have c11 := HP8.out.m.cs 11 _ rfl
    have c12 := HP8.out.m.cs 12 _ rfl
    have cl := HP8.out.m.lt
    have cf : ∀ j, v8.frozen? ⟨w.heap.size + 1 + 1, j, none⟩ = false := HP8.out.m.s
    clear c0 c1 c2 c3 c4 c5 c6 c7 c8 c9 c10 c11 c12 cl cf
    rw [HYX.out] at HP8
    refine (HEX.out _ HP8.out.ri).mono ?_
    rintro e v9 ⟨rfl, nq, hw9⟩
    have HP9 := Lib.hid (HP8.out.on HRR.out (show Below v8.heap.size v8 v9 by rw [hw9]; exact drewN_below (Below.refl _ _) nq))
    clear hw9
    by_cases e0 : EC = 0
    · by_cases c0 : C = 0
      · have hrc : RC = 0 := by rw [HRCX.out, if_neg (by omega), c0]
        have hgt : GT = y := by rw [HGTX.out, if_pos hrc]
        have HCK := Lib.hid (HCX.out A q v9 HP9.out.hc HP9.out.hp)
        rw [c0] at HCK
        rw [e0]
        clear e0 c0
        simp only [reV] at HCK
        have c0 := HP9.out.m.cs 0 _ rfl
        have c1 := HP9.out.m.cs 1 _ rfl
        have c2 := HP9.out.m.cs 2 _ rfl
        have c3 := HP9.out.m.cs 3 _ rfl
        have c4 := HP9.out.m.cs 4 _ rfl
        have c5 := HP9.out.m.cs 5 _ rfl
        have c6 := HP9.out.m.cs 6 _ rfl
        have c7 := HP9.out.m.cs 7 _ rfl
        have c8 := HP9.out.m.cs 8 _ rfl
        have c9 := HP9.out.m.cs 9 _ rfl
        have c10 := HP9.out.m.cs 10 _ rfl
        have c11 := HP9.out.m.cs 11 _ rfl
        have c12 := HP9.out.m.cs 12 _ rfl
        have cl := HP9.out.m.lt
        have cf : ∀ j, v9.frozen? ⟨w.heap.size + 1 + 1, j, none⟩ = false := HP9.out.m.s
        go_wp2_with fail
        refine HCK.out.mono ?_
        rintro e v10 ⟨rfl, hb⟩
        have HP10 := Lib.hid (HP9.out.on HRR.out hb)
        clear hb c0 c1 c2 c3 c4 c5 c6 c7 c8 c9 c10 c11 c12 cl cf
        have c0 := HP10.out.m.cs 0 _ rfl
        have c1 := HP10.out.m.cs 1 _ rfl
        have c2 := HP10.out.m.cs 2 _ rfl
        have c3 := HP10.out.m.cs 3 _ rfl
        have c4 := HP10.out.m.cs 4 _ rfl
        have c5 := HP10.out.m.cs 5 _ rfl
        have c6 := HP10.out.m.cs 6 _ rfl
        have c7 := HP10.out.m.cs 7 _ rfl
        have c8 := HP10.out.m.cs 8 _ rfl
        have c9 := HP10.out.m.cs 9 _ rfl
        have c10 := HP10.out.m.cs 10 _ rfl
        have c11 := HP10.out.m.cs 11 _ rfl
        have c12 := HP10.out.m.cs 12 _ rfl
        have cl := HP10.out.m.lt
        have cf : ∀ j, v10.frozen? ⟨w.heap.size + 1 + 1, j, none⟩ = false := HP10.out.m.s
        have z0 := HP10.out.q.cs 0 _ rfl
        have z1 := HP10.out.q.cs 1 _ rfl
        have z2 := HP10.out.q.cs 2 _ rfl
        have z3 := HP10.out.q.cs 3 _ rfl
        have z4 := HP10.out.q.cs 4 _ rfl
        have z5 := HP10.out.q.cs 5 _ rfl
        have z6 := HP10.out.q.cs 6 _ rfl
        have z7 := HP10.out.q.cs 7 _ rfl
        have z8 := HP10.out.q.cs 8 _ rfl
        have z9 := HP10.out.q.cs 9 _ rfl
        have z10 := HP10.out.q.cs 10 _ rfl
        have z11 := HP10.out.q.cs 11 _ rfl
        have z12 := HP10.out.q.cs 12 _ rfl
        have zf : ∀ j, v10.frozen? ⟨w.heap.size + 1, j, none⟩ = false := HP10.out.q.s
        have zl := HP10.out.q.lt
        go_wp2_with fail
        have hF := HP10.out.q.fill (reL y A q) rfl
        have hBF := below_putAll HP10.out.q.ge (reL y A q) 0 HP10.out.B
        have hPF := Prs.putAll (g := w.heap.size + 1) (fun a ha => fun e => (HP10.out.hA a ha).2.2.1 e.symm) (reL y A q) 0 HP10.out.hp
        simp only [putAll, reL] at hF hBF hPF
        have g0 := hF.cs 0 _ rfl
        have g1 := hF.cs 1 _ rfl
        have g2 := hF.cs 2 _ rfl
        have g3 := hF.cs 3 _ rfl
        have g4 := hF.cs 4 _ rfl
        have g5 := hF.cs 5 _ rfl
        have g6 := hF.cs 6 _ rfl
        have g7 := hF.cs 7 _ rfl
        have g8 := hF.cs 8 _ rfl
        have g9 := hF.cs 9 _ rfl
        have g10 := hF.cs 10 _ rfl
        have g11 := hF.cs 11 _ rfl
        have g12 := hF.cs 12 _ rfl
        refine bodyPost_ret (v := .tuple #[reV y A q, .int .i64 0]) (by simp [results, Tryd.results9, reV, go_sem, g0, g1, g2, g3, g4, g5, g6, g7, g8, g9, g10, g11, g12]) rfl ?_
        rw [hrc, hgt]
        exact ⟨A, q, rfl, HP10.out.hc, hPF, hBF, fun a ha => (HP10.out.hA a ha).2.2.2⟩
      · have hrc : RC = C := by rw [HRCX.out, if_neg (by omega)]
        have hgt : GT = Re.zero 0 0 := by rw [HGTX.out, if_neg (by rw [hrc]; exact c0)]
        have HCK := Lib.hid (HCX.out A q v9 HP9.out.hc HP9.out.hp)
        have hk0 : (C != 0) = true := by rw [bne_iff_ne]; exact c0
        rw [e0]
        clear e0 c0
        simp only [reV] at HCK
        have c0 := HP9.out.m.cs 0 _ rfl
        have c1 := HP9.out.m.cs 1 _ rfl
        have c2 := HP9.out.m.cs 2 _ rfl
        have c3 := HP9.out.m.cs 3 _ rfl
        have c4 := HP9.out.m.cs 4 _ rfl
        have c5 := HP9.out.m.cs 5 _ rfl
        have c6 := HP9.out.m.cs 6 _ rfl
        have c7 := HP9.out.m.cs 7 _ rfl
        have c8 := HP9.out.m.cs 8 _ rfl
        have c9 := HP9.out.m.cs 9 _ rfl
        have c10 := HP9.out.m.cs 10 _ rfl
        have c11 := HP9.out.m.cs 11 _ rfl
        have c12 := HP9.out.m.cs 12 _ rfl
        have cl := HP9.out.m.lt
        have cf : ∀ j, v9.frozen? ⟨w.heap.size + 1 + 1, j, none⟩ = false := HP9.out.m.s
        go_wp2_with fail
        refine HCK.out.mono ?_
        rintro e v10 ⟨rfl, hb⟩
        have HP10 := Lib.hid (HP9.out.on HRR.out hb)
        clear hb c0 c1 c2 c3 c4 c5 c6 c7 c8 c9 c10 c11 c12 cl cf
        have z0 := HP10.out.q.cs 0 _ rfl
        have z1 := HP10.out.q.cs 1 _ rfl
        have z2 := HP10.out.q.cs 2 _ rfl
        have z3 := HP10.out.q.cs 3 _ rfl
        have z4 := HP10.out.q.cs 4 _ rfl
        have z5 := HP10.out.q.cs 5 _ rfl
        have z6 := HP10.out.q.cs 6 _ rfl
        have z7 := HP10.out.q.cs 7 _ rfl
        have z8 := HP10.out.q.cs 8 _ rfl
        have z9 := HP10.out.q.cs 9 _ rfl
        have z10 := HP10.out.q.cs 10 _ rfl
        have z11 := HP10.out.q.cs 11 _ rfl
        have z12 := HP10.out.q.cs 12 _ rfl
        have zf : ∀ j, v10.frozen? ⟨w.heap.size + 1, j, none⟩ = false := HP10.out.q.s
        have zl := HP10.out.q.lt
        go_wp2_with fail
        have hF := HP10.out.q.fill [.int .u8 0, .int .u8 0, .int .u64 0, .int .u64 0, .bool false, .string ⟨#[]⟩, .int .u64 0, .string ⟨#[]⟩, .string ⟨#[]⟩, .slice none 0 0, .string ⟨#[]⟩, .int .u64 0, .int .u8 0] rfl
        have hBF := below_putAll HP10.out.q.ge [.int .u8 0, .int .u8 0, .int .u64 0, .int .u64 0, .bool false, .string ⟨#[]⟩, .int .u64 0, .string ⟨#[]⟩, .string ⟨#[]⟩, .slice none 0 0, .string ⟨#[]⟩, .int .u64 0, .int .u8 0] 0 HP10.out.B
        simp only [putAll] at hF hBF
        have g0 := hF.cs 0 _ rfl
        have g1 := hF.cs 1 _ rfl
        have g2 := hF.cs 2 _ rfl
        have g3 := hF.cs 3 _ rfl
        have g4 := hF.cs 4 _ rfl
        have g5 := hF.cs 5 _ rfl
        have g6 := hF.cs 6 _ rfl
        have g7 := hF.cs 7 _ rfl
        have g8 := hF.cs 8 _ rfl
        have g9 := hF.cs 9 _ rfl
        have g10 := hF.cs 10 _ rfl
        have g11 := hF.cs 11 _ rfl
        have g12 := hF.cs 12 _ rfl
        refine bodyPost_ret (v := .tuple #[.agg #[.int .u8 0, .int .u8 0, .int .u64 0, .int .u64 0, .bool false, .string ⟨#[]⟩, .int .u64 0, .string ⟨#[]⟩, .string ⟨#[]⟩, .slice none 0 0, .string ⟨#[]⟩, .int .u64 0, .int .u8 0], .int .i64 C]) (by simp [results, Tryd.results9, go_sem, g0, g1, g2, g3, g4, g5, g6, g7, g8, g9, g10, g11, g12]) rfl ?_
        rw [hrc, hgt]
        exact re_zero_post hBF
    · have hrc : RC = EC := by rw [HRCX.out, if_pos e0]
      have hgt : GT = Re.zero 0 0 := by rw [HGTX.out, if_neg (by rw [hrc]; exact e0)]
      have hk0 : (EC != 0) = true := by rw [bne_iff_ne]; exact e0
      have hk1 : (EC == 0) = false := by rw [beq_eq_false_iff_ne]; exact e0
      clear e0
      have z0 := HP9.out.q.cs 0 _ rfl
      have z1 := HP9.out.q.cs 1 _ rfl
      have z2 := HP9.out.q.cs 2 _ rfl
      have z3 := HP9.out.q.cs 3 _ rfl
      have z4 := HP9.out.q.cs 4 _ rfl
      have z5 := HP9.out.q.cs 5 _ rfl
      have z6 := HP9.out.q.cs 6 _ rfl
      have z7 := HP9.out.q.cs 7 _ rfl
      have z8 := HP9.out.q.cs 8 _ rfl
      have z9 := HP9.out.q.cs 9 _ rfl
      have z10 := HP9.out.q.cs 10 _ rfl
      have z11 := HP9.out.q.cs 11 _ rfl
      have z12 := HP9.out.q.cs 12 _ rfl
      have zf : ∀ j, v9.frozen? ⟨w.heap.size + 1, j, none⟩ = false := HP9.out.q.s
      have zl := HP9.out.q.lt
      go_wp2_with fail
      have hF := HP9.out.q.fill [.int .u8 0, .int .u8 0, .int .u64 0, .int .u64 0, .bool false, .string ⟨#[]⟩, .int .u64 0, .string ⟨#[]⟩, .string ⟨#[]⟩, .slice none 0 0, .string ⟨#[]⟩, .int .u64 0, .int .u8 0] rfl
      have hBF := below_putAll HP9.out.q.ge [.int .u8 0, .int .u8 0, .int .u64 0, .int .u64 0, .bool false, .string ⟨#[]⟩, .int .u64 0, .string ⟨#[]⟩, .string ⟨#[]⟩, .slice none 0 0, .string ⟨#[]⟩, .int .u64 0, .int .u8 0] 0 HP9.out.B
      simp only [putAll] at hF hBF
      have g0 := hF.cs 0 _ rfl
      have g1 := hF.cs 1 _ rfl
      have g2 := hF.cs 2 _ rfl
      have g3 := hF.cs 3 _ rfl
      have g4 := hF.cs 4 _ rfl
      have g5 := hF.cs 5 _ rfl
      have g6 := hF.cs 6 _ rfl
      have g7 := hF.cs 7 _ rfl
      have g8 := hF.cs 8 _ rfl
      have g9 := hF.cs 9 _ rfl
      have g10 := hF.cs 10 _ rfl
      have g11 := hF.cs 11 _ rfl
      have g12 := hF.cs 12 _ rfl
      refine bodyPost_ret (v := .tuple #[.agg #[.int .u8 0, .int .u8 0, .int .u64 0, .int .u64 0, .bool false, .string ⟨#[]⟩, .int .u64 0, .string ⟨#[]⟩, .string ⟨#[]⟩, .slice none 0 0, .string ⟨#[]⟩, .int .u64 0, .int .u8 0], .int .i64 EC]) (by simp [results, Tryd.results9, go_sem, g0, g1, g2, g3, g4, g5, g6, g7, g8, g9, g10, g11, g12]) rfl ?_
      rw [hrc, hgt]
      exact re_zero_post hBF
  | true =>
    have HFY := Lib.hid (HFX.out rfl)
    clear H34X HFX
    go_wp2_with fail
    generalize u3.setCell ⟨w.heap.size + 1 + 1, 4, none⟩ (.bool YB) = v3 at *
    clear c0 c1 c2 c3 c4 c5 c6 c7 c8 c9 c10 c11 c12 cl cf
    have c0 := HP3.out.m.cs 0 _ rfl
    have c1 : v3.cell? ⟨w.heap.size + 1 + 1, 1, none⟩ = some (.int .u8 (D.toNat : Int)) := HP3.out.m.cs 1 _ rfl
    have c2 := HP3.out.m.cs 2 _ rfl
    have c3 := HP3.out.m.cs 3 _ rfl
    have c4 := HP3.out.m.cs 4 _ rfl
    have c5 := HP3.out.m.cs 5 _ rfl
    have c6 := HP3.out.m.cs 6 _ rfl
    have c7 := HP3.out.m.cs 7 _ rfl
    have c8 := HP3.out.m.cs 8 _ rfl
    have c9 := HP3.out.m.cs 9 _ rfl
    have c10 := HP3.out.m.cs 10 _ rfl
    have c11 := HP3.out.m.cs 11 _ rfl
    have c12 := HP3.out.m.cs 12 _ rfl
    have cl := HP3.out.m.lt
    have cf : ∀ j, v3.frozen? ⟨w.heap.size + 1 + 1, j, none⟩ = false := HP3.out.m.s
    refine (HFY.out _ HP3.out.ri).mono ?_
    rintro e v4 ⟨rfl, hi, hg⟩
    have HP4 := Lib.hid (HP3.out.moved hi hg)
    clear hi hg c0 c1 c2 c3 c4 c5 c6 c7 c8 c9 c10 c11 c12 cl cf
    have c0 := HP4.out.m.cs 0 _ rfl
    have c1 : v4.cell? ⟨w.heap.size + 1 + 1, 1, none⟩ = some (.int .u8 (D.toNat : Int)) := HP4.out.m.cs 1 _ rfl
    have c2 := HP4.out.m.cs 2 _ rfl
    have c3 := HP4.out.m.cs 3 _ rfl
    have c4 := HP4.out.m.cs 4 _ rfl
    have c5 := HP4.out.m.cs 5 _ rfl
    have c6 := HP4.out.m.cs 6 _ rfl
    have c7 := HP4.out.m.cs 7 _ rfl
    have c8 := HP4.out.m.cs 8 _ rfl
    have c9 := HP4.out.m.cs 9 _ rfl
    have c10 := HP4.out.m.cs 10 _ rfl
    have c11 := HP4.out.m.cs 11 _ rfl
    have c12 := HP4.out.m.cs 12 _ rfl
    have cl := HP4.out.m.lt
    have cf : ∀ j, v4.frozen? ⟨w.heap.size + 1 + 1, j, none⟩ = false := HP4.out.m.s
    go_wp2_with fail
    refine (H5X.out _ HP4.out.ri).mono ?_
    rintro e u5 ⟨rfl, hi, hg⟩
    have HM5 := Lib.hid (HP4.out.moved hi hg)
    have HP5 := Lib.hid (HM5.out.put HRR.out ⟨c, D, N, M, YB, [], 0, S, [], [], [], 0, 0⟩ 7 (.string (ofL S)) (by decide) rfl rfl)
    clear hi hg c0 c1 c2 c3 c4 c5 c6 c7 c8 c9 c10 c11 c12 cl cf
    have c0 := HM5.out.m.cs 0 _ rfl
    have c1 : u5.cell? ⟨w.heap.size + 1 + 1, 1, none⟩ = some (.int .u8 (D.toNat : Int)) := HM5.out.m.cs 1 _ rfl
    have c2 := HM5.out.m.cs 2 _ rfl
    have c3 := HM5.out.m.cs 3 _ rfl
    have c4 := HM5.out.m.cs 4 _ rfl
    have c5 := HM5.out.m.cs 5 _ rfl
    have c6 := HM5.out.m.cs 6 _ rfl
    have c7 := HM5.out.m.cs 7 _ rfl
    have c8 := HM5.out.m.cs 8 _ rfl
    have c9 := HM5.out.m.cs 9 _ rfl
    have c10 := HM5.out.m.cs 10 _ rfl
    have c11 := HM5.out.m.cs 11 _ rfl
    have c12 := HM5.out.m.cs 12 _ rfl
    have cl := HM5.out.m.lt
    have cf : ∀ j, u5.frozen? ⟨w.heap.size + 1 + 1, j, none⟩ = false := HM5.out.m.s
    go_wp2_with fail
    generalize u5.setCell ⟨w.heap.size + 1 + 1, 7, none⟩ (.string (ofL S)) = v5 at *
    clear c0 c1 c2 c3 c4 c5 c6 c7 c8 c9 c10 c11 c12 cl cf
    have c0 := HP5.out.m.cs 0 _ rfl
    have c1 : v5.cell? ⟨w.heap.size + 1 + 1, 1, none⟩ = some (.int .u8 (D.toNat : Int)) := HP5.out.m.cs 1 _ rfl
    have c2 := HP5.out.m.cs 2 _ rfl
    have c3 := HP5.out.m.cs 3 _ rfl
    have c4 := HP5.out.m.cs 4 _ rfl
    have c5 := HP5.out.m.cs 5 _ rfl
    have c6 := HP5.out.m.cs 6 _ rfl
    have c7 := HP5.out.m.cs 7 _ rfl
    have c8 := HP5.out.m.cs 8 _ rfl
    have c9 := HP5.out.m.cs 9 _ rfl
    have c10 := HP5.out.m.cs 10 _ rfl
    have c11 := HP5.out.m.cs 11 _ rfl
    have c12 := HP5.out.m.cs 12 _ rfl
    have cl := HP5.out.m.lt
    have cf : ∀ j, v5.frozen? ⟨w.heap.size + 1 + 1, j, none⟩ = false := HP5.out.m.s
    refine (H6X.out _ HP5.out.ri).mono ?_
    rintro e u6 ⟨rfl, hi, hg⟩
    have HM6 := Lib.hid (HP5.out.moved hi hg)
    have HP6 := Lib.hid (HM6.out.put HRR.out ⟨c, D, N, M, YB, [], 0, S, K, [], [], 0, 0⟩ 8 (.string (ofL K)) (by decide) rfl rfl)
    clear hi hg c0 c1 c2 c3 c4 c5 c6 c7 c8 c9 c10 c11 c12 cl cf
    have c0 := HM6.out.m.cs 0 _ rfl
    have c1 : u6.cell? ⟨w.heap.size + 1 + 1, 1, none⟩ = some (.int .u8 (D.toNat : Int)) := HM6.out.m.cs 1 _ rfl
    have c2 := HM6.out.m.cs 2 _ rfl
    have c3 := HM6.out.m.cs 3 _ rfl
    have c4 := HM6.out.m.cs 4 _ rfl
    have c5 := HM6.out.m.cs 5 _ rfl
    have c6 := HM6.out.m.cs 6 _ rfl
    have c7 := HM6.out.m.cs 7 _ rfl
    have c8 := HM6.out.m.cs 8 _ rfl
    have c9 := HM6.out.m.cs 9 _ rfl
    have c10 := HM6.out.m.cs 10 _ rfl
    have c11 := HM6.out.m.cs 11 _ rfl
    have c12 := HM6.out.m.cs 12 _ rfl
    have cl := HM6.out.m.lt
    have cf : ∀ j, u6.frozen? ⟨w.heap.size + 1 + 1, j, none⟩ = false := HM6.out.m.s
    go_wp2_with fail
    generalize u6.setCell ⟨w.heap.size + 1 + 1, 8, none⟩ (.string (ofL K)) = v6 at *
    clear c0 c1 c2 c3 c4 c5 c6 c7 c8 c9 c10 c11 c12 cl cf
    have c0 := HP6.out.m.cs 0 _ rfl
    have c1 : v6.cell? ⟨w.heap.size + 1 + 1, 1, none⟩ = some (.int .u8 (D.toNat : Int)) := HP6.out.m.cs 1 _ rfl
    have c2 := HP6.out.m.cs 2 _ rfl
    have c3 := HP6.out.m.cs 3 _ rfl
    have c4 := HP6.out.m.cs 4 _ rfl
    have c5 := HP6.out.m.cs 5 _ rfl
    have c6 := HP6.out.m.cs 6 _ rfl
    have c7 := HP6.out.m.cs 7 _ rfl
    have c8 := HP6.out.m.cs 8 _ rfl
    have c9 := HP6.out.m.cs 9 _ rfl
    have c10 := HP6.out.m.cs 10 _ rfl
    have c11 := HP6.out.m.cs 11 _ rfl
    have c12 := HP6.out.m.cs 12 _ rfl
    have cl := HP6.out.m.lt
    have cf : ∀ j, v6.frozen? ⟨w.heap.size + 1 + 1, j, none⟩ = false := HP6.out.m.s
    refine (H7X.out _ HP6.out.ri).mono ?_
    rintro e u7 ⟨A, q, rfl, hc, hp, hi, hg, hA⟩
    have HM7 := Lib.hid (HP6.out.moved hi hg)
    have HP7 := Lib.hid (HM7.out.putH HRR.out H A q hc hp (fun a ha => by have := hA a ha; have := HRR.out.lt HP6.out.ri; omega))
    clear hc hp hi hg hA c0 c1 c2 c3 c4 c5 c6 c7 c8 c9 c10 c11 c12 cl cf
    have c0 := HM7.out.m.cs 0 _ rfl
    have c1 : u7.cell? ⟨w.heap.size + 1 + 1, 1, none⟩ = some (.int .u8 (D.toNat : Int)) := HM7.out.m.cs 1 _ rfl
    have c2 := HM7.out.m.cs 2 _ rfl
    have c3 := HM7.out.m.cs 3 _ rfl
    have c4 := HM7.out.m.cs 4 _ rfl
    have c5 := HM7.out.m.cs 5 _ rfl
    have c6 := HM7.out.m.cs 6 _ rfl
    have c7 := HM7.out.m.cs 7 _ rfl
    have c8 := HM7.out.m.cs 8 _ rfl
    have c9 := HM7.out.m.cs 9 _ rfl
    have c10 := HM7.out.m.cs 10 _ rfl
    have c11 := HM7.out.m.cs 11 _ rfl
    have c12 := HM7.out.m.cs 12 _ rfl
    have cl := HM7.out.m.lt
    have cf : ∀ j, u7.frozen? ⟨w.heap.size + 1 + 1, j, none⟩ = false := HM7.out.m.s
    go_wp2_with fail
    generalize u7.setCell ⟨w.heap.size + 1 + 1, 9, none⟩ (.slice A H.length q) = v7 at *
    clear c0 c1 c2 c3 c4 c5 c6 c7 c8 c9 c10 c11 c12 cl cf
    have c0 := HP7.out.m.cs 0 _ rfl
    have c1 : v7.cell? ⟨w.heap.size + 1 + 1, 1, none⟩ = some (.int .u8 (D.toNat : Int)) := HP7.out.m.cs 1 _ rfl
    have c2 := HP7.out.m.cs 2 _ rfl
    have c3 := HP7.out.m.cs 3 _ rfl
    have c4 := HP7.out.m.cs 4 _ rfl
    have c5 := HP7.out.m.cs 5 _ rfl
    have c6 := HP7.out.m.cs 6 _ rfl
    have c7 := HP7.out.m.cs 7 _ rfl
    have c8 := HP7.out.m.cs 8 _ rfl
    have c9 := HP7.out.m.cs 9 _ rfl
    have c10 := HP7.out.m.cs 10 _ rfl
    have c11 := HP7.out.m.cs 11 _ rfl
    have c12 := HP7.out.m.cs 12 _ rfl
    have cl := HP7.out.m.lt
    have cf : ∀ j, v7.frozen? ⟨w.heap.size + 1 + 1, j, none⟩ = false := HP7.out.m.s
    refine (H8X.out _ HP7.out.ri).mono ?_
    rintro e u8 ⟨rfl, hi, hg⟩
    have HM8 := Lib.hid (HP7.out.moved hi hg)
    have HP8 := Lib.hid (HM8.out.put HRR.out ⟨c, D, N, M, YB, [], 0, S, K, H, T, 0, 0⟩ 10 (.string (ofL T)) (by decide) rfl rfl)
    clear hi hg c0 c1 c2 c3 c4 c5 c6 c7 c8 c9 c10 c11 c12 cl cf
    have c0 := HM8.out.m.cs 0 _ rfl
    have c1 : u8.cell? ⟨w.heap.size + 1 + 1, 1, none⟩ = some (.int .u8 (D.toNat : Int)) := HM8.out.m.cs 1 _ rfl
    have c2 := HM8.out.m.cs 2 _ rfl
    have c3 := HM8.out.m.cs 3 _ rfl
    have c4 := HM8.out.m.cs 4 _ rfl
    have c5 := HM8.out.m.cs 5 _ rfl
    have c6 := HM8.out.m.cs 6 _ rfl
    have c7 := HM8.out.m.cs 7 _ rfl
    have c8 := HM8.out.m.cs 8 _ rfl
    have c9 := HM8.out.m.cs 9 _ rfl
    have c10 := HM8.out.m.cs 10 _ rfl
    have c11 := HM8.out.m.cs 11 _ rfl
    have c12 := HM8.out.m.cs 12 _ rfl
    have cl := HM8.out.m.lt
    have cf : ∀ j, u8.frozen? ⟨w.heap.size + 1 + 1, j, none⟩ = false := HM8.out.m.s
    go_wp2_with fail
    generalize u8.setCell ⟨w.heap.size + 1 + 1, 10, none⟩ (.string (ofL T)) = v8 at *
    clear c0 c1 c2 c3 c4 c5 c6 c7 c8 c9 c10 c11 c12 cl cf
    have c0 := HP8.out.m.cs 0 _ rfl
    have c1 : v8.cell? ⟨w.heap.size + 1 + 1, 1, none⟩ = some (.int .u8 (D.toNat : Int)) := HP8.out.m.cs 1 _ rfl
    have c2 := HP8.out.m.cs 2 _ rfl
    have c3 := HP8.out.m.cs 3 _ rfl
    have c4 := HP8.out.m.cs 4 _ rfl
    have c5 := HP8.out.m.cs 5 _ rfl
    have c6 := HP8.out.m.cs 6 _ rfl
    have c7 := HP8.out.m.cs 7 _ rfl
    have c8 := HP8.out.m.cs 8 _ rfl
    have c9 := HP8.out.m.cs 9 _ rfl
    have c10 := HP8.out.m.cs 10 _ rfl
    have c11 := HP8.out.m.cs 11 _ rfl
    have c12 := HP8.out.m.cs 12 _ rfl
    have cl := HP8.out.m.lt
    have cf : ∀ j, v8.frozen? ⟨w.heap.size + 1 + 1, j, none⟩ = false := HP8.out.m.s
    clear c0 c1 c2 c3 c4 c5 c6 c7 c8 c9 c10 c11 c12 cl cf
    rw [HYX.out] at HP8
    refine (HEX.out _ HP8.out.ri).mono ?_
    rintro e v9 ⟨rfl, nq, hw9⟩
    have HP9 := Lib.hid (HP8.out.on HRR.out (show Below v8.heap.size v8 v9 by rw [hw9]; exact drewN_below (Below.refl _ _) nq))
    clear hw9
    by_cases e0 : EC = 0
    · by_cases c0 : C = 0
      · have hrc : RC = 0 := by rw [HRCX.out, if_neg (by omega), c0]
        have hgt : GT = y := by rw [HGTX.out, if_pos hrc]
        have HCK := Lib.hid (HCX.out A q v9 HP9.out.hc HP9.out.hp)
        rw [c0] at HCK
        rw [e0]
        clear e0 c0
        simp only [reV] at HCK
        have c0 := HP9.out.m.cs 0 _ rfl
        have c1 := HP9.out.m.cs 1 _ rfl
        have c2 := HP9.out.m.cs 2 _ rfl
        have c3 := HP9.out.m.cs 3 _ rfl
        have c4 := HP9.out.m.cs 4 _ rfl
        have c5 := HP9.out.m.cs 5 _ rfl
        have c6 := HP9.out.m.cs 6 _ rfl
        have c7 := HP9.out.m.cs 7 _ rfl
        have c8 := HP9.out.m.cs 8 _ rfl
        have c9 := HP9.out.m.cs 9 _ rfl
        have c10 := HP9.out.m.cs 10 _ rfl
        have c11 := HP9.out.m.cs 11 _ rfl
        have c12 := HP9.out.m.cs 12 _ rfl
        have cl := HP9.out.m.lt
        have cf : ∀ j, v9.frozen? ⟨w.heap.size + 1 + 1, j, none⟩ = false := HP9.out.m.s
        go_wp2_with fail
        refine HCK.out.mono ?_
        rintro e v10 ⟨rfl, hb⟩
        have HP10 := Lib.hid (HP9.out.on HRR.out hb)
        clear hb c0 c1 c2 c3 c4 c5 c6 c7 c8 c9 c10 c11 c12 cl cf
        have c0 := HP10.out.m.cs 0 _ rfl
        have c1 := HP10.out.m.cs 1 _ rfl
        have c2 := HP10.out.m.cs 2 _ rfl
        have c3 := HP10.out.m.cs 3 _ rfl
        have c4 := HP10.out.m.cs 4 _ rfl
        have c5 := HP10.out.m.cs 5 _ rfl
        have c6 := HP10.out.m.cs 6 _ rfl
        have c7 := HP10.out.m.cs 7 _ rfl
        have c8 := HP10.out.m.cs 8 _ rfl
        have c9 := HP10.out.m.cs 9 _ rfl
        have c10 := HP10.out.m.cs 10 _ rfl
        have c11 := HP10.out.m.cs 11 _ rfl
        have c12 := HP10.out.m.cs 12 _ rfl
        have cl := HP10.out.m.lt
        have cf : ∀ j, v10.frozen? ⟨w.heap.size + 1 + 1, j, none⟩ = false := HP10.out.m.s
        have z0 := HP10.out.q.cs 0 _ rfl
        have z1 := HP10.out.q.cs 1 _ rfl
        have z2 := HP10.out.q.cs 2 _ rfl
        have z3 := HP10.out.q.cs 3 _ rfl
        have z4 := HP10.out.q.cs 4 _ rfl
        have z5 := HP10.out.q.cs 5 _ rfl
        have z6 := HP10.out.q.cs 6 _ rfl
        have z7 := HP10.out.q.cs 7 _ rfl
        have z8 := HP10.out.q.cs 8 _ rfl
        have z9 := HP10.out.q.cs 9 _ rfl
        have z10 := HP10.out.q.cs 10 _ rfl
        have z11 := HP10.out.q.cs 11 _ rfl
        have z12 := HP10.out.q.cs 12 _ rfl
        have zf : ∀ j, v10.frozen? ⟨w.heap.size + 1, j, none⟩ = false := HP10.out.q.s
        have zl := HP10.out.q.lt
        go_wp2_with fail
        have hF := HP10.out.q.fill (reL y A q) rfl
        have hBF := below_putAll HP10.out.q.ge (reL y A q) 0 HP10.out.B
        have hPF := Prs.putAll (g := w.heap.size + 1) (fun a ha => fun e => (HP10.out.hA a ha).2.2.1 e.symm) (reL y A q) 0 HP10.out.hp
        simp only [putAll, reL] at hF hBF hPF
        have g0 := hF.cs 0 _ rfl
        have g1 := hF.cs 1 _ rfl
        have g2 := hF.cs 2 _ rfl
        have g3 := hF.cs 3 _ rfl
        have g4 := hF.cs 4 _ rfl
        have g5 := hF.cs 5 _ rfl
        have g6 := hF.cs 6 _ rfl
        have g7 := hF.cs 7 _ rfl
        have g8 := hF.cs 8 _ rfl
        have g9 := hF.cs 9 _ rfl
        have g10 := hF.cs 10 _ rfl
        have g11 := hF.cs 11 _ rfl
        have g12 := hF.cs 12 _ rfl
        refine bodyPost_ret (v := .tuple #[reV y A q, .int .i64 0]) (by simp [results, Tryd.results9, reV, go_sem, g0, g1, g2, g3, g4, g5, g6, g7, g8, g9, g10, g11, g12]) rfl ?_
        rw [hrc, hgt]
        exact ⟨A, q, rfl, HP10.out.hc, hPF, hBF, fun a ha => (HP10.out.hA a ha).2.2.2⟩
      · have hrc : RC = C := by rw [HRCX.out, if_neg (by omega)]
        have hgt : GT = Re.zero 0 0 := by rw [HGTX.out, if_neg (by rw [hrc]; exact c0)]
        have HCK := Lib.hid (HCX.out A q v9 HP9.out.hc HP9.out.hp)
        have hk0 : (C != 0) = true := by rw [bne_iff_ne]; exact c0
        rw [e0]
        clear e0 c0
        simp only [reV] at HCK
        have c0 := HP9.out.m.cs 0 _ rfl
        have c1 := HP9.out.m.cs 1 _ rfl
        have c2 := HP9.out.m.cs 2 _ rfl
        have c3 := HP9.out.m.cs 3 _ rfl
        have c4 := HP9.out.m.cs 4 _ rfl
        have c5 := HP9.out.m.cs 5 _ rfl
        have c6 := HP9.out.m.cs 6 _ rfl
        have c7 := HP9.out.m.cs 7 _ rfl
        have c8 := HP9.out.m.cs 8 _ rfl
        have c9 := HP9.out.m.cs 9 _ rfl
        have c10 := HP9.out.m.cs 10 _ rfl
        have c11 := HP9.out.m.cs 11 _ rfl
        have c12 := HP9.out.m.cs 12 _ rfl
        have cl := HP9.out.m.lt
        have cf : ∀ j, v9.frozen? ⟨w.heap.size + 1 + 1, j, none⟩ = false := HP9.out.m.s
        go_wp2_with fail
        refine HCK.out.mono ?_
        rintro e v10 ⟨rfl, hb⟩
        have HP10 := Lib.hid (HP9.out.on HRR.out hb)
        clear hb c0 c1 c2 c3 c4 c5 c6 c7 c8 c9 c10 c11 c12 cl cf
        have z0 := HP10.out.q.cs 0 _ rfl
        have z1 := HP10.out.q.cs 1 _ rfl
        have z2 := HP10.out.q.cs 2 _ rfl
        have z3 := HP10.out.q.cs 3 _ rfl
        have z4 := HP10.out.q.cs 4 _ rfl
        have z5 := HP10.out.q.cs 5 _ rfl
        have z6 := HP10.out.q.cs 6 _ rfl
        have z7 := HP10.out.q.cs 7 _ rfl
        have z8 := HP10.out.q.cs 8 _ rfl
        have z9 := HP10.out.q.cs 9 _ rfl
        have z10 := HP10.out.q.cs 10 _ rfl
        have z11 := HP10.out.q.cs 11 _ rfl
        have z12 := HP10.out.q.cs 12 _ rfl
        have zf : ∀ j, v10.frozen? ⟨w.heap.size + 1, j, none⟩ = false := HP10.out.q.s
        have zl := HP10.out.q.lt
        go_wp2_with fail
        have hF := HP10.out.q.fill [.int .u8 0, .int .u8 0, .int .u64 0, .int .u64 0, .bool false, .string ⟨#[]⟩, .int .u64 0, .string ⟨#[]⟩, .string ⟨#[]⟩, .slice none 0 0, .string ⟨#[]⟩, .int .u64 0, .int .u8 0] rfl
        have hBF := below_putAll HP10.out.q.ge [.int .u8 0, .int .u8 0, .int .u64 0, .int .u64 0, .bool false, .string ⟨#[]⟩, .int .u64 0, .string ⟨#[]⟩, .string ⟨#[]⟩, .slice none 0 0, .string ⟨#[]⟩, .int .u64 0, .int .u8 0] 0 HP10.out.B
        simp only [putAll] at hF hBF
        have g0 := hF.cs 0 _ rfl
        have g1 := hF.cs 1 _ rfl
        have g2 := hF.cs 2 _ rfl
        have g3 := hF.cs 3 _ rfl
        have g4 := hF.cs 4 _ rfl
        have g5 := hF.cs 5 _ rfl
        have g6 := hF.cs 6 _ rfl
        have g7 := hF.cs 7 _ rfl
        have g8 := hF.cs 8 _ rfl
        have g9 := hF.cs 9 _ rfl
        have g10 := hF.cs 10 _ rfl
        have g11 := hF.cs 11 _ rfl
        have g12 := hF.cs 12 _ rfl
        refine bodyPost_ret (v := .tuple #[.agg #[.int .u8 0, .int .u8 0, .int .u64 0, .int .u64 0, .bool false, .string ⟨#[]⟩, .int .u64 0, .string ⟨#[]⟩, .string ⟨#[]⟩, .slice none 0 0, .string ⟨#[]⟩, .int .u64 0, .int .u8 0], .int .i64 C]) (by simp [results, Tryd.results9, go_sem, g0, g1, g2, g3, g4, g5, g6, g7, g8, g9, g10, g11, g12]) rfl ?_
        rw [hrc, hgt]
        exact re_zero_post hBF
    · have hrc : RC = EC := by rw [HRCX.out, if_pos e0]
      have hgt : GT = Re.zero 0 0 := by rw [HGTX.out, if_neg (by rw [hrc]; exact e0)]
      have hk0 : (EC != 0) = true := by rw [bne_iff_ne]; exact e0
      have hk1 : (EC == 0) = false := by rw [beq_eq_false_iff_ne]; exact e0
      clear e0
      have z0 := HP9.out.q.cs 0 _ rfl
      have z1 := HP9.out.q.cs 1 _ rfl
      have z2 := HP9.out.q.cs 2 _ rfl
      have z3 := HP9.out.q.cs 3 _ rfl
      have z4 := HP9.out.q.cs 4 _ rfl
      have z5 := HP9.out.q.cs 5 _ rfl
      have z6 := HP9.out.q.cs 6 _ rfl
      have z7 := HP9.out.q.cs 7 _ rfl
      have z8 := HP9.out.q.cs 8 _ rfl
      have z9 := HP9.out.q.cs 9 _ rfl
      have z10 := HP9.out.q.cs 10 _ rfl
      have z11 := HP9.out.q.cs 11 _ rfl
      have z12 := HP9.out.q.cs 12 _ rfl
      have zf : ∀ j, v9.frozen? ⟨w.heap.size + 1, j, none⟩ = false := HP9.out.q.s
      have zl := HP9.out.q.lt
      go_wp2_with fail
      have hF := HP9.out.q.fill [.int .u8 0, .int .u8 0, .int .u64 0, .int .u64 0, .bool false, .string ⟨#[]⟩, .int .u64 0, .string ⟨#[]⟩, .string ⟨#[]⟩, .slice none 0 0, .string ⟨#[]⟩, .int .u64 0, .int .u8 0] rfl
      have hBF := below_putAll HP9.out.q.ge [.int .u8 0, .int .u8 0, .int .u64 0, .int .u64 0, .bool false, .string ⟨#[]⟩, .int .u64 0, .string ⟨#[]⟩, .string ⟨#[]⟩, .slice none 0 0, .string ⟨#[]⟩, .int .u64 0, .int .u8 0] 0 HP9.out.B
      simp only [putAll] at hF hBF
      have g0 := hF.cs 0 _ rfl
      have g1 := hF.cs 1 _ rfl
      have g2 := hF.cs 2 _ rfl
      have g3 := hF.cs 3 _ rfl
      have g4 := hF.cs 4 _ rfl
      have g5 := hF.cs 5 _ rfl
      have g6 := hF.cs 6 _ rfl
      have g7 := hF.cs 7 _ rfl
      have g8 := hF.cs 8 _ rfl
      have g9 := hF.cs 9 _ rfl
      have g10 := hF.cs 10 _ rfl
      have g11 := hF.cs 11 _ rfl
      have g12 := hF.cs 12 _ rfl
      refine bodyPost_ret (v := .tuple #[.agg #[.int .u8 0, .int .u8 0, .int .u64 0, .int .u64 0, .bool false, .string ⟨#[]⟩, .int .u64 0, .string ⟨#[]⟩, .string ⟨#[]⟩, .slice none 0 0, .string ⟨#[]⟩, .int .u64 0, .int .u8 0], .int .i64 EC]) (by simp [results, Tryd.results9, go_sem, g0, g1, g2, g3, g4, g5, g6, g7, g8, g9, g10, g11, g12]) rfl ?_
      rw [hrc, hgt]
      exact re_zero_post hBF

theorem re_rd1_0 (y : Re) (s : LSt) : Re.rd1 y s 0 = ({y with n := Oct.val (lOut s.1 8)}, lRaw s 8) := rfl
theorem re_rd1_1 (y : Re) (s : LSt) : Re.rd1 y s 1 = ({y with m := Oct.val (lOut s.1 8)}, lRaw s 8) := rfl
theorem re_rd1_2 (y : Re) (s : LSt) : Re.rd1 y s 2 = ({y with yes := Pt.yesOut s}, Pt.yesIn s) := rfl
theorem re_rd1_4 (y : Re) (s : LSt) : Re.rd1 y s 4 = ({y with shop := lTextOut s 16}, lText s 16) := rfl
theorem re_rd1_5 (y : Re) (s : LSt) : Re.rd1 y s 5 = ({y with key := lTextOut s 64}, lText s 64) := rfl
theorem re_rd1_6 (y : Re) (s : LSt) : Re.rd1 y s 6 = ({y with head := (Hd.hread s).1}, (Hd.hread s).2) := by unfold Re.rd1; simp
theorem re_rd1_7 (y : Re) (s : LSt) : Re.rd1 y s 7 = ({y with body := lTextOut s 256}, lText s 256) := rfl
theorem r12_rd3 (c D : UInt8) (body : List UInt8) (hk : D.toNat = 3) (s1 s2 s4 s5 s6 s7 s8 : LSt) (e1 : lRaw (body, 0) 8 = s1) (e2 : lRaw s1 8 = s2) (e4 : Pt.yesIn s2 = s4) (e5 : lText s4 16 = s5) (e6 : lText s5 64 = s6) (e7 : (Hd.hread s6).2 = s7) (e8 : lText s7 256 = s8) :
    Re.rd c D body = (⟨c, D, Oct.val (lOut body 8), Oct.val (lOut s1.1 8), Pt.yesOut s2, [], 0, lTextOut s4 16, lTextOut s5 64, (Hd.hread s6).1, lTextOut s7 256, 0, 0⟩, s8) := by
  unfold Re.rd
  rw [hk, show Re.tells 3 = [0, 1, 2, 4, 5, 6, 7] from rfl]
  unfold Re.rdl
  simp only [List.foldl_cons, List.foldl_nil]
  rw [re_rd1_0]
  dsimp only
  rw [e1, re_rd1_1]
  dsimp only
  rw [e2, re_rd1_2]
  dsimp only
  rw [e4, re_rd1_4]
  dsimp only
  rw [e5, re_rd1_5]
  dsimp only
  rw [e6, re_rd1_6]
  dsimp only
  rw [e7, re_rd1_7]
  dsimp only
  rw [e8]
  rfl
set_option maxRecDepth 100000 in
theorem r12Parse_3 (c k : UInt8) (body : List UInt8) (w : World) (hS : (ofL body).size ≤ 1000000) (h20 : ¬ (k.toNat < 64 ∨ 71 < k.toNat)) (hk : (Re.down k).toNat = 3) : Calls Tryd.prog 9 #[.agg #[.int .u8 (c.toNat : Int), .int .u8 (k.toNat : Int), .string (ofL body)]] w (ReOfPost (Re.got c k body) (Re.rcode c k body) w) := by
  have hz : decide ((k.toNat : Int) < 64) = false := decide_eq_false (by omega)
  have hz2 : decide ((71 : Int) < (k.toNat : Int)) = false := decide_eq_false (by omega)
  have hdn : IntKind.u8.wrap ((k.toNat : Int) - 64) = ((Re.down k).toNat : Int) := by
    unfold Re.down
    rw [UInt8.toNat_sub, show IntKind.u8.wrap ((k.toNat : Int) - 64) = ((k.toNat : Int) - 64) % 256 from rfl]
    show _ = (((2 ^ 8 - 64 + k.toNat) % 256 : Nat) : Int)
    omega
  have hC : Re.rcode c k body = Re.tail c (Re.down k) body := by unfold Re.rcode; rw [if_neg h20]
  have hG : Re.got c k body = if Re.rcode c k body = 0 then (Re.rd c (Re.down k) body).1 else Re.zero 0 0 := by unfold Re.got; rfl
  have hT : Re.tail c (Re.down k) body = if lEnd (Re.rd c (Re.down k) body).2 ≠ 0 then lEnd (Re.rd c (Re.down k) body).2 else ((Re.rd c (Re.down k) body).1.code : Int) := by unfold Re.tail; rfl
  rw [← hC] at hT
  clear hC h20
  have hS0 := r12_start c k (Re.down k) body w
  generalize Re.rcode c k body = RC at *
  generalize Re.got c k body = GT at *
  generalize Re.down k = D at *
  have ok0 := lOk_new body
  have n1 := fun W h => rinum_l (w.heap.size + 1 + 1 + 1) (ofL body) (body, 0) 8 8 W (by omega) rfl h hS
  obtain ⟨s1, e1⟩ : ∃ s, lRaw (body, 0) 8 = s := ⟨_, rfl⟩
  have ok1 : lOk s1 := by rw [← e1]; exact lOk_raw ok0 _
  rw [e1] at n1
  have n2 := fun W h => rinum_l (w.heap.size + 1 + 1 + 1) (ofL body) s1 8 8 W (by omega) rfl h hS
  obtain ⟨s2, e2⟩ : ∃ s, lRaw s1 8 = s := ⟨_, rfl⟩
  have ok2 : lOk s2 := by rw [← e2]; exact lOk_raw ok1 _
  rw [e2] at n2
  have n3 := fun W h => rinum_l (w.heap.size + 1 + 1 + 1) (ofL body) s2 1 1 W (by omega) rfl h hS
  obtain ⟨s3, e3⟩ : ∃ s, lRaw s2 1 = s := ⟨_, rfl⟩
  rw [e3] at n3
  obtain ⟨v, hv⟩ : ∃ v, Oct.val (lOut s2.1 1) = v := ⟨_, rfl⟩
  rw [hv] at n3
  have nF := fun W h => rifail_l (w.heap.size + 1 + 1 + 1) (ofL body) s3 4 W h
  obtain ⟨s4, e4⟩ : ∃ s, Pt.yesIn s2 = s := ⟨_, rfl⟩
  have hy4 : s4 = if 1 < v then lFail s3 4 else s3 := by rw [← e4, ← e3, ← hv]; unfold Pt.yesIn; rfl
  have hyo : Pt.yesOut s2 = (v == 1) := by rw [← hv]; unfold Pt.yesOut; rfl
  have ok4 : lOk s4 := by rw [← e4]; exact Pt.lOk_yes ok2
  have n5 := fun W h => ritext_l (w.heap.size + 1 + 1 + 1) (ofL body) s4 16 W h hS
  obtain ⟨s5, e5⟩ : ∃ s, lText s4 16 = s := ⟨_, rfl⟩
  have ok5 : lOk s5 := by rw [← e5]; exact lOk_text ok4 _
  rw [e5] at n5
  have n6 := fun W h => ritext_l (w.heap.size + 1 + 1 + 1) (ofL body) s5 64 W h hS
  obtain ⟨s6, e6⟩ : ∃ s, lText s5 64 = s := ⟨_, rfl⟩
  have ok6 : lOk s6 := by rw [← e6]; exact lOk_text ok5 _
  rw [e6] at n6
  have n7 := fun W h => rread9_any (w.heap.size + 1 + 1 + 1) (ofL body) s6 W h ok6 hS
  obtain ⟨s7, e7⟩ : ∃ s, (Hd.hread s6).2 = s := ⟨_, rfl⟩
  unfold HReadPost at n7
  rw [e7] at n7
  have n8 := fun W h => ritext_l (w.heap.size + 1 + 1 + 1) (ofL body) s7 256 W h hS
  obtain ⟨s8, e8⟩ : ∃ s, lText s7 256 = s := ⟨_, rfl⟩
  rw [e8] at n8
  have n9 := fun W h => riend_l (w.heap.size + 1 + 1 + 1) (ofL body) s8 W h
  unfold Quiet at n9
  have hRD := r12_rd3 c D body hk s1 s2 s4 s5 s6 s7 s8 e1 e2 e4 e5 e6 e7 e8
  have HLOW := re_rdl_low (Re.tells D.toNat) (Re.zero c D, (body, 0)) (re_zero_low c D)
  rw [show Re.rdl (Re.tells D.toNat) (Re.zero c D, (body, 0)) = Re.rd c D body by unfold Re.rd; rfl] at HLOW
  rw [hRD] at hG hT HLOW
  dsimp only at hG hT HLOW n1
  rw [hyo] at hG hT HLOW
  obtain ⟨y, hy⟩ : ∃ y : Re, ⟨c, D, Oct.val (lOut body 8), Oct.val (lOut s1.1 8), (v == 1), [], 0, lTextOut s4 16, lTextOut s5 64, (Hd.hread s6).1, lTextOut s7 256, 0, 0⟩ = y := ⟨_, rfl⟩
  rw [hy] at hG hT HLOW
  have nC := fun A q W (h1 : y.head.length ≤ q) (h2 : Prs W A y.head) => r12Check_any y A q W (HLOW.ok h1 h2)
  unfold RPostL at n1 n2 n3 nF n5 n6 n8
  generalize Oct.val (lOut body 8) = N at *
  generalize Oct.val (lOut s1.1 8) = M at *
  generalize lTextOut s4 16 = S at *
  generalize lTextOut s5 64 = K at *
  generalize (Hd.hread s6).1 = H at *
  generalize lTextOut s7 256 = T at *
  generalize lEnd s8 = EC at *
  have hb34 : decide (1 < v) = false → s4 = s3 := fun h => by rw [hy4, if_neg (of_decide_eq_false h)]
  have nF4 : decide (1 < v) = true → lFail s3 4 = s4 := fun h => by rw [hy4, if_pos (of_decide_eq_true h)]
  have q2 : decide ((1 : Int) < (v : Int)) = decide (1 < v) := decide_eq_decide.2 (by omega)
  clear hy4
  exact r12Parse3_core c k D body w (RefL (w.heap.size + 1 + 1 + 1) (ofL body)) (rdr_ref _ _) (body, 0) s1 s2 s3 s4 s5 s6 s7 s8 N M v (v == 1) (decide (1 < v)) S K H T EC _ RC GT y hy hz hz2 hdn hk (cast_beq v 1) q2 rfl n1 n2 n3 (fun h W hW => by have := nF W hW; rw [nF4 h] at this; exact this) hb34 n5 n6 n7 n8 n9 nC hT hG hS0
theorem r12Parse_any (c k : UInt8) (body : List UInt8) (w : World) (hS : (ofL body).size ≤ 1000000) : Calls Tryd.prog 9 #[.agg #[.int .u8 (c.toNat : Int), .int .u8 (k.toNat : Int), .string (ofL body)]] w (ReOfPost (Re.got c k body) (Re.rcode c k body) w) := by
  by_cases h20 : (k.toNat < 64 ∨ 71 < k.toNat)
  · have HC := Lib.hid (show Re.rcode c k body = 8 by unfold Re.rcode; rw [if_pos h20])
    have HG := Lib.hid (show Re.got c k body = Re.zero 0 0 by unfold Re.got; rw [HC.out]; exact if_neg (by decide))
    have HB0 := Lib.hid (show Below w.heap.size w ((w.alloc (.cells #[.int .u8 (c.toNat : Int), .int .u8 (k.toNat : Int), .string (ofL body)] 37)).alloc (.cells #[.int .u8 0, .int .u8 0, .int .u64 0, .int .u64 0, .bool false, .string ⟨#[]⟩, .int .u64 0, .string ⟨#[]⟩, .string ⟨#[]⟩, .slice none 0 0, .string ⟨#[]⟩, .int .u64 0, .int .u8 0] 34)) from ((Below.refl _ _).alloc (Nat.le_refl _) _).alloc (by simp) _)
    rw [HC.out, HG.out]
    by_cases h64 : k.toNat < 64
    · have hz : decide ((k.toNat : Int) < 64) = true := decide_eq_true (by omega)
      clear h20 h64 hS
      go_enter Tryd.func9, Tryd.ntmps9
      go_wp2_with fail
      refine bodyPost_ret (v := .tuple #[.agg #[.int .u8 0, .int .u8 0, .int .u64 0, .int .u64 0, .bool false, .string ⟨#[]⟩, .int .u64 0, .string ⟨#[]⟩, .string ⟨#[]⟩, .slice none 0 0, .string ⟨#[]⟩, .int .u64 0, .int .u8 0], .int .i64 8]) (by simp [results, Tryd.results9, go_sem]) rfl ?_
      exact re_zero_post HB0.out
    · have hz : decide ((k.toNat : Int) < 64) = false := decide_eq_false (by omega)
      have hz2 : decide ((71 : Int) < (k.toNat : Int)) = true := decide_eq_true (by omega)
      clear h20 h64 hS
      go_enter Tryd.func9, Tryd.ntmps9
      go_wp2_with fail
      refine bodyPost_ret (v := .tuple #[.agg #[.int .u8 0, .int .u8 0, .int .u64 0, .int .u64 0, .bool false, .string ⟨#[]⟩, .int .u64 0, .string ⟨#[]⟩, .string ⟨#[]⟩, .slice none 0 0, .string ⟨#[]⟩, .int .u64 0, .int .u8 0], .int .i64 8]) (by simp [results, Tryd.results9, go_sem]) rfl ?_
      exact re_zero_post HB0.out
  · obtain hk | hk | hk | hk | hk : (Re.down k).toNat = 0 ∨ ((Re.down k).toNat = 2 ∨ (Re.down k).toNat = 5 ∨ (Re.down k).toNat = 7) ∨ (Re.down k).toNat = 6 ∨ ((Re.down k).toNat = 1 ∨ (Re.down k).toNat = 4) ∨ (Re.down k).toNat = 3 := by
      have hD7 : (Re.down k).toNat ≤ 7 := by
        unfold Re.down
        rw [UInt8.toNat_sub]
        show (2 ^ 8 - 64 + k.toNat) % 256 ≤ 7
        omega
      omega
    · exact r12Parse_0 c k body w hS h20 hk
    · exact r12Parse_n c k body w hS h20 hk
    · exact r12Parse_6 c k body w hS h20 hk
    · exact r12Parse_z c k body w hS h20 hk
    · exact r12Parse_3 c k body w hS h20 hk
end Go.Proofs.YtnamkglflhkckaaDoor
end
