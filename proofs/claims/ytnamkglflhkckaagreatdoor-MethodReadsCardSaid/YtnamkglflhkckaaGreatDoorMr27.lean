/-
  A METHOD READ OF A FRAME, as the document has it: one class of kinds. WHETHER A METHOD MAY BE, as the document has it: walked, class by class of its kinds. WHETHER A METHOD MAY BE, as the document has it: walked, class by class of its kinds.
-/
import Derived.Test.YtnamkglflhkckaaGreatDoorMr14
import Derived.Test.YtnamkglflhkckaaGreatDoorMr18
import Derived.Test.YtnamkglflhkckaaGreatDoorMr19
import Derived.Deep.DeepCutAuto
section
namespace Go.Proofs.YtnamkglflhkckaaGreatDoor
open Go.ChangeShapes Go.WideShapes Go.ChangeAt Go.RowKit
set_option maxRecDepth 100000 in
set_option maxHeartbeats 8000000 in
theorem r11Parse_z_core (c k : UInt8) (body : List UInt8) (w : World) (R : Nat → LSt → World → Prop) (hR : ∀ b, Rder b (R b)) (s0 : LSt)  (EC C RC : Int) (GT y : Me) (hy : ⟨c, k, [], [], [], [], [], 0, 0, false⟩ = y)
    (hk : decide ((20 : Int) < (k.toNat : Int)) = false)
    (hE : ∀ b W, R b s0 W → Calls Tryz.prog 68 #[.pointer (some ⟨b, 0, none⟩)] W (fun e w' => e = .returned (.int .i64 EC) ∧ ∃ n, w' = W.drewN n))
    (hC : ∀ A q W, y.head.length ≤ q → Prs W A y.head → Calls Tryz.prog 11 #[meV y A q] W (fun e w' => e = .returned (.int .i64 C) ∧ Below W.heap.size W w'))
    (hRC : RC = if EC ≠ 0 then EC else C) (hGT : GT = if RC = 0 then y else Me.zero 0 0)
    (hOF : Calls Tryz.prog 49 #[.int .u8 (k.toNat : Int)] ((w.alloc (.cells #[.int .u8 (c.toNat : Int), .int .u8 (k.toNat : Int), .string (ofL body)] 40)).alloc (.cells #[.int .u8 0, .int .u8 0, .string ⟨#[]⟩, .string ⟨#[]⟩, .string ⟨#[]⟩, .slice none 0 0, .string ⟨#[]⟩, .int .u64 0, .int .u64 0, .bool false] 29)) fun e w' => e = .returned (.agg #[.bool false, .bool false, .bool false, .bool false, .bool false, .bool false, .bool false, .bool false, .bool false, .bool false]) ∧ Below ((w.alloc (.cells #[.int .u8 (c.toNat : Int), .int .u8 (k.toNat : Int), .string (ofL body)] 40)).alloc (.cells #[.int .u8 0, .int .u8 0, .string ⟨#[]⟩, .string ⟨#[]⟩, .string ⟨#[]⟩, .slice none 0 0, .string ⟨#[]⟩, .int .u64 0, .int .u64 0, .bool false] 29)).heap.size ((w.alloc (.cells #[.int .u8 (c.toNat : Int), .int .u8 (k.toNat : Int), .string (ofL body)] 40)).alloc (.cells #[.int .u8 0, .int .u8 0, .string ⟨#[]⟩, .string ⟨#[]⟩, .string ⟨#[]⟩, .slice none 0 0, .string ⟨#[]⟩, .int .u64 0, .int .u64 0, .bool false] 29)) w')
    (hF : ∀ w1, Below ((w.alloc (.cells #[.int .u8 (c.toNat : Int), .int .u8 (k.toNat : Int), .string (ofL body)] 40)).alloc (.cells #[.int .u8 0, .int .u8 0, .string ⟨#[]⟩, .string ⟨#[]⟩, .string ⟨#[]⟩, .slice none 0 0, .string ⟨#[]⟩, .int .u64 0, .int .u64 0, .bool false] 29)).heap.size ((w.alloc (.cells #[.int .u8 (c.toNat : Int), .int .u8 (k.toNat : Int), .string (ofL body)] 40)).alloc (.cells #[.int .u8 0, .int .u8 0, .string ⟨#[]⟩, .string ⟨#[]⟩, .string ⟨#[]⟩, .slice none 0 0, .string ⟨#[]⟩, .int .u64 0, .int .u64 0, .bool false] 29)) w1 → w1.cell? ⟨w.heap.size, 0, none⟩ = some (.int .u8 (c.toNat : Int)) ∧ w1.cell? ⟨w.heap.size, 1, none⟩ = some (.int .u8 (k.toNat : Int)) ∧ w1.cell? ⟨w.heap.size, 2, none⟩ = some (.string (ofL body)))
    (hS0 : ∀ w1, Below ((w.alloc (.cells #[.int .u8 (c.toNat : Int), .int .u8 (k.toNat : Int), .string (ofL body)] 40)).alloc (.cells #[.int .u8 0, .int .u8 0, .string ⟨#[]⟩, .string ⟨#[]⟩, .string ⟨#[]⟩, .slice none 0 0, .string ⟨#[]⟩, .int .u64 0, .int .u64 0, .bool false] 29)).heap.size ((w.alloc (.cells #[.int .u8 (c.toNat : Int), .int .u8 (k.toNat : Int), .string (ofL body)] 40)).alloc (.cells #[.int .u8 0, .int .u8 0, .string ⟨#[]⟩, .string ⟨#[]⟩, .string ⟨#[]⟩, .slice none 0 0, .string ⟨#[]⟩, .int .u64 0, .int .u64 0, .bool false] 29)) w1 → MpC w (R (w1.heap.size + 1 + 1)) (w1.heap.size + 1 + 1) (w1.heap.size + 1) w1.heap.size [.bool false, .bool false, .bool false, .bool false, .bool false, .bool false, .bool false, .bool false, .bool false, .bool false] (Me.zero c k) s0 none 0 (((w1.alloc (.cells #[.bool false, .bool false, .bool false, .bool false, .bool false, .bool false, .bool false, .bool false, .bool false, .bool false] 108)).alloc (.cells #[.int .u8 (c.toNat : Int), .int .u8 (k.toNat : Int), .string ⟨#[]⟩, .string ⟨#[]⟩, .string ⟨#[]⟩, .slice none 0 0, .string ⟨#[]⟩, .int .u64 0, .int .u64 0, .bool false] 29)).alloc (.cells #[.string (ofL body), .int .i64 0, .int .i64 0] 129))) :
    Calls Tryz.prog 19 #[.agg #[.int .u8 (c.toNat : Int), .int .u8 (k.toNat : Int), .string (ofL body)]] w (MeOfPost GT RC w) := by
  have HYX := Lib.hid hy
  have HEX := Lib.hid hE
  have HCX := Lib.hid hC
  have HRCX := Lib.hid hRC
  have HGTX := Lib.hid hGT
  have HOFX := Lib.hid hOF
  have HFX := Lib.hid hF
  have HS0X := Lib.hid hS0
  have HRX := Lib.hid hR
  clear hy hE hC hRC hGT hOF hS0 hF hR
  go_enter Tryz.func19, Tryz.ntmps19
  go_wp2_with fail
  refine HOFX.out.mono ?_
  rintro e w1 ⟨rfl, b1⟩
  have HF := Lib.hid (HFX.out w1 b1)
  have HS0 := Lib.hid (HS0X.out w1 b1)
  have HE := Lib.hid (fun W h => HEX.out (w1.heap.size + 1 + 1) W h)
  have HRR := Lib.hid (HRX.out (w1.heap.size + 1 + 1))
  clear b1 HFX HS0X HEX HRX
  generalize R (w1.heap.size + 1 + 1) = Rb at *
  have hz1 : w.heap.size < w1.heap.size := by have h1 := HS0.out.hq; omega
  have f0 : w1.cell? ⟨w.heap.size, 0, none⟩ = some (.int .u8 (c.toNat : Int)) := HF.out.1
  have f1 : w1.cell? ⟨w.heap.size, 1, none⟩ = some (.int .u8 (k.toNat : Int)) := HF.out.2.1
  have f2 : w1.cell? ⟨w.heap.size, 2, none⟩ = some (.string (ofL body)) := HF.out.2.2
  go_upto_if 26 with fail
  clear f0 f1 f2 HOFX HF
  generalize (((w1.alloc (.cells #[.bool false, .bool false, .bool false, .bool false, .bool false, .bool false, .bool false, .bool false, .bool false, .bool false] 108)).alloc (.cells #[.int .u8 (c.toNat : Int), .int .u8 (k.toNat : Int), .string ⟨#[]⟩, .string ⟨#[]⟩, .string ⟨#[]⟩, .slice none 0 0, .string ⟨#[]⟩, .int .u64 0, .int .u64 0, .bool false] 29)).alloc (.cells #[.string (ofL body), .int .i64 0, .int .i64 0] 129)) = v0 at *
  generalize hg1 : w1.heap.size + 1 = g at *
  have hgg := HS0.out.o.gb
  have c0 := HS0.out.o.m.cs 0 _ rfl
  have c1 := HS0.out.o.m.cs 1 _ rfl
  have c2 := HS0.out.o.m.cs 2 _ rfl
  have c3 := HS0.out.o.m.cs 3 _ rfl
  have c4 := HS0.out.o.m.cs 4 _ rfl
  have c5 := HS0.out.o.m.cs 5 _ rfl
  have c6 := HS0.out.o.m.cs 6 _ rfl
  have c7 := HS0.out.o.m.cs 7 _ rfl
  have c8 := HS0.out.o.m.cs 8 _ rfl
  have c9 := HS0.out.o.m.cs 9 _ rfl
  have cl := HS0.out.o.m.lt
  have cf : ∀ j, v0.frozen? ⟨g, j, none⟩ = false := HS0.out.o.m.s
  have h0 := HS0.out.h.cs 0 _ rfl
  have h1 := HS0.out.h.cs 1 _ rfl
  have h2 := HS0.out.h.cs 2 _ rfl
  have h3 := HS0.out.h.cs 3 _ rfl
  have h4 := HS0.out.h.cs 4 _ rfl
  have h5 := HS0.out.h.cs 5 _ rfl
  have h6 := HS0.out.h.cs 6 _ rfl
  have h7 := HS0.out.h.cs 7 _ rfl
  have h8 := HS0.out.h.cs 8 _ rfl
  have h9 := HS0.out.h.cs 9 _ rfl
  have hl := HS0.out.h.lt
  go_wp2_with fail
  clear c0 c1 c2 c3 c4 c5 c6 c7 c8 c9 cl cf h0 h1 h2 h3 h4 h5 h6 h7 h8 h9 hl
  rw [show Me.zero c k = y from HYX.out] at HS0
  refine (HE.out _ HS0.out.o.ri).mono ?_
  rintro e x9 ⟨rfl, nq, hw9⟩
  have HP90 := Lib.hid (HS0.out.on HRR.out (show Below v0.heap.size v0 x9 by rw [hw9]; exact drewN_below (Below.refl _ _) nq))
  clear hw9
  by_cases e0 : EC = 0
  · by_cases c0 : C = 0
    · have hrc : RC = 0 := by rw [HRCX.out, if_neg (by omega), c0]
      have hgt : GT = y := by rw [HGTX.out, if_pos hrc]
      have HCK := Lib.hid (HCX.out none 0 x9 HP90.out.o.hc HP90.out.o.hp)
      rw [c0] at HCK
      rw [e0]
      clear e0 c0
      simp only [meV] at HCK
      have c0 := HP90.out.o.m.cs 0 _ rfl
      have c1 := HP90.out.o.m.cs 1 _ rfl
      have c2 := HP90.out.o.m.cs 2 _ rfl
      have c3 := HP90.out.o.m.cs 3 _ rfl
      have c4 := HP90.out.o.m.cs 4 _ rfl
      have c5 := HP90.out.o.m.cs 5 _ rfl
      have c6 := HP90.out.o.m.cs 6 _ rfl
      have c7 := HP90.out.o.m.cs 7 _ rfl
      have c8 := HP90.out.o.m.cs 8 _ rfl
      have c9 := HP90.out.o.m.cs 9 _ rfl
      have cl := HP90.out.o.m.lt
      have cf : ∀ j, x9.frozen? ⟨g, j, none⟩ = false := HP90.out.o.m.s
      have h0 := HP90.out.h.cs 0 _ rfl
      have h1 := HP90.out.h.cs 1 _ rfl
      have h2 := HP90.out.h.cs 2 _ rfl
      have h3 := HP90.out.h.cs 3 _ rfl
      have h4 := HP90.out.h.cs 4 _ rfl
      have h5 := HP90.out.h.cs 5 _ rfl
      have h6 := HP90.out.h.cs 6 _ rfl
      have h7 := HP90.out.h.cs 7 _ rfl
      have h8 := HP90.out.h.cs 8 _ rfl
      have h9 := HP90.out.h.cs 9 _ rfl
      have hl := HP90.out.h.lt
      go_wp2_with fail
      refine HCK.out.mono ?_
      rintro e x10 ⟨rfl, hb⟩
      have HP91 := Lib.hid (HP90.out.on HRR.out hb)
      clear hb c0 c1 c2 c3 c4 c5 c6 c7 c8 c9 cl cf h0 h1 h2 h3 h4 h5 h6 h7 h8 h9 hl
      have c0 := HP91.out.o.m.cs 0 _ rfl
      have c1 := HP91.out.o.m.cs 1 _ rfl
      have c2 := HP91.out.o.m.cs 2 _ rfl
      have c3 := HP91.out.o.m.cs 3 _ rfl
      have c4 := HP91.out.o.m.cs 4 _ rfl
      have c5 := HP91.out.o.m.cs 5 _ rfl
      have c6 := HP91.out.o.m.cs 6 _ rfl
      have c7 := HP91.out.o.m.cs 7 _ rfl
      have c8 := HP91.out.o.m.cs 8 _ rfl
      have c9 := HP91.out.o.m.cs 9 _ rfl
      have cl := HP91.out.o.m.lt
      have cf : ∀ j, x10.frozen? ⟨g, j, none⟩ = false := HP91.out.o.m.s
      have h0 := HP91.out.h.cs 0 _ rfl
      have h1 := HP91.out.h.cs 1 _ rfl
      have h2 := HP91.out.h.cs 2 _ rfl
      have h3 := HP91.out.h.cs 3 _ rfl
      have h4 := HP91.out.h.cs 4 _ rfl
      have h5 := HP91.out.h.cs 5 _ rfl
      have h6 := HP91.out.h.cs 6 _ rfl
      have h7 := HP91.out.h.cs 7 _ rfl
      have h8 := HP91.out.h.cs 8 _ rfl
      have h9 := HP91.out.h.cs 9 _ rfl
      have hl := HP91.out.h.lt
      have z0 := HP91.out.o.q.cs 0 _ rfl
      have z1 := HP91.out.o.q.cs 1 _ rfl
      have z2 := HP91.out.o.q.cs 2 _ rfl
      have z3 := HP91.out.o.q.cs 3 _ rfl
      have z4 := HP91.out.o.q.cs 4 _ rfl
      have z5 := HP91.out.o.q.cs 5 _ rfl
      have z6 := HP91.out.o.q.cs 6 _ rfl
      have z7 := HP91.out.o.q.cs 7 _ rfl
      have z8 := HP91.out.o.q.cs 8 _ rfl
      have z9 := HP91.out.o.q.cs 9 _ rfl
      have zf : ∀ j, x10.frozen? ⟨w.heap.size + 1, j, none⟩ = false := HP91.out.o.q.s
      have zl := HP91.out.o.q.lt
      go_wp2_with fail
      have hF := HP91.out.o.q.fill (meL y none 0) rfl
      have hBF := below_putAll HP91.out.o.q.ge (meL y none 0) 0 HP91.out.o.B
      have hPF := Prs.putAll (g := w.heap.size + 1) (fun a ha => fun e => (HP91.out.o.hA a ha).2.2.1 e.symm) (meL y none 0) 0 HP91.out.o.hp
      simp only [putAll, meL] at hF hBF hPF
      have g0 := hF.cs 0 _ rfl
      have g1 := hF.cs 1 _ rfl
      have g2 := hF.cs 2 _ rfl
      have g3 := hF.cs 3 _ rfl
      have g4 := hF.cs 4 _ rfl
      have g5 := hF.cs 5 _ rfl
      have g6 := hF.cs 6 _ rfl
      have g7 := hF.cs 7 _ rfl
      have g8 := hF.cs 8 _ rfl
      have g9 := hF.cs 9 _ rfl
      refine bodyPost_ret (v := .tuple #[meV y none 0, .int .i64 0]) (by simp [results, Tryz.results19, meV, go_sem, g0, g1, g2, g3, g4, g5, g6, g7, g8, g9]) rfl ?_
      rw [hrc, hgt]
      exact ⟨none, 0, rfl, HP91.out.o.hc, hPF, hBF, fun a ha => (HP91.out.o.hA a ha).2.2.2⟩
    · have hrc : RC = C := by rw [HRCX.out, if_neg (by omega)]
      have hgt : GT = Me.zero 0 0 := by rw [HGTX.out, if_neg (by rw [hrc]; exact c0)]
      have HCK := Lib.hid (HCX.out none 0 x9 HP90.out.o.hc HP90.out.o.hp)
      have hk0 : (C != 0) = true := by rw [bne_iff_ne]; exact c0
      rw [e0]
      clear e0 c0
      simp only [meV] at HCK
      have c0 := HP90.out.o.m.cs 0 _ rfl
      have c1 := HP90.out.o.m.cs 1 _ rfl
      have c2 := HP90.out.o.m.cs 2 _ rfl
      have c3 := HP90.out.o.m.cs 3 _ rfl
      have c4 := HP90.out.o.m.cs 4 _ rfl
      have c5 := HP90.out.o.m.cs 5 _ rfl
      have c6 := HP90.out.o.m.cs 6 _ rfl
      have c7 := HP90.out.o.m.cs 7 _ rfl
      have c8 := HP90.out.o.m.cs 8 _ rfl
      have c9 := HP90.out.o.m.cs 9 _ rfl
      have cl := HP90.out.o.m.lt
      have cf : ∀ j, x9.frozen? ⟨g, j, none⟩ = false := HP90.out.o.m.s
      have h0 := HP90.out.h.cs 0 _ rfl
      have h1 := HP90.out.h.cs 1 _ rfl
      have h2 := HP90.out.h.cs 2 _ rfl
      have h3 := HP90.out.h.cs 3 _ rfl
      have h4 := HP90.out.h.cs 4 _ rfl
      have h5 := HP90.out.h.cs 5 _ rfl
      have h6 := HP90.out.h.cs 6 _ rfl
      have h7 := HP90.out.h.cs 7 _ rfl
      have h8 := HP90.out.h.cs 8 _ rfl
      have h9 := HP90.out.h.cs 9 _ rfl
      have hl := HP90.out.h.lt
      go_wp2_with fail
      refine HCK.out.mono ?_
      rintro e x10 ⟨rfl, hb⟩
      have HP91 := Lib.hid (HP90.out.on HRR.out hb)
      clear hb c0 c1 c2 c3 c4 c5 c6 c7 c8 c9 cl cf h0 h1 h2 h3 h4 h5 h6 h7 h8 h9 hl
      have z0 := HP91.out.o.q.cs 0 _ rfl
      have z1 := HP91.out.o.q.cs 1 _ rfl
      have z2 := HP91.out.o.q.cs 2 _ rfl
      have z3 := HP91.out.o.q.cs 3 _ rfl
      have z4 := HP91.out.o.q.cs 4 _ rfl
      have z5 := HP91.out.o.q.cs 5 _ rfl
      have z6 := HP91.out.o.q.cs 6 _ rfl
      have z7 := HP91.out.o.q.cs 7 _ rfl
      have z8 := HP91.out.o.q.cs 8 _ rfl
      have z9 := HP91.out.o.q.cs 9 _ rfl
      have zf : ∀ j, x10.frozen? ⟨w.heap.size + 1, j, none⟩ = false := HP91.out.o.q.s
      have zl := HP91.out.o.q.lt
      go_wp2_with fail
      have hF := HP91.out.o.q.fill [.int .u8 0, .int .u8 0, .string ⟨#[]⟩, .string ⟨#[]⟩, .string ⟨#[]⟩, .slice none 0 0, .string ⟨#[]⟩, .int .u64 0, .int .u64 0, .bool false] rfl
      have hBF := below_putAll HP91.out.o.q.ge [.int .u8 0, .int .u8 0, .string ⟨#[]⟩, .string ⟨#[]⟩, .string ⟨#[]⟩, .slice none 0 0, .string ⟨#[]⟩, .int .u64 0, .int .u64 0, .bool false] 0 HP91.out.o.B
      simp only [putAll] at hF hBF
      have g0 := hF.cs 0 _ rfl
      have g1 := hF.cs 1 _ rfl
      have g2 := hF.cs 2 _ rfl
      have g3 := hF.cs 3 _ rfl
      have g4 := hF.cs 4 _ rfl
      have g5 := hF.cs 5 _ rfl
      have g6 := hF.cs 6 _ rfl
      have g7 := hF.cs 7 _ rfl
      have g8 := hF.cs 8 _ rfl
      have g9 := hF.cs 9 _ rfl
      refine bodyPost_ret (v := .tuple #[.agg #[.int .u8 0, .int .u8 0, .string ⟨#[]⟩, .string ⟨#[]⟩, .string ⟨#[]⟩, .slice none 0 0, .string ⟨#[]⟩, .int .u64 0, .int .u64 0, .bool false], .int .i64 C]) (by simp [results, Tryz.results19, go_sem, g0, g1, g2, g3, g4, g5, g6, g7, g8, g9]) rfl ?_
      rw [hrc, hgt]
      exact me_zero_post hBF
  · have hrc : RC = EC := by rw [HRCX.out, if_pos e0]
    have hgt : GT = Me.zero 0 0 := by rw [HGTX.out, if_neg (by rw [hrc]; exact e0)]
    have hk0 : (EC != 0) = true := by rw [bne_iff_ne]; exact e0
    have hk1 : (EC == 0) = false := by rw [beq_eq_false_iff_ne]; exact e0
    clear e0
    have z0 := HP90.out.o.q.cs 0 _ rfl
    have z1 := HP90.out.o.q.cs 1 _ rfl
    have z2 := HP90.out.o.q.cs 2 _ rfl
    have z3 := HP90.out.o.q.cs 3 _ rfl
    have z4 := HP90.out.o.q.cs 4 _ rfl
    have z5 := HP90.out.o.q.cs 5 _ rfl
    have z6 := HP90.out.o.q.cs 6 _ rfl
    have z7 := HP90.out.o.q.cs 7 _ rfl
    have z8 := HP90.out.o.q.cs 8 _ rfl
    have z9 := HP90.out.o.q.cs 9 _ rfl
    have zf : ∀ j, x9.frozen? ⟨w.heap.size + 1, j, none⟩ = false := HP90.out.o.q.s
    have zl := HP90.out.o.q.lt
    go_wp2_with fail
    have hF := HP90.out.o.q.fill [.int .u8 0, .int .u8 0, .string ⟨#[]⟩, .string ⟨#[]⟩, .string ⟨#[]⟩, .slice none 0 0, .string ⟨#[]⟩, .int .u64 0, .int .u64 0, .bool false] rfl
    have hBF := below_putAll HP90.out.o.q.ge [.int .u8 0, .int .u8 0, .string ⟨#[]⟩, .string ⟨#[]⟩, .string ⟨#[]⟩, .slice none 0 0, .string ⟨#[]⟩, .int .u64 0, .int .u64 0, .bool false] 0 HP90.out.o.B
    simp only [putAll] at hF hBF
    have g0 := hF.cs 0 _ rfl
    have g1 := hF.cs 1 _ rfl
    have g2 := hF.cs 2 _ rfl
    have g3 := hF.cs 3 _ rfl
    have g4 := hF.cs 4 _ rfl
    have g5 := hF.cs 5 _ rfl
    have g6 := hF.cs 6 _ rfl
    have g7 := hF.cs 7 _ rfl
    have g8 := hF.cs 8 _ rfl
    have g9 := hF.cs 9 _ rfl
    refine bodyPost_ret (v := .tuple #[.agg #[.int .u8 0, .int .u8 0, .string ⟨#[]⟩, .string ⟨#[]⟩, .string ⟨#[]⟩, .slice none 0 0, .string ⟨#[]⟩, .int .u64 0, .int .u64 0, .bool false], .int .i64 EC]) (by simp [results, Tryz.results19, go_sem, g0, g1, g2, g3, g4, g5, g6, g7, g8, g9]) rfl ?_
    rw [hrc, hgt]
    exact me_zero_post hBF
end Go.Proofs.YtnamkglflhkckaaGreatDoor
end
section
namespace Go.Proofs.YtnamkglflhkckaaGreatDoor
open Go.ChangeShapes Go.WideShapes Go.ChangeAt Go.RowKit
theorem txt_y {x : List UInt8} (z : x ≠ []) : ((ofL x).toList != []) = true ∧ ¬ (ofL x).toList = [] ∧ (ofL x).toList.isEmpty = false ∧ (x == ([] : List UInt8)) = false := by
  rw [str_list]; exact ⟨bne_iff_ne.2 z, z, List.isEmpty_eq_false_iff.2 z, beq_eq_false_iff_ne.2 z⟩
theorem txt_n {x : List UInt8} (z : x = []) : ((ofL x).toList != []) = false ∧ (ofL x).toList = [] ∧ (ofL x).toList.isEmpty = true ∧ (x == ([] : List UInt8)) = true := by
  rw [str_list, z]; exact ⟨rfl, rfl, rfl, rfl⟩
theorem num_y {n : Nat} (z : n ≠ 0) : ((n : Int) != 0) = true ∧ (n == 0) = false := ⟨code_ne z, beq_eq_false_iff_ne.2 z⟩
theorem num_n {n : Nat} (z : n = 0) : ((n : Int) != 0) = false ∧ (n == 0) = true := ⟨code_eq z, by rw [z]; rfl⟩
/-- the method's box, its row, what its kind tells -/
structure MkC (w : World) (x : Me) (A : Option Addr) (c g : Nat) (hs : List Value) (W : World) : Prop where
  p : BoxC w w.heap.size (meL x A c) W
  h : BoxC w g hs W
  ra : Prs W A x.head
  B : Below w.heap.size w W
theorem MkC.on {w : World} {x : Me} {A : Option Addr} {c g : Nat} {hs : List Value} {W W' : World} (h : MkC w x A c g hs W) (hb : Below W.heap.size W W') : MkC w x A c g hs W' := ⟨h.p.on hb, h.h.on hb, h.ra.on hb, bthen h.B hb (Nat.le_refl _)⟩
theorem MkC.start {w W : World} {x : Me} {A : Option Addr} {c : Nat} (hp : Prs w A x.head) (hb : Below (w.alloc (.cells #[.int .u8 (x.ch.toNat : Int), .int .u8 (x.kd.toNat : Int), .string (ofL x.name), .string (ofL x.other), .string (ofL x.key), .slice A x.head.length c, .string (ofL x.body), .int .u64 (x.n : Int), .int .u64 (x.m : Int), .bool x.yes] 29)).heap.size (w.alloc (.cells #[.int .u8 (x.ch.toNat : Int), .int .u8 (x.kd.toNat : Int), .string (ofL x.name), .string (ofL x.other), .string (ofL x.key), .slice A x.head.length c, .string (ofL x.body), .int .u64 (x.n : Int), .int .u64 (x.m : Int), .bool x.yes] 29)) W) (hs : Array Value) (t : TypeId) : MkC w x A c W.heap.size hs.toList (W.alloc (.cells hs t)) := by
  have a0 : Below w.heap.size w (w.alloc (.cells #[.int .u8 (x.ch.toNat : Int), .int .u8 (x.kd.toNat : Int), .string (ofL x.name), .string (ofL x.other), .string (ofL x.key), .slice A x.head.length c, .string (ofL x.body), .int .u64 (x.n : Int), .int .u64 (x.m : Int), .bool x.yes] 29)) := (Below.refl _ _).alloc (Nat.le_refl _) _
  have a2 : Below W.heap.size W (W.alloc (.cells hs t)) := (Below.refl _ _).alloc (Nat.le_refl _) _
  have b1 := bthen a0 hb (Nat.le_refl _)
  exact ⟨((BoxC.new (Nat.le_refl _) #[.int .u8 (x.ch.toNat : Int), .int .u8 (x.kd.toNat : Int), .string (ofL x.name), .string (ofL x.other), .string (ofL x.key), .slice A x.head.length c, .string (ofL x.body), .int .u64 (x.n : Int), .int .u64 (x.m : Int), .bool x.yes] 29).on hb).on a2, BoxC.new b1.size hs t, ((hp.on a0).on hb).on a2, bthen b1 a2 (Nat.le_refl _)⟩
end Go.Proofs.YtnamkglflhkckaaGreatDoor
end
section
namespace Go.Proofs.YtnamkglflhkckaaGreatDoor
open Go.ChangeShapes Go.WideShapes Go.ChangeAt Go.RowKit
set_option maxRecDepth 100000 in
set_option maxHeartbeats 32000000 in
theorem r11Check_n (x : Me) (A : Option Addr) (c : Nat) (w : World) (h : MeOk w x A c) (hk : x.kd.toNat = 0 ∨ x.kd.toNat = 12 ∨ x.kd.toNat = 14) : Calls Tryz.prog 11 #[meV x A c] w fun e w' => e = .returned (.int .i64 (x.code : Int)) ∧ Below w.heap.size w w' := by
  have h20 : ¬ 20 < x.kd.toNat := by omega
  have HST := Lib.hid (fun W (hb : Below (w.alloc (.cells #[.int .u8 (x.ch.toNat : Int), .int .u8 (x.kd.toNat : Int), .string (ofL x.name), .string (ofL x.other), .string (ofL x.key), .slice A x.head.length c, .string (ofL x.body), .int .u64 (x.n : Int), .int .u64 (x.m : Int), .bool x.yes] 29)).heap.size (w.alloc (.cells #[.int .u8 (x.ch.toNat : Int), .int .u8 (x.kd.toNat : Int), .string (ofL x.name), .string (ofL x.other), .string (ofL x.key), .slice A x.head.length c, .string (ofL x.body), .int .u64 (x.n : Int), .int .u64 (x.m : Int), .bool x.yes] 29)) W) => MkC.start (w := w) (W := W) (x := x) (A := A) (c := c) h.row hb #[.bool false, .bool false, .bool false, .bool false, .bool false, .bool false, .bool false, .bool true, .bool false, .bool false] 108)
  have HOF := Lib.hid (fun W => r11Of_any x.kd.toNat (by omega) W)
  rw [show Me.has x.kd.toNat = ⟨false, false, false, false, false, false, false, true, false, false⟩ by rcases hk with hk | hk | hk <;> (rw [hk]; rfl)] at HOF
  have HCO : Hid (x.code = if x.more then 4 else Me.firstc x.pcode (Me.tells x.kd.toNat)) := Lib.hid (by unfold Me.code; rw [if_neg h20])
  have HMO : Hid (x.more = ((!false && !(x.name == [])) || ((!false && !(x.other == [])) || ((!false && !(x.key == [])) || ((!false && !(x.head.length == 0)) || ((!false && !(x.body == [])) || ((!true && !(x.n == 0)) || ((!false && !(x.m == 0)) || ((!false && !(!x.yes)) || false))))))))) := Lib.hid (by unfold Me.more; rcases hk with hk | hk | hk <;> (rw [hk]; rfl))
  have HFC : Hid (Me.firstc x.pcode (Me.tells x.kd.toNat) = 0) := Lib.hid (by
    rw [show Me.tells x.kd.toNat = [5] by rcases hk with hk | hk | hk <;> (rw [hk]; rfl)]
    have p5 : x.pcode 5 = 0 := rfl
    simp only [Me.firstc, p5, ne_eq, not_true_eq_false, if_false])
  have HNB := Lib.hid (show x.more = false → (ofL x.body).size = 0 from fun g => by
    have hb := Me.more_no g (p := 4) (by decide) (by rcases hk with hk | hk | hk <;> (rw [hk]; rfl))
    have hb2 : (x.body == []) = true := hb
    rw [ofL_size, beq_iff_eq.1 hb2]; rfl)
  have hz : (ofL x.body).size = x.body.length := ofL_size x.body
  have hk2 : decide ((20 : Int) < (x.kd.toNat : Int)) = false := decide_eq_false (by omega)
  have hB0 : Below w.heap.size w (w.alloc (.cells #[.int .u8 (x.ch.toNat : Int), .int .u8 (x.kd.toNat : Int), .string (ofL x.name), .string (ofL x.other), .string (ofL x.key), .slice A x.head.length c, .string (ofL x.body), .int .u64 (x.n : Int), .int .u64 (x.m : Int), .bool x.yes] 29)) := (Below.refl _ _).alloc (Nat.le_refl _) _
  have HB0 := Lib.hid hB0
  clear hB0
  clear h hk h20
  obtain ⟨C, hC⟩ : ∃ C, C = x.code := ⟨_, rfl⟩
  have HC := Lib.hid hC
  rw [← hC]
  clear hC
  rw [HCO.out, HFC.out] at HC
  clear HCO HFC
  generalize x.more = BB at *
  simp only [meV]
  simp only [hasV] at HOF
  obtain ⟨xch, xkd, xname, xother, xkey, xhead, xbody, xn, xm, xyes⟩ := x
  dsimp only at *
  generalize xkd.toNat = kn at *
  go_enter Tryz.func11, Tryz.ntmps11
  go_wp2_with fail
  refine (HOF.out _).mono ?_
  rintro e w1 ⟨rfl, b1⟩
  have HD := Lib.hid (HST.out w1 b1)
  clear b1 HST HOF
  have d := HD.out.p.cs
  clear d
  go_upto_region 4 with fail
  simp only [List.append_eq, List.cons_append, List.nil_append]
  generalize w1.alloc (.cells #[.bool false, .bool false, .bool false, .bool false, .bool false, .bool false, .bool false, .bool true, .bool false, .bool false] 108) = w2 at *
  generalize w1.heap.size = g at *
  have c2 := HD.out.p.cs 2 _ rfl
  have c3 := HD.out.p.cs 3 _ rfl
  have c4 := HD.out.p.cs 4 _ rfl
  have c5 := HD.out.p.cs 5 _ rfl
  have c6 := HD.out.p.cs 6 _ rfl
  have c7 := HD.out.p.cs 7 _ rfl
  have c8 := HD.out.p.cs 8 _ rfl
  have c9 := HD.out.p.cs 9 _ rfl
  have cl := HD.out.p.lt
  have h0 := HD.out.h.cs 0 _ rfl
  have h1 := HD.out.h.cs 1 _ rfl
  have h2 := HD.out.h.cs 2 _ rfl
  have h3 := HD.out.h.cs 3 _ rfl
  have h4 := HD.out.h.cs 4 _ rfl
  have h5 := HD.out.h.cs 5 _ rfl
  have h6 := HD.out.h.cs 6 _ rfl
  have h7 := HD.out.h.cs 7 _ rfl
  have h8 := HD.out.h.cs 8 _ rfl
  have h9 := HD.out.h.cs 9 _ rfl
  have hl := HD.out.h.lt
  go_cut [88] (fun s88 wx => s88 = .bool BB ∧ wx = w2)
  case first =>
    clear HD
    (try clear HNN)
    (try clear HNO)
    (try clear HNK)
    (try clear HNH)
    (try clear HOC)
    (try clear HKC)
    clear hz HB0 HNB
    by_cases z_name : xname = []
    · skip
      obtain ⟨n_name, p_name, q_name, e_name⟩ := txt_n z_name
      by_cases z_other : xother = []
      · skip
        obtain ⟨n_other, p_other, q_other, e_other⟩ := txt_n z_other
        by_cases z_key : xkey = []
        · skip
          obtain ⟨n_key, p_key, q_key, e_key⟩ := txt_n z_key
          by_cases z_head : xhead.length = 0
          · skip
            have n_head : decide ((0 : Int) < (xhead.length : Int)) = false := decide_eq_false (by omega)
            have m_head : decide (0 < xhead.length) = false := decide_eq_false (by omega)
            have e_head : (xhead.length == 0) = true := by rw [z_head]; rfl
            by_cases z_body : xbody = []
            · skip
              obtain ⟨n_body, p_body, q_body, e_body⟩ := txt_n z_body
              by_cases z_n : xn = 0
              · skip
                obtain ⟨n_n, e_n⟩ := num_n z_n
                by_cases z_m : xm = 0
                · skip
                  obtain ⟨n_m, e_m⟩ := num_n z_m
                  cases xyes with
                  | false =>
                    clear z_name z_other z_key z_head z_body z_n z_m
                    have hb : BB = false := by rw [HMO.out, e_name, e_other, e_key, e_head, e_body, e_n, e_m]; rfl
                    have HBB := Lib.hid hb
                    clear hb HMO
                    go_wp2_with fail
                    go_meet
                    exact ⟨by rw [HBB.out], rfl⟩
                  | true =>
                    clear z_name z_other z_key z_head z_body z_n z_m
                    have hb : BB = true := by rw [HMO.out, e_name, e_other, e_key, e_head, e_body, e_n, e_m]; rfl
                    have HBB := Lib.hid hb
                    clear hb HMO
                    go_wp2_with fail
                    go_meet
                    exact ⟨by rw [HBB.out], rfl⟩
                · skip
                  obtain ⟨n_m, e_m⟩ := num_y z_m
                  clear z_name z_other z_key z_head z_body z_n z_m
                  have hb : BB = true := by rw [HMO.out, e_name, e_other, e_key, e_head, e_body, e_n, e_m]; rfl
                  have HBB := Lib.hid hb
                  clear hb HMO
                  go_wp2_with fail
                  go_meet
                  exact ⟨by rw [HBB.out], rfl⟩
              · skip
                obtain ⟨n_n, e_n⟩ := num_y z_n
                by_cases z_m : xm = 0
                · skip
                  obtain ⟨n_m, e_m⟩ := num_n z_m
                  cases xyes with
                  | false =>
                    clear z_name z_other z_key z_head z_body z_n z_m
                    have hb : BB = false := by rw [HMO.out, e_name, e_other, e_key, e_head, e_body, e_n, e_m]; rfl
                    have HBB := Lib.hid hb
                    clear hb HMO
                    go_wp2_with fail
                    go_meet
                    exact ⟨by rw [HBB.out], rfl⟩
                  | true =>
                    clear z_name z_other z_key z_head z_body z_n z_m
                    have hb : BB = true := by rw [HMO.out, e_name, e_other, e_key, e_head, e_body, e_n, e_m]; rfl
                    have HBB := Lib.hid hb
                    clear hb HMO
                    go_wp2_with fail
                    go_meet
                    exact ⟨by rw [HBB.out], rfl⟩
                · skip
                  obtain ⟨n_m, e_m⟩ := num_y z_m
                  clear z_name z_other z_key z_head z_body z_n z_m
                  have hb : BB = true := by rw [HMO.out, e_name, e_other, e_key, e_head, e_body, e_n, e_m]; rfl
                  have HBB := Lib.hid hb
                  clear hb HMO
                  go_wp2_with fail
                  go_meet
                  exact ⟨by rw [HBB.out], rfl⟩
            · skip
              obtain ⟨n_body, p_body, q_body, e_body⟩ := txt_y z_body
              clear z_name z_other z_key z_head z_body
              have hb : BB = true := by rw [HMO.out, e_name, e_other, e_key, e_head, e_body]; rfl
              have HBB := Lib.hid hb
              clear hb HMO
              go_wp2_with fail
              go_meet
              exact ⟨by rw [HBB.out], rfl⟩
          · skip
            have n_head : decide ((0 : Int) < (xhead.length : Int)) = true := decide_eq_true (by omega)
            have m_head : decide (0 < xhead.length) = true := decide_eq_true (by omega)
            have e_head : (xhead.length == 0) = false := beq_eq_false_iff_ne.2 z_head
            clear z_name z_other z_key z_head
            have hb : BB = true := by rw [HMO.out, e_name, e_other, e_key, e_head]; rfl
            have HBB := Lib.hid hb
            clear hb HMO
            go_wp2_with fail
            go_meet
            exact ⟨by rw [HBB.out], rfl⟩
        · skip
          obtain ⟨n_key, p_key, q_key, e_key⟩ := txt_y z_key
          clear z_name z_other z_key
          have hb : BB = true := by rw [HMO.out, e_name, e_other, e_key]; rfl
          have HBB := Lib.hid hb
          clear hb HMO
          go_wp2_with fail
          go_meet
          exact ⟨by rw [HBB.out], rfl⟩
      · skip
        obtain ⟨n_other, p_other, q_other, e_other⟩ := txt_y z_other
        clear z_name z_other
        have hb : BB = true := by rw [HMO.out, e_name, e_other]; rfl
        have HBB := Lib.hid hb
        clear hb HMO
        go_wp2_with fail
        go_meet
        exact ⟨by rw [HBB.out], rfl⟩
    · skip
      obtain ⟨n_name, p_name, q_name, e_name⟩ := txt_y z_name
      clear z_name
      have hb : BB = true := by rw [HMO.out, e_name]; rfl
      have HBB := Lib.hid hb
      clear hb HMO
      go_wp2_with fail
      go_meet
      exact ⟨by rw [HBB.out], rfl⟩
  case rest =>
    obtain ⟨rfl, rfl⟩ := hcut
    clear HMO
    cases hBB : BB with
    | true =>
      rw [hBB] at HC
      clear hBB HNB
      go_wp2_with fail
      go_ret
      exact ⟨ret_nat (by rw [HC.out]; rfl), HD.out.B⟩
    | false =>
      rw [hBB] at HNB HC
      have HNB := Lib.hid (HNB.out rfl)
      clear hBB
      have HC := Lib.hid (HC.out.trans (if_neg (by decide)))
      have h20 : ¬ 256 < (ofL xbody).size := by have := HNB.out; omega
      have g20 : decide ((256 : Int) < ((ofL xbody).size : Int)) = false := decide_eq_false (by have := HNB.out; omega)
      clear hz
      go_wp2_with fail
      go_ret
      exact ⟨ret_nat (by rw [HC.out]; simp []), HD.out.B⟩
end Go.Proofs.YtnamkglflhkckaaGreatDoor
end
