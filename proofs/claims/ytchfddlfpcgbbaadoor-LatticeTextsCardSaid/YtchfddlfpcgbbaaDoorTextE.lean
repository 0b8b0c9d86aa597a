/-
  THE LAW ON TEXTS, walked.
-/
import Derived.Test.YtchfddlfpcgbbaaDoorTextD
import Derived.Test.YtchfddlfpcgbbaaDoorLatEq
namespace Go.Proofs.YtchfddlfpcgbbaaDoor
open Go.ChangeShapes Go.WideShapes Go.ChangeAt Go.RowKit
open Go.Lib (decDigits)
attribute [local go_sem ↓] lab_eql
attribute [local go_sem] guard24

set_option maxHeartbeats 4000000 in
theorem texts_long (lv st : Nat) (s : ByteArray) (w : World) (h : 200 < s.size) :
    Calls Tryd.prog 3 #[.agg #[.int .u8 (lv : Int), .int .u32 (st : Int)], .string s] w fun e w' => e = .returned (.bool true) ∧ Below w.heap.size w w' := by
  go_enter Tryd.func3, Tryd.ntmps3
  go_wp2_with fail
  refine (awake_any _).mono ?_
  rintro x w1 ⟨rfl, b1⟩
  have B1 := Lib.hid (Below.trans ((Below.refl w.heap.size w).alloc (Nat.le_refl _) _) (b1.mono (by simp)))
  clear b1
  go_wp2_with fail
  go_ret
  exact ⟨rfl, B1.out⟩
set_option maxHeartbeats 4000000 in
theorem texts_walk (lv st : Nat) (l : List UInt8) (w : World) (hlv : lv < 256) (hst : st < 4294967296) (hl : l.length ≤ 200) (hP : Pow w) :
    Calls Tryd.prog 3 #[.agg #[.int .u8 (lv : Int), .int .u32 (st : Int)], .string (ofL l)] w fun e w' => e = .returned (.bool true) ∧ Below w.heap.size w w' := by
  have hsz : (ofL l).size = l.length := ofL_size l
  have hs200 : (ofL l).size ≤ 200 := by omega
  have HPA := Lib.hid (fun W => parse_any l W (by omega))
  have HRP := Lib.hid (fun W => rparse_any l W (by omega))
  have HT := Lib.hid (fun W hp => text_any' lv st W hlv hst hp)
  have HRT := Lib.hid (fun W => rtext_any lv st W hlv)
  have hTl : (Lat.textL lv st).length ≤ 1000 := by have := text_len lv st 32 hlv (by omega); rw [ofL_size] at this; exact this
  have HPT := Lib.hid (fun W => parse_any (Lat.textL lv st) W (by omega))
  have hpt := Lat.parse_text lv st hst
  obtain ⟨hb1, hb2, hb3⟩ := Lat.parse_bound l
  have HTB := Lib.hid (fun W hp => text_any' (Lat.parse l).1 (Lat.parse l).2.1 W (by omega) hb2 hp)
  have HBK := Lib.hid (show (Lat.parse l).2.2 = 0 → Lat.textL (Lat.parse l).1 (Lat.parse l).2.1 = l from Lat.text_parse)
  have X0 := Lib.hid (Box.new (.int .u8 (lv : Int)) (.int .u32 (st : Int)) 24 w)
  have HP := Lib.hid hP
  clear hP
  generalize Lat.parse l = PL at *
  obtain ⟨pl, ps, pc⟩ := PL
  simp only at *
  generalize Lat.textL lv st = T at *
  generalize Lat.parse T = PT at *
  obtain ⟨tl, ts, tc⟩ := PT
  simp only at *
  have HP0 := Lib.hid HP.out.pos
  have HPS := Lib.hid (show w.heap.size + 0 = w.heap.size from rfl)
  by_cases hc : pc = 0
  · subst hc
    have hb := HBK.out rfl
    rw [hb] at HTB
    clear hb HBK
    by_cases h15 : lv ≤ 15
    · rw [if_pos h15] at hpt
      obtain ⟨rfl, rfl, rfl⟩ : tl = lv ∧ ts = st ∧ tc = 0 := by simpa using hpt
      clear hpt
      go_enter Tryd.func3, Tryd.ntmps3
      go_wp2_with fail
      refine (awake_any _).mono ?_
      rintro x w1 ⟨rfl, b1⟩
      have z1 := b1.size
      simp at z1
      have A1 := Lib.hid (X0.out.below b1 (by simp))
      have L1 := Lib.hid (Below.trans ((Below.refl w.heap.size w).alloc (Nat.le_refl _) _) (b1.mono (by simp)))
      clear b1
      go_wp2_with fail
      refine (HPA.out _).mono ?_
      rintro x w2 ⟨rfl, b2⟩
      have z2 := b2.size
      have A2 := Lib.hid ((A1.out.below b2 (by omega)).below ((Below.refl _ _).alloc (Nat.le_refl _) (.cells #[.int .u8 (pl : Int), .int .u32 (ps : Int)] 24)) (by omega))
      have B2 := Lib.hid (Box.new (.int .u8 (pl : Int)) (.int .u32 (ps : Int)) 24 w2)
      have L2 := Lib.hid (Below.alloc (Below.trans L1.out (b2.mono L1.out.size)) (by omega) (.cells #[.int .u8 (pl : Int), .int .u32 (ps : Int)] 24))
      clear b2
      go_wp2_with fail
      refine (HRP.out _).mono ?_
      rintro x w3 ⟨rfl, b3⟩
      have z3 := b3.size
      have A3 := Lib.hid (A2.out.below b3 (by simp; omega))
      have B3 := Lib.hid (B2.out.below b3 (by simp))
      have L3 := Lib.hid (Below.trans L2.out (b3.mono (by simp; omega)))
      simp at z3
      clear b3
      have A3' := Lib.hid (A3.out.below ((Below.refl _ _).alloc (Nat.le_refl _) (.cells #[.int .u8 (pl : Int), .int .u32 (ps : Int)] 24)) (by omega))
      have B3' := Lib.hid (B3.out.below ((Below.refl _ _).alloc (Nat.le_refl _) (.cells #[.int .u8 (pl : Int), .int .u32 (ps : Int)] 24)) (by omega))
      have Q3' := Lib.hid (Box.new (.int .u8 (pl : Int)) (.int .u32 (ps : Int)) 24 w3)
      have L3' := Lib.hid (Below.alloc L3.out (by omega) (.cells #[.int .u8 (pl : Int), .int .u32 (ps : Int)] 24))
      have y3 : w.heap.size < w3.heap.size := by omega
      have a3 := A3.out.1
      have a3' := A3.out.2.1
      go_wp2_with fail
      refine (HT.out _ (HP.out.below L3'.out HP0.out)).mono ?_
      rintro x w4 ⟨rfl, b4⟩
      have z4 := b4.size
      have A4 := Lib.hid (A3'.out.below b4 (by simp; omega))
      have B4 := Lib.hid (B3'.out.below b4 (by simp; omega))
      have Q4 := Lib.hid (Q3'.out.below b4 (by simp))
      have L4 := Lib.hid (Below.trans L3'.out (b4.mono (by simp; omega)))
      simp at z4
      clear b4 a3 a3'
      go_wp2_with fail
      refine (HPT.out _).mono ?_
      rintro x w5 ⟨rfl, b5⟩
      have z5 := b5.size
      have A5 := Lib.hid ((A4.out.below b5 (by omega)).below ((Below.refl _ _).alloc (Nat.le_refl _) (.cells #[.int .u8 (tl : Int), .int .u32 (ts : Int)] 24)) (by omega))
      have B5 := Lib.hid ((B4.out.below b5 (by omega)).below ((Below.refl _ _).alloc (Nat.le_refl _) (.cells #[.int .u8 (tl : Int), .int .u32 (ts : Int)] 24)) (by omega))
      have Q5 := Lib.hid ((Q4.out.below b5 (by omega)).below ((Below.refl _ _).alloc (Nat.le_refl _) (.cells #[.int .u8 (tl : Int), .int .u32 (ts : Int)] 24)) (by omega))
      have C5 := Lib.hid (Box.new (.int .u8 (tl : Int)) (.int .u32 (ts : Int)) 24 w5)
      have L5 := Lib.hid (Below.alloc (Below.trans L4.out (b5.mono L4.out.size)) (by omega) (.cells #[.int .u8 (tl : Int), .int .u32 (ts : Int)] 24))
      have y5 : w.heap.size < w5.heap.size := by omega
      have a5 := (A4.out.below b5 (by omega)).1
      have a5' := (A4.out.below b5 (by omega)).2.1
      clear b5
      go_wp2_with fail
      refine (HRT.out _).mono ?_
      rintro x w6 ⟨rfl, b6⟩
      have z6 := b6.size
      have A6 := Lib.hid (A5.out.below b6 (by simp; omega))
      have B6 := Lib.hid (B5.out.below b6 (by simp; omega))
      have Q6 := Lib.hid (Q5.out.below b6 (by simp; omega))
      have C6 := Lib.hid (C5.out.below b6 (by simp))
      have L6 := Lib.hid (Below.trans L5.out (b6.mono (by simp; omega)))
      simp at z6
      clear b6 a5 a5'
      obtain ⟨p0, p1, -⟩ := B6.out
      obtain ⟨r0, r1, -⟩ := Q6.out
      go_wp2_with fail
      refine (HTB.out _ (HP.out.below L6.out HP0.out)).mono ?_
      rintro x w7 ⟨rfl, b7⟩
      have A7 := Lib.hid (A6.out.below b7 (by omega))
      have C7 := Lib.hid (C6.out.below b7 (by omega))
      have L7 := Lib.hid (Below.trans L6.out (b7.mono L6.out.size))
      clear b7 p0 p1 r0 r1
      obtain ⟨s0, s1, -⟩ := C7.out
      obtain ⟨t0, t1, -⟩ := A7.out
      go_wp2_with fail
      go_ret
      exact ⟨by first | rfl | simp, L7.out⟩
    · rw [if_neg h15] at hpt
      obtain ⟨rfl, rfl, rfl⟩ : tl = 0 ∧ ts = 0 ∧ tc = 7 := by simpa using hpt
      clear hpt
      have HPT0 := Lib.hid (show ∀ W, Calls Tryd.prog 9 #[.string (ofL T)] W fun e w' => e = .returned (.tuple #[.agg #[.int .u8 0, .int .u32 0], .int .i64 7]) ∧ Below W.heap.size W w' from HPT.out)
      clear HPT
      go_enter Tryd.func3, Tryd.ntmps3
      go_wp2_with fail
      refine (awake_any _).mono ?_
      rintro x w1 ⟨rfl, b1⟩
      have z1 := b1.size
      simp at z1
      have A1 := Lib.hid (X0.out.below b1 (by simp))
      have L1 := Lib.hid (Below.trans ((Below.refl w.heap.size w).alloc (Nat.le_refl _) _) (b1.mono (by simp)))
      clear b1
      go_wp2_with fail
      refine (HPA.out _).mono ?_
      rintro x w2 ⟨rfl, b2⟩
      have z2 := b2.size
      have A2 := Lib.hid ((A1.out.below b2 (by omega)).below ((Below.refl _ _).alloc (Nat.le_refl _) (.cells #[.int .u8 (pl : Int), .int .u32 (ps : Int)] 24)) (by omega))
      have B2 := Lib.hid (Box.new (.int .u8 (pl : Int)) (.int .u32 (ps : Int)) 24 w2)
      have L2 := Lib.hid (Below.alloc (Below.trans L1.out (b2.mono L1.out.size)) (by omega) (.cells #[.int .u8 (pl : Int), .int .u32 (ps : Int)] 24))
      clear b2
      go_wp2_with fail
      refine (HRP.out _).mono ?_
      rintro x w3 ⟨rfl, b3⟩
      have z3 := b3.size
      have A3 := Lib.hid (A2.out.below b3 (by simp; omega))
      have B3 := Lib.hid (B2.out.below b3 (by simp))
      have L3 := Lib.hid (Below.trans L2.out (b3.mono (by simp; omega)))
      simp at z3
      clear b3
      have A3' := Lib.hid (A3.out.below ((Below.refl _ _).alloc (Nat.le_refl _) (.cells #[.int .u8 (pl : Int), .int .u32 (ps : Int)] 24)) (by omega))
      have B3' := Lib.hid (B3.out.below ((Below.refl _ _).alloc (Nat.le_refl _) (.cells #[.int .u8 (pl : Int), .int .u32 (ps : Int)] 24)) (by omega))
      have Q3' := Lib.hid (Box.new (.int .u8 (pl : Int)) (.int .u32 (ps : Int)) 24 w3)
      have L3' := Lib.hid (Below.alloc L3.out (by omega) (.cells #[.int .u8 (pl : Int), .int .u32 (ps : Int)] 24))
      have y3 : w.heap.size < w3.heap.size := by omega
      have a3 := A3.out.1
      have a3' := A3.out.2.1
      go_wp2_with fail
      refine (HT.out _ (HP.out.below L3'.out HP0.out)).mono ?_
      rintro x w4 ⟨rfl, b4⟩
      have z4 := b4.size
      have A4 := Lib.hid (A3'.out.below b4 (by simp; omega))
      have B4 := Lib.hid (B3'.out.below b4 (by simp; omega))
      have Q4 := Lib.hid (Q3'.out.below b4 (by simp))
      have L4 := Lib.hid (Below.trans L3'.out (b4.mono (by simp; omega)))
      simp at z4
      clear b4 a3 a3'
      go_wp2_with fail
      refine (HPT0.out _).mono ?_
      rintro x w5 ⟨rfl, b5⟩
      have z5 := b5.size
      have A5 := Lib.hid ((A4.out.below b5 (by omega)).below ((Below.refl _ _).alloc (Nat.le_refl _) (.cells #[.int .u8 0, .int .u32 0] 24)) (by omega))
      have B5 := Lib.hid ((B4.out.below b5 (by omega)).below ((Below.refl _ _).alloc (Nat.le_refl _) (.cells #[.int .u8 0, .int .u32 0] 24)) (by omega))
      have Q5 := Lib.hid ((Q4.out.below b5 (by omega)).below ((Below.refl _ _).alloc (Nat.le_refl _) (.cells #[.int .u8 0, .int .u32 0] 24)) (by omega))
      have C5 := Lib.hid (Box.new (.int .u8 0) (.int .u32 0) 24 w5)
      have L5 := Lib.hid (Below.alloc (Below.trans L4.out (b5.mono L4.out.size)) (by omega) (.cells #[.int .u8 0, .int .u32 0] 24))
      have y5 : w.heap.size < w5.heap.size := by omega
      have a5 := (A4.out.below b5 (by omega)).1
      have a5' := (A4.out.below b5 (by omega)).2.1
      clear b5
      go_wp2_with fail
      refine (HRT.out _).mono ?_
      rintro x w6 ⟨rfl, b6⟩
      have z6 := b6.size
      have A6 := Lib.hid (A5.out.below b6 (by simp; omega))
      have B6 := Lib.hid (B5.out.below b6 (by simp; omega))
      have Q6 := Lib.hid (Q5.out.below b6 (by simp; omega))
      have C6 := Lib.hid (C5.out.below b6 (by simp))
      have L6 := Lib.hid (Below.trans L5.out (b6.mono (by simp; omega)))
      simp at z6
      clear b6 a5 a5'
      obtain ⟨p0, p1, -⟩ := B6.out
      obtain ⟨r0, r1, -⟩ := Q6.out
      go_wp2_with fail
      refine (HTB.out _ (HP.out.below L6.out HP0.out)).mono ?_
      rintro x w7 ⟨rfl, b7⟩
      have A7 := Lib.hid (A6.out.below b7 (by omega))
      have C7 := Lib.hid (C6.out.below b7 (by omega))
      have L7 := Lib.hid (Below.trans L6.out (b7.mono L6.out.size))
      clear b7 p0 p1 r0 r1
      obtain ⟨s0, s1, -⟩ := C7.out
      obtain ⟨t0, t1, -⟩ := A7.out
      go_wp2_with fail
      go_ret
      exact ⟨by first | rfl | simp, L7.out⟩
  · have hc0 : ((pc : Int) == 0) = false := beq_eq_false_iff_ne.2 (by omega)
    clear HBK hc
    by_cases h15 : lv ≤ 15
    · rw [if_pos h15] at hpt
      obtain ⟨rfl, rfl, rfl⟩ : tl = lv ∧ ts = st ∧ tc = 0 := by simpa using hpt
      clear hpt
      go_enter Tryd.func3, Tryd.ntmps3
      go_wp2_with fail
      refine (awake_any _).mono ?_
      rintro x w1 ⟨rfl, b1⟩
      have z1 := b1.size
      simp at z1
      have A1 := Lib.hid (X0.out.below b1 (by simp))
      have L1 := Lib.hid (Below.trans ((Below.refl w.heap.size w).alloc (Nat.le_refl _) _) (b1.mono (by simp)))
      clear b1
      go_wp2_with fail
      refine (HPA.out _).mono ?_
      rintro x w2 ⟨rfl, b2⟩
      have z2 := b2.size
      have A2 := Lib.hid ((A1.out.below b2 (by omega)).below ((Below.refl _ _).alloc (Nat.le_refl _) (.cells #[.int .u8 (pl : Int), .int .u32 (ps : Int)] 24)) (by omega))
      have B2 := Lib.hid (Box.new (.int .u8 (pl : Int)) (.int .u32 (ps : Int)) 24 w2)
      have L2 := Lib.hid (Below.alloc (Below.trans L1.out (b2.mono L1.out.size)) (by omega) (.cells #[.int .u8 (pl : Int), .int .u32 (ps : Int)] 24))
      clear b2
      go_wp2_with fail
      refine (HRP.out _).mono ?_
      rintro x w3 ⟨rfl, b3⟩
      have z3 := b3.size
      have A3 := Lib.hid (A2.out.below b3 (by simp; omega))
      have B3 := Lib.hid (B2.out.below b3 (by simp))
      have L3 := Lib.hid (Below.trans L2.out (b3.mono (by simp; omega)))
      simp at z3
      clear b3
      have A3' := Lib.hid (A3.out.below ((Below.refl _ _).alloc (Nat.le_refl _) (.cells #[.int .u8 (pl : Int), .int .u32 (ps : Int)] 24)) (by omega))
      have B3' := Lib.hid (B3.out.below ((Below.refl _ _).alloc (Nat.le_refl _) (.cells #[.int .u8 (pl : Int), .int .u32 (ps : Int)] 24)) (by omega))
      have Q3' := Lib.hid (Box.new (.int .u8 (pl : Int)) (.int .u32 (ps : Int)) 24 w3)
      have L3' := Lib.hid (Below.alloc L3.out (by omega) (.cells #[.int .u8 (pl : Int), .int .u32 (ps : Int)] 24))
      have y3 : w.heap.size < w3.heap.size := by omega
      have a3 := A3.out.1
      have a3' := A3.out.2.1
      go_wp2_with fail
      refine (HT.out _ (HP.out.below L3'.out HP0.out)).mono ?_
      rintro x w4 ⟨rfl, b4⟩
      have z4 := b4.size
      have A4 := Lib.hid (A3'.out.below b4 (by simp; omega))
      have B4 := Lib.hid (B3'.out.below b4 (by simp; omega))
      have Q4 := Lib.hid (Q3'.out.below b4 (by simp))
      have L4 := Lib.hid (Below.trans L3'.out (b4.mono (by simp; omega)))
      simp at z4
      clear b4 a3 a3'
      go_wp2_with fail
      refine (HPT.out _).mono ?_
      rintro x w5 ⟨rfl, b5⟩
      have z5 := b5.size
      have A5 := Lib.hid ((A4.out.below b5 (by omega)).below ((Below.refl _ _).alloc (Nat.le_refl _) (.cells #[.int .u8 (tl : Int), .int .u32 (ts : Int)] 24)) (by omega))
      have B5 := Lib.hid ((B4.out.below b5 (by omega)).below ((Below.refl _ _).alloc (Nat.le_refl _) (.cells #[.int .u8 (tl : Int), .int .u32 (ts : Int)] 24)) (by omega))
      have Q5 := Lib.hid ((Q4.out.below b5 (by omega)).below ((Below.refl _ _).alloc (Nat.le_refl _) (.cells #[.int .u8 (tl : Int), .int .u32 (ts : Int)] 24)) (by omega))
      have C5 := Lib.hid (Box.new (.int .u8 (tl : Int)) (.int .u32 (ts : Int)) 24 w5)
      have L5 := Lib.hid (Below.alloc (Below.trans L4.out (b5.mono L4.out.size)) (by omega) (.cells #[.int .u8 (tl : Int), .int .u32 (ts : Int)] 24))
      have y5 : w.heap.size < w5.heap.size := by omega
      have a5 := (A4.out.below b5 (by omega)).1
      have a5' := (A4.out.below b5 (by omega)).2.1
      clear b5
      go_wp2_with fail
      refine (HRT.out _).mono ?_
      rintro x w6 ⟨rfl, b6⟩
      have z6 := b6.size
      have A6 := Lib.hid (A5.out.below b6 (by simp; omega))
      have B6 := Lib.hid (B5.out.below b6 (by simp; omega))
      have Q6 := Lib.hid (Q5.out.below b6 (by simp; omega))
      have C6 := Lib.hid (C5.out.below b6 (by simp))
      have L6 := Lib.hid (Below.trans L5.out (b6.mono (by simp; omega)))
      simp at z6
      clear b6 a5 a5'
      obtain ⟨p0, p1, -⟩ := B6.out
      obtain ⟨r0, r1, -⟩ := Q6.out
      obtain ⟨s0, s1, -⟩ := C6.out
      obtain ⟨t0, t1, -⟩ := A6.out
      go_wp2_with fail
      go_ret
      exact ⟨by first | rfl | simp, L6.out⟩
    · rw [if_neg h15] at hpt
      obtain ⟨rfl, rfl, rfl⟩ : tl = 0 ∧ ts = 0 ∧ tc = 7 := by simpa using hpt
      clear hpt
      have HPT0 := Lib.hid (show ∀ W, Calls Tryd.prog 9 #[.string (ofL T)] W fun e w' => e = .returned (.tuple #[.agg #[.int .u8 0, .int .u32 0], .int .i64 7]) ∧ Below W.heap.size W w' from HPT.out)
      clear HPT
      go_enter Tryd.func3, Tryd.ntmps3
      go_wp2_with fail
      refine (awake_any _).mono ?_
      rintro x w1 ⟨rfl, b1⟩
      have z1 := b1.size
      simp at z1
      have A1 := Lib.hid (X0.out.below b1 (by simp))
      have L1 := Lib.hid (Below.trans ((Below.refl w.heap.size w).alloc (Nat.le_refl _) _) (b1.mono (by simp)))
      clear b1
      go_wp2_with fail
      refine (HPA.out _).mono ?_
      rintro x w2 ⟨rfl, b2⟩
      have z2 := b2.size
      have A2 := Lib.hid ((A1.out.below b2 (by omega)).below ((Below.refl _ _).alloc (Nat.le_refl _) (.cells #[.int .u8 (pl : Int), .int .u32 (ps : Int)] 24)) (by omega))
      have B2 := Lib.hid (Box.new (.int .u8 (pl : Int)) (.int .u32 (ps : Int)) 24 w2)
      have L2 := Lib.hid (Below.alloc (Below.trans L1.out (b2.mono L1.out.size)) (by omega) (.cells #[.int .u8 (pl : Int), .int .u32 (ps : Int)] 24))
      clear b2
      go_wp2_with fail
      refine (HRP.out _).mono ?_
      rintro x w3 ⟨rfl, b3⟩
      have z3 := b3.size
      have A3 := Lib.hid (A2.out.below b3 (by simp; omega))
      have B3 := Lib.hid (B2.out.below b3 (by simp))
      have L3 := Lib.hid (Below.trans L2.out (b3.mono (by simp; omega)))
      simp at z3
      clear b3
      have A3' := Lib.hid (A3.out.below ((Below.refl _ _).alloc (Nat.le_refl _) (.cells #[.int .u8 (pl : Int), .int .u32 (ps : Int)] 24)) (by omega))
      have B3' := Lib.hid (B3.out.below ((Below.refl _ _).alloc (Nat.le_refl _) (.cells #[.int .u8 (pl : Int), .int .u32 (ps : Int)] 24)) (by omega))
      have Q3' := Lib.hid (Box.new (.int .u8 (pl : Int)) (.int .u32 (ps : Int)) 24 w3)
      have L3' := Lib.hid (Below.alloc L3.out (by omega) (.cells #[.int .u8 (pl : Int), .int .u32 (ps : Int)] 24))
      have y3 : w.heap.size < w3.heap.size := by omega
      have a3 := A3.out.1
      have a3' := A3.out.2.1
      go_wp2_with fail
      refine (HT.out _ (HP.out.below L3'.out HP0.out)).mono ?_
      rintro x w4 ⟨rfl, b4⟩
      have z4 := b4.size
      have A4 := Lib.hid (A3'.out.below b4 (by simp; omega))
      have B4 := Lib.hid (B3'.out.below b4 (by simp; omega))
      have Q4 := Lib.hid (Q3'.out.below b4 (by simp))
      have L4 := Lib.hid (Below.trans L3'.out (b4.mono (by simp; omega)))
      simp at z4
      clear b4 a3 a3'
      go_wp2_with fail
      refine (HPT0.out _).mono ?_
      rintro x w5 ⟨rfl, b5⟩
      have z5 := b5.size
      have A5 := Lib.hid ((A4.out.below b5 (by omega)).below ((Below.refl _ _).alloc (Nat.le_refl _) (.cells #[.int .u8 0, .int .u32 0] 24)) (by omega))
      have B5 := Lib.hid ((B4.out.below b5 (by omega)).below ((Below.refl _ _).alloc (Nat.le_refl _) (.cells #[.int .u8 0, .int .u32 0] 24)) (by omega))
      have Q5 := Lib.hid ((Q4.out.below b5 (by omega)).below ((Below.refl _ _).alloc (Nat.le_refl _) (.cells #[.int .u8 0, .int .u32 0] 24)) (by omega))
      have C5 := Lib.hid (Box.new (.int .u8 0) (.int .u32 0) 24 w5)
      have L5 := Lib.hid (Below.alloc (Below.trans L4.out (b5.mono L4.out.size)) (by omega) (.cells #[.int .u8 0, .int .u32 0] 24))
      have y5 : w.heap.size < w5.heap.size := by omega
      have a5 := (A4.out.below b5 (by omega)).1
      have a5' := (A4.out.below b5 (by omega)).2.1
      clear b5
      go_wp2_with fail
      refine (HRT.out _).mono ?_
      rintro x w6 ⟨rfl, b6⟩
      have z6 := b6.size
      have A6 := Lib.hid (A5.out.below b6 (by simp; omega))
      have B6 := Lib.hid (B5.out.below b6 (by simp; omega))
      have Q6 := Lib.hid (Q5.out.below b6 (by simp; omega))
      have C6 := Lib.hid (C5.out.below b6 (by simp))
      have L6 := Lib.hid (Below.trans L5.out (b6.mono (by simp; omega)))
      simp at z6
      clear b6 a5 a5'
      obtain ⟨p0, p1, -⟩ := B6.out
      obtain ⟨r0, r1, -⟩ := Q6.out
      obtain ⟨s0, s1, -⟩ := C6.out
      obtain ⟨t0, t1, -⟩ := A6.out
      go_wp2_with fail
      go_ret
      exact ⟨by first | rfl | simp, L6.out⟩
end Go.Proofs.YtchfddlfpcgbbaaDoor
