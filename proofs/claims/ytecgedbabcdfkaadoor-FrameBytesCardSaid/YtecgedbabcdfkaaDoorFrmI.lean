/-
  THE LAW ON A FRAME's BYTES, walked.
-/
import Derived.Test.YtecgedbabcdfkaaDoorFrmG
import Derived.Test.YtecgedbabcdfkaaDoorShelfRep
import Derived.Deep.RegionWith
import Derived.Deep.DeepCutAuto
namespace Go.Proofs.YtecgedbabcdfkaaDoor
open Go.ChangeShapes Go.WideShapes Go.ChangeAt Go.RowKit

theorem repeat_l (x : List UInt8) (n : Nat) (w : World) (hn : n ≤ 100000) (hx : x.length ≤ 100000) :
    Calls Tryd.prog 11 #[.string (ofL x), .int .i64 (n : Int)] w fun e w' => e = .returned (.string (ofL (Lib.repeatL x n))) ∧ Below w.heap.size w w' := by
  have hz : (ofL x).size = x.length := ofL_size x
  have hm : x.length * n ≤ 100000 * 100000 := Nat.mul_le_mul hx hn
  exact Tryd.strings_Repeat (ofL x) n w (by omega) (by rw [hz]; omega)
theorem parseV_enc (c k : UInt8) (b m : List UInt8) (hb : b.length ≤ 2048) : parseV (Fr.enc c k b ++ m) = .tuple #[.agg #[.int .u8 (c.toNat : Int), .int .u8 (k.toNat : Int), .string (ofL b)], .int .i64 ((b.length + 9 : Nat) : Int), .int .i64 0] := by
  unfold parseV frmV
  rw [if_pos (Fr.enc_code m hb), Fr.enc_len m hb, Fr.enc_body m hb, Fr.enc_0, Fr.enc_1]
/-- the frame in its block, and nothing that was there has changed -/
def FrB (x y z : Value) (w a : World) : Prop := Tri w.heap.size x y z a ∧ Below w.heap.size w a
theorem FrB.on {x y z : Value} {w a a' : World} (h : FrB x y z w a) (hb : Below a.heap.size a a') : FrB x y z w a' := ⟨h.1.on hb h.1.lt, bthen h.2 hb (Nat.le_refl _)⟩
theorem FrB.drew {x y z : Value} {w a : World} (h : FrB x y z w a) : FrB x y z w a.drew := ⟨⟨h.1.c0, h.1.c1, h.1.c2, h.1.fz⟩, h.2.drew⟩
theorem FrB.set2 {x y z : Value} {w a : World} (h : FrB x y z w a) (v : Value) : FrB x y v w (a.setCell ⟨w.heap.size, 2, none⟩ v) := ⟨h.1.set2 v, h.2.setCell (Nat.le_refl _) v⟩
set_option maxRecDepth 100000 in
set_option maxHeartbeats 4000000 in
theorem bytes_walk (c k : UInt8) (b : List UInt8) (more : Nat) (m : List UInt8) (w : World) (hb : b.length ≤ 9223372036854775807) (hm : more < 65536) (hT : Tab w) :
    Calls Tryd.prog 3 #[.agg #[.int .u8 (c.toNat : Int), .int .u8 (k.toNat : Int), .string (ofL b)], .int .u16 (more : Int), .string (ofL m)] w fun e w' => e = .returned (.bool true) ∧ Below w.heap.size w w' := by
  have hz : (ofL b).size = b.length := ofL_size b
  have hzm : (ofL m).size = m.length := ofL_size m
  have HT := Lib.hid (hT.alloc (.cells #[.int .u8 (c.toNat : Int), .int .u8 (k.toNat : Int), .string (ofL b)] 23))
  have HA := Lib.hid (frmAwake_any _ HT.out)
  have X0 := Lib.hid (show FrB (.int .u8 (c.toNat : Int)) (.int .u8 (k.toNat : Int)) (.string (ofL b)) w (w.alloc (.cells #[.int .u8 (c.toNat : Int), .int .u8 (k.toNat : Int), .string (ofL b)] 23)) from ⟨Tri.new w _ _ _ _, (Below.refl _ _).alloc (Nat.le_refl _) _⟩)
  have HTw := Lib.hid hT
  clear hT
  by_cases hl : 300 < b.length
  · go_enter Tryd.func3, Tryd.ntmps3
    go_wp2_with fail
    refine HA.out.mono ?_
    rintro e w1 ⟨rfl, b1⟩
    have B1 := Lib.hid (X0.out.on b1)
    have c2 := B1.out.1.c2
    clear b1
    go_wp2_with fail
    go_ret
    exact ⟨rfl, B1.out.2⟩
  by_cases hl2 : 100 < m.length
  · go_enter Tryd.func3, Tryd.ntmps3
    go_wp2_with fail
    refine HA.out.mono ?_
    rintro e w1 ⟨rfl, b1⟩
    have B1 := Lib.hid (X0.out.on b1)
    have c2 := B1.out.1.c2
    clear b1
    go_wp2_with fail
    go_ret
    exact ⟨rfl, B1.out.2⟩
  by_cases hl3 : 2100 < more
  · go_enter Tryd.func3, Tryd.ntmps3
    go_wp2_with fail
    refine HA.out.mono ?_
    rintro e w1 ⟨rfl, b1⟩
    have B1 := Lib.hid (X0.out.on b1)
    have c2 := B1.out.1.c2
    clear b1
    go_wp2_with fail
    go_ret
    exact ⟨rfl, B1.out.2⟩
  have hrl : (Lib.repeatL [97] more).length = more := by rw [Lib.repeatL_length]; simp
  have HRp := Lib.hid (fun W => repeat_l [97] more W (by omega) (by simp))
  rw [show ofL [97] = ⟨#[97]⟩ from rfl] at HRp
  have hcat : ofL b ++ ofL (Lib.repeatL [97] more) = ofL (b ++ Lib.repeatL [97] more) := ofL_app _ _
  have hz2 : (ofL (Lib.repeatL [97] more)).size = more := by rw [ofL_size, hrl]
  have hzB : (ofL (b ++ Lib.repeatL [97] more)).size = b.length + more := by rw [ofL_size, List.length_append, hrl]
  have HB1 := Lib.hid (fun W h => fbytes_any c k (b ++ Lib.repeatL [97] more) W (by rw [List.length_append, hrl]; omega) h)
  have hBl : (b ++ Lib.repeatL [97] more).length = b.length + more := by rw [List.length_append, hrl]
  generalize hB : b ++ Lib.repeatL [97] more = B at *
  generalize Lib.repeatL [97] more = R at *
  have HCAT := Lib.hid hcat
  have HBL := Lib.hid hBl
  have n1 : ¬ 9223372036854775807 < b.length + more := by omega
  clear hB hrl hcat hBl
  go_enter Tryd.func3, Tryd.ntmps3
  go_wp2_with fail
  refine HA.out.mono ?_
  rintro e w1 ⟨rfl, b1⟩
  have X1 := Lib.hid (X0.out.on b1)
  have HT1 := Lib.hid (HT.out.below b1 HT.out.pos)
  have c2 := X1.out.1.c2
  clear b1
  go_upto_region 5 with fail
  go_cut [6] (fun s6 wx => s6 = .bool false ∧ FrB (.int .u8 (c.toNat : Int)) (.int .u8 (k.toNat : Int)) (.string (ofL B)) w wx)
  case first =>
    have lt1 := X1.out.1.lt
    have f2 := X1.out.1.fz 2
    have hwm : IntKind.i64.wrap (more : Int) = (more : Int) := by rw [IntKind.wrap_i64]; omega
    go_region_with (first | (go_at_call 11; ((with_reducible refine (HRp.out _).mono ?_); rintro e' wa ⟨rfl, hb2⟩); have Xa := X1.out.drew.on hb2; have q2 := Xa.1.c2; have g2 := Xa.1.fz 2; have XA := Lib.hid Xa; clear Xa))
    all_goals
      go_wp2_with fail
      go_meet
      refine ⟨rfl, ?_⟩
      rw [← HCAT.out]
      exact XA.out.set2 _
  case rest =>
    obtain ⟨rfl, hF⟩ := hcut
    have X2 := Lib.hid hF
    have c0 := hF.1.c0
    have c1 := hF.1.c1
    have c2 := hF.1.c2
    have hT2 : Tab wc := HTw.out.below hF.2 HTw.out.pos
    have HT2 := Lib.hid hT2
    clear hF hT2
    by_cases hlong : 2048 < b.length + more
    · have hv : bytesV c k B = .tuple #[.string ⟨#[]⟩, .int .i64 5] := if_neg (by rw [HBL.out]; omega)
      rw [hv] at HB1
      clear hv
      go_wp2_with fail
      refine (HB1.out _ HT2.out).mono ?_
      rintro e w2 ⟨rfl, b2⟩
      have X3 := X2.out.on b2
      clear c0 c1 c2 b2
      have c2 := X3.1.c2
      have XX := Lib.hid X3
      clear X3
      go_wp2_with fail
      go_ret
      exact ⟨rfl, XX.out.2⟩
    · have hv : bytesV c k B = .tuple #[.string (ofL (Fr.enc c k B)), .int .i64 0] := if_pos (by rw [HBL.out]; omega)
      rw [hv] at HB1
      have hBle : B.length ≤ 2048 := by rw [HBL.out]; omega
      have HPa := Lib.hid (fun W h => fparse_any (Fr.enc c k B ++ m) W (by rw [List.length_append, Fr.enc_length]; omega) h)
      rw [parseV_enc c k B m hBle] at HPa
      have HRB := Lib.hid (fun W => rbytes_any c k B W hBle)
      have hel := Fr.enc_length c k B
      have hez : (ofL (Fr.enc c k B)).size = b.length + more + 9 := by rw [ofL_size, hel, HBL.out]
      have hap : ofL (Fr.enc c k B) ++ ofL m = ofL (Fr.enc c k B ++ m) := ofL_app _ _
      have HSm := Lib.hid (fun W => fsame_any (c.toNat : Int) (k.toNat : Int) (ofL B) (c.toNat : Int) (k.toNat : Int) (ofL B) W)
      rw [frmEq_self] at HSm
      rw [HBL.out] at HPa
      generalize Fr.enc c k B ++ m = F at *
      generalize Fr.enc c k B = E at *
      generalize c.toNat = cn at *
      generalize k.toNat = kn at *
      clear hv hel hBle
      go_wp2_with fail
      refine (HB1.out _ HT2.out).mono ?_
      rintro e w2 ⟨rfl, b2⟩
      have X3 := X2.out.on b2
      have HT3 := Lib.hid (HT2.out.below b2 HT2.out.pos)
      clear c0 c1 c2 b2
      have c2 := X3.1.c2
      have X3H := Lib.hid X3
      clear X3
      go_wp2_with fail
      refine (HPa.out _ HT3.out).mono ?_
      rintro e w3 ⟨rfl, b3⟩
      have X4 := X3H.out.on b3
      have hgB : Below w3.heap.size w3 (w3.alloc (.cells #[.int .u8 (cn : Int), .int .u8 (kn : Int), .string (ofL B)] 23)) := (Below.refl _ _).alloc (Nat.le_refl _) _
      have Y := Lib.hid (Tri.new w3 (.int .u8 (cn : Int)) (.int .u8 (kn : Int)) (.string (ofL B)) 23)
      have X5 := Lib.hid (X4.on hgB)
      have hlt := X4.1.lt
      clear b3 c2 X4 hgB
      have c0 := X5.out.1.c0
      have c1 := X5.out.1.c1
      have c2 := X5.out.1.c2
      go_wp2_with fail
      refine (HRB.out _).mono ?_
      rintro e w4 ⟨rfl, b4⟩
      have X6 := Lib.hid (X5.out.on b4)
      have Y6 := Lib.hid (Y.out.on b4 Y.out.lt)
      clear b4 c0 c1 c2
      have c0 := X6.out.1.c0
      have c1 := X6.out.1.c1
      have c2 := X6.out.1.c2
      have d0 := Y6.out.c0
      have d1 := Y6.out.c1
      have d2 := Y6.out.c2
      go_wp2_with fail
      refine (HSm.out _).mono ?_
      rintro e w5 ⟨rfl, b5⟩
      have X7 := Lib.hid (X6.out.on b5)
      clear b5 c0 c1 c2 d0 d1 d2
      go_wp2_with fail
      go_ret
      exact ⟨rfl, X7.out.2⟩
end Go.Proofs.YtecgedbabcdfkaaDoor
