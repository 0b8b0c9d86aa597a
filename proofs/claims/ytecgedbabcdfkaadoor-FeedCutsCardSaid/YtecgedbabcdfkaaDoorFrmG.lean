/-
  FRAMES HELD AGAINST EACH OTHER; the chapter's example; the laws on what is read, what is missing, what is turned: walked.
-/
import Derived.Test.YtecgedbabcdfkaaDoorFrmF
import Derived.Laws.StructEq
import Derived.Laws.IdiomStrings
namespace Go.Proofs.YtecgedbabcdfkaaDoor
open Go.ChangeShapes Go.WideShapes Go.ChangeAt Go.RowKit

theorem guardF : Tryd.prog.eqGuardType Tryd.prog.depth 23 = false := by kernel_rfl
theorem stoodF : Tryd.prog.stoodInHeld 23 = false := by kernel_rfl
theorem fieldsF : Tryd.prog.fieldsOf 23 = #[⟨"Channel", 5, 0, false, "", "", 0⟩, ⟨"Kind", 5, 1, false, "", "", 1⟩, ⟨"Body", 9, 2, false, "", "", 8⟩] := by kernel_rfl
theorem guardRF : Tryd.prog.eqGuardType Tryd.prog.depth 33 = false := by kernel_rfl
theorem stoodRF : Tryd.prog.stoodInHeld 33 = false := by kernel_rfl
theorem fieldsRF : Tryd.prog.fieldsOf 33 = #[⟨"Channel", 5, 0, false, "", "", 0⟩, ⟨"Kind", 5, 1, false, "", "", 1⟩, ⟨"Body", 9, 2, false, "", "", 8⟩] := by kernel_rfl
def frmEq (a b : Int) (x : ByteArray) (c d : Int) (y : ByteArray) : Bool := (a == c) && (b == d) && (x.toList == y.toList)
theorem frm_eql (a b : Int) (x : ByteArray) (c d : Int) (y : ByteArray) (W : World) : (Op.equalIn 10000 23 (.agg #[.int .u8 a, .int .u8 b, .string x]) (.agg #[.int .u8 c, .int .u8 d, .string y])).run Tryd.prog W = .ok (frmEq a b x c d y) W := by
  rw [run_equalIn_agg (ht := by kernel_rfl) (hp := stoodF), fieldsF]
  simp [Op.eqFields, go_sem, Tryd.underlying5, Tryd.underlying9, frmEq]
  by_cases h1 : a = c <;> by_cases h2 : b = d <;> by_cases h3 : x.toList = y.toList <;> simp [h1, h2, h3]
theorem rfrm_eql (a b : Int) (x : ByteArray) (c d : Int) (y : ByteArray) (W : World) : (Op.equalIn 10000 33 (.agg #[.int .u8 a, .int .u8 b, .string x]) (.agg #[.int .u8 c, .int .u8 d, .string y])).run Tryd.prog W = .ok (frmEq a b x c d y) W := by
  rw [run_equalIn_agg (ht := by kernel_rfl) (hp := stoodRF), fieldsRF]
  simp [Op.eqFields, go_sem, Tryd.underlying5, Tryd.underlying9, frmEq]
  by_cases h1 : a = c <;> by_cases h2 : b = d <;> by_cases h3 : x.toList = y.toList <;> simp [h1, h2, h3]
theorem frmEq_self (a b : Int) (x : ByteArray) : frmEq a b x a b x = true := by simp [frmEq]
attribute [local go_sem ↓] frm_eql rfrm_eql
attribute [local go_sem] guardF guardRF

theorem fsame_any (a b : Int) (x : ByteArray) (c d : Int) (y : ByteArray) (w : World) :
    Calls Tryd.prog 15 #[.agg #[.int .u8 a, .int .u8 b, .string x], .agg #[.int .u8 c, .int .u8 d, .string y]] w fun e w' => e = .returned (.bool (frmEq a b x c d y)) ∧ Below w.heap.size w w' := by
  go_enter Tryd.func15, Tryd.ntmps15
  go_wp2_with fail
  go_ret
  exact ⟨rfl, ((Below.refl _ _).alloc (Nat.le_refl _) _).alloc (by simp) _⟩
theorem law1Awake_any (w : World) : Calls Tryd.prog 26 #[] w fun e w' => e = .returned (.bool true) ∧ Below w.heap.size w w' := by
  have H := Lib.hid (octAwake_any w)
  go_enter Tryd.func26, Tryd.ntmps26
  go_wp2_with fail
  refine H.out.mono ?_
  rintro e w1 ⟨rfl, hb⟩
  go_wp2_with fail
  go_ret
  exact ⟨rfl, hb⟩
theorem law2Awake_any (w : World) (hT : Tab w) : Calls Tryd.prog 27 #[] w fun e w' => e = .returned (.bool true) ∧ Below w.heap.size w w' := by
  have H := Lib.hid (crcAwake_any w hT)
  clear hT
  go_enter Tryd.func27, Tryd.ntmps27
  go_wp2_with fail
  refine H.out.mono ?_
  rintro e w1 ⟨rfl, hb⟩
  go_wp2_with fail
  go_ret
  exact ⟨rfl, hb⟩
set_option maxHeartbeats 1000000 in
theorem frmAwake_any (w : World) (hT : Tab w) : Calls Tryd.prog 10 #[] w fun e w' => e = .returned (.bool true) ∧ Below w.heap.size w w' := by
  have H1 := Lib.hid (fun W h => fbytes_any 1 2 [] W (by decide) h)
  have hv : bytesV 1 2 [] = .tuple #[.string (ofL (Fr.enc 1 2 [])), .int .i64 0] := if_pos (by decide)
  rw [hv, show (((1 : UInt8).toNat : Nat) : Int) = 1 from rfl, show (((2 : UInt8).toNat : Nat) : Int) = 2 from rfl, show ofL [] = ⟨#[]⟩ from rfl] at H1
  have hl : (Fr.enc 1 2 []).length = 9 := Fr.enc_length 1 2 []
  have h8 : (Fr.enc 1 2 []).getD 8 0 = 206 := by
    rw [Fr.enc_form0]
    exact Fr.form_end (Oct.length_be _ _)
  have hx := fun W => idx_l (P := Tryd.prog) Tryd.underlying9 (Fr.enc 1 2 []) .i64 8 8 rfl (by omega) W
  rw [h8, show (((206 : UInt8).toNat : Nat) : Int) = 206 from rfl] at hx
  have hz : (ofL (Fr.enc 1 2 [])).size = 9 := by rw [ofL_size]; exact hl
  generalize Fr.enc 1 2 [] = E at *
  have HT := Lib.hid hT
  clear hv hl h8 hT
  go_enter Tryd.func10, Tryd.ntmps10
  go_wp2_with fail
  refine (H1.out _ HT.out).mono ?_
  rintro e w1 ⟨rfl, b1⟩
  have HT1 := Lib.hid (HT.out.below b1 HT.out.pos)
  have B1 := Lib.hid b1
  clear b1
  go_wp2_with fail
  refine (law1Awake_any _).mono ?_
  rintro e w2 ⟨rfl, b2⟩
  have HT2 := Lib.hid (HT1.out.below b2 HT1.out.pos)
  have B2 := Lib.hid (bthen B1.out b2 (Nat.le_refl _))
  clear b2
  go_wp2_with fail
  refine (law2Awake_any _ HT2.out).mono ?_
  rintro e w3 ⟨rfl, b3⟩
  have B3 := Lib.hid (bthen B2.out b3 (Nat.le_refl _))
  clear b3
  go_wp2_with fail
  go_ret
  exact ⟨rfl, B3.out⟩
/-- what an answer is -/
theorem parseV_form (l : List UInt8) : ∃ (a b n e : Int) (x : ByteArray), parseV l = .tuple #[.agg #[.int .u8 a, .int .u8 b, .string x], .int .i64 n, .int .i64 e] := by
  unfold parseV
  split
  · exact ⟨_, _, _, _, _, rfl⟩
  · exact ⟨_, _, _, _, _, rfl⟩

set_option maxHeartbeats 2000000 in
theorem parses_walk (l : List UInt8) (w : World) (hT : Tab w) :
    Calls Tryd.prog 4 #[.string (ofL l)] w fun e w' => e = .returned (.bool true) ∧ Below w.heap.size w w' := by
  have hz : (ofL l).size = l.length := ofL_size l
  have HT := Lib.hid hT
  have HA := Lib.hid (frmAwake_any w hT)
  clear hT
  by_cases hl : 1500 < l.length
  · go_enter Tryd.func4, Tryd.ntmps4
    go_wp2_with fail
    refine HA.out.mono ?_
    rintro e w1 ⟨rfl, b1⟩
    have B1 := Lib.hid b1
    clear b1
    go_wp2_with fail
    go_ret
    exact ⟨rfl, B1.out⟩
  · have H1 := Lib.hid (fun W h => fparse_any l W (by omega) h)
    have H2 := Lib.hid (fun W => rparse_any l W (by omega))
    obtain ⟨a, b, n, e, x, hv⟩ := parseV_form l
    rw [hv] at H1 H2
    clear hv
    have hs := frmEq_self a b x
    go_enter Tryd.func4, Tryd.ntmps4
    go_wp2_with fail
    refine HA.out.mono ?_
    rintro e w1 ⟨rfl, b1⟩
    have HT1 := Lib.hid (HT.out.below b1 HT.out.pos)
    have B1 := Lib.hid b1
    clear b1
    go_wp2_with fail
    refine (H1.out _ HT1.out).mono ?_
    rintro e w2 ⟨rfl, b2⟩
    have X2 := Lib.hid (Tri.new w2 (.int .u8 a) (.int .u8 b) (.string x) 23)
    have B2 := Lib.hid ((bthen B1.out b2 (Nat.le_refl _)).alloc (Nat.le_trans B1.out.size b2.size) (.cells #[.int .u8 a, .int .u8 b, .string x] 23))
    clear b2
    go_wp2_with fail
    refine (H2.out _).mono ?_
    rintro e w3 ⟨rfl, b3⟩
    have X3 := X2.out.on b3 X2.out.lt
    have lt3 := X3.lt
    have c0 := X3.c0
    have c1 := X3.c1
    have c2 := X3.c2
    have B3 := Lib.hid (bthen B2.out b3 (Nat.le_refl _))
    have HX := Lib.hid X3
    clear b3 X3
    go_wp2_with fail
    go_ret
    exact ⟨rfl, B3.out.alloc B3.out.size _⟩
theorem parseV_3 {l : List UInt8} {c : Nat} (h : Fr.code l = c) (h0 : c ≠ 0) : parseV l = .tuple #[.agg #[.int .u8 0, .int .u8 0, .string ⟨#[]⟩], .int .i64 0, .int .i64 (c : Int)] := by
  unfold parseV
  rw [if_neg (by omega), h]
  rfl
set_option maxHeartbeats 2000000 in
theorem short_walk (c k : UInt8) (b : List UInt8) (cut : Nat) (w : World) (hb : b.length ≤ 9223372036854775807) (hcut : cut < 65536) (hT : Tab w) :
    Calls Tryd.prog 5 #[.agg #[.int .u8 (c.toNat : Int), .int .u8 (k.toNat : Int), .string (ofL b)], .int .u16 (cut : Int)] w fun e w' => e = .returned (.bool true) ∧ Below w.heap.size w w' := by
  have hz : (ofL b).size = b.length := ofL_size b
  have HT := Lib.hid (hT.alloc (.cells #[.int .u8 (c.toNat : Int), .int .u8 (k.toNat : Int), .string (ofL b)] 23))
  have HA := Lib.hid (frmAwake_any _ HT.out)
  have X0 := Lib.hid (Tri.new w (.int .u8 (c.toNat : Int)) (.int .u8 (k.toNat : Int)) (.string (ofL b)) 23)
  have hB0 : Below w.heap.size w (w.alloc (.cells #[.int .u8 (c.toNat : Int), .int .u8 (k.toNat : Int), .string (ofL b)] 23)) := (Below.refl _ _).alloc (Nat.le_refl _) _
  have B0 := Lib.hid hB0
  clear hT hB0
  by_cases hl : 300 < b.length
  · go_enter Tryd.func5, Tryd.ntmps5
    go_wp2_with fail
    refine HA.out.mono ?_
    rintro e w1 ⟨rfl, b1⟩
    have B1 := Lib.hid (bthen B0.out b1 (Nat.le_refl _))
    have c2 := (X0.out.on b1 X0.out.lt).c2
    clear b1
    go_wp2_with fail
    go_ret
    exact ⟨rfl, B1.out⟩
  · have H1 := Lib.hid (fun W h => fbytes_any c k b W (by omega) h)
    have hv : bytesV c k b = .tuple #[.string (ofL (Fr.enc c k b)), .int .i64 0] := if_pos (by omega)
    rw [hv] at H1
    have hel := Fr.enc_length c k b
    have hez : (ofL (Fr.enc c k b)).size = b.length + 9 := by rw [ofL_size]; exact hel
    obtain ⟨K, hK, hKl⟩ : ∃ K : Nat, (cut : Int) % ((b.length : Int) + 9) = (K : Int) ∧ K < b.length + 9 := ⟨cut % (b.length + 9), by rw [Int.natCast_emod, Int.natCast_add]; rfl, Nat.mod_lt _ (by omega)⟩
    have hsl := fun W => slice_to_l (P := Tryd.prog) Tryd.underlying9 (Fr.enc c k b) .i64 (K : Int) K rfl (by omega) W
    have hc3 := Fr.short (c := c) (k := k) (b := b) (j := K) (by omega) (by omega)
    have hv3 := parseV_3 hc3 (by decide)
    have H2 := Lib.hid (fun W h => fparse_any ((Fr.enc c k b).take K) W (by rw [List.length_take]; omega) h)
    rw [hv3] at H2
    have hs := frmEq_self 0 0 ⟨#[]⟩
    have HSm := Lib.hid (fun W => fsame_any 0 0 ⟨#[]⟩ 0 0 ⟨#[]⟩ W)
    rw [hs] at HSm
    generalize (Fr.enc c k b).take K = F at *
    generalize Fr.enc c k b = E at *
    generalize c.toNat = cn at *
    generalize k.toNat = kn at *
    clear hv hel hc3 hv3 hs
    go_enter Tryd.func5, Tryd.ntmps5
    go_wp2_with fail
    refine HA.out.mono ?_
    rintro e w1 ⟨rfl, b1⟩
    have B1 := Lib.hid (bthen B0.out b1 (Nat.le_refl _))
    have HT1 := Lib.hid (HT.out.below b1 HT.out.pos)
    have X1 := X0.out.on b1 X0.out.lt
    have c0 := X1.c0
    have c1 := X1.c1
    have c2 := X1.c2
    have HX1 := Lib.hid X1
    clear b1 X1
    go_wp2_with fail
    refine (H1.out _ HT1.out).mono ?_
    rintro e w2 ⟨rfl, b2⟩
    have B2 := Lib.hid (bthen B1.out b2 (Nat.le_refl _))
    have HT2 := Lib.hid (HT1.out.below b2 HT1.out.pos)
    clear b2 c0 c1 c2
    go_wp2_with fail
    refine (H2.out _ HT2.out).mono ?_
    rintro e w3 ⟨rfl, b3⟩
    have B3 := Lib.hid ((bthen B2.out b3 (Nat.le_refl _)).alloc (Nat.le_trans B2.out.size b3.size) (.cells #[.int .u8 0, .int .u8 0, .string ⟨#[]⟩] 23))
    clear b3
    go_wp2_with fail
    refine (HSm.out _).mono ?_
    rintro e w4 ⟨rfl, b4⟩
    have B4 := Lib.hid (bthen B3.out b4 (Nat.le_refl _))
    clear b4
    go_wp2_with fail
    go_ret
    exact ⟨rfl, B4.out⟩
end Go.Proofs.YtecgedbabcdfkaaDoor
