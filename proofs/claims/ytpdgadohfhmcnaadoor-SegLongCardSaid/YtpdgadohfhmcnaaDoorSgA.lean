/-
  A RECORD AS IT STANDS, walked.
-/
import Derived.Test.YtpdgadohfhmcnaaDoorSgMath
import Derived.Test.YtpdgadohfhmcnaaDoorSgCrc
import Derived.Test.YtpdgadohfhmcnaaDoorOct3
import Derived.Test.YtpdgadohfhmcnaaDoorOctL
import Derived.Lib.Hide
import Derived.Lib.BufferWrite
import Derived.Deep.RegionHeld3
import Derived.Deep.DeepCutAuto
namespace Go.Proofs.YtpdgadohfhmcnaaDoor
open Go.ChangeShapes Go.WideShapes Go.ChangeAt Go.RowKit

theorem sgCheck_any (n : Nat) (w : World) : Calls Tryd.prog 21 #[.int .u64 (n : Int)] w fun e w' => e = .returned (.int .i64 ((if n = 0 then 15 else if 131072 < n then 5 else 0 : Nat) : Int)) ∧ w = w' := by
  by_cases h0 : n = 0
  · subst h0
    rw [if_pos rfl]
    go_enter Tryd.func21, Tryd.ntmps21
    go_wp2_with fail
    go_ret
    exact ⟨rfl, rfl⟩
  · rw [if_neg h0]
    have b0 : ((n : Int) == 0) = false := by simp; omega
    by_cases h1 : 131072 < n
    · rw [if_pos h1]
      have b1 : decide ((n : Int) > 131072) = true := decide_eq_true (by omega)
      clear h0 h1
      go_enter Tryd.func21, Tryd.ntmps21
      go_wp2_with fail
      go_ret
      exact ⟨rfl, rfl⟩
    · rw [if_neg h1]
      have b1 : decide ((n : Int) > 131072) = false := decide_eq_false (by omega)
      clear h0 h1
      go_enter Tryd.func21, Tryd.ntmps21
      go_wp2_with fail
      go_ret
      exact ⟨rfl, rfl⟩
theorem sgSize_any (r : List UInt8) (w : World) (hr : r.length ≤ 1000000) : Calls Tryd.prog 12 #[.string (ofL r)] w fun e w' => e = .returned (.int .i64 ((r.length + 9 : Nat) : Int)) ∧ w = w' := by
  have hz : (ofL r).size = r.length := ofL_size r
  have e1 : IntKind.i64.wrap (4 + (r.length : Int)) = (r.length : Int) + 4 := by rw [IntKind.wrap_i64]; omega
  have e2 : IntKind.i64.wrap ((r.length : Int) + 4 + 4) = (r.length : Int) + 8 := by rw [IntKind.wrap_i64]; omega
  have e3 : IntKind.i64.wrap ((r.length : Int) + 8 + 1) = ((r.length + 9 : Nat) : Int) := by rw [IntKind.wrap_i64]; omega
  generalize hN : ((r.length + 9 : Nat) : Int) = N at *
  clear hN
  go_enter Tryd.func12, Tryd.ntmps12
  go_wp2_with fail
  go_ret
  exact ⟨rfl, rfl⟩
theorem sum_lB (x : List UInt8) (b c : Nat) (w : World) (hx : x.length ≤ 1000000) (hT : Tab w) (h0 : w.cell? ⟨b, 0, none⟩ = some (.string (ofL x))) :
    Calls Tryd.prog 31 #[.slice (some ⟨b, 0, none⟩) 1 c] w fun e w' => e = .returned (.int .u32 ((Crc.sum x : Nat) : Int)) ∧ w = w' := sum_oneB (ofL x) b c w (by rw [ofL_size]; exact hx) hT h0
set_option maxHeartbeats 4000000 in
theorem sgStand_any (r : List UInt8) (w : World) (hr : r.length ≤ 200000) (hT : Tab w) :
    Calls Tryd.prog 23 #[.string (ofL r)] w fun e w' => e = .returned (.string (ofL (Sg.enc r))) ∧ Below w.heap.size w w' := by
  have hz : (ofL r).size = r.length := ofL_size r
  have hcv : IntKind.u64.wrap (r.length : Int) = (r.length : Int) := by rw [IntKind.wrap_u64]; omega
  have H1 := Lib.hid (fun W => num_l [] r.length 4 4 W (by omega) (by omega) rfl (by simp))
  rw [List.nil_append, show ofL [] = ⟨#[]⟩ from rfl] at H1
  have H2 := Lib.hid (fun W => raw_l (Oct.be 4 r.length) r W (by rw [Oct.length_be]; omega) (by omega))
  rw [show Oct.be 4 r.length ++ r = Sg.ahead r from rfl] at H2
  have hal := Sg.ahead_len r
  have H3 := Lib.hid (fun W => str_any (ofL (Sg.ahead r)) 0 W)
  have H4 := Lib.hid (fun W g => sum_lB (Sg.ahead r) g 1 W (by omega))
  have hs := Crc.sum_lt (Sg.ahead r)
  have H5 := Lib.hid (fun W => num_l (Sg.ahead r) (Crc.sum (Sg.ahead r)) 4 4 W (by omega) (by omega) rfl (by omega))
  have H6 := Lib.hid (fun W => num_l (Sg.ahead r ++ Oct.be 4 (Crc.sum (Sg.ahead r))) 165 1 1 W (by omega) (by omega) rfl (by rw [List.length_append, Oct.length_be]; omega))
  have ee : Sg.ahead r ++ Oct.be 4 (Crc.sum (Sg.ahead r)) ++ Oct.be 1 165 = Sg.enc r := by unfold Sg.enc; rw [List.append_assoc]; rfl
  rw [ee] at H6
  have H7 := Lib.hid (fun W => str_any (ofL (Sg.enc r)) 0 W)
  have hcs : IntKind.u64.wrap ((Crc.sum (Sg.ahead r) : Nat) : Int) = ((Crc.sum (Sg.ahead r) : Nat) : Int) := by rw [IntKind.wrap_u64]; omega
  clear ee hal hr
  generalize Sg.ahead r ++ Oct.be 4 (Crc.sum (Sg.ahead r)) = A2 at *
  generalize Crc.sum (Sg.ahead r) = S at *
  generalize Sg.ahead r = A1 at *
  generalize Sg.enc r = E at *
  generalize Oct.be 4 r.length = L4 at *
  have HT := Lib.hid hT
  clear hT
  go_enter Tryd.func23, Tryd.ntmps23
  go_wp2_with fail
  refine (H1.out _).mono ?_
  rintro x w1 ⟨rfl, b1⟩
  have B1 := Lib.hid b1
  clear b1
  go_wp2_with fail
  refine (H2.out _).mono ?_
  rintro x w2 ⟨rfl, b2⟩
  have B2 := Lib.hid (bthen B1.out b2 (Nat.le_refl _))
  clear b2
  go_upto_region 2 with fail
  have B3 := Lib.hid (B2.out.alloc B2.out.size (.cells #[.string (ofL A1), .int .i64 0] 64))
  have HT3 := Lib.hid (HT.out.below B3.out HT.out.pos)
  have hb : (w2.alloc (.cells #[.string (ofL A1), .int .i64 0] 64)).heap[w2.heap.size]? = some (.cells #[.string (ofL A1), .int .i64 0] 64 (0, 0)) := heap_alloc_new w2 _
  have HBK := Lib.hid hb
  generalize w2.alloc (.cells #[.string (ofL A1), .int .i64 0] 64) = W at *
  have HGE := Lib.hid B2.out.size
  generalize w2.heap.size = bo at *
  have c0 : W.cell? ⟨bo, 0, none⟩ = some (.string (ofL A1)) := by rw [Lib.cell_of_heap hb]; rfl
  have c1 : W.cell? ⟨bo, 1, none⟩ = some (.int .i64 0) := by rw [Lib.cell_of_heap hb]; rfl
  have hlt := (Array.getElem?_eq_some_iff.1 hb).1
  clear hb
  go_region_with (first
    | (go_at_call 36; refine (H3.out _).mono ?_; rintro x w3 ⟨rfl, b3⟩; have B4 := Lib.hid (bthen B3.out.drew b3 (Nat.le_refl _)); have HT4 := Lib.hid (HT.out.below B4.out HT.out.pos); have d0 := (b3.cell (p := ⟨bo, 0, none⟩) hlt).trans c0; have d1 := (b3.cell (p := ⟨bo, 1, none⟩) hlt).trans c1; have HK4 := Lib.hid ((b3.block bo hlt).trans HBK.out); have hlt3 := Nat.lt_of_lt_of_le hlt b3.size; clear b3)
    | (go_at_call 31; refine (H4.out _ _ (HT4.out.alloc _) (by simp)).mono ?_; rintro x w5 ⟨rfl, rfl⟩; have B5 := Lib.hid (B4.out.alloc B4.out.size (.cells #[.string (ofL A1)] 9)); have HK5 := Lib.hid ((Below.heap_alloc w3 (.cells #[.string (ofL A1)] 9) bo hlt3).trans HK4.out))
    | (go_at_call 34; refine (H5.out _).mono ?_; rintro x w6 ⟨rfl, b6⟩; have B6 := Lib.hid (bthen B5.out b6 (Nat.le_refl _)); have HK6 := Lib.hid ((b6.block bo (Array.getElem?_eq_some_iff.1 HK5.out).1).trans HK5.out); have e0 : w6.cell? ⟨bo, 0, none⟩ = some (.string (ofL A1)) := (by rw [Lib.cell_of_heap HK6.out]; rfl); have e1 : w6.cell? ⟨bo, 1, none⟩ = some (.int .i64 0) := (by rw [Lib.cell_of_heap HK6.out]; rfl); have f0 := Lib.frozen_of_heap HK6.out 0; have f1 := Lib.frozen_of_heap HK6.out 1; have hlt6 := (Array.getElem?_eq_some_iff.1 HK6.out).1; clear b6))
  all_goals
    have K7 := Lib.hid (Lib.heap_setCell_same (i := 1) (Lib.heap_setCell_same (i := 0) HK6.out (.string (ofL A2))) (.int .i64 0))
    have B7 := Lib.hid (((B6.out.setCell (p := ⟨bo, 0, none⟩) HGE.out (.string (ofL A2))).setCell (p := ⟨bo, 1, none⟩) HGE.out (.int .i64 0)))
    clear e0 e1 f0 f1 hlt6
    generalize (w6.setCell ⟨bo, 0, none⟩ (.string (ofL A2))).setCell ⟨bo, 1, none⟩ (.int .i64 0) = W7 at *
    have g0 : W7.cell? ⟨bo, 0, none⟩ = some (.string (ofL A2)) := by rw [Lib.cell_of_heap K7.out]; rfl
    have g1 : W7.cell? ⟨bo, 1, none⟩ = some (.int .i64 0) := by rw [Lib.cell_of_heap K7.out]; rfl
    go_wp2_with fail
    refine (H6.out _).mono ?_
    rintro x w8 ⟨rfl, b8⟩
    have B8 := Lib.hid (bthen B7.out b8 (Nat.le_refl _))
    clear b8
    go_wp2_with fail
    refine (H7.out _).mono ?_
    rintro x w9 ⟨rfl, b9⟩
    have B9 := Lib.hid (bthen B8.out b9 (Nat.le_refl _))
    clear b9
    go_wp2_with fail
    go_ret
    exact ⟨rfl, B9.out⟩
end Go.Proofs.YtpdgadohfhmcnaaDoor
