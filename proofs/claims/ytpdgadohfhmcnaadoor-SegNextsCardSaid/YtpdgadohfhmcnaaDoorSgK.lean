/-
  THE DOCUMENT's OWN RECORDS: One; Next.
-/
import Derived.Test.YtpdgadohfhmcnaaDoorSgG
import Derived.Test.YtpdgadohfhmcnaaDoorOctR
namespace Go.Proofs.YtpdgadohfhmcnaaDoor
open Go.ChangeShapes Go.WideShapes Go.ChangeAt Go.RowKit

theorem sgRnum_l (n k : Nat) (b : Int) (w : World) (hn : n < 18446744073709551616) (hk : k ≤ 8) (hb : b = (k : Int)) :
    Calls Tryd.prog 37 #[.int .u64 (n : Int), .int .i64 b] w fun x w' => x = .returned (.string (ofL (Oct.be k n))) ∧ Below w.heap.size w w' := by
  subst hb
  have h := rnum_any (k : Int) n w hn
  rw [Oct.width_num k hk] at h
  exact h
theorem sgRsum_l (s : List UInt8) (w : World) (hs : s.length ≤ 1000000) :
    Calls Tryd.prog 38 #[.string (ofL s)] w fun e w' => e = .returned (.int .u32 ((Crc.sum s : Nat) : Int)) ∧ w = w' := by
  have h := rsum_anyB (ofL s) w (by rw [ofL_size]; exact hs)
  rw [toList_ofL] at h
  exact h
set_option maxHeartbeats 2000000 in
theorem r16One_any (r : List UInt8) (w : World) (hr : r.length ≤ 200000) : Calls Tryd.prog 25 #[.string (ofL r)] w fun e w' => e = .returned (.string (ofL (Sg.enc r))) ∧ Below w.heap.size w w' := by
  have hz : (ofL r).size = r.length := ofL_size r
  have hcv : IntKind.u64.wrap (r.length : Int) = (r.length : Int) := by rw [IntKind.wrap_u64]; omega
  have H1 := Lib.hid (fun W => sgRnum_l r.length 4 4 W (by omega) (by omega) rfl)
  have ha : ofL (Oct.be 4 r.length) ++ ofL r = ofL (Sg.ahead r) := by rw [ofL_app]; rfl
  have H2 := Lib.hid (fun W => sgRsum_l (Sg.ahead r) W (by rw [Sg.ahead_len]; omega))
  have hs := Crc.sum_lt (Sg.ahead r)
  have hcw : IntKind.u64.wrap ((Crc.sum (Sg.ahead r) : Nat) : Int) = ((Crc.sum (Sg.ahead r) : Nat) : Int) := by rw [IntKind.wrap_u64]; omega
  have H3 := Lib.hid (fun W => sgRnum_l (Crc.sum (Sg.ahead r)) 4 4 W (by omega) (by omega) rfl)
  have he : ofL (Sg.ahead r) ++ ofL (Oct.be 4 (Crc.sum (Sg.ahead r))) ++ (⟨#[165]⟩ : ByteArray) = ofL (Sg.enc r) := by
    rw [ofL_app, show (⟨#[165]⟩ : ByteArray) = ofL [165] from rfl, ofL_app, List.append_assoc]; rfl
  have t1 : (ofL (Oct.be 4 r.length)).size = 4 := by rw [ofL_size, Oct.length_be]
  have t2 : (ofL (Sg.ahead r)).size ≤ 200004 := by rw [ofL_size, Sg.ahead_len]; omega
  have t3 : (ofL (Oct.be 4 (Crc.sum (Sg.ahead r)))).size = 4 := by rw [ofL_size, Oct.length_be]
  have t4 : (⟨#[165]⟩ : ByteArray).size = 1 := rfl
  generalize ofL (Oct.be 4 (Crc.sum (Sg.ahead r))) = q3 at *
  generalize Crc.sum (Sg.ahead r) = S at *
  generalize ofL (Sg.ahead r) = q2 at *
  generalize ofL (Oct.be 4 r.length) = q1 at *
  have t5 : (q2 ++ q3).size ≤ 200008 := by rw [ByteArray.size_append]; omega
  go_enter Tryd.func25, Tryd.ntmps25
  go_wp2_with fail
  refine (H1.out _).mono ?_
  rintro x w1 ⟨rfl, b1⟩
  have B1 := Lib.hid b1
  clear b1
  go_wp2_with fail
  refine (H2.out _).mono ?_
  rintro x w2 ⟨rfl, rfl⟩
  go_wp2_with fail
  refine (H3.out _).mono ?_
  rintro x w3 ⟨rfl, b3⟩
  have B3 := Lib.hid (bthen B1.out b3 (Nat.le_refl _))
  clear b3
  go_wp2_with fail
  go_ret
  exact ⟨by rw [← he]; rfl, B3.out⟩
namespace Sg
/-- the document's way to look at a record's sum -/
theorem one_iff {l : List UInt8} (h9 : len4 l + 9 ≤ l.length) (he : l.getD (len4 l + 8) 0 = 165) : enc (rc l) = l.take (len4 l + 9) ↔ Oct.val ((l.drop (len4 l + 4)).take 4) = Crc.sum (l.take (len4 l + 4)) := by
  have h4 : Oct.be 4 (len4 l) = l.take 4 := by
    have := Oct.be_val (l.take 4)
    rwa [show (l.take 4).length = 4 by rw [List.length_take]; omega] at this
  have hrl : (rc l).length = len4 l := by unfold rc; rw [List.length_take, List.length_drop]; omega
  have ha : ahead (rc l) = l.take (len4 l + 4) := by
    unfold ahead
    rw [hrl, h4]
    unfold rc
    rw [Nat.add_comm, List.take_add]
  have ht : l.take (len4 l + 9) = l.take (len4 l + 4) ++ ((l.drop (len4 l + 4)).take 4 ++ [165]) := by
    rw [show len4 l + 9 = (len4 l + 4) + 5 by omega, List.take_add]
    congr 1
    rw [show (5 : Nat) = 4 + 1 from rfl, List.take_add]
    congr 1
    rw [List.drop_drop, List.take_one, List.head?_drop, ← he, List.getD_eq_getElem?_getD]
    rw [show len4 l + 4 + 4 = len4 l + 8 by omega, List.getElem?_eq_getElem (by omega)]
    rfl
  have hx : ((l.drop (len4 l + 4)).take 4).length = 4 := by rw [List.length_take, List.length_drop]; omega
  rw [ht, enc, ha]
  constructor
  · intro h
    have h2 := List.append_cancel_left h
    have h3 := List.append_cancel_right h2
    rw [← h3, val_sum]
  · intro h
    have := Oct.be_val ((l.drop (len4 l + 4)).take 4)
    rw [hx, h] at this
    rw [this]
end Sg
theorem val_take_succ {l : List UInt8} {k : Nat} (h : k < l.length) : Oct.val (l.take (k + 1)) = Oct.val (l.take k) * 256 + (l.getD k 0).toNat := by
  rw [List.take_succ_eq_append_getElem h, Oct.val_snoc, List.getD_eq_getElem?_getD, List.getElem?_eq_getElem h]
  rfl
/-- what the document's Next answers -/
def rnextV (l : List UInt8) : Value := if Sg.code l = 0 then .tuple #[.string (ofL (Sg.rc l)), .int .i64 ((Sg.len4 l + 9 : Nat) : Int), .int .i64 0] else .tuple #[.string ⟨#[]⟩, .int .i64 0, .int .i64 (Sg.code l : Int)]
theorem rnextV_ok {l : List UInt8} (h : Sg.code l = 0) : rnextV l = .tuple #[.string (ofL (Sg.rc l)), .int .i64 ((Sg.len4 l + 9 : Nat) : Int), .int .i64 0] := if_pos h
theorem rnextV_no {l : List UInt8} {c : Nat} (h : Sg.code l = c) (hc : c ≠ 0) : rnextV l = .tuple #[.string ⟨#[]⟩, .int .i64 0, .int .i64 (c : Int)] := by unfold rnextV; rw [if_neg (by omega), h]
theorem r16_same (l : List UInt8) : snextV l = rnextV l := rfl
def RnSt (w : World) (l : List UInt8) (g : Nat) (v i : Value) (wr : World) : Prop := ∃ k : Nat, k + g = 4 ∧ i = .int .i64 (k : Int) ∧ v = .int .i64 ((Oct.val (l.take k) : Nat) : Int) ∧ w = wr
set_option maxRecDepth 100000 in
set_option maxHeartbeats 4000000 in
theorem r16Next_any (l : List UInt8) (w : World) (hl : l.length ≤ 100000) : Calls Tryd.prog 17 #[.string (ofL l)] w fun e w' => e = .returned (rnextV l) ∧ Below w.heap.size w w' := by
  have hz : (ofL l).size = l.length := ofL_size l
  by_cases h4 : l.length < 4
  · have hv := rnextV_no (l := l) (c := 3) (by unfold Sg.code; rw [if_pos h4]) (by decide)
    have HV := Lib.hid hv
    clear hv
    go_enter Tryd.func17, Tryd.ntmps17
    go_wp2_with fail
    go_ret3
    exact ⟨by rw [HV.out]; rfl, Below.refl _ _⟩
  · go_enter Tryd.func17, Tryd.ntmps17
    go_wp2_with fail
    go_loopg [5, 6] 4 (fun g v i wr => RnSt w l g v i wr)
    case atStart => exact ⟨0, rfl, rfl, rfl, rfl⟩
    case round =>
      obtain ⟨k, hk, rfl, rfl, rfl⟩ := hrel
      by_cases hlt : k < 4
      · have hx := fun W => idx_l (P := Tryd.prog) Tryd.underlying9 l .i64 (k : Int) k rfl (by omega) W
        have HVS := Lib.hid (val_take_succ (l := l) (k := k) (by omega))
        have hvl : Oct.val (l.take k) < 16777216 := by
          have h1 := Oct.val_lt (l.take k)
          have h2 : 256 ^ (l.take k).length ≤ 256 ^ 3 := Nat.pow_le_pow_right (by decide) (by rw [List.length_take]; omega)
          have h3 : (256 : Nat) ^ 3 = 16777216 := rfl
          omega
        have hbt := (l.getD k 0).toNat_lt
        generalize Oct.val (l.take k) = n at *
        generalize (l.getD k 0).toNat = bt at *
        go_wp2_with fail
        go_roundg (gk - 1)
        case rel => exact ⟨k + 1, by omega, by go_num, by rw [HVS.out]; go_num, rfl⟩
        case measure => omega
      · obtain rfl : k = 4 := by omega
        have hn0 : Oct.val (l.take 4) = Sg.len4 l := rfl
        have hlt32 : Sg.len4 l < 4294967296 := by
          have h1 := Oct.val_lt (l.take 4)
          rw [show (l.take 4).length = 4 by rw [List.length_take]; omega, show (256 : Nat) ^ 4 = 4294967296 from rfl] at h1
          exact h1
        rw [hn0]
        clear hn0
        by_cases h0 : Sg.len4 l = 0
        · have HV := Lib.hid (rnextV_no (l := l) (c := 15) (by unfold Sg.code; rw [if_neg h4, if_pos h0]) (by decide))
          go_wp2_with fail
          go_ret3
          exact ⟨by rw [HV.out]; rfl, Below.refl _ _⟩
        by_cases h5 : 131072 < Sg.len4 l
        · have HV := Lib.hid (rnextV_no (l := l) (c := 5) (by unfold Sg.code; rw [if_neg h4, if_neg h0, if_pos h5]) (by decide))
          go_wp2_with fail
          go_ret3
          exact ⟨by rw [HV.out]; rfl, Below.refl _ _⟩
        by_cases h9 : l.length < Sg.len4 l + 9
        · have HV := Lib.hid (rnextV_no (l := l) (c := 3) (by unfold Sg.code; rw [if_neg h4, if_neg h0, if_neg h5, if_pos h9]) (by decide))
          go_wp2_with fail
          go_ret3
          exact ⟨by rw [HV.out]; rfl, Below.refl _ _⟩
        have hx8 := fun W => idx_l (P := Tryd.prog) Tryd.underlying9 l .i64 ((Sg.len4 l : Int) + 8) (Sg.len4 l + 8) (by omega) (by omega) W
        have hw8 : IntKind.i64.wrap ((Sg.len4 l : Int) + 8) = (Sg.len4 l : Int) + 8 := by rw [IntKind.wrap_i64]; omega
        by_cases h165 : l.getD (Sg.len4 l + 8) 0 ≠ 165
        · have HV := Lib.hid (rnextV_no (l := l) (c := 4) (by unfold Sg.code; rw [if_neg h4, if_neg h0, if_neg h5, if_neg h9, if_pos h165]) (by decide))
          have k1 : ((((l.getD (Sg.len4 l + 8) 0).toNat : Nat) : Int) != 165) = true := by
            rw [bne_iff_ne]
            intro h
            apply h165
            apply UInt8.toNat_inj.1
            show _ = 165
            omega
          generalize (l.getD (Sg.len4 l + 8) 0).toNat = bt at *
          clear h165
          go_wp2_with fail
          go_ret3
          exact ⟨by rw [HV.out]; rfl, Below.refl _ _⟩
        have h165' : l.getD (Sg.len4 l + 8) 0 = 165 := by
          rcases Decidable.em (l.getD (Sg.len4 l + 8) 0 = 165) with h | h
          · exact h
          · exact absurd h h165
        have k1 : ((((l.getD (Sg.len4 l + 8) 0).toNat : Nat) : Int) != 165) = false := by rw [h165']; rfl
        have HIF := Lib.hid (Sg.one_iff (l := l) (by omega) h165')
        have HC := Lib.hid (show Sg.code l = if Oct.val ((l.drop (Sg.len4 l + 4)).take 4) ≠ Crc.sum (l.take (Sg.len4 l + 4)) then 14 else 0 by
          conv => lhs; unfold Sg.code
          rw [if_neg h4, if_neg h0, if_neg h5, if_neg h9, if_neg h165])
        have y1 := fun W => slice_l (P := Tryd.prog) Tryd.underlying9 l .i64 .i64 4 (4 + (Sg.len4 l : Int)) 4 (4 + Sg.len4 l) (by omega) (by omega) (by omega) (by omega) W
        rw [Nat.add_sub_cancel_left, show (l.drop 4).take (Sg.len4 l) = Sg.rc l from rfl] at y1
        have y2 := fun W => slice_to_l (P := Tryd.prog) Tryd.underlying9 l .i64 ((Sg.len4 l : Int) + 9) (Sg.len4 l + 9) (by omega) (by omega) W
        have hw9 : IntKind.i64.wrap ((Sg.len4 l : Int) + 9) = (Sg.len4 l : Int) + 9 := by rw [IntKind.wrap_i64]; omega
        have hw4 : IntKind.i64.wrap (4 + (Sg.len4 l : Int)) = 4 + (Sg.len4 l : Int) := by rw [IntKind.wrap_i64]; omega
        have HO := Lib.hid (fun W => r16One_any (Sg.rc l) W (by unfold Sg.rc; rw [List.length_take]; omega))
        have hd := ofL_beq (Sg.enc (Sg.rc l)) (l.take (Sg.len4 l + 9))
        have HOK := Lib.hid (fun h => rnextV_ok (l := l) h)
        have HNO := Lib.hid (fun h => rnextV_no (l := l) (c := 14) h (by decide))
        generalize (l.getD (Sg.len4 l + 8) 0).toNat = bt at *
        clear h165 h165'
        by_cases hs : Oct.val ((l.drop (Sg.len4 l + 4)).take 4) = Crc.sum (l.take (Sg.len4 l + 4))
        · have hv := HOK.out (by rw [HC.out, if_neg (by simpa using hs)])
          have HV := Lib.hid hv
          rw [decide_eq_true (HIF.out.2 hs)] at hd
          have hy2 : l.take (Sg.len4 l + 9) = Sg.enc (Sg.rc l) := (HIF.out.2 hs).symm
          rw [hy2] at y2 hd
          clear hv hs hy2 HIF HC HOK HNO
          generalize Sg.enc (Sg.rc l) = E at *
          generalize Sg.rc l = R at *
          generalize Sg.len4 l = n at *
          go_wp2_with fail
          go_region_with (first | (go_at_call 25; refine (HO.out _).mono ?_; rintro x w5 ⟨rfl, b5⟩; have B5 := Lib.hid (bthen (Below.refl _ _).drew b5 (Nat.le_refl _)); clear b5))
          all_goals
            go_wp2_with fail
            go_ret3
            exact ⟨by rw [HV.out]; rfl, B5.out⟩
        · have hv := HNO.out (by rw [HC.out, if_pos (by simpa using hs)])
          have HV := Lib.hid hv
          rw [decide_eq_false (fun h => hs (HIF.out.1 h))] at hd
          clear hv hs HIF HC HOK HNO
          generalize Sg.enc (Sg.rc l) = E at *
          generalize l.take (Sg.len4 l + 9) = E2 at *
          generalize Sg.rc l = R at *
          generalize Sg.len4 l = n at *
          go_wp2_with fail
          go_region_with (first | (go_at_call 25; refine (HO.out _).mono ?_; rintro x w5 ⟨rfl, b5⟩; have B5 := Lib.hid (bthen (Below.refl _ _).drew b5 (Nat.le_refl _)); clear b5))
          all_goals
            go_wp2_with fail
            go_ret3
            exact ⟨by rw [HV.out]; rfl, B5.out⟩
end Go.Proofs.YtpdgadohfhmcnaaDoor
