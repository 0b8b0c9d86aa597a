/-
  WHETHER A KEY MATCHES A PATTERN, walked: the document's.
-/
import Derived.Test.YtmojpcgcjhhbcaaDoorWordF
import Derived.Test.YtmojpcgcjhhbcaaDoorWordS
namespace Go.Proofs.YtmojpcgcjhhbcaaDoor
open Go.ChangeShapes Go.WideShapes Go.ChangeAt Go.RowKit

set_option maxRecDepth 8000 in
set_option maxHeartbeats 8000000 in
theorem rmatches_any (ps ks : List (List UInt8)) (pp q : Option Addr) (cp cq : Nat) (w : World) (hp : ps.length ≤ 100000) (hk : ks.length ≤ 100000) (hrp : Reads w pp ps) (hrk : Reads w q ks) :
    Calls Tryd.prog 60 #[.slice pp ps.length cp, .slice q ks.length cq] w fun e w' => e = .returned (.bool (Wrd.matches' ps ks)) ∧ Below w.heap.size w w' := by
  have HEND := Lib.hid (fun k h => row_end (ps := ps) (ks := ks) (k := k) h)
  generalize Wrd.matches' ps ks = M at *
  obtain ⟨n, hn⟩ : ∃ n, n = ks.length + 1 := ⟨_, rfl⟩
  have hn1 : ks.length < n := by omega
  have hn2 : n ≤ ks.length + 1 := by omega
  have hmk : ∀ w : World, Sem.run Tryd.prog (Instr.makeSlice 92 (.int .i64 ((ks.length : Int) + 1)) (.int .i64 ((ks.length : Int) + 1))) w = .ok (.slice (some ⟨w.heap.size, 0, none⟩) n n) (w.alloc (.cells (madeCells #[.bool false] n) 4)) := by
    intro W
    have := run_make_row' (P := Tryd.prog) 92 4 (.bool false) 1 Tryd.underlying92 info4 rfl .i64 .i64 n (by omega) (by omega) W
    rw [← this]
    have e : ((ks.length : Int) + 1) = (n : Int) := by omega
    rw [e]
  have HBS := Lib.hid (start_below (n := n) (Below.refl w.heap.size w) (Nat.le_refl _))
  have HRS := Lib.hid (row_start w n ks)
  have HPS := Lib.hid (hrp.on HBS.out)
  have HQS := Lib.hid (hrk.on HBS.out)
  unfold made0 at HBS HRS HPS HQS
  have hc0 := start_cell w n (by omega)
  have hf0 := start_free w n
  clear hn hrp hrk
  go_enter Tryd.func60, Tryd.ntmps60
  go_wp2_with fail
  clear hc0 hf0
  generalize hW : w.alloc (Obj.cells ((madeCells #[Value.bool false] n).setIfInBounds 0 (Value.bool true)) 4) = w3 at *
  clear hW
  have HB3 := Lib.hid HBS.out
  generalize hg1 : w.heap.size = g1 at HRS ⊢
  clear hg1
  go_loopg [5, 18] ps.length (fun g o i wr => RowSt ps ks w3 n g o i wr)
  case atStart => exact ⟨0, g1, by omega, rfl, rfl, by rw [List.take_zero]; exact HRS.out, Below.refl _ _⟩
  case round =>
    obtain ⟨w5, hw5⟩ : ∃ w5, w5 = wr := ⟨_, rfl⟩
    subst hw5
    obtain ⟨kk, gb, hkk, rfl, rfl, hrow, hB⟩ := hrel
    have HF0 := Lib.hid hrow
    have HBR := Lib.hid hB
    have HPR := Lib.hid (HPS.out.on hB)
    have HQR := Lib.hid (HQS.out.on hB)
    clear hrow hB
    by_cases hlt0 : kk < ps.length
    · obtain ⟨g8, rfl, hcp⟩ := HPR.out kk hlt0
      have HNX := Lib.hid (row_next ps ks kk hlt0)
      generalize ps[kk] = one at *
      generalize hf : Wrd.row ks (ps.take kk).reverse = f at *
      clear hf
      have HN0 := Lib.hid (nx_zero one ks f)
      have HNS := Lib.hid (fun j h => nx_succ one ks f j h)
      have HM := Lib.hid (Row.made w5 n (Wrd.nx one ks f))
      have HB0 := Lib.hid (show Below w5.heap.size w5 (w5.alloc (.cells (madeCells #[.bool false] n) 4)) from (Below.refl _ _).alloc (Nat.le_refl _) _)
      obtain ⟨g0, hg0⟩ : ∃ g0, g0 = gk := ⟨_, rfl⟩
      go_wp2_with fail

      go_loopg [9] n (fun g i wi => NextSt one ks f w5 w5.heap.size n g i wi)
      case atStart => exact ⟨0, by omega, rfl, HM.out, HB0.out⟩
      case round =>
        obtain ⟨k, hk1, rfl, hrow, hB⟩ := hrel
        have HROW := Lib.hid hrow
        have HBI := Lib.hid hB
        have HFR := Lib.hid (HF0.out.on hB HF0.out.lt)
        have HRR := Lib.hid (HQR.out.on hB)
        clear hrow hB
        by_cases hlt : k < n
        · have hle : k ≤ ks.length := by omega
          have hfz := HROW.out.free k
          have hck := HROW.out.cell hlt
          cases h35 : one == Wrd.hash with
          | true =>
            have e35 : ((ofL one).toList == [35]) = true := by rw [ofL_str]; exact h35
            have hcf := HFR.out.cell hlt
            cases k with
            | zero =>
              have HV := Lib.hid (show f 0 = Wrd.nx one ks f 0 by rw [HN0.out, h35]; rfl)
              clear h35
              cases hb : f 0 with
              | true =>
                rw [hb] at HV hcf
                clear hb
                go_wp2_with fail
                go_roundg (gk - 1)
                case rel => exact ⟨0 + 1, by omega, by go_num, HROW.out.put HV.out, HBI.out.setCell (Nat.le_refl _) _⟩
                case measure => omega
              | false =>
                rw [hb] at HV hcf
                clear hb
                go_wp2_with fail
                go_roundg (gk - 1)
                case rel => exact ⟨0 + 1, by omega, by go_num, HROW.out.put HV.out, HBI.out.setCell (Nat.le_refl _) _⟩
                case measure => omega
            | succ j =>
              have hjw : j < ks.length := by omega
              have HV := Lib.hid (show (f (j + 1) || Wrd.nx one ks f j) = Wrd.nx one ks f (j + 1) by rw [HNS.out j hjw, if_pos h35])
              have hcn := HROW.out.cell (j := j) (by omega)
              rw [upto_at _ (Nat.lt_succ_self j)] at hcn
              clear h35
              cases hb : f (j + 1) with
              | true =>
                rw [hb] at HV hcf
                clear hb
                go_wp2_with fail
                go_roundg (gk - 1)
                case rel => exact ⟨j + 1 + 1, by omega, by go_num, HROW.out.put (by have := HV.out; rw [Bool.true_or] at this; exact this), HBI.out.setCell (Nat.le_refl _) _⟩
                case measure => omega
              | false =>
                rw [hb] at HV hcf
                clear hb
                generalize Wrd.nx one ks f j = c at hcn HV
                go_wp2_with fail
                go_roundg (gk - 1)
                case rel => exact ⟨j + 1 + 1, by omega, by go_num, HROW.out.put (by have := HV.out; rw [Bool.false_or] at this; exact this), HBI.out.setCell (Nat.le_refl _) _⟩
                case measure => omega
          | false =>
            have e35 : ((ofL one).toList == [35]) = false := by rw [ofL_str]; exact h35
            cases k with
            | zero =>
              have HV := Lib.hid (show Wrd.nx one ks f 0 = false by rw [HN0.out, h35]; rfl)
              clear h35
              go_wp2_with fail
              go_roundg (gk - 1)
              case rel => exact ⟨0 + 1, by omega, by go_num, HROW.out.pass HV.out, HBI.out⟩
              case measure => omega
            | succ j =>
              have hjw : j < ks.length := by omega
              have HV := Lib.hid (show (f j && (one == Wrd.star || one == ks[j])) = Wrd.nx one ks f (j + 1) by rw [HNS.out j hjw, if_neg (by rw [h35]; simp)])
              have hcf := HFR.out.cell (j := j) (by omega)
              obtain ⟨gp, rfl, hcw⟩ := HRR.out j hjw
              clear h35
              cases hb : f j with
              | false =>
                rw [hb] at HV hcf
                clear hb
                go_wp2_with fail
                go_roundg (gk - 1)
                case rel => exact ⟨j + 1 + 1, by omega, by go_num, HROW.out.put (by have := HV.out; rw [Bool.false_and] at this; exact this), HBI.out.setCell (Nat.le_refl _) _⟩
                case measure => omega
              | true =>
                rw [hb, Bool.true_and] at HV
                rw [hb] at hcf
                clear hb
                cases h42 : one == Wrd.star with
                | true =>
                  have e42 : ((ofL one).toList == [42]) = true := by rw [ofL_str]; exact h42
                  rw [h42, Bool.true_or] at HV
                  clear h42
                  go_wp2_with fail
                  go_roundg (gk - 1)
                  case rel => exact ⟨j + 1 + 1, by omega, by go_num, HROW.out.put HV.out, HBI.out.setCell (Nat.le_refl _) _⟩
                  case measure => omega
                | false =>
                  have e42 : ((ofL one).toList == [42]) = false := by rw [ofL_str]; exact h42
                  rw [h42, Bool.false_or] at HV
                  clear h42
                  cases hq : one == ks[j] with
                  | true =>
                    have eq1 : ((ofL one).toList == (ofL ks[j]).toList) = true := by rw [str_eq]; exact hq
                    rw [hq] at HV
                    clear hq
                    go_wp2_with fail
                    go_roundg (gk - 1)
                    case rel => exact ⟨j + 1 + 1, by omega, by go_num, HROW.out.put HV.out, HBI.out.setCell (Nat.le_refl _) _⟩
                    case measure => omega
                  | false =>
                    have eq1 : ((ofL one).toList == (ofL ks[j]).toList) = false := by rw [str_eq]; exact hq
                    rw [hq] at HV
                    clear hq
                    go_wp2_with fail
                    go_roundg (gk - 1)
                    case rel => exact ⟨j + 1 + 1, by omega, by go_num, HROW.out.put HV.out, HBI.out.setCell (Nat.le_refl _) _⟩
                    case measure => omega
        · have hkn : k = n := by omega
          have hle : ¬ k ≤ ks.length := by omega
          have HD := Lib.hid (show Row wr w5.heap.size n (Wrd.nx one ks f) from Row.all (by have := HROW.out; rw [hkn] at this; exact this))
          clear hkn
          go_wp2_with fail
          go_roundg (g0 - 1)
          case rel => exact ⟨kk + 1, _, by omega, by go_num, rfl, by have := HD.out; rw [HNX.out] at this; exact this, HBR.out.trans (HBI.out.mono HBR.out.size)⟩
          case measure => omega
    · have hkl : kk = ps.length := by omega
      have HE := Lib.hid (HEND.out kk hkl)
      have hcl := HF0.out.cell hn1
      rw [HE.out] at hcl
      clear hkl
      go_wp2_with fail
      go_ret
      exact ⟨rfl, HB3.out.trans (HBR.out.mono HB3.out.size)⟩
end Go.Proofs.YtmojpcgcjhhbcaaDoor
