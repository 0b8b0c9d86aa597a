/-
  WHETHER A KEY MATCHES A PATTERN, walked: the program's, whole. WHETHER A KEY MATCHES A PATTERN, walked: the document's.
-/
import Derived.Test.YtopobliajgocaaaGreatDoorZl10
import Derived.Test.YtopobliajgocaaaGreatDoorZl13

section
namespace Go.Proofs.YtopobliajgocaaaGreatDoor
open Go.ChangeShapes Go.WideShapes Go.ChangeAt Go.RowKit
def made0 (n : Nat) : Obj := .cells ((madeCells #[.bool false] n).setIfInBounds 0 (.bool true)) 4
theorem row_start (w : World) (n : Nat) (ks : List (List UInt8)) : Row (w.alloc (made0 n)) w.heap.size n (Wrd.row ks []) := by
  have hs : ((madeCells #[Value.bool false] n).setIfInBounds 0 (.bool true)).size = n := by rw [Array.size_setIfInBounds, size_madeCells]
  have := World.rowIs_alloc w ((madeCells #[Value.bool false] n).setIfInBounds 0 (.bool true)) 4 (fun j => .bool (Wrd.row ks [] j)) (fun i hi => by
    rw [hs] at hi
    rw [Array.getElem?_setIfInBounds]
    cases i with
    | zero => rw [if_pos rfl, if_pos (by rw [size_madeCells]; exact hi)]; rfl
    | succ i => rw [if_neg (by omega)]; simp [madeCells, hi, Nat.mod_one, Wrd.row])
  rw [hs] at this
  exact this
theorem start_below {w w1 : World} {B n : Nat} (h : Below B w w1) (hB : B ≤ w1.heap.size) : Below B w (w1.alloc (made0 n)) := h.alloc hB _
theorem start_cell (w1 : World) (n : Nat) (hn : 0 < n) : (w1.alloc (.cells (madeCells #[.bool false] n) 4)).cell? ⟨w1.heap.size, 0, none⟩ = some (.bool false) := by
  have := (Row.made w1 n (fun _ => false)).cell (j := 0) hn
  exact this
theorem start_free (w1 : World) (n : Nat) : (w1.alloc (.cells (madeCells #[.bool false] n) 4)).frozen? ⟨w1.heap.size, 0, none⟩ = false := (Row.made w1 n (fun _ => false)).free 0
theorem behind_n (one : List UInt8) (ws : List (List UInt8)) (f : Nat → Bool) (p : Option Addr) (cap gb cf n : Nat) (hn : n = ws.length + 1) (w : World) (hws : ws.length ≤ 100000) (hr : Reads w p ws) (hf : Row w gb n f) :
    Calls Tryz.prog 89 #[.string (ofL one), .slice p ws.length cap, .slice (some ⟨gb, 0, none⟩) n cf] w fun e w' =>
      e = .returned (.slice (some ⟨w.heap.size, 0, none⟩) n n) ∧ Row w' w.heap.size n (Wrd.nx one ws f) ∧ Below w.heap.size w w' := by
  subst hn
  exact behind_any one ws f p cap gb cf w hws hr hf
/-- the row behind the first k words -/
def RowSt (ps ks : List (List UInt8)) (w : World) (n g : Nat) (o i : Value) (wr : World) : Prop :=
  ∃ k gb : Nat, k + g = ps.length ∧ i = .int .i64 (k : Int) ∧ o = .slice (some ⟨gb, 0, none⟩) n n ∧ Row wr gb n (Wrd.row ks (ps.take k).reverse) ∧ Below w.heap.size w wr
theorem row_next (ps ks : List (List UInt8)) (k : Nat) (h : k < ps.length) : Wrd.nx ps[k] ks (Wrd.row ks (ps.take k).reverse) = Wrd.row ks (ps.take (k + 1)).reverse := by
  rw [List.take_succ_eq_append_getElem h, List.reverse_append]; rfl
theorem row_end {ps ks : List (List UInt8)} {k : Nat} (h : k = ps.length) : Wrd.row ks (ps.take k).reverse ks.length = Wrd.matches' ps ks := by
  rw [h, List.take_length, Wrd.row_all]
set_option maxRecDepth 8000 in
set_option maxHeartbeats 4000000 in
theorem matches_any (pt ky : List UInt8) (w : World) (hp : pt.length ≤ 99999) (hk : ky.length ≤ 99999) (hL : Len w) :
    Calls Tryz.prog 79 #[.string (ofL pt), .string (ofL ky)] w fun e w' => e = .returned (.bool (Wrd.matches' (Wrd.words pt) (Wrd.words ky))) ∧ Below w.heap.size w w' := by
  have HS1 := Lib.hid (split_any ky w (by omega) hL)
  have HS2 := Lib.hid (fun W h => split_any pt W (by omega) h)
  have HL := Lib.hid hL
  have hkl := Wrd.words_len ky
  have hpl := Wrd.words_len pt
  have HEND := Lib.hid (fun k h => row_end (ps := Wrd.words pt) (ks := Wrd.words ky) (k := k) h)
  generalize Wrd.words ky = ks at *
  generalize Wrd.words pt = ps at *
  generalize Wrd.matches' ps ks = M at *
  generalize ofL ky = sk at *
  generalize ofL pt = sp at *
  obtain ⟨n, hn⟩ : ∃ n, n = ks.length + 1 := ⟨_, rfl⟩
  have HNN := Lib.hid hn
  have hn1 : ks.length < n := by omega
  have hn2 : n ≤ ks.length + 1 := by omega
  have hmk : ∀ w : World, Sem.run Tryz.prog (Instr.makeSlice 114 (.int .i64 ((ks.length : Int) + 1)) (.int .i64 ((ks.length : Int) + 1))) w = .ok (.slice (some ⟨w.heap.size, 0, none⟩) n n) (w.alloc (.cells (madeCells #[.bool false] n) 4)) := by
    intro W
    have := run_make_row' (P := Tryz.prog) 114 4 (.bool false) 1 Tryz.underlying114 info4 rfl .i64 .i64 n (by omega) (by omega) W
    rw [← this]
    have e : ((ks.length : Int) + 1) = (n : Int) := by omega
    rw [e]
  clear hn hL
  go_enter Tryz.func79, Tryz.ntmps79
  go_wp2_with fail
  refine HS1.out.mono ?_
  rintro e w1 ⟨v, rfl, hown, hB⟩
  obtain ⟨q, cq, rfl, hq⟩ := reads_own hown
  have HQ := Lib.hid hq
  have HB1 := Lib.hid hB
  have HL1 := Lib.hid (HL.out.on hB)
  clear hown hB hq
  have HBS := Lib.hid (start_below (n := n) (Below.refl w1.heap.size w1) (Nat.le_refl _))
  have HRS := Lib.hid (row_start w1 n ks)
  have HLS := Lib.hid (HL1.out.on HBS.out)
  have HQS := Lib.hid (HQ.out.on HBS.out)
  have HBW := Lib.hid (start_below (n := n) HB1.out HB1.out.size)
  have HS3 := HS2.out _ HLS.out
  unfold made0 at HS3 HBS HRS HLS HQS HBW
  have HS4 := Lib.hid HS3
  clear HS3 HS2
  have hc0 := start_cell w1 n (by omega)
  have hf0 := start_free w1 n
  go_wp2_with fail
  clear hc0 hf0
  generalize hW : w1.alloc (Obj.cells ((madeCells #[Value.bool false] n).setIfInBounds 0 (Value.bool true)) 4) = w2 at *
  clear hW
  refine HS4.out.mono ?_
  rintro e w3 ⟨v, rfl, hown, hB⟩
  obtain ⟨pp, cp, rfl, hpp⟩ := reads_own hown
  have HP := Lib.hid hpp
  have HR3 := Lib.hid (HRS.out.on hB HRS.out.lt)
  have HQ3 := Lib.hid (HQS.out.on hB)
  have HB3 := Lib.hid (HBW.out.trans (hB.mono HBW.out.size))
  clear hown hB hpp
  generalize w1.heap.size = g1 at *
  go_wp2_with fail
  go_loopg [6, 20] ps.length (fun g o i wr => RowSt ps ks w3 n g o i wr)
  case atStart => exact ⟨0, g1, by omega, rfl, rfl, by rw [List.take_zero]; exact HR3.out, Below.refl _ _⟩
  case round =>
    obtain ⟨k, gb, hk, rfl, rfl, hrow, hB⟩ := hrel
    have HROW := Lib.hid hrow
    have HBR := Lib.hid hB
    have HPR := Lib.hid (HP.out.on hB)
    have HQR := Lib.hid (HQ3.out.on hB)
    clear hrow hB
    by_cases hlt : k < ps.length
    · obtain ⟨gp, rfl, hcp⟩ := HPR.out k hlt
      have HBH := Lib.hid (behind_n ps[k] ks _ q cq gb n n HNN.out wr (by omega) HQR.out HROW.out)
      have HNX := Lib.hid (row_next ps ks k hlt)
      generalize ps[k] = one at *
      go_wp2_with fail
      refine HBH.out.mono ?_
      rintro e w4 ⟨rfl, hrow4, hB4⟩
      have HROW4 := Lib.hid hrow4
      have HB4 := Lib.hid hB4
      clear hrow4 hB4
      go_wp2_with fail
      go_roundg (gk - 1)
      case rel => exact ⟨k + 1, _, by omega, by go_num, rfl, by have := HROW4.out; rw [HNX.out] at this; exact this, HBR.out.trans (HB4.out.mono HBR.out.size)⟩
      case measure => omega
    · have hkl : k = ps.length := by omega
      have HE := Lib.hid (HEND.out k hkl)
      have hcl := HROW.out.cell hn1
      rw [HE.out] at hcl
      clear hkl
      go_wp2_with fail
      go_ret
      exact ⟨rfl, HB3.out.trans (HBR.out.mono HB3.out.size)⟩
end Go.Proofs.YtopobliajgocaaaGreatDoor
end
section
namespace Go.Proofs.YtopobliajgocaaaGreatDoor
open Go.ChangeShapes Go.WideShapes Go.ChangeAt Go.RowKit
set_option maxRecDepth 8000 in
set_option maxHeartbeats 8000000 in
theorem rmatches_any (ps ks : List (List UInt8)) (pp q : Option Addr) (cp cq : Nat) (w : World) (hp : ps.length ≤ 100000) (hk : ks.length ≤ 100000) (hrp : Reads w pp ps) (hrk : Reads w q ks) :
    Calls Tryz.prog 71 #[.slice pp ps.length cp, .slice q ks.length cq] w fun e w' => e = .returned (.bool (Wrd.matches' ps ks)) ∧ Below w.heap.size w w' := by
  have HEND := Lib.hid (fun k h => row_end (ps := ps) (ks := ks) (k := k) h)
  generalize Wrd.matches' ps ks = M at *
  obtain ⟨n, hn⟩ : ∃ n, n = ks.length + 1 := ⟨_, rfl⟩
  have hn1 : ks.length < n := by omega
  have hn2 : n ≤ ks.length + 1 := by omega
  have hmk : ∀ w : World, Sem.run Tryz.prog (Instr.makeSlice 114 (.int .i64 ((ks.length : Int) + 1)) (.int .i64 ((ks.length : Int) + 1))) w = .ok (.slice (some ⟨w.heap.size, 0, none⟩) n n) (w.alloc (.cells (madeCells #[.bool false] n) 4)) := by
    intro W
    have := run_make_row' (P := Tryz.prog) 114 4 (.bool false) 1 Tryz.underlying114 info4 rfl .i64 .i64 n (by omega) (by omega) W
    rw [← this]
    have e : ((ks.length : Int) + 1) = (n : Int) := by omega
    rw [e]
  have HBS := Lib.hid (start_below (n := n) (Below.refl w.heap.size w) (Nat.le_refl _))
  have HRS := Lib.hid (row_start w n ks)
  have HPS := Lib.hid (hrp.on HBS.out)
  have HQS := Lib.hid (hrk.on HBS.out)
  unfold made0 at HBS HRS HPS HQS
  have hc0 := start_cell w n (by omega)
  have hf0 := start_free w n
  clear hn hrp hrk
  go_enter Tryz.func71, Tryz.ntmps71
  go_wp2_with fail
  clear hc0 hf0
  generalize hW : w.alloc (Obj.cells ((madeCells #[Value.bool false] n).setIfInBounds 0 (Value.bool true)) 4) = w3 at *
  clear hW
  have HB3 := Lib.hid HBS.out
  generalize hg1 : w.heap.size = g1 at HRS ⊢
  clear hg1
  go_loopg [5, 18] ps.length (fun g o i wr => RowSt ps ks w3 n g o i wr)
  case atStart => exact ⟨0, g1, by omega, rfl, rfl, by rw [List.take_zero]; exact HRS.out, Below.refl _ _⟩
  case round =>
    obtain ⟨w5, hw5⟩ : ∃ w5, w5 = wr := ⟨_, rfl⟩
    subst hw5
    obtain ⟨kk, gb, hkk, rfl, rfl, hrow, hB⟩ := hrel
    have HF0 := Lib.hid hrow
    have HBR := Lib.hid hB
    have HPR := Lib.hid (HPS.out.on hB)
    have HQR := Lib.hid (HQS.out.on hB)
    clear hrow hB
    by_cases hlt0 : kk < ps.length
    · obtain ⟨g8, rfl, hcp⟩ := HPR.out kk hlt0
      have HNX := Lib.hid (row_next ps ks kk hlt0)
      generalize ps[kk] = one at *
      generalize hf : Wrd.row ks (ps.take kk).reverse = f at *
      clear hf
      have HN0 := Lib.hid (nx_zero one ks f)
      have HNS := Lib.hid (fun j h => nx_succ one ks f j h)
      have HM := Lib.hid (Row.made w5 n (Wrd.nx one ks f))
      have HB0 := Lib.hid (show Below w5.heap.size w5 (w5.alloc (.cells (madeCells #[.bool false] n) 4)) from (Below.refl _ _).alloc (Nat.le_refl _) _)
      obtain ⟨g0, hg0⟩ : ∃ g0, g0 = gk := ⟨_, rfl⟩
      go_wp2_with fail

      go_loopg [9] n (fun g i wi => NextSt one ks f w5 w5.heap.size n g i wi)
      case atStart => exact ⟨0, by omega, rfl, HM.out, HB0.out⟩
      case round =>
        obtain ⟨k, hk1, rfl, hrow, hB⟩ := hrel
        have HROW := Lib.hid hrow
        have HBI := Lib.hid hB
        have HFR := Lib.hid (HF0.out.on hB HF0.out.lt)
        have HRR := Lib.hid (HQR.out.on hB)
        clear hrow hB
        by_cases hlt : k < n
        · have hle : k ≤ ks.length := by omega
          have hfz := HROW.out.free k
          have hck := HROW.out.cell hlt
          cases h35 : one == Wrd.hash with
          | true =>
            have e35 : ((ofL one).toList == [35]) = true := by rw [ofL_str]; exact h35
            have hcf := HFR.out.cell hlt
            cases k with
            | zero =>
              have HV := Lib.hid (show f 0 = Wrd.nx one ks f 0 by rw [HN0.out, h35]; rfl)
              clear h35
              cases hb : f 0 with
              | true =>
                rw [hb] at HV hcf
                clear hb
                go_wp2_with fail
                go_roundg (gk - 1)
                case rel => exact ⟨0 + 1, by omega, by go_num, HROW.out.put HV.out, HBI.out.setCell (Nat.le_refl _) _⟩
                case measure => omega
              | false =>
                rw [hb] at HV hcf
                clear hb
                go_wp2_with fail
                go_roundg (gk - 1)
                case rel => exact ⟨0 + 1, by omega, by go_num, HROW.out.put HV.out, HBI.out.setCell (Nat.le_refl _) _⟩
                case measure => omega
            | succ j =>
              have hjw : j < ks.length := by omega
              have HV := Lib.hid (show (f (j + 1) || Wrd.nx one ks f j) = Wrd.nx one ks f (j + 1) by rw [HNS.out j hjw, if_pos h35])
              have hcn := HROW.out.cell (j := j) (by omega)
              rw [upto_at _ (Nat.lt_succ_self j)] at hcn
              clear h35
              cases hb : f (j + 1) with
              | true =>
                rw [hb] at HV hcf
                clear hb
                go_wp2_with fail
                go_roundg (gk - 1)
                case rel => exact ⟨j + 1 + 1, by omega, by go_num, HROW.out.put (by have := HV.out; rw [Bool.true_or] at this; exact this), HBI.out.setCell (Nat.le_refl _) _⟩
                case measure => omega
              | false =>
                rw [hb] at HV hcf
                clear hb
                generalize Wrd.nx one ks f j = c at hcn HV
                go_wp2_with fail
                go_roundg (gk - 1)
                case rel => exact ⟨j + 1 + 1, by omega, by go_num, HROW.out.put (by have := HV.out; rw [Bool.false_or] at this; exact this), HBI.out.setCell (Nat.le_refl _) _⟩
                case measure => omega
          | false =>
            have e35 : ((ofL one).toList == [35]) = false := by rw [ofL_str]; exact h35
            cases k with
            | zero =>
              have HV := Lib.hid (show Wrd.nx one ks f 0 = false by rw [HN0.out, h35]; rfl)
              clear h35
              go_wp2_with fail
              go_roundg (gk - 1)
              case rel => exact ⟨0 + 1, by omega, by go_num, HROW.out.pass HV.out, HBI.out⟩
              case measure => omega
            | succ j =>
              have hjw : j < ks.length := by omega
              have HV := Lib.hid (show (f j && (one == Wrd.star || one == ks[j])) = Wrd.nx one ks f (j + 1) by rw [HNS.out j hjw, if_neg (by rw [h35]; simp)])
              have hcf := HFR.out.cell (j := j) (by omega)
              obtain ⟨gp, rfl, hcw⟩ := HRR.out j hjw
              clear h35
              cases hb : f j with
              | false =>
                rw [hb] at HV hcf
                clear hb
                go_wp2_with fail
                go_roundg (gk - 1)
                case rel => exact ⟨j + 1 + 1, by omega, by go_num, HROW.out.put (by have := HV.out; rw [Bool.false_and] at this; exact this), HBI.out.setCell (Nat.le_refl _) _⟩
                case measure => omega
              | true =>
                rw [hb, Bool.true_and] at HV
                rw [hb] at hcf
                clear hb
                cases h42 : one == Wrd.star with
                | true =>
                  have e42 : ((ofL one).toList == [42]) = true := by rw [ofL_str]; exact h42
                  rw [h42, Bool.true_or] at HV
                  clear h42
                  go_wp2_with fail
                  go_roundg (gk - 1)
                  case rel => exact ⟨j + 1 + 1, by omega, by go_num, HROW.out.put HV.out, HBI.out.setCell (Nat.le_refl _) _⟩
                  case measure => omega
                | false =>
                  have e42 : ((ofL one).toList == [42]) = false := by rw [ofL_str]; exact h42
                  rw [h42, Bool.false_or] at HV
                  clear h42
                  cases hq : one == ks[j] with
                  | true =>
                    have eq1 : ((ofL one).toList == (ofL ks[j]).toList) = true := by rw [str_eq]; exact hq
                    rw [hq] at HV
                    clear hq
                    go_wp2_with fail
                    go_roundg (gk - 1)
                    case rel => exact ⟨j + 1 + 1, by omega, by go_num, HROW.out.put HV.out, HBI.out.setCell (Nat.le_refl _) _⟩
                    case measure => omega
                  | false =>
                    have eq1 : ((ofL one).toList == (ofL ks[j]).toList) = false := by rw [str_eq]; exact hq
                    rw [hq] at HV
                    clear hq
                    go_wp2_with fail
                    go_roundg (gk - 1)
                    case rel => exact ⟨j + 1 + 1, by omega, by go_num, HROW.out.put HV.out, HBI.out.setCell (Nat.le_refl _) _⟩
                    case measure => omega
        · have hkn : k = n := by omega
          have hle : ¬ k ≤ ks.length := by omega
          have HD := Lib.hid (show Row wr w5.heap.size n (Wrd.nx one ks f) from Row.all (by have := HROW.out; rw [hkn] at this; exact this))
          clear hkn
          go_wp2_with fail
          go_roundg (g0 - 1)
          case rel => exact ⟨kk + 1, _, by omega, by go_num, rfl, by have := HD.out; rw [HNX.out] at this; exact this, HBR.out.trans (HBI.out.mono HBR.out.size)⟩
          case measure => omega
    · have hkl : kk = ps.length := by omega
      have HE := Lib.hid (HEND.out kk hkl)
      have hcl := HF0.out.cell hn1
      rw [HE.out] at hcl
      clear hkl
      go_wp2_with fail
      go_ret
      exact ⟨rfl, HB3.out.trans (HBR.out.mono HB3.out.size)⟩
end Go.Proofs.YtopobliajgocaaaGreatDoor
end
