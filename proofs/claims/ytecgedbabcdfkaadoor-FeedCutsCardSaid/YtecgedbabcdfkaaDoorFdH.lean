/-
  FEEDS CUT: slices.Concat of two rows of frames, walked.
-/
import Derived.Test.YtecgedbabcdfkaaDoorFdG
namespace Go.Proofs.YtecgedbabcdfkaaDoor
open Go.ChangeShapes Go.WideShapes Go.ChangeAt Go.RowKit

def CcSt (w : World) (m n : Nat) (g : Nat) (v3 i : Value) (wr : World) : Prop :=
  w = wr ∧ ((g = 2 ∧ v3 = .int .i64 0 ∧ i = .int .i64 0) ∨ (g = 1 ∧ v3 = .int .i64 (m : Int) ∧ i = .int .i64 1) ∨ (g = 0 ∧ v3 = .int .i64 ((m + n : Nat) : Int) ∧ i = .int .i64 2))
def CdSt (w : World) (l1 l2 : List Fr.Frame) (g : Nat) (v6 i : Value) (wr : World) : Prop :=
  Below w.heap.size w wr ∧ ((g = 2 ∧ wr.ownsRow w.heap.size 23 3 v6 0 (fcs []) ∧ i = .int .i64 0) ∨ (g = 1 ∧ wr.ownsRow w.heap.size 23 3 v6 l1.length (fcs l1) ∧ i = .int .i64 1) ∨ (g = 0 ∧ wr.ownsRow w.heap.size 23 3 v6 (l1 ++ l2).length (fcs (l1 ++ l2)) ∧ i = .int .i64 2))
set_option maxRecDepth 100000 in
set_option maxHeartbeats 8000000 in
theorem concat_any (A1 A2 : Option Addr) (c1 c2 b cc : Nat) (l1 l2 : List Fr.Frame) (w : World) (hn : l1.length + l2.length ≤ 100000)
    (hD : Duo b (.slice A1 l1.length c1) (.slice A2 l2.length c2) w) (h1 : Frms w A1 l1) (h2 : Frms w A2 l2) (hn1 : A1 = none → c1 = 0) (hn2 : A2 = none → c2 = 0) :
    Calls Tryd.prog 25 #[.slice (some ⟨b, 0, none⟩) 2 cc] w fun e w' => ∃ v, e = .returned v ∧ w'.ownsRow w.heap.size 23 3 v (l1 ++ l2).length (fcs (l1 ++ l2)) ∧ Below w.heap.size w w' := by
  obtain ⟨iF, hiF, hzF0, hzF1, hzF2⟩ := info_parts infoF
  have HG := Lib.hid (grow0_any (l1.length + l2.length) w hn)
  obtain ⟨d0, d1, d2⟩ := hD
  have HD := Lib.hid (Duo.mk d0 d1 d2)
  have H1 := Lib.hid h1
  have H2 := Lib.hid h2
  have N1 := Lib.hid hn1
  have N2 := Lib.hid hn2
  clear h1 h2 hn1 hn2
  go_enter Tryd.func25, Tryd.ntmps25
  go_wp2_with fail
  go_loopg [3, 11] 2 (fun g v3 i wr => CcSt w l1.length l2.length g v3 i wr)
  case atStart => exact ⟨rfl, .inl ⟨rfl, rfl, rfl⟩⟩
  case round =>
    obtain ⟨hw, ⟨rfl, rfl, rfl⟩ | ⟨rfl, rfl, rfl⟩ | ⟨rfl, rfl, rfl⟩⟩ := hrel
    all_goals subst hw
    · go_wp2_with fail
      go_roundg 1
      case rel => exact ⟨rfl, .inr (.inl ⟨rfl, by go_num, by go_num⟩)⟩
      case measure => omega
    · go_wp2_with fail
      go_roundg 0
      case rel => exact ⟨rfl, .inr (.inr ⟨rfl, by go_num, by go_num⟩)⟩
      case measure => omega
    · go_wp2_with fail
      refine HG.out.mono ?_
      rintro e w1 ⟨v, rfl, ho, b1⟩
      have HO1 := Lib.hid ho
      have HB1 := Lib.hid b1
      clear ho b1
      go_wp2_with fail
      go_loopg [6, 27] 2 (fun g v6 i wr => CdSt w l1 l2 g v6 i wr)
      case atStart => exact ⟨HB1.out, .inl ⟨rfl, HO1.out, rfl⟩⟩
      case round =>
        obtain ⟨hB, ⟨rfl, hO, rfl⟩ | ⟨rfl, hO, rfl⟩ | ⟨rfl, hO, rfl⟩⟩ := hrel
        · obtain ⟨A6, c6, rfl, -, -⟩ := Rw.own_cells hO
          have HO := Lib.hid hO
          have HB := Lib.hid hB
          have D := HD.out.on hB HD.out.lt
          have e0 := D.c0
          have e1 := D.c1
          have HF := Lib.hid (H1.out.on hB)
          have hsz := hB.size
          clear hO hB D
          go_wp2_with (at_builtin; refine wpList_append_frames _ rfl _ _ 46 rfl w.heap.size 23 iF Tryd.underlying46 hiF hzF0 hzF1 hzF2 (by rfl) (xs := []) HO.out (by rfl) HF.out (by simp; omega) N1.out hsz ?_; intro v' w3 hown hgrow; obtain ⟨A5, c5, rfl, -, -⟩ := Rw.own_cells hown; have HO3 := Lib.hid hown; have HGr := Lib.hid hgrow; clear hown hgrow)
          all_goals (
            go_roundg 1
            case rel => exact ⟨HB.out.grown HGr.out (by omega) (fun k hk => (HO.out.lt k hk).1), .inr (.inl ⟨rfl, HO3.out, by go_num⟩)⟩
            case measure => omega)
        · obtain ⟨A6, c6, rfl, -, -⟩ := Rw.own_cells hO
          have HO := Lib.hid hO
          have HB := Lib.hid hB
          have D := HD.out.on hB HD.out.lt
          have e0 := D.c0
          have e1 := D.c1
          have HF := Lib.hid (H2.out.on hB)
          have hsz := hB.size
          clear hO hB D
          go_wp2_with (at_builtin; refine wpList_append_frames _ rfl _ _ 46 rfl w.heap.size 23 iF Tryd.underlying46 hiF hzF0 hzF1 hzF2 (by rfl) (xs := l1) HO.out (by rfl) HF.out hn N2.out hsz ?_; intro v' w3 hown hgrow; obtain ⟨A5, c5, rfl, -, -⟩ := Rw.own_cells hown; have HO3 := Lib.hid hown; have HGr := Lib.hid hgrow; clear hown hgrow)
          all_goals (
            go_roundg 0
            case rel => exact ⟨HB.out.grown HGr.out (by omega) (fun k hk => (HO.out.lt k hk).1), .inr (.inr ⟨rfl, (by rw [show l1.length + l2.length = (l1 ++ l2).length from List.length_append.symm]; exact HO3.out), by go_num⟩)⟩
            case measure => omega)
        · obtain ⟨A6, c6, rfl, -, -⟩ := Rw.own_cells hO
          have HO := Lib.hid hO
          have HB := Lib.hid hB
          clear hO hB
          go_wp2_with fail
          go_ret
          exact ⟨_, rfl, HO.out, HB.out⟩
end Go.Proofs.YtecgedbabcdfkaaDoor
