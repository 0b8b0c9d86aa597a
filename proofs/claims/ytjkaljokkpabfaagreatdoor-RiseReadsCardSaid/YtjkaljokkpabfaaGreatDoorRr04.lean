/-
  ROWS OF MESSAGES: slices.Grow of none, slices.Concat of two, slices.Clone: walked.
-/
import Derived.Test.YtjkaljokkpabfaaGreatDoorRr02
import Derived.Test.YtjkaljokkpabfaaGreatDoorRr03
import Derived.Deep.Upon
import Derived.Laws.AppendOwnNone
section
namespace Go.Proofs.YtjkaljokkpabfaaGreatDoor
open Go.ChangeShapes Go.WideShapes Go.ChangeAt Go.RowKit Go.Lib
theorem infoMa : (Tryz.prog.info? 25).map (fun i => (i.zero, i.size, i.bytes)) = some (some (.agg #[.int .u64 0, .string ⟨#[]⟩, .string ⟨#[]⟩, .slice none 0 0, .string ⟨#[]⟩, .int .u64 0, .int .u8 0]), 7, 96) := by kernel_rfl
set_option maxRecDepth 100000 in
set_option maxHeartbeats 4000000 in
theorem growMa_any (n : Nat) (w : World) (hn : n ≤ 100000) :
    Calls Tryz.prog 50 #[.slice none 0 0, .int .i64 (n : Int)] w fun e w' => ∃ v, e = .returned v ∧ w'.ownsRow w.heap.size 25 7 v 0 [] ∧ Below w.heap.size w w' := by
  obtain ⟨i0, hi0, hz0, hs0, hb0⟩ := info_parts infoMa
  have h1 : ¬ ((n : Int) < 0) := by omega
  have h2 : wrap64 (((0 : Nat) : Int) - ((0 : Nat) : Int)) = ((0 : Nat) : Int) - ((0 : Nat) : Int) := by unfold wrap64; omega
  have h3 : wrap64 ((n : Int) - (((0 : Nat) : Int) - ((0 : Nat) : Int))) = (n : Int) - (((0 : Nat) : Int) - ((0 : Nat) : Int)) := by unfold wrap64; omega
  by_cases h0 : n = 0
  · subst h0
    go_enter Tryz.func50, Tryz.ntmps50
    go_wp2
    go_ret
    exact ⟨_, rfl, World.ownsRow_nil _ _ _ _, Below.refl _ _⟩
  · have h4 : (n : Int) - (((0 : Nat) : Int) - ((0 : Nat) : Int)) > 0 := by omega
    have hold : (Builtin.firstCells i0.size 0 (.slice none 0 0)).run Tryz.prog w.drew = .ok #[] w.drew := run_firstCells_none w.drew i0.size 0 0 0
    have hrz : ∀ ty, (Builtin.append_ #[33, 3] ty #[.slice none 0 0, .int .i64 ((n : Int) - (((0 : Nat) : Int) - ((0 : Nat) : Int)))]).run Tryz.prog w =
        .ok (.slice (some ⟨w.heap.size, 0, none⟩) n (grownCap w n 0 25)) (w.drew.alloc (.cells (([] : List Value).toArray ++ Builtin.zeroCells (Value.agg #[.int .u64 0, .string ⟨#[]⟩, .string ⟨#[]⟩, .slice none 0 0, .string ⟨#[]⟩, .int .u64 0, .int .u8 0]).cells n ++ Builtin.zeroCells (Value.agg #[.int .u64 0, .string ⟨#[]⟩, .string ⟨#[]⟩, .slice none 0 0, .string ⟨#[]⟩, .int .u64 0, .int .u8 0]).cells (grownCap w n 0 25 - n)) 25)) := fun ty => by
      have h := Lib.run_append_grow_zeros w 33 3 ty 25 i0 _ .i64 .i64 Tryz.underlying33 Tryz.underlying3 hi0 hz0 none 0 0 [] hold n (by omega) (by omega) (by omega) (by omega)
        (by rw [hb0]; omega)
        (by rw [Nat.zero_add]; exact growslice_fits (by omega) (by rw [hb0]; omega))
      rw [Nat.zero_add] at h
      rw [show (n : Int) - (((0 : Nat) : Int) - ((0 : Nat) : Int)) = ((n : Nat) : Int) by omega]
      exact h
    have hGn : n ≤ grownCap w n 0 25 := grownCap_ge w _ _ _
    have hGm : grownCap w n 0 25 ≤ maxLen := grownCap_le_maxLen w n 0 25 (by unfold maxLen; omega)
    generalize hG : grownCap w n 0 25 = G at *
    have hG63 : G ≤ 9223372036854775807 := by unfold maxLen at hGm; omega
    clear hold hG
    go_enter Tryz.func50, Tryz.ntmps50
    go_wp2_with (at_builtin; refine Lib.wpList_append_run _ rfl _ _ _ _ rfl _ _ rfl rfl _ _ (hrz _) ?_)
    all_goals (go_ret; refine ⟨_, rfl, ⟨rfl, .inr ⟨w.heap.size, G, _, rfl, Nat.le_refl _, heap_alloc_new _ _, Nat.zero_le _, hGm, ?_, ?_⟩⟩, (Below.refl _ _).drew.alloc (Nat.le_refl _) _⟩)
    · simp [Builtin.zeroCells]; omega
    · simp

def CcMa (w : World) (m n : Nat) (g : Nat) (v3 i : Value) (wr : World) : Prop :=
  w = wr ∧ ((g = 2 ∧ v3 = .int .i64 0 ∧ i = .int .i64 0) ∨ (g = 1 ∧ v3 = .int .i64 (m : Int) ∧ i = .int .i64 1) ∨ (g = 0 ∧ v3 = .int .i64 ((m + n : Nat) : Int) ∧ i = .int .i64 2))
def CdMa (w : World) (m n : Nat) (x1 x2 : List Value) (g : Nat) (v6 i : Value) (wr : World) : Prop :=
  Below w.heap.size w wr ∧ ((g = 2 ∧ wr.ownsRow w.heap.size 25 7 v6 0 [] ∧ i = .int .i64 0) ∨ (g = 1 ∧ wr.ownsRow w.heap.size 25 7 v6 m x1 ∧ i = .int .i64 1) ∨ (g = 0 ∧ wr.ownsRow w.heap.size 25 7 v6 (m + n) (x1 ++ x2) ∧ i = .int .i64 2))
def CpMa (n : Nat) (xs : List Value) (w : World) (e : Ending) (w' : World) : Prop := ∃ v, e = .returned v ∧ w'.ownsRow w.heap.size 25 7 v n xs ∧ Below w.heap.size w w'
set_option maxRecDepth 100000 in
set_option maxHeartbeats 8000000 in
theorem concatMa_any (A1 A2 : Option Addr) (n1 n2 c1 c2 b cc : Nat) (x1 x2 : List Value) (w : World) (hn : n1 + n2 ≤ 100000)
    (d0 : w.cell? ⟨b, 0, none⟩ = some (.slice A1 n1 c1)) (d1 : w.cell? ⟨b, 1, none⟩ = some (.slice A2 n2 c2)) (h1 : Rws w A1 x1) (h2 : Rws w A2 x2) (hl1 : x1.length = n1 * 7) (hl2 : x2.length = n2 * 7) (ho1 : ∀ u ∈ x1, u.oneCell' = true) (ho2 : ∀ u ∈ x2, u.oneCell' = true) (hn1 : A1 = none → c1 = 0) (hn2 : A2 = none → c2 = 0) :
    Calls Tryz.prog 31 #[.slice (some ⟨b, 0, none⟩) 2 cc] w (CpMa (n1 + n2) (x1 ++ x2) w) := by
  obtain ⟨iF, hiF, hzF0, hzF1, hzF2⟩ := info_parts infoMa
  have HG := Lib.hid (growMa_any (n1 + n2) w hn)
  have HBL := World.block_lt_of_cell? w _ d0
  have hbl : b < w.heap.size := HBL
  have D0 := Lib.hid d0
  have D1 := Lib.hid d1
  have H1 := Lib.hid h1
  have H2 := Lib.hid h2
  have N1 := Lib.hid hn1
  have N2 := Lib.hid hn2
  have L1 := Lib.hid hl1
  have L2 := Lib.hid hl2
  have O1 := Lib.hid ho1
  have O2 := Lib.hid ho2
  clear h1 h2 hn1 hn2 hl1 hl2 ho1 ho2 HBL
  go_enter Tryz.func31, Tryz.ntmps31
  go_wp2_with fail
  go_loopg [3, 11] 2 (fun g v3 i wr => CcMa w n1 n2 g v3 i wr)
  case atStart => exact ⟨rfl, .inl ⟨rfl, rfl, rfl⟩⟩
  case round =>
    obtain ⟨hw, ⟨rfl, rfl, rfl⟩ | ⟨rfl, rfl, rfl⟩ | ⟨rfl, rfl, rfl⟩⟩ := hrel
    all_goals subst hw
    · go_wp2_with fail
      go_roundg 1
      case rel => exact ⟨rfl, .inr (.inl ⟨rfl, by go_num, by go_num⟩)⟩
      case measure => omega
    · go_wp2_with fail
      go_roundg 0
      case rel => exact ⟨rfl, .inr (.inr ⟨rfl, by go_num, by go_num⟩)⟩
      case measure => omega
    · clear d0 d1
      go_wp2_with fail
      refine HG.out.mono ?_
      rintro e w1 ⟨v, rfl, ho, b1⟩
      have HO1 := Lib.hid ho
      have HB1 := Lib.hid b1
      clear ho b1
      go_wp2_with fail
      go_loopg [6, 27] 2 (fun g v6 i wr => CdMa w n1 n2 x1 x2 g v6 i wr)
      case atStart => exact ⟨HB1.out, .inl ⟨rfl, HO1.out, rfl⟩⟩
      case round =>
        obtain ⟨hB, ⟨rfl, hO, rfl⟩ | ⟨rfl, hO, rfl⟩ | ⟨rfl, hO, rfl⟩⟩ := hrel
        · obtain ⟨A6, c6, rfl, -, -⟩ := Rw.own_cells hO
          have HO := Lib.hid hO
          have HB := Lib.hid hB
          have e0 := (hB.cell (p := ⟨b, 0, none⟩) hbl).trans D0.out
          have e1 := (hB.cell (p := ⟨b, 1, none⟩) hbl).trans D1.out
          have HF := Lib.hid (H1.out.on hB)
          have hsz := hB.size
          clear hO hB
          go_wp2_with (at_builtin; refine wpList_append_rws _ rfl _ _ 33 rfl w.heap.size 25 iF _ 7 96 Tryz.underlying33 hiF hzF0 hzF1 hzF2 rfl (by decide) (by decide) (by rfl) HO.out (by rfl) HF.out L1.out O1.out (by omega) N1.out hsz ?_; intro v' w3 hown hgrow; rw [Nat.zero_add, List.nil_append] at hown; obtain ⟨A5, c5, rfl, -, -⟩ := Rw.own_cells hown; have HO3 := Lib.hid hown; have HGr := Lib.hid hgrow; clear hown hgrow)
          all_goals (
            go_roundg 1
            case rel => exact ⟨HB.out.grown HGr.out (by omega) (fun k hk => (HO.out.lt k hk).1), .inr (.inl ⟨rfl, HO3.out, by go_num⟩)⟩
            case measure => omega)
        · obtain ⟨A6, c6, rfl, -, -⟩ := Rw.own_cells hO
          have HO := Lib.hid hO
          have HB := Lib.hid hB
          have e0 := (hB.cell (p := ⟨b, 0, none⟩) hbl).trans D0.out
          have e1 := (hB.cell (p := ⟨b, 1, none⟩) hbl).trans D1.out
          have HF := Lib.hid (H2.out.on hB)
          have hsz := hB.size
          clear hO hB
          go_wp2_with (at_builtin; refine wpList_append_rws _ rfl _ _ 33 rfl w.heap.size 25 iF _ 7 96 Tryz.underlying33 hiF hzF0 hzF1 hzF2 rfl (by decide) (by decide) (by rfl) HO.out (by rfl) HF.out L2.out O2.out hn N2.out hsz ?_; intro v' w3 hown hgrow; obtain ⟨A5, c5, rfl, -, -⟩ := Rw.own_cells hown; have HO3 := Lib.hid hown; have HGr := Lib.hid hgrow; clear hown hgrow)
          all_goals (
            go_roundg 0
            case rel => exact ⟨HB.out.grown HGr.out (by omega) (fun k hk => (HO.out.lt k hk).1), .inr (.inr ⟨rfl, HO3.out, by go_num⟩)⟩
            case measure => omega)
        · obtain ⟨A6, c6, rfl, -, -⟩ := Rw.own_cells hO
          have HO := Lib.hid hO
          have HB := Lib.hid hB
          clear hO hB
          go_wp2_with fail
          go_ret
          exact ⟨_, rfl, HO.out, HB.out⟩

/-- a row appended to an empty one of one's own -/
theorem copyMa_run {W : World} {n : Nat} {cs : List Value} {A : Option Addr} {c g : Nat} {B : Nat} (hl : n ≤ 100000) (hp : Rws W A cs) (hlen : cs.length = n * 7) (hone : ∀ u ∈ cs, u.oneCell' = true)
    (hown : W.ownsRow B 25 7 (.slice (some ⟨g, 0, none⟩) 0 0) 0 []) (hB : B ≤ W.heap.size) :
    ∃ A' c' w', (Builtin.append_ #[33, 33] 33 #[.slice (some ⟨g, 0, none⟩) 0 0, .slice A n c]).run Tryz.prog W = .ok (.slice A' n c') w' ∧ w'.ownsRow B 25 7 (.slice A' n c') n cs ∧ W.grownBy w' (some g) := by
  obtain ⟨i1, hi1, hz0, hz1, hz2⟩ := info_parts infoMa
  by_cases h0 : n = 0
  · subst h0
    have hcs : cs = [] := by
      cases cs with
      | nil => rfl
      | cons x t => simp at hlen
    subst hcs
    have hsrc : Src Tryz.prog i1.size 33 (.slice A 0 c) 0 [] W := by
      cases A with
      | none => exact Src.ofNil W Tryz.underlying33 c
      | some a => exact Src.ofSlice W Tryz.underlying33 a 0 c [] (by simp) (fun j u h => by simp at h) (fun u h => by simp at h)
    exact ⟨some ⟨g, 0, none⟩, 0, W, run_append_nothing W 33 33 33 25 i1 Tryz.underlying33 hi1 (some ⟨g, 0, none⟩) 0 0 (Nat.le_refl _) (.slice A 0 c) hsrc, hown, World.grownBy.refl _ _⟩
  · have hpos : 0 < n := by omega
    obtain ⟨b, off, rfl, hbl, -⟩ := hp.lies (by omega)
    obtain ⟨gg, cap, w', hr, h2, h3, h4, h5⟩ := run_append_lies (P := Tryz.prog) W 33 33 B 25 i1 _ 7 96 Tryz.underlying33 hi1 hz0 hz1 hz2 rfl (by omega) (.slice (some ⟨g, 0, none⟩) 0 0) 0 [] hown ⟨b, off, none⟩ n c cs hlen hp.news hone hpos (by unfold maxLen; omega) (by omega) hB W.heap.size rfl
    rw [Nat.zero_add, List.nil_append] at h2
    rw [Nat.zero_add] at hr
    exact ⟨some ⟨gg, 0, none⟩, cap, w', hr, h2, h3⟩
def ClMa (n : Nat) (cs : List Value) (w : World) (e : Ending) (w' : World) : Prop := ∃ A' c', e = .returned (.slice A' n c') ∧ w'.ownsRow w.heap.size 25 7 (.slice A' n c') n cs ∧ Below w.heap.size w w'
set_option maxRecDepth 100000 in
set_option maxHeartbeats 2000000 in
theorem cloneMa_any (n : Nat) (cs : List Value) (A : Option Addr) (c : Nat) (w : World) (hl : n ≤ 100000) (hp : Rws w A cs) (hlen : cs.length = n * 7) (hone : ∀ u ∈ cs, u.oneCell' = true) : Calls Tryz.prog 60 #[.slice A n c] w (ClMa n cs w) := by
  have qT : ∀ (w : World) (a : Option Addr) (n c n' c' : Nat), (binOp .eql 33 (.slice a n c) (.slice none n' c')).run Tryz.prog w = .ok (.bool a.isNone) w := fun w a n c n' c' => Lib.run_eql_slice_nil w _ _ a n c n' c' Tryz.underlying33
  cases A with
  | none =>
    have hcs := hp.no
    subst hcs
    have h0 : n = 0 := by simp at hlen; omega
    subst h0
    go_enter Tryz.func60, Tryz.ntmps60
    go_wp2_with fail
    go_ret
    exact ⟨none, 0, rfl, World.ownsRow_nil _ _ _ _, Below.refl _ _⟩
  | some ad =>
    have hB4 : Below w.heap.size w (w.alloc (.cells #[] 25)) := (Below.refl _ _).alloc (Nat.le_refl _) _
    have hown4 : (w.alloc (.cells #[] 25)).ownsRow w.heap.size 25 7 (.slice (some ⟨w.heap.size, 0, none⟩) 0 0) 0 [] := World.ownsRow_made (e := 25) (size := 7) w #[] 0 (Nat.le_refl _) (by unfold maxLen; omega) rfl
    obtain ⟨A', c', w5, hrun, hown5, hgr5⟩ := copyMa_run (W := w.alloc (.cells #[] 25)) (n := n) (cs := cs) (A := some ad) (c := c) hl (hp.on hB4) hlen hone hown4 (by simp)
    have hs4 : (w.alloc (.cells #[] 25)).heap.size = w.heap.size + 1 := by simp
    have hB5 : Below w.heap.size w w5 := hB4.grown hgr5 (by rw [hs4]; omega) (fun k hk => by cases hk; omega)
    have HRUN := Lib.hid hrun
    have HE := Lib.hid (show ClMa n cs w (.returned (.slice A' n c')) w5 from ⟨A', c', rfl, hown5, hB5⟩)
    clear hB4 hown4 hs4 hrun hown5 hgr5 hB5 hp
    go_enter Tryz.func60, Tryz.ntmps60
    go_wp2_with (first
      | (at_builtin; (refine Lib.wpList_append_run _ rfl _ _ _ _ rfl _ _ rfl rfl _ _ HRUN.out ?_)))
    go_ret
    exact HE.out
end Go.Proofs.YtjkaljokkpabfaaGreatDoor
end
