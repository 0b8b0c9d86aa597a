/-
  ROWS OF EXCHANGES: slices.Grow of none, slices.Concat of two, slices.Clone: walked. ROWS OF BINDINGS: slices.Grow of none, slices.Concat of two, slices.Clone: walked.
-/
import Derived.Test.YtopobliajgocaaaGreatDoorZp02
import Derived.Test.YtopobliajgocaaaGreatDoorZp03
import Derived.Test.YtopobliajgocaaaGreatDoorZp04
import Derived.Deep.Upon
import Derived.Laws.AppendOwnNone
section
namespace Go.Proofs.YtopobliajgocaaaGreatDoor
open Go.ChangeShapes Go.WideShapes Go.ChangeAt Go.RowKit Go.Lib
theorem infoSh : (Tryz.prog.info? 34).map (fun i => (i.zero, i.size, i.bytes)) = some (some (.agg #[.string ⟨#[]⟩, .int .u8 0, .string ⟨#[]⟩]), 3, 40) := by kernel_rfl
/-- a row appended to an empty one of one's own -/
theorem copySh_run {W : World} {n : Nat} {cs : List Value} {A : Option Addr} {c g : Nat} {B : Nat} (hl : n ≤ 100000) (hp : Rws W A cs) (hlen : cs.length = n * 3) (hone : ∀ u ∈ cs, u.oneCell' = true)
    (hown : W.ownsRow B 34 3 (.slice (some ⟨g, 0, none⟩) 0 0) 0 []) (hB : B ≤ W.heap.size) :
    ∃ A' c' w', (Builtin.append_ #[25, 25] 25 #[.slice (some ⟨g, 0, none⟩) 0 0, .slice A n c]).run Tryz.prog W = .ok (.slice A' n c') w' ∧ w'.ownsRow B 34 3 (.slice A' n c') n cs ∧ W.grownBy w' (some g) := by
  obtain ⟨i1, hi1, hz0, hz1, hz2⟩ := info_parts infoSh
  by_cases h0 : n = 0
  · subst h0
    have hcs : cs = [] := by
      cases cs with
      | nil => rfl
      | cons x t => simp at hlen
    subst hcs
    have hsrc : Src Tryz.prog i1.size 25 (.slice A 0 c) 0 [] W := by
      cases A with
      | none => exact Src.ofNil W Tryz.underlying25 c
      | some a => exact Src.ofSlice W Tryz.underlying25 a 0 c [] (by simp) (fun j u h => by simp at h) (fun u h => by simp at h)
    exact ⟨some ⟨g, 0, none⟩, 0, W, run_append_nothing W 25 25 25 34 i1 Tryz.underlying25 hi1 (some ⟨g, 0, none⟩) 0 0 (Nat.le_refl _) (.slice A 0 c) hsrc, hown, World.grownBy.refl _ _⟩
  · have hpos : 0 < n := by omega
    obtain ⟨b, off, rfl, hbl, -⟩ := hp.lies (by omega)
    obtain ⟨gg, cap, w', hr, h2, h3, h4, h5⟩ := run_append_lies (P := Tryz.prog) W 25 25 B 34 i1 _ 3 40 Tryz.underlying25 hi1 hz0 hz1 hz2 rfl (by omega) (.slice (some ⟨g, 0, none⟩) 0 0) 0 [] hown ⟨b, off, none⟩ n c cs hlen hp.news hone hpos (by unfold maxLen; omega) (by omega) hB W.heap.size rfl
    rw [Nat.zero_add, List.nil_append] at h2
    rw [Nat.zero_add] at hr
    exact ⟨some ⟨gg, 0, none⟩, cap, w', hr, h2, h3⟩
def ClSh (n : Nat) (cs : List Value) (w : World) (e : Ending) (w' : World) : Prop := ∃ A' c', e = .returned (.slice A' n c') ∧ w'.ownsRow w.heap.size 34 3 (.slice A' n c') n cs ∧ Below w.heap.size w w'
set_option maxRecDepth 100000 in
set_option maxHeartbeats 2000000 in
theorem cloneSh_any (n : Nat) (cs : List Value) (A : Option Addr) (c : Nat) (w : World) (hl : n ≤ 100000) (hp : Rws w A cs) (hlen : cs.length = n * 3) (hone : ∀ u ∈ cs, u.oneCell' = true) : Calls Tryz.prog 66 #[.slice A n c] w (ClSh n cs w) := by
  have qT : ∀ (w : World) (a : Option Addr) (n c n' c' : Nat), (binOp .eql 25 (.slice a n c) (.slice none n' c')).run Tryz.prog w = .ok (.bool a.isNone) w := fun w a n c n' c' => Lib.run_eql_slice_nil w _ _ a n c n' c' Tryz.underlying25
  cases A with
  | none =>
    have hcs := hp.no
    subst hcs
    have h0 : n = 0 := by simp at hlen; omega
    subst h0
    go_enter Tryz.func66, Tryz.ntmps66
    go_wp2_with fail
    go_ret
    exact ⟨none, 0, rfl, World.ownsRow_nil _ _ _ _, Below.refl _ _⟩
  | some ad =>
    have hB4 : Below w.heap.size w (w.alloc (.cells #[] 34)) := (Below.refl _ _).alloc (Nat.le_refl _) _
    have hown4 : (w.alloc (.cells #[] 34)).ownsRow w.heap.size 34 3 (.slice (some ⟨w.heap.size, 0, none⟩) 0 0) 0 [] := World.ownsRow_made (e := 34) (size := 3) w #[] 0 (Nat.le_refl _) (by unfold maxLen; omega) rfl
    obtain ⟨A', c', w5, hrun, hown5, hgr5⟩ := copySh_run (W := w.alloc (.cells #[] 34)) (n := n) (cs := cs) (A := some ad) (c := c) hl (hp.on hB4) hlen hone hown4 (by simp)
    have hs4 : (w.alloc (.cells #[] 34)).heap.size = w.heap.size + 1 := by simp
    have hB5 : Below w.heap.size w w5 := hB4.grown hgr5 (by rw [hs4]; omega) (fun k hk => by cases hk; omega)
    have HRUN := Lib.hid hrun
    have HE := Lib.hid (show ClSh n cs w (.returned (.slice A' n c')) w5 from ⟨A', c', rfl, hown5, hB5⟩)
    clear hB4 hown4 hs4 hrun hown5 hgr5 hB5 hp
    go_enter Tryz.func66, Tryz.ntmps66
    go_wp2_with (first
      | (at_builtin; (refine Lib.wpList_append_run _ rfl _ _ _ _ rfl _ _ rfl rfl _ _ HRUN.out ?_)))
    go_ret
    exact HE.out
/-- one appended to a row that has no room -/
theorem moreSh_run {W : World} {n : Nat} {cs xs : List Value} {A : Option Addr} {b : Nat} (hl : n ≤ 100000) (hp : Rws W A cs) (hlen : cs.length = n * 3) (hxl : xs.length = 3) (hxo : ∀ u ∈ xs, u.oneCell' = true) (hx : ∀ j u, xs[j]? = some u → W.cell? ((⟨b, 0, none⟩ : Addr).add j) = some u) (hn : A = none → n = 0) :
    ∃ g c' w', (Builtin.append_ #[25, 25] 25 #[.slice A n n, .slice (some ⟨b, 0, none⟩) 1 1]).run Tryz.prog W = .ok (.slice (some ⟨g, 0, none⟩) (n + 1) c') w' ∧ w'.ownsRow W.heap.size 34 3 (.slice (some ⟨g, 0, none⟩) (n + 1) c') (n + 1) (cs ++ xs) ∧ W.grownBy w' none := by
  obtain ⟨i1, hi1, hz0, hz1, hz2⟩ := info_parts infoSh
  cases A with
  | none =>
    have h0 := hn rfl
    subst h0
    have hcs := hp.no
    subst hcs
    obtain ⟨gg, cap, w', hr, h2, h3, h4, h5⟩ := run_append_lies (P := Tryz.prog) W 25 25 W.heap.size 34 i1 _ 3 40 Tryz.underlying25 hi1 hz0 hz1 hz2 rfl (by omega) (.slice none 0 0) 0 [] (World.ownsRow_nil _ _ _ _) ⟨b, 0, none⟩ 1 1 xs (by rw [hxl]) hx hxo (by omega) (by unfold maxLen; omega) (by omega) (Nat.le_refl _) W.heap.size rfl
    exact ⟨gg, cap, w', hr, h2, h3⟩
  | some ad =>
    have hcell : ∀ j u, cs[j]? = some u → W.cell? (ad.add j) = some u := by
      intro j u hj
      obtain ⟨b', off, e, -, hc⟩ := hp.at_ j u hj
      cases e
      rw [rws_add]
      exact hc
    obtain ⟨v', w', hr, h2, h3⟩ := run_append_arg_grows (P := Tryz.prog) W 25 25 34 i1 _ 3 40 Tryz.underlying25 hi1 hz0 hz1 hz2 rfl (by omega) ad n n cs hlen hcell ⟨b, 0, none⟩ 1 1 xs (by rw [hxl]) hx (by omega) (by unfold maxLen; omega) (by omega)
    obtain ⟨g, cap, rfl, _, hlt⟩ := h2.form (by omega)
    exact ⟨g, cap, w', hr, h2, h3⟩
end Go.Proofs.YtopobliajgocaaaGreatDoor
end
section
namespace Go.Proofs.YtopobliajgocaaaGreatDoor
open Go.ChangeShapes Go.WideShapes Go.ChangeAt Go.RowKit Go.Lib
theorem infoBd : (Tryz.prog.info? 37).map (fun i => (i.zero, i.size, i.bytes)) = some (some (.agg #[.string ⟨#[]⟩, .string ⟨#[]⟩, .bool false, .string ⟨#[]⟩, .slice none 0 0, .bool false]), 6, 88) := by kernel_rfl
/-- a row appended to an empty one of one's own -/
theorem copyBd_run {W : World} {n : Nat} {cs : List Value} {A : Option Addr} {c g : Nat} {B : Nat} (hl : n ≤ 100000) (hp : Rws W A cs) (hlen : cs.length = n * 6) (hone : ∀ u ∈ cs, u.oneCell' = true)
    (hown : W.ownsRow B 37 6 (.slice (some ⟨g, 0, none⟩) 0 0) 0 []) (hB : B ≤ W.heap.size) :
    ∃ A' c' w', (Builtin.append_ #[26, 26] 26 #[.slice (some ⟨g, 0, none⟩) 0 0, .slice A n c]).run Tryz.prog W = .ok (.slice A' n c') w' ∧ w'.ownsRow B 37 6 (.slice A' n c') n cs ∧ W.grownBy w' (some g) := by
  obtain ⟨i1, hi1, hz0, hz1, hz2⟩ := info_parts infoBd
  by_cases h0 : n = 0
  · subst h0
    have hcs : cs = [] := by
      cases cs with
      | nil => rfl
      | cons x t => simp at hlen
    subst hcs
    have hsrc : Src Tryz.prog i1.size 26 (.slice A 0 c) 0 [] W := by
      cases A with
      | none => exact Src.ofNil W Tryz.underlying26 c
      | some a => exact Src.ofSlice W Tryz.underlying26 a 0 c [] (by simp) (fun j u h => by simp at h) (fun u h => by simp at h)
    exact ⟨some ⟨g, 0, none⟩, 0, W, run_append_nothing W 26 26 26 37 i1 Tryz.underlying26 hi1 (some ⟨g, 0, none⟩) 0 0 (Nat.le_refl _) (.slice A 0 c) hsrc, hown, World.grownBy.refl _ _⟩
  · have hpos : 0 < n := by omega
    obtain ⟨b, off, rfl, hbl, -⟩ := hp.lies (by omega)
    obtain ⟨gg, cap, w', hr, h2, h3, h4, h5⟩ := run_append_lies (P := Tryz.prog) W 26 26 B 37 i1 _ 6 88 Tryz.underlying26 hi1 hz0 hz1 hz2 rfl (by omega) (.slice (some ⟨g, 0, none⟩) 0 0) 0 [] hown ⟨b, off, none⟩ n c cs hlen hp.news hone hpos (by unfold maxLen; omega) (by omega) hB W.heap.size rfl
    rw [Nat.zero_add, List.nil_append] at h2
    rw [Nat.zero_add] at hr
    exact ⟨some ⟨gg, 0, none⟩, cap, w', hr, h2, h3⟩
def ClBd (n : Nat) (cs : List Value) (w : World) (e : Ending) (w' : World) : Prop := ∃ A' c', e = .returned (.slice A' n c') ∧ w'.ownsRow w.heap.size 37 6 (.slice A' n c') n cs ∧ Below w.heap.size w w'
set_option maxRecDepth 100000 in
set_option maxHeartbeats 2000000 in
theorem cloneBd_any (n : Nat) (cs : List Value) (A : Option Addr) (c : Nat) (w : World) (hl : n ≤ 100000) (hp : Rws w A cs) (hlen : cs.length = n * 6) (hone : ∀ u ∈ cs, u.oneCell' = true) : Calls Tryz.prog 67 #[.slice A n c] w (ClBd n cs w) := by
  have qT : ∀ (w : World) (a : Option Addr) (n c n' c' : Nat), (binOp .eql 26 (.slice a n c) (.slice none n' c')).run Tryz.prog w = .ok (.bool a.isNone) w := fun w a n c n' c' => Lib.run_eql_slice_nil w _ _ a n c n' c' Tryz.underlying26
  cases A with
  | none =>
    have hcs := hp.no
    subst hcs
    have h0 : n = 0 := by simp at hlen; omega
    subst h0
    go_enter Tryz.func67, Tryz.ntmps67
    go_wp2_with fail
    go_ret
    exact ⟨none, 0, rfl, World.ownsRow_nil _ _ _ _, Below.refl _ _⟩
  | some ad =>
    have hB4 : Below w.heap.size w (w.alloc (.cells #[] 37)) := (Below.refl _ _).alloc (Nat.le_refl _) _
    have hown4 : (w.alloc (.cells #[] 37)).ownsRow w.heap.size 37 6 (.slice (some ⟨w.heap.size, 0, none⟩) 0 0) 0 [] := World.ownsRow_made (e := 37) (size := 6) w #[] 0 (Nat.le_refl _) (by unfold maxLen; omega) rfl
    obtain ⟨A', c', w5, hrun, hown5, hgr5⟩ := copyBd_run (W := w.alloc (.cells #[] 37)) (n := n) (cs := cs) (A := some ad) (c := c) hl (hp.on hB4) hlen hone hown4 (by simp)
    have hs4 : (w.alloc (.cells #[] 37)).heap.size = w.heap.size + 1 := by simp
    have hB5 : Below w.heap.size w w5 := hB4.grown hgr5 (by rw [hs4]; omega) (fun k hk => by cases hk; omega)
    have HRUN := Lib.hid hrun
    have HE := Lib.hid (show ClBd n cs w (.returned (.slice A' n c')) w5 from ⟨A', c', rfl, hown5, hB5⟩)
    clear hB4 hown4 hs4 hrun hown5 hgr5 hB5 hp
    go_enter Tryz.func67, Tryz.ntmps67
    go_wp2_with (first
      | (at_builtin; (refine Lib.wpList_append_run _ rfl _ _ _ _ rfl _ _ rfl rfl _ _ HRUN.out ?_)))
    go_ret
    exact HE.out
/-- one appended to a row that has no room -/
theorem moreBd_run {W : World} {n : Nat} {cs xs : List Value} {A : Option Addr} {b : Nat} (hl : n ≤ 100000) (hp : Rws W A cs) (hlen : cs.length = n * 6) (hxl : xs.length = 6) (hxo : ∀ u ∈ xs, u.oneCell' = true) (hx : ∀ j u, xs[j]? = some u → W.cell? ((⟨b, 0, none⟩ : Addr).add j) = some u) (hn : A = none → n = 0) :
    ∃ g c' w', (Builtin.append_ #[26, 26] 26 #[.slice A n n, .slice (some ⟨b, 0, none⟩) 1 1]).run Tryz.prog W = .ok (.slice (some ⟨g, 0, none⟩) (n + 1) c') w' ∧ w'.ownsRow W.heap.size 37 6 (.slice (some ⟨g, 0, none⟩) (n + 1) c') (n + 1) (cs ++ xs) ∧ W.grownBy w' none := by
  obtain ⟨i1, hi1, hz0, hz1, hz2⟩ := info_parts infoBd
  cases A with
  | none =>
    have h0 := hn rfl
    subst h0
    have hcs := hp.no
    subst hcs
    obtain ⟨gg, cap, w', hr, h2, h3, h4, h5⟩ := run_append_lies (P := Tryz.prog) W 26 26 W.heap.size 37 i1 _ 6 88 Tryz.underlying26 hi1 hz0 hz1 hz2 rfl (by omega) (.slice none 0 0) 0 [] (World.ownsRow_nil _ _ _ _) ⟨b, 0, none⟩ 1 1 xs (by rw [hxl]) hx hxo (by omega) (by unfold maxLen; omega) (by omega) (Nat.le_refl _) W.heap.size rfl
    exact ⟨gg, cap, w', hr, h2, h3⟩
  | some ad =>
    have hcell : ∀ j u, cs[j]? = some u → W.cell? (ad.add j) = some u := by
      intro j u hj
      obtain ⟨b', off, e, -, hc⟩ := hp.at_ j u hj
      cases e
      rw [rws_add]
      exact hc
    obtain ⟨v', w', hr, h2, h3⟩ := run_append_arg_grows (P := Tryz.prog) W 26 26 37 i1 _ 6 88 Tryz.underlying26 hi1 hz0 hz1 hz2 rfl (by omega) ad n n cs hlen hcell ⟨b, 0, none⟩ 1 1 xs (by rw [hxl]) hx (by omega) (by unfold maxLen; omega) (by omega)
    obtain ⟨g, cap, rfl, _, hlt⟩ := h2.form (by omega)
    exact ⟨g, cap, w', hr, h2, h3⟩
end Go.Proofs.YtopobliajgocaaaGreatDoor
end
