/-
  ROWS OF EXCHANGES: slices.Grow of none, slices.Concat of two, slices.Clone: walked. ROWS OF BINDINGS: slices.Grow of none, slices.Concat of two, slices.Clone: walked.
-/
import Derived.Test.YtecjngodfciokaaGreatDoorCc02
import Derived.Test.YtecjngodfciokaaGreatDoorCc03
import Derived.Deep.Upon
import Derived.Laws.AppendOwnNone
section
namespace Go.Proofs.YtecjngodfciokaaGreatDoor
open Go.ChangeShapes Go.WideShapes Go.ChangeAt Go.RowKit Go.Lib
theorem infoSh : (Tryz.prog.info? 30).map (fun i => (i.zero, i.size, i.bytes)) = some (some (.agg #[.string ⟨#[]⟩, .int .u8 0, .string ⟨#[]⟩]), 3, 40) := by kernel_rfl
/-- one appended to a row that has no room -/
theorem moreSh_run {W : World} {n : Nat} {cs xs : List Value} {A : Option Addr} {b : Nat} (hl : n ≤ 100000) (hp : Rws W A cs) (hlen : cs.length = n * 3) (hxl : xs.length = 3) (hxo : ∀ u ∈ xs, u.oneCell' = true) (hx : ∀ j u, xs[j]? = some u → W.cell? ((⟨b, 0, none⟩ : Addr).add j) = some u) (hn : A = none → n = 0) :
    ∃ g c' w', (Builtin.append_ #[128, 128] 128 #[.slice A n n, .slice (some ⟨b, 0, none⟩) 1 1]).run Tryz.prog W = .ok (.slice (some ⟨g, 0, none⟩) (n + 1) c') w' ∧ w'.ownsRow W.heap.size 30 3 (.slice (some ⟨g, 0, none⟩) (n + 1) c') (n + 1) (cs ++ xs) ∧ W.grownBy w' none := by
  obtain ⟨i1, hi1, hz0, hz1, hz2⟩ := info_parts infoSh
  cases A with
  | none =>
    have h0 := hn rfl
    subst h0
    have hcs := hp.no
    subst hcs
    obtain ⟨gg, cap, w', hr, h2, h3, h4, h5⟩ := run_append_lies (P := Tryz.prog) W 128 128 W.heap.size 30 i1 _ 3 40 Tryz.underlying128 hi1 hz0 hz1 hz2 rfl (by omega) (.slice none 0 0) 0 [] (World.ownsRow_nil _ _ _ _) ⟨b, 0, none⟩ 1 1 xs (by rw [hxl]) hx hxo (by omega) (by unfold maxLen; omega) (by omega) (Nat.le_refl _) W.heap.size rfl
    exact ⟨gg, cap, w', hr, h2, h3⟩
  | some ad =>
    have hcell : ∀ j u, cs[j]? = some u → W.cell? (ad.add j) = some u := by
      intro j u hj
      obtain ⟨b', off, e, -, hc⟩ := hp.at_ j u hj
      cases e
      rw [rws_add]
      exact hc
    obtain ⟨v', w', hr, h2, h3⟩ := run_append_arg_grows (P := Tryz.prog) W 128 128 30 i1 _ 3 40 Tryz.underlying128 hi1 hz0 hz1 hz2 rfl (by omega) ad n n cs hlen hcell ⟨b, 0, none⟩ 1 1 xs (by rw [hxl]) hx (by omega) (by unfold maxLen; omega) (by omega)
    obtain ⟨g, cap, rfl, _, hlt⟩ := h2.form (by omega)
    exact ⟨g, cap, w', hr, h2, h3⟩
end Go.Proofs.YtecjngodfciokaaGreatDoor
end
section
namespace Go.Proofs.YtecjngodfciokaaGreatDoor
open Go.ChangeShapes Go.WideShapes Go.ChangeAt Go.RowKit Go.Lib
theorem infoBd : (Tryz.prog.info? 35).map (fun i => (i.zero, i.size, i.bytes)) = some (some (.agg #[.string ⟨#[]⟩, .string ⟨#[]⟩, .bool false, .string ⟨#[]⟩, .slice none 0 0, .bool false]), 6, 88) := by kernel_rfl
/-- one appended to a row that has no room -/
theorem moreBd_run {W : World} {n : Nat} {cs xs : List Value} {A : Option Addr} {b : Nat} (hl : n ≤ 100000) (hp : Rws W A cs) (hlen : cs.length = n * 6) (hxl : xs.length = 6) (hxo : ∀ u ∈ xs, u.oneCell' = true) (hx : ∀ j u, xs[j]? = some u → W.cell? ((⟨b, 0, none⟩ : Addr).add j) = some u) (hn : A = none → n = 0) :
    ∃ g c' w', (Builtin.append_ #[129, 129] 129 #[.slice A n n, .slice (some ⟨b, 0, none⟩) 1 1]).run Tryz.prog W = .ok (.slice (some ⟨g, 0, none⟩) (n + 1) c') w' ∧ w'.ownsRow W.heap.size 35 6 (.slice (some ⟨g, 0, none⟩) (n + 1) c') (n + 1) (cs ++ xs) ∧ W.grownBy w' none := by
  obtain ⟨i1, hi1, hz0, hz1, hz2⟩ := info_parts infoBd
  cases A with
  | none =>
    have h0 := hn rfl
    subst h0
    have hcs := hp.no
    subst hcs
    obtain ⟨gg, cap, w', hr, h2, h3, h4, h5⟩ := run_append_lies (P := Tryz.prog) W 129 129 W.heap.size 35 i1 _ 6 88 Tryz.underlying129 hi1 hz0 hz1 hz2 rfl (by omega) (.slice none 0 0) 0 [] (World.ownsRow_nil _ _ _ _) ⟨b, 0, none⟩ 1 1 xs (by rw [hxl]) hx hxo (by omega) (by unfold maxLen; omega) (by omega) (Nat.le_refl _) W.heap.size rfl
    exact ⟨gg, cap, w', hr, h2, h3⟩
  | some ad =>
    have hcell : ∀ j u, cs[j]? = some u → W.cell? (ad.add j) = some u := by
      intro j u hj
      obtain ⟨b', off, e, -, hc⟩ := hp.at_ j u hj
      cases e
      rw [rws_add]
      exact hc
    obtain ⟨v', w', hr, h2, h3⟩ := run_append_arg_grows (P := Tryz.prog) W 129 129 35 i1 _ 6 88 Tryz.underlying129 hi1 hz0 hz1 hz2 rfl (by omega) ad n n cs hlen hcell ⟨b, 0, none⟩ 1 1 xs (by rw [hxl]) hx (by omega) (by unfold maxLen; omega) (by omega)
    obtain ⟨g, cap, rfl, _, hlt⟩ := h2.form (by omega)
    exact ⟨g, cap, w', hr, h2, h3⟩
end Go.Proofs.YtecjngodfciokaaGreatDoor
end
