/-
  ITEMS OF A LINE IN MEMORY; slices.Clone of them.
-/
import Derived.Test.YtfbajmiiecmelabDoorLo04
import Derived.Test.YtfbajmiiecmelabDoorLo06
import Derived.Test.YtfbajmiiecmelabDoorLo27
import Derived.Test.YtfbajmiiecmelabDoorLo28
import Derived.Test.YtfbajmiiecmelabDoorLo29
import Derived.Deep.AppendLies
import Derived.ArgAppend
import Derived.Deep.RegionHeld3
import Derived.Deep.DeepCutAuto
section
namespace Go.Proofs.YtfbajmiiecmelabDoor
open Go.ChangeShapes Go.WideShapes Go.ChangeAt Go.RowKit
def itL (x : It) (A : Option Addr) (c : Nat) : List Value := [.int .u64 (x.m.id : Int), .string (ofL x.m.shop), .string (ofL x.m.key), .slice A x.m.head.length c, .string (ofL x.m.body), .int .u64 (x.m.due : Int), .int .u8 (x.m.hops : Int), .bool x.lent, .bool x.again]
def itV (x : It) (A : Option Addr) (c : Nat) : Value := .agg #[.int .u64 (x.m.id : Int), .string (ofL x.m.shop), .string (ofL x.m.key), .slice A x.m.head.length c, .string (ofL x.m.body), .int .u64 (x.m.due : Int), .int .u8 (x.m.hops : Int), .bool x.lent, .bool x.again]
/-- an item, and where its pairs lie -/
structure ItP where
  x : It
  A : Option Addr
  c : Nat
def its (m : List ItP) : List Value := m.flatMap fun p => itL p.x p.A p.c
theorem its_len (m : List ItP) : (its m).length = m.length * 9 := Rw.flat_len _ 9 (fun _ => rfl) m
theorem its_app (m n : List ItP) : its (m ++ n) = its m ++ its n := by simp [its]
theorem its_at {m : List ItP} {i j : Nat} (h : i < m.length) (hj : j < 9) : (its m)[i * 9 + j]? = (itL m[i].x m[i].A m[i].c)[j]? := Rw.flat_get (fun p : ItP => itL p.x p.A p.c) 9 (fun _ => rfl) (by decide) m i j h hj
theorem its_one (m : List ItP) : ∀ u ∈ its m, u.oneCell' = true := by
  intro u hu
  obtain ⟨f, _, hf⟩ := List.mem_flatMap.1 hu
  simp only [itL, List.mem_cons, List.not_mem_nil, or_false] at hf
  rcases hf with rfl | rfl | rfl | rfl | rfl | rfl | rfl | rfl | rfl <;> rfl
/-- a message that can be walked -/
structure MaGo (w : World) (x : Ml) (A : Option Addr) (c : Nat) : Prop where
  ok : MaOk w x A c
  fits : Ml.Fits x
theorem MaGo.on {w w' : World} {x : Ml} {A : Option Addr} {c : Nat} (h : MaGo w x A c) (hb : Below w.heap.size w w') : MaGo w' x A c := ⟨h.ok.on hb, h.fits⟩
/-- items in memory -/
structure Its (w : World) (A : Option Addr) (m : List ItP) : Prop where
  at_ : ∀ i (h : i < m.length), ∃ b off, A = some ⟨b, off, none⟩ ∧ b < w.heap.size ∧ ∀ j v, (itL m[i].x m[i].A m[i].c)[j]? = some v → w.cell? ⟨b, off + i * 9 + j, none⟩ = some v
  ok : ∀ p ∈ m, MaGo w p.x.m p.A p.c
theorem Its.on {w w' : World} {A : Option Addr} {m : List ItP} (h : Its w A m) (hb : Below w.heap.size w w') : Its w' A m := ⟨fun i hi => by
  obtain ⟨b, off, hA, hlt, hc⟩ := h.at_ i hi
  exact ⟨b, off, hA, Nat.lt_of_lt_of_le hlt hb.size, fun j v hv => (hb.cell (p := ⟨b, off + i * 9 + j, none⟩) hlt).trans (hc j v hv)⟩, fun p hp => (h.ok p hp).on hb⟩
theorem Its.nil (w : World) (A : Option Addr) : Its w A [] := ⟨fun i hi => absurd hi (by simp), fun p hp => by simp at hp⟩
theorem Its.cells {w : World} {b off : Nat} {m : List ItP} (h : Its w (some ⟨b, off, none⟩) m) : ∀ j u, (its m)[j]? = some u → w.cell? ((⟨b, off, none⟩ : Addr).add j) = some u := by
  intro j u hj
  have hlt : j < m.length * 9 := by
    have := (List.getElem?_eq_some_iff.1 hj).1
    rwa [its_len] at this
  obtain ⟨b', off', e, _, hat⟩ := h.at_ (j / 9) (by omega)
  obtain ⟨rfl, rfl⟩ : b = b' ∧ off = off' := by simpa using e
  have hget := its_at (m := m) (i := j / 9) (j := j % 9) (by omega) (by omega)
  rw [show j / 9 * 9 + j % 9 = j by omega] at hget
  rw [addr_at1, show off + j = off + j / 9 * 9 + j % 9 by omega]
  exact hat _ _ (by rw [← hget]; exact hj)
/-- a row of one's own is items in memory -/
theorem Its.of_own {w : World} {B e : Nat} {A : Option Addr} {c : Nat} {m : List ItP} (h : w.ownsRow B e 9 (.slice A m.length c) m.length (its m)) (ho : ∀ p ∈ m, MaGo w p.x.m p.A p.c) : Its w A m := by
  obtain ⟨A2, c2, e2, hc, hb, hx⟩ := Rw.own_cells h
  obtain ⟨rfl, -, rfl⟩ := Value.slice.inj e2
  refine ⟨fun i hi => ?_, ho⟩
  obtain ⟨g, rfl, hg, hcell⟩ := hx (by omega)
  refine ⟨g, 0, rfl, hg, fun j v hv => ?_⟩
  have hj : j < 9 := (List.getElem?_eq_some_iff.1 hv).1
  rw [Nat.zero_add, hcell _ (by omega), its_at hi hj]
  exact hv
/-- a line's value, and what it holds -/
def LnIn (w : World) (v : Value) (l : List It) : Prop := ∃ A c m, v = .agg #[.slice A l.length c] ∧ m.map (·.x) = l ∧ l.length ≤ c ∧ Its w A m
theorem LnIn.on {w w' : World} {v : Value} {l : List It} (h : LnIn w v l) (hb : Below w.heap.size w w') : LnIn w' v l := by
  obtain ⟨A, c, m, h1, h2, h3, h4⟩ := h
  exact ⟨A, c, m, h1, h2, h3, h4.on hb⟩
theorem xs_len {m : List ItP} {l : List It} (h : m.map (·.x) = l) : m.length = l.length := by rw [← h]; simp
theorem xs_get {m : List ItP} {l : List It} (h : m.map (·.x) = l) {i : Nat} (hi : i < m.length) : m[i].x = l.getD i it0 := by
  subst h
  rw [List.getD_eq_getElem?_getD, List.getElem?_map, List.getElem?_eq_getElem hi]
  rfl
theorem infoIt : (Tryd.prog.info? 30).map (fun i => (i.zero, i.size, i.bytes)) = some (some (.agg #[.int .u64 0, .string ⟨#[]⟩, .string ⟨#[]⟩, .slice none 0 0, .string ⟨#[]⟩, .int .u64 0, .int .u8 0, .bool false, .bool false]), 9, 104) := by kernel_rfl
/-- a row appended to an empty one of one's own -/
theorem copyIt_run {W : World} {m : List ItP} {A : Option Addr} {c g : Nat} {B : Nat} (hl : m.length ≤ 100000) (hp : Its W A m)
    (hown : W.ownsRow B 30 9 (.slice (some ⟨g, 0, none⟩) 0 0) 0 []) (hB : B ≤ W.heap.size) :
    ∃ A' c' w', (Builtin.append_ #[22, 22] 22 #[.slice (some ⟨g, 0, none⟩) 0 0, .slice A m.length c]).run Tryd.prog W = .ok (.slice A' m.length c') w' ∧ w'.ownsRow B 30 9 (.slice A' m.length c') m.length (its m) ∧ W.grownBy w' (some g) := by
  obtain ⟨i1, hi1, hz0, hz1, hz2⟩ := info_parts infoIt
  cases hcase : m with
  | nil =>
    subst hcase
    have hsrc : Src Tryd.prog i1.size 22 (.slice A 0 c) 0 [] W := by
      cases A with
      | none => exact Src.ofNil W Tryd.underlying22 c
      | some a => exact Src.ofSlice W Tryd.underlying22 a 0 c [] (by simp) (fun j u h => by simp at h) (fun u h => by simp at h)
    exact ⟨some ⟨g, 0, none⟩, 0, W, run_append_nothing W 22 22 22 30 i1 Tryd.underlying22 hi1 (some ⟨g, 0, none⟩) 0 0 (Nat.le_refl _) (.slice A 0 c) hsrc, hown, World.grownBy.refl _ _⟩
  | cons x t =>
    rw [← hcase]
    have hpos : 0 < m.length := by rw [hcase]; simp
    obtain ⟨b, off, rfl, hbl, -⟩ := hp.at_ 0 hpos
    obtain ⟨gg, cap, w', hr, h2, h3, h4, h5⟩ := run_append_lies (P := Tryd.prog) W 22 22 B 30 i1 _ 9 104 Tryd.underlying22 hi1 hz0 hz1 hz2 rfl (by omega) (.slice (some ⟨g, 0, none⟩) 0 0) 0 [] hown ⟨b, off, none⟩ m.length c (its m) (its_len m) hp.cells (its_one m) hpos (by unfold maxLen; omega) (by omega) hB W.heap.size rfl
    rw [Nat.zero_add, List.nil_append] at h2
    rw [Nat.zero_add] at hr
    exact ⟨some ⟨gg, 0, none⟩, cap, w', hr, h2, h3⟩
def ClIt (m : List ItP) (w : World) (e : Ending) (w' : World) : Prop := ∃ A' c', e = .returned (.slice A' m.length c') ∧ w'.ownsRow w.heap.size 30 9 (.slice A' m.length c') m.length (its m) ∧ Below w.heap.size w w'
set_option maxRecDepth 100000 in
set_option maxHeartbeats 2000000 in
theorem cloneIt_any (m : List ItP) (A : Option Addr) (c : Nat) (w : World) (hl : m.length ≤ 100000) (hp : Its w A m) : Calls Tryd.prog 21 #[.slice A m.length c] w (ClIt m w) := by
  have qT : ∀ (w : World) (a : Option Addr) (n c n' c' : Nat), (binOp .eql 22 (.slice a n c) (.slice none n' c')).run Tryd.prog w = .ok (.bool a.isNone) w := fun w a n c n' c' => Lib.run_eql_slice_nil w _ _ a n c n' c' Tryd.underlying22
  cases A with
  | none =>
    have h0 : m = [] := by
      cases m with
      | nil => rfl
      | cons x t => obtain ⟨b, off, e, _⟩ := hp.at_ 0 (by simp); cases e
    subst h0
    go_enter Tryd.func21, Tryd.ntmps21
    go_wp2_with fail
    go_ret
    exact ⟨none, 0, rfl, World.ownsRow_nil _ _ _ _, Below.refl _ _⟩
  | some ad =>
    have hB4 : Below w.heap.size w (w.alloc (.cells #[] 30)) := (Below.refl _ _).alloc (Nat.le_refl _) _
    have hown4 : (w.alloc (.cells #[] 30)).ownsRow w.heap.size 30 9 (.slice (some ⟨w.heap.size, 0, none⟩) 0 0) 0 [] := World.ownsRow_made (e := 30) (size := 9) w #[] 0 (Nat.le_refl _) (by unfold maxLen; omega) rfl
    obtain ⟨A', c', w5, hrun, hown5, hgr5⟩ := copyIt_run (W := w.alloc (.cells #[] 30)) (m := m) (A := some ad) (c := c) hl (hp.on hB4) hown4 (by simp)
    have hs4 : (w.alloc (.cells #[] 30)).heap.size = w.heap.size + 1 := by simp
    have hB5 : Below w.heap.size w w5 := hB4.grown hgr5 (by rw [hs4]; omega) (fun k hk => by cases hk; omega)
    have HRUN := Lib.hid hrun
    have HE := Lib.hid (show ClIt m w (.returned (.slice A' m.length c')) w5 from ⟨A', c', rfl, hown5, hB5⟩)
    clear hB4 hown4 hs4 hrun hown5 hgr5 hB5 hp
    go_enter Tryd.func21, Tryd.ntmps21
    go_wp2_with (first
      | (at_builtin; (refine wpList_append_run (by rfl) _ _ 22 (by rfl) _ _ (by rfl) (by rfl) HRUN.out ?_)))
    go_ret
    exact HE.out
end Go.Proofs.YtfbajmiiecmelabDoor
end
