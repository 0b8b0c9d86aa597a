/-
  slices.Clone OF PAIRS; THE RULE that is in a method: walked.
-/
import Derived.Test.YtaoidjjmeejbbaaDoorMs31
import Derived.Test.YtaoidjjmeejbbaaDoorMs36
import Derived.Deep.RegionHeld3
import Derived.Deep.DeepCutAuto
section
namespace Go.Proofs.YtaoidjjmeejbbaaDoor
open Go.ChangeShapes Go.WideShapes Go.ChangeAt Go.RowKit
def ClPost (l : List Hd.Pr) (w : World) (e : Ending) (w' : World) : Prop := ∃ A' c', e = .returned (.slice A' l.length c') ∧ l.length ≤ c' ∧ Prs w' A' l ∧ Below w.heap.size w w' ∧ ∀ a, A' = some a → w.heap.size ≤ a.block
set_option maxRecDepth 100000 in
set_option maxHeartbeats 2000000 in
theorem clonePr_any (l : List Hd.Pr) (A : Option Addr) (c : Nat) (w : World) (hl : l.length ≤ 100000) (hc : l.length ≤ c) (hp : Prs w A l) : Calls Tryd.prog 32 #[.slice A l.length c] w (ClPost l w) := by
  have qT : ∀ (w : World) (a : Option Addr) (n c n' c' : Nat), (binOp .eql 22 (.slice a n c) (.slice none n' c')).run Tryd.prog w = .ok (.bool a.isNone) w := fun w a n c n' c' => Lib.run_eql_slice_nil w _ _ a n c n' c' Tryd.underlying22
  cases A with
  | none =>
    have h0 : l = [] := by
      cases l with
      | nil => rfl
      | cons x t => obtain ⟨b, off, e, _⟩ := hp.at_ 0 (by simp); cases e
    subst h0
    go_enter Tryd.func32, Tryd.ntmps32
    go_wp2_with fail
    go_ret
    exact ⟨none, 0, rfl, Nat.le_refl _, Prs.nil _ _, Below.refl _ _, fun a ha => by cases ha⟩
  | some ad =>
    have hB4 : Below w.heap.size w (w.alloc (.cells #[] 65)) := (Below.refl _ _).alloc (Nat.le_refl _) _
    have hown4 : (w.alloc (.cells #[] 65)).ownsRow w.heap.size 65 4 (.slice (some ⟨w.heap.size, 0, none⟩) 0 0) 0 [] := World.ownsRow_made (e := 65) (size := 4) w #[] 0 (Nat.le_refl _) (by unfold maxLen; omega) rfl
    obtain ⟨A', c', w5, hrun, hown5, hgr5, hc5, hA5⟩ := copy_run (W := w.alloc (.cells #[] 65)) (l := l) (A := some ad) (c := c) hl hc (hp.on hB4) hown4 (by simp)
    have hs4 : (w.alloc (.cells #[] 65)).heap.size = w.heap.size + 1 := by simp
    rw [hs4] at hA5
    have hB5 : Below w.heap.size w w5 := hB4.grown hgr5 (by rw [hs4]; omega) (fun k hk => by cases hk; omega)
    obtain ⟨A2, c2, e2, -, -, hP5⟩ := rown_prs hown5
    obtain ⟨rfl, -, rfl⟩ := Value.slice.inj e2
    have HRUN := Lib.hid hrun
    have HE := Lib.hid (show ClPost l w (.returned (.slice A' l.length c')) w5 from ⟨A', c', rfl, hc5, hP5, hB5, fun a ha => by have := hA5 a ha; omega⟩)
    clear hB4 hown4 hs4 hrun hown5 hgr5 hc5 hA5 hB5 hP5 hp e2
    go_enter Tryd.func32, Tryd.ntmps32
    go_wp2_with (first
      | (at_builtin; (refine wpList_append_run (by rfl) _ _ 22 (by rfl) _ _ (by rfl) (by rfl) HRUN.out ?_)))
    go_ret
    exact HE.out
/-- the rule that is in a method -/
def Me.rule (x : Me) (s : Nat) : Ru := ⟨s, x.key, x.head, x.yes⟩
structure MeRu (w : World) (x : Me) (A : Option Addr) (c : Nat) (ys : List Value) (W : World) : Prop where
  p : BoxC w w.heap.size (meL x A c) W
  q : BoxC w (w.heap.size + 1) ys W
  B : Below w.heap.size w W
theorem MeRu.on {w : World} {x : Me} {A : Option Addr} {c : Nat} {ys : List Value} {W W' : World} (h : MeRu w x A c ys W) (hb : Below W.heap.size W W') : MeRu w x A c ys W' := ⟨h.p.on hb, h.q.on hb, bthen h.B hb (Nat.le_refl _)⟩
theorem MeRu.start (w : World) (x : Me) (A : Option Addr) (c : Nat) : MeRu w x A c [.int .u8 0, .string ⟨#[]⟩, .slice none 0 0, .bool false] ((w.alloc (.cells #[.int .u8 (x.ch.toNat : Int), .int .u8 (x.kd.toNat : Int), .string (ofL x.name), .string (ofL x.other), .string (ofL x.key), .slice A x.head.length c, .string (ofL x.body), .int .u64 (x.n : Int), .int .u64 (x.m : Int), .bool x.yes] 25)).alloc (.cells #[.int .u8 0, .string ⟨#[]⟩, .slice none 0 0, .bool false] 29)) := by
  have h1 : BoxC w w.heap.size (meL x A c) (w.alloc (.cells #[.int .u8 (x.ch.toNat : Int), .int .u8 (x.kd.toNat : Int), .string (ofL x.name), .string (ofL x.other), .string (ofL x.key), .slice A x.head.length c, .string (ofL x.body), .int .u64 (x.n : Int), .int .u64 (x.m : Int), .bool x.yes] 25)) := BoxC.new (Nat.le_refl _) #[.int .u8 (x.ch.toNat : Int), .int .u8 (x.kd.toNat : Int), .string (ofL x.name), .string (ofL x.other), .string (ofL x.key), .slice A x.head.length c, .string (ofL x.body), .int .u64 (x.n : Int), .int .u64 (x.m : Int), .bool x.yes] 25
  have h2 : BoxC w (w.heap.size + 1) [.int .u8 0, .string ⟨#[]⟩, .slice none 0 0, .bool false] ((w.alloc (.cells #[.int .u8 (x.ch.toNat : Int), .int .u8 (x.kd.toNat : Int), .string (ofL x.name), .string (ofL x.other), .string (ofL x.key), .slice A x.head.length c, .string (ofL x.body), .int .u64 (x.n : Int), .int .u64 (x.m : Int), .bool x.yes] 25)).alloc (.cells #[.int .u8 0, .string ⟨#[]⟩, .slice none 0 0, .bool false] 29)) := by
    have := BoxC.new (w := w) (W := (w.alloc (.cells #[.int .u8 (x.ch.toNat : Int), .int .u8 (x.kd.toNat : Int), .string (ofL x.name), .string (ofL x.other), .string (ofL x.key), .slice A x.head.length c, .string (ofL x.body), .int .u64 (x.n : Int), .int .u64 (x.m : Int), .bool x.yes] 25))) (by simp) #[.int .u8 0, .string ⟨#[]⟩, .slice none 0 0, .bool false] 29
    simpa using this
  exact ⟨h1.on ((Below.refl _ _).alloc (Nat.le_refl _) _), h2, ((Below.refl _ _).alloc (Nat.le_refl _) _).alloc (by simp) _⟩
abbrev MeRuS (w : World) (x : Me) (A : Option Addr) (c : Nat) (W : World) : Prop :=
  ((W.cell? ⟨w.heap.size, 4, none⟩ = some (.string (ofL x.key)) ∧ W.cell? ⟨w.heap.size, 5, none⟩ = some (.slice A x.head.length c) ∧ W.cell? ⟨w.heap.size, 9, none⟩ = some (.bool x.yes)) ∧ w.heap.size < W.heap.size) ∧ ∃ ys, MeRu w x A c ys W
theorem MeRu.s {w : World} {x : Me} {A : Option Addr} {c : Nat} {ys : List Value} {W : World} (h : MeRu w x A c ys W) : MeRuS w x A c W := ⟨⟨⟨h.p.cs 4 _ rfl, h.p.cs 5 _ rfl, h.p.cs 9 _ rfl⟩, h.p.lt⟩, ys, h⟩
theorem MeRu.done {w : World} {x : Me} {A : Option Addr} {c : Nat} {W : World} {a0 a1 a2 a3 : Value} (h : MeRu w x A c [a0, a1, a2, a3] W) (v0 v1 v2 v3 : Value) : MeRu w x A c [v0, v1, v2, v3] ((((W.setCell ⟨w.heap.size + 1, 0, none⟩ v0).setCell ⟨w.heap.size + 1, 1, none⟩ v1).setCell ⟨w.heap.size + 1, 2, none⟩ v2).setCell ⟨w.heap.size + 1, 3, none⟩ v3) :=
  ⟨(((h.p.aside (by omega) 0 _).aside (by omega) 1 _).aside (by omega) 2 _).aside (by omega) 3 _, (((h.q.put 0 _ (by simp)).put 1 _ (by simp)).put 2 _ (by simp)).put 3 _ (by simp), (((h.B.setCell h.q.ge _).setCell h.q.ge _).setCell h.q.ge _).setCell h.q.ge _⟩
def MeRuPost (x : Me) (s : Nat) (w : World) (e : Ending) (w' : World) : Prop := ∃ A' c', e = .returned (ruV (x.rule s) A' c') ∧ Prs w' A' x.head ∧ Below w.heap.size w w'
set_option maxRecDepth 100000 in
set_option maxHeartbeats 4000000 in
theorem me_Rule_any (x : Me) (A : Option Addr) (c s : Nat) (w : World) (hl : x.head.length ≤ 100000) (hc : x.head.length ≤ c) (hp : Prs w A x.head) :
    Calls Tryd.prog 13 #[meV x A c, .int .u8 (s : Int)] w (MeRuPost x s w) := by
  have HD := Lib.hid (MeRu.start w x A c)
  have HCL := Lib.hid (fun W h => clonePr_any x.head A c W hl hc h)
  have HP := Lib.hid (fun W (g : Below w.heap.size w W) => hp.on g)
  unfold ClPost at HCL
  clear hp
  simp only [meV]
  go_enter Tryd.func13, Tryd.ntmps13
  go_upto_region 1 with fail
  have HDF := Lib.hid (HD.out.on (Below.refl _ _).drew)
  have HDD := Lib.hid HDF.out.s
  refine wp_region_noPanic ?_
  refine wp_region_held_drew (S := MeRuS w x A c) (by kernel_rfl) ?_ (fun hHeld => ?_)
  · (try dsimp only); (first | assumption | exact HDD.out | exact HS7.out.s | exact (MeRu.done HS7.out _ _ _ _).s)
  refine wpAnyH_take (i := 0) (v := ?_) rfl (by kernel_rfl) (by kernel_rfl) (by kernel_rfl) (fun _ _ _ h => h) (Or.inl ⟨by rfl, ?_⟩) (by assumption) ?_
  rotate_left
  · intro w hSw; (try dsimp only at hSw); go_simp; try with_reducible rfl
  (try simp only [List.getElem_toArray, List.getElem_cons_zero, Act.put, List.setIfInBounds_toArray, List.set_cons_zero, List.set_cons_succ])
  refine wpAnyH_take (i := 1) (v := ?_) rfl (by kernel_rfl) (by kernel_rfl) (by kernel_rfl) (fun _ _ _ h => h) (Or.inl ⟨by rfl, ?_⟩) (by assumption) ?_
  rotate_left
  · intro w hSw; (try dsimp only at hSw); go_simp; try with_reducible rfl
  (try simp only [List.getElem_toArray, List.getElem_cons_succ, List.getElem_cons_zero, Act.put, List.setIfInBounds_toArray, List.set_cons_zero, List.set_cons_succ])
  refine wpAnyH_take (i := 2) (v := ?_) rfl (by kernel_rfl) (by kernel_rfl) (by kernel_rfl) (fun _ _ _ h => h) (Or.inl ⟨by rfl, ?_⟩) (by assumption) ?_
  rotate_left
  · intro w hSw; (try dsimp only at hSw); go_simp; try with_reducible rfl
  (try simp only [List.getElem_toArray, List.getElem_cons_succ, List.getElem_cons_zero, Act.put, List.setIfInBounds_toArray, List.set_cons_zero, List.set_cons_succ])
  refine wpAnyH_take (i := 3) (v := ?_) rfl (by kernel_rfl) (by kernel_rfl) (by kernel_rfl) (fun _ _ _ h => h) (Or.inl ⟨by rfl, ?_⟩) (by assumption) ?_
  rotate_left
  · intro w hSw; (try dsimp only at hSw); go_simp; try with_reducible rfl
  (try simp only [List.getElem_toArray, List.getElem_cons_succ, List.getElem_cons_zero, Act.put, List.setIfInBounds_toArray, List.set_cons_zero, List.set_cons_succ])
  refine wpAnyH_take (i := 4) (v := ?_) rfl (by kernel_rfl) (by kernel_rfl) (by kernel_rfl) (fun _ _ _ h => h) (Or.inl ⟨by rfl, ?_⟩) (by assumption) ?_
  rotate_left
  · intro w hSw; (try dsimp only at hSw); go_simp; try with_reducible rfl
  (try simp only [List.getElem_toArray, List.getElem_cons_succ, List.getElem_cons_zero, Act.put, List.setIfInBounds_toArray, List.set_cons_zero, List.set_cons_succ])
  refine wpAnyH_take (i := 6) (v := ?_) rfl (by kernel_rfl) (by kernel_rfl) (by kernel_rfl) (fun _ _ _ h => h) (Or.inl ⟨by rfl, ?_⟩) (by assumption) ?_
  rotate_left
  · intro w hSw; (try dsimp only at hSw); go_simp; try with_reducible rfl
  (try simp only [List.getElem_toArray, List.getElem_cons_succ, List.getElem_cons_zero, Act.put, List.setIfInBounds_toArray, List.set_cons_zero, List.set_cons_succ])
  refine wpAnyH_take (i := 7) (v := ?_) rfl (by kernel_rfl) (by kernel_rfl) (by kernel_rfl) (fun _ _ _ h => h) (Or.inl ⟨by rfl, ?_⟩) (by assumption) ?_
  rotate_left
  · intro w hSw; (try dsimp only at hSw); go_simp; try with_reducible rfl
  (try simp only [List.getElem_toArray, List.getElem_cons_succ, List.getElem_cons_zero, Act.put, List.setIfInBounds_toArray, List.set_cons_zero, List.set_cons_succ])
  refine wpAnyH_ready (rs := [5]) (by kernel_rfl) (by simp) ?_
  refine AllReadyH.cons rfl (fun K hK => ?_) (AllReadyH.nil)
  · go_simp
    (go_at_call 32; ((refine (HCL.out _ (HP.out _ HDF.out.B)).mono ?_); rintro e' w7 ⟨A', c', rfl, hc7, hp7, b7, hA7⟩); have HS7 := Lib.hid (HDF.out.on b7); have HP7 := Lib.hid hp7; have HA7 := Lib.hid (show ∀ a, A' = some a → w.heap.size + 1 < a.block from fun a ha => by have := hA7 a ha; have := HDF.out.q.lt; omega); clear b7 hc7 hp7 hA7; have q0 := HS7.out.q.cs 0 _ rfl; have q1 := HS7.out.q.cs 1 _ rfl; have q2 := HS7.out.q.cs 2 _ rfl; have q3 := HS7.out.q.cs 3 _ rfl; have qf : ∀ j, w7.frozen? ⟨w.heap.size + 1, j, none⟩ = false := HS7.out.q.s; have ql := HS7.out.q.lt)
    refine hK.out _ _ ?_ (fun hHeld => ?_)
    · (try dsimp only); (first | assumption | exact HDD.out | exact HS7.out.s | exact (MeRu.done HS7.out _ _ _ _).s)
    clear hK K
    (try simp only [List.getElem_toArray, List.getElem_cons_succ, List.getElem_cons_zero, Act.put, List.setIfInBounds_toArray, List.set_cons_zero, List.set_cons_succ])
    refine wpAnyH_take (i := 8) (v := ?_) rfl (by kernel_rfl) (by kernel_rfl) (by kernel_rfl) (fun _ _ _ h => h) (Or.inl ⟨by rfl, ?_⟩) (by assumption) ?_
    rotate_left
    · intro w hSw; (try dsimp only at hSw); go_simp; try with_reducible rfl
    (try simp only [List.getElem_toArray, List.getElem_cons_succ, List.getElem_cons_zero, Act.put, List.setIfInBounds_toArray, List.set_cons_zero, List.set_cons_succ])
    refine wpAnyH_ready (rs := [9]) (by kernel_rfl) (by simp) ?_
    refine AllReadyH.cons rfl (fun K hK => ?_) (AllReadyH.nil)
    · go_simp
      refine hK.out _ _ ?_ (fun hHeld => ?_)
      · (try dsimp only); (first | assumption | exact HDD.out | exact HS7.out.s | exact (MeRu.done HS7.out _ _ _ _).s)
      clear hK K
      (try simp only [List.getElem_toArray, List.getElem_cons_succ, List.getElem_cons_zero, Act.put, List.setIfInBounds_toArray, List.set_cons_zero, List.set_cons_succ])
      refine wpAnyH_done (by kernel_rfl) ?_ _
      refine NoPanic.normal ?_
      have hP := MeRu.done HS7.out (.int .u8 (s : Int)) (.string (ofL x.key)) (.slice A' x.head.length c') (.bool x.yes)
      have g0 := hP.q.cs 0 _ rfl
      have g1 := hP.q.cs 1 _ rfl
      have g2 := hP.q.cs 2 _ rfl
      have g3 := hP.q.cs 3 _ rfl
      have hg : ∀ a, A' = some a → w.heap.size + 1 ≠ a.block := fun a ha => by have := HA7.out a ha; omega
      have hQ := (((HP7.out.aside hg 0 (.int .u8 (s : Int))).aside hg 1 (.string (ofL x.key))).aside hg 2 (.slice A' x.head.length c')).aside hg 3 (.bool x.yes)
      clear hHeld q0 q1 q2 q3 qf ql
      go_wp2_with fail
      exact bodyPost_ret (v := .agg #[.int .u8 (s : Int), .string (ofL x.key), .slice A' x.head.length c', .bool x.yes]) (by simp [results, Tryd.results13, go_sem, g0, g1, g2, g3]) rfl ⟨A', c', rfl, hQ, hP.B⟩
end Go.Proofs.YtaoidjjmeejbbaaDoor
end
