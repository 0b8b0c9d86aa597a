/-
  A BINDING MORE, the document's: walked. A BINDING as the document's, with pairs of its own: walked.
-/
import Derived.Test.YtgponfdcagnhhaaGreatDoorDb26
import Derived.Test.YtgponfdcagnhhaaGreatDoorDb28
import Derived.Test.YtgponfdcagnhhaaGreatDoorDb30

section
namespace Go.Proofs.YtgponfdcagnhhaaGreatDoor
open Go.ChangeShapes Go.WideShapes Go.ChangeAt Go.RowKit
/-- three boxes of one's own, and that nothing older has changed -/
structure Bm (w : World) (X Y Z : List Value) (W : World) : Prop where
  bx : BoxC w w.heap.size X W
  bs : BoxC w (w.heap.size + 1) Y W
  bz : BoxC w (w.heap.size + 2) Z W
  B : Below w.heap.size w W
  n : w.heap.size + 3 ≤ W.heap.size
theorem Bm.on {w W W' : World} {X Y Z : List Value} (h : Bm w X Y Z W) (hb : Below W.heap.size W W') : Bm w X Y Z W' := ⟨h.bx.on hb, h.bs.on hb, h.bz.on hb, bthen h.B hb (Nat.le_refl _), Nat.le_trans h.n hb.size⟩
theorem Bm.new (w : World) (X Y Z : Array Value) (t t' t'' : TypeId) : Bm w X.toList Y.toList Z.toList (((w.alloc (.cells X t)).alloc (.cells Y t')).alloc (.cells Z t'')) :=
  ⟨rtNext (rtNext (rtAt0 w X t) _) _, rtNext (rtAt1 w _ Y t') _, rtAt2 w _ _ Z t'', rtThree w _ _ _, by simp⟩
end Go.Proofs.YtgponfdcagnhhaaGreatDoor
end
section
namespace Go.Proofs.YtgponfdcagnhhaaGreatDoor
open Go.ChangeShapes Go.WideShapes Go.ChangeAt Go.RowKit
def ToBdPost (x : Bd) (w : World) (e : Ending) (w' : World) : Prop := ∃ A' c', e = .returned (bdV x A' c') ∧ OwnPrs w.heap.size w' A' c' x.want ∧ Below w.heap.size w w'
set_option maxRecDepth 100000 in
set_option maxHeartbeats 8000000 in
theorem to14_any (x : Bd) (A : Option Addr) (c : Nat) (w : World) (hl : x.want.length ≤ 100000) (hc : x.want.length ≤ c) (hp : Prs w A x.want) :
    Calls Tryz.prog 22 #[bdV x A c] w (ToBdPost x w) := by
  have hm0 := Bm.new w #[.string (ofL x.shop), .string (ofL x.to), .bool x.up, .string (ofL x.key), .slice A x.want.length c, .bool x.all] #[.string ⟨#[]⟩, .string ⟨#[]⟩, .bool false, .string ⟨#[]⟩, .slice none 0 0, .bool false] #[.string (ofL x.shop), .string (ofL x.to), .bool x.up, .string (ofL x.key), .slice A x.want.length c, .bool x.all] 29 38 38
  generalize hW3 : ((w.alloc (.cells #[.string (ofL x.shop), .string (ofL x.to), .bool x.up, .string (ofL x.key), .slice A x.want.length c, .bool x.all] 29)).alloc (.cells #[.string ⟨#[]⟩, .string ⟨#[]⟩, .bool false, .string ⟨#[]⟩, .slice none 0 0, .bool false] 38)).alloc (.cells #[.string (ofL x.shop), .string (ofL x.to), .bool x.up, .string (ofL x.key), .slice A x.want.length c, .bool x.all] 38) = w3 at hm0
  have hb4 := rtOne w3 (.cells #[] 84)
  have hown4 : (w3.alloc (.cells #[] 84)).ownsRow w3.heap.size 84 4 (.slice (some ⟨w3.heap.size, 0, none⟩) 0 0) 0 [] := World.ownsRow_made w3 #[] 0 (Nat.le_refl _) (by unfold maxLen; omega) rfl
  obtain ⟨A', c', w5, hrun, hown5, hgr5, -, -⟩ := copy_run (W := w3.alloc (.cells #[] 84)) (l := x.want) (A := A) (c := c) hl hc ((hp.on hm0.B).on hb4) hown4 (by simp)
  have hm4 := hm0.on hb4
  have hm5 : Bm w [.string (ofL x.shop), .string (ofL x.to), .bool x.up, .string (ofL x.key), .slice A x.want.length c, .bool x.all] [.string ⟨#[]⟩, .string ⟨#[]⟩, .bool false, .string ⟨#[]⟩, .slice none 0 0, .bool false] [.string (ofL x.shop), .string (ofL x.to), .bool x.up, .string (ofL x.key), .slice A x.want.length c, .bool x.all] w5 := ⟨rtKept hm4.bx hgr5 (by have := hm0.n; simp only [ne_eq, Option.some.injEq]; omega), rtKept hm4.bs hgr5 (by have := hm0.n; simp only [ne_eq, Option.some.injEq]; omega), rtKept hm4.bz hgr5 (by have := hm0.n; simp only [ne_eq, Option.some.injEq]; omega), hm4.B.grown hgr5 hm4.B.size (fun k hk => by cases hk; have := hm0.n; omega), Nat.le_trans hm4.n hgr5.size⟩
  have HRUN := Lib.hid hrun
  have HOWN := Lib.hid hown5
  have HM0 := Lib.hid hm0
  have HM5 := Lib.hid hm5
  have HA5 := Lib.hid (show ∀ a, A' = some a → w.heap.size + 3 ≤ a.block from fun a ha => by
    subst ha
    have := (hown5.lt a.block rfl).1
    have := hm0.n
    omega)
  clear hb4 hown4 hrun hown5 hgr5 hm4 hm5 hm0 hp
  simp only [bdV]
  go_enter Tryz.func22, Tryz.ntmps22
  go_upto_region 2 with fail
  try rw [hW3]
  have x0 := HM0.out.bx.cs 0 _ rfl
  have x1 := HM0.out.bx.cs 1 _ rfl
  have x2 := HM0.out.bx.cs 2 _ rfl
  have x3 := HM0.out.bx.cs 3 _ rfl
  have x4 := HM0.out.bx.cs 4 _ rfl
  have x5 := HM0.out.bx.cs 5 _ rfl
  have xl := HM0.out.bx.lt
  have q0 := HM5.out.bz.cs 0 _ rfl
  have q1 := HM5.out.bz.cs 1 _ rfl
  have q2 := HM5.out.bz.cs 2 _ rfl
  have q3 := HM5.out.bz.cs 3 _ rfl
  have q4 := HM5.out.bz.cs 4 _ rfl
  have q5 := HM5.out.bz.cs 5 _ rfl
  have ql := HM5.out.bz.lt
  have qf := HM5.out.bz.s
  have r0 := HM5.out.bs.cs 0 _ rfl
  have r1 := HM5.out.bs.cs 1 _ rfl
  have r2 := HM5.out.bs.cs 2 _ rfl
  have r3 := HM5.out.bs.cs 3 _ rfl
  have r4 := HM5.out.bs.cs 4 _ rfl
  have r5 := HM5.out.bs.cs 5 _ rfl
  have rl := HM5.out.bs.lt
  have rf := HM5.out.bs.s
  unfold Soft at qf rf
  go_wp2_with (first
    | (at_builtin; (refine wpList_append_run (by rfl) _ _ 27 (by rfl) _ _ (by rfl) (by rfl) HRUN.out ?_)))
  have hQ := (HM5.out.bs.aside (g := w.heap.size + 2) (by omega) 4 (.slice A' x.want.length c')).fill [.string (ofL x.shop), .string (ofL x.to), .bool x.up, .string (ofL x.key), .slice A' x.want.length c', .bool x.all] rfl
  have hO : OwnPrs w3.heap.size w5 A' c' x.want := HOWN.out
  have hO5 := (hO.aside (g := w.heap.size + 2) (fun a ha => by have := HA5.out a ha; omega) 4 (.slice A' x.want.length c')).rtAll (g := w.heap.size + 1) (fun a ha => by have := HA5.out a ha; omega) [.string (ofL x.shop), .string (ofL x.to), .bool x.up, .string (ofL x.key), .slice A' x.want.length c', .bool x.all] 0
  have hB5 := below_putAll (g := w.heap.size + 1) (by omega) [.string (ofL x.shop), .string (ofL x.to), .bool x.up, .string (ofL x.key), .slice A' x.want.length c', .bool x.all] 0 (HM5.out.B.setCell (p := ⟨w.heap.size + 2, 4, none⟩) (by simp) (.slice A' x.want.length c'))
  simp only [putAll] at hQ hO5 hB5
  have g0 := hQ.cs 0 _ rfl
  have g1 := hQ.cs 1 _ rfl
  have g2 := hQ.cs 2 _ rfl
  have g3 := hQ.cs 3 _ rfl
  have g4 := hQ.cs 4 _ rfl
  have g5 := hQ.cs 5 _ rfl
  exact bodyPost_ret (v := .agg #[.string (ofL x.shop), .string (ofL x.to), .bool x.up, .string (ofL x.key), .slice A' x.want.length c', .bool x.all]) (by simp [results, Tryz.results22, go_sem, g0, g1, g2, g3, g4, g5]) rfl ⟨A', c', rfl, World.ownsRow.mono hO5 (by have := HM0.out.n; omega), hB5⟩
end Go.Proofs.YtgponfdcagnhhaaGreatDoor
end
