/-
  A RISE as the document's: walked.
-/
import Derived.Test.YtjkaljokkpabfaaGreatDoorRr37

section
namespace Go.Proofs.YtjkaljokkpabfaaGreatDoor
open Go.ChangeShapes Go.WideShapes Go.ChangeAt Go.RowKit
def OfRsPost (T : Nat) (l : List Ml) (w : World) (e : Ending) (w' : World) : Prop := ∃ (A' : Option Addr) (c' : Nat) (ps : List Mp), e = .returned (.agg #[.int .u64 (T : Int), .slice A' ps.length c']) ∧ ps.map Mp.x = l ∧ ps.length ≤ c' ∧ (A' = none → c' = 0) ∧ Mas w' A' ps ∧ Below w.heap.size w w'
set_option maxRecDepth 100000 in
set_option maxHeartbeats 4000000 in
theorem of20_any (T c : Nat) (A : Option Addr) (l : List Mp) (w : World) (hl : l.length ≤ 100000) (h : Mas w A l) :
    Calls Tryz.prog 26 #[.agg #[.int .u64 (T : Int), .slice A l.length c]] w (OfRsPost T (l.map Mp.x) w) := by
  have hb0 := rs_two w (.cells #[.int .u64 (T : Int), .slice A l.length c] 35) (.cells #[.int .u64 0, .slice none 0 0] 38)
  have HB0 := Lib.hid hb0
  have HXA := Lib.hid ((BoxC.new (w := w) (W := w) (Nat.le_refl _) #[.int .u64 (T : Int), .slice A l.length c] 35).on (alloc1B _ (.cells #[.int .u64 0, .slice none 0 0] 38)))
  have HRB := Lib.hid (rs_box1 w (.cells #[.int .u64 (T : Int), .slice A l.length c] 35) #[.int .u64 0, .slice none 0 0] 38)
  have HBW := Lib.hid (show w.heap.size + 1 ≤ ((w.alloc (.cells #[.int .u64 (T : Int), .slice A l.length c] 35)).alloc (.cells #[.int .u64 0, .slice none 0 0] 38)).heap.size by simp)
  have HTO := Lib.hid (fun W => rsTotal_any T l.length c A W)
  have HAL := Lib.hid (fun W h => rsAll_any T c A l W hl h)
  unfold RsAllPost at HAL
  have HM0 := Lib.hid h
  have hml : (l.map Mp.x).length = l.length := by simp
  have HLN := Lib.hid hml
  rw [hml] at HAL
  generalize l.map Mp.x = L at *
  clear h hml hb0
  go_enter Tryz.func26, Tryz.ntmps26
  go_upto_region 1 with fail
  generalize (w.alloc (.cells #[.int .u64 (T : Int), .slice A l.length c] 35)).alloc (.cells #[.int .u64 0, .slice none 0 0] 38) = w1 at *
  have HM := Lib.hid (show ∀ W, Below (w.heap.size + 1) w1 W → Mas W A l from fun W hb => HM0.out.on (HB0.out.trans (hb.mono (Nat.le_succ _))))
  have HNB := Lib.hid (show ¬ (w1.heap.size ≤ w.heap.size + 1) from by have := HRB.out.lt; omega)
  have e0 := HXA.out.cs 0 _ rfl
  have e1 := HXA.out.cs 1 _ rfl
  obtain ⟨n5, hn5⟩ : ∃ n, l.length = n := ⟨_, rfl⟩
  rw [hn5] at HAL HTO e1 HLN ⊢
  have HN := Lib.hid hn5
  clear hn5
  replace HRB := Lib.hid (HRB.out.on (Below.refl _ _).drew)
  refine wp_region_held_drew (S := fun a => Below (w.heap.size + 1) w1 a) (by kernel_rfl) (by (try dsimp only); exact (Below.refl _ _).drew) (fun hHeld => ?_)
  refine wpAnyH_take (i := 0) (oi := { dst := some 3, op := Go.Op.load 35 (Go.Operand.tmp 1), type := 35, pos := "law.go:39", after := #[], guard := none }) (v := ?_) rfl (by kernel_rfl) (by kernel_rfl) (by kernel_rfl) (fun _ _ _ h => h) (Or.inl ⟨by rfl, ?_⟩) (by assumption) ?_
  rotate_left 1
  · intro wS hSw; (try dsimp only at hSw); have e0 := (hSw.cell (p := ⟨w.heap.size, 0, none⟩) (by show _ < _; simp)).trans e0; have e1 := (hSw.cell (p := ⟨w.heap.size, 1, none⟩) (by show _ < _; simp)).trans e1; go_simp; try with_reducible rfl
  try simp only [Act.put, List.setIfInBounds_toArray, List.set_cons_zero, List.set_cons_succ]
  refine wpAnyH_take (i := 2) (oi := { dst := some 5, op := Go.Op.load 35 (Go.Operand.tmp 1), type := 35, pos := "law.go:39", after := #[], guard := none }) (v := ?_) rfl (by kernel_rfl) (by kernel_rfl) (by kernel_rfl) (fun _ _ _ h => h) (Or.inl ⟨by rfl, ?_⟩) (by assumption) ?_
  rotate_left 1
  · intro wS hSw; (try dsimp only at hSw); have e0 := (hSw.cell (p := ⟨w.heap.size, 0, none⟩) (by show _ < _; simp)).trans e0; have e1 := (hSw.cell (p := ⟨w.heap.size, 1, none⟩) (by show _ < _; simp)).trans e1; go_simp; try with_reducible rfl
  try simp only [Act.put, List.setIfInBounds_toArray, List.set_cons_zero, List.set_cons_succ]
  refine wpAnyH_ready (rs := [1]) (by kernel_rfl) (by simp) ?_
  refine AllReadyH.cons (o := { dst := some 4, op := Go.Op.call { callee := Go.Callee.value (Go.Operand.func 42), args := #[Go.Operand.tmp 3], argTypes := #[35] }, type := 22, pos := "law.go:39", after := #[{ on := 0, ground := Go.Ground.data }], guard := none }) rfl (fun K hK => ?_) (AllReadyH.nil)
  go_simp
  go_at_call 42
  refine (HTO.out _).mono ?_
  rintro e wx ⟨rfl, hb2⟩
  replace HRB := Lib.hid (HRB.out.on hb2)
  refine hK.out _ _ (hHeld.trans (hb2.mono (Nat.le_trans HBW.out hHeld.size))) (fun hHeld2 => ?_)
  clear hK K hHeld hb2
  have hHeld := hHeld2
  clear hHeld2
  try simp only [Act.put, List.setIfInBounds_toArray, List.set_cons_zero, List.set_cons_succ]
  refine wpAnyH_ready (rs := [3]) (by kernel_rfl) (by simp) ?_
  refine AllReadyH.cons (o := { dst := some 6, op := Go.Op.call { callee := Go.Callee.value (Go.Operand.func 43), args := #[Go.Operand.tmp 5], argTypes := #[35] }, type := 33, pos := "law.go:39", after := #[{ on := 2, ground := Go.Ground.data }, { on := 1, ground := Go.Ground.chain }], guard := none }) rfl (fun K hK => ?_) (AllReadyH.nil)
  go_simp
  go_at_call 43
  refine (HAL.out _ (HM.out _ hHeld)).mono ?_
  rintro e wx ⟨A5, c5, p5, rfl, hp5, hc5, hn5, hM5, hb2⟩
  replace HRB := Lib.hid (HRB.out.on hb2)
  have HM5 := Lib.hid (hM5.mono (V := fun g => w1.heap.size ≤ g) (fun g hg => Nat.le_trans hHeld.size hg))
  have HP5 := Lib.hid hp5
  have HC5 := Lib.hid hc5
  have HN5 := Lib.hid hn5
  clear hM5 hp5 hc5 hn5
  refine hK.out _ _ (hHeld.trans (hb2.mono (Nat.le_trans HBW.out hHeld.size))) (fun hHeld2 => ?_)
  clear hK K hHeld hb2
  have hHeld := hHeld2
  clear hHeld2
  try simp only [Act.put, List.setIfInBounds_toArray, List.set_cons_zero, List.set_cons_succ]
  refine wpAnyH_take (i := 4) (oi := { dst := some 7, op := Go.Op.build 38 #[(0, Go.Operand.tmp 4), (1, Go.Operand.tmp 6)], type := 38, pos := "law.go:39", after := #[{ on := 1, ground := Go.Ground.data }, { on := 3, ground := Go.Ground.data }], guard := none }) (v := ?_) rfl (by kernel_rfl) (by kernel_rfl) (by kernel_rfl) (fun _ _ _ h => h) (Or.inl ⟨by rfl, ?_⟩) (by assumption) ?_
  rotate_left 1
  · intro wS hSw; (try dsimp only at hSw); go_simp; try with_reducible rfl
  try simp only [Act.put, List.setIfInBounds_toArray, List.set_cons_zero, List.set_cons_succ]
  refine wpAnyH_ready (rs := [5]) (by kernel_rfl) (by simp) ?_
  refine AllReadyH.cons (o := { dst := none, op := Go.Op.store 38 (Go.Operand.tmp 2) (Go.Operand.tmp 7), type := 0, pos := "law.go:39", after := #[{ on := 4, ground := Go.Ground.data }, { on := 3, ground := Go.Ground.chain }, { on := 0, ground := Go.Ground.phase }, { on := 1, ground := Go.Ground.phase }, { on := 2, ground := Go.Ground.phase }, { on := 3, ground := Go.Ground.phase }, { on := 4, ground := Go.Ground.phase }], guard := none }) rfl (fun K hK => ?_) (AllReadyH.nil)
  have n0 := HRB.out.cs 0 _ rfl
  have n1 := HRB.out.cs 1 _ rfl
  have nf := HRB.out.s
  unfold Soft at nf
  have nl := HRB.out.lt
  go_simp
  refine hK.out _ _ (by (try dsimp only); exact below_put (Nat.le_refl _) (below_put (Nat.le_refl _) hHeld)) (fun hHeld2 => ?_)
  have hq := HRB.out.fill [.int .u64 (T : Int), .slice A5 n5 c5] rfl
  simp only [putAll] at hq
  have HQ := Lib.hid hq
  have HM6 := Lib.hid ((HM5.out.put HNB.out 0 (.int .u64 (T : Int))).put HNB.out 1 (.slice A5 n5 c5)).m
  clear n0 n1 nf nl hq
  clear hK K hHeld
  have hHeld := hHeld2
  clear hHeld2
  try simp only [Act.put, List.setIfInBounds_toArray, List.set_cons_zero, List.set_cons_succ]
  refine wpAnyH_done (by kernel_rfl) ?_ _
  have hZ := hHeld
  clear hHeld
  have hb9 := HB0.out.trans (hZ.mono (Nat.le_succ _))
  have HBZ := Lib.hid hb9
  have HPL := Lib.hid (show p5.length = n5 by have := congrArg List.length HP5.out; rw [List.length_map] at this; rw [this]; exact HLN.out)
  clear hZ hb9 e0 e1
  go_wp2_with fail
  have g0 := HQ.out.cs 0 _ rfl
  have g1 := HQ.out.cs 1 _ rfl
  refine bodyPost_ret (v := .agg #[.int .u64 (T : Int), .slice A5 n5 c5]) (by simp [results, Tryz.results26, go_sem, g0, g1]) rfl ?_
  exact ⟨A5, c5, p5, by rw [HPL.out], HP5.out, by rw [HPL.out]; exact HC5.out, HN5.out, HM6.out, HBZ.out⟩
end Go.Proofs.YtjkaljokkpabfaaGreatDoor
end
