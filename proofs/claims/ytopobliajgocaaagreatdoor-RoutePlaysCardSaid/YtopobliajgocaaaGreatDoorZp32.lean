/-
  A BINDING MORE, the document's: walked.
-/
import Derived.Test.YtopobliajgocaaaGreatDoorZp27
import Derived.Test.YtopobliajgocaaaGreatDoorZp31

section
namespace Go.Proofs.YtopobliajgocaaaGreatDoor
open Go.ChangeShapes Go.WideShapes Go.ChangeAt Go.RowKit
/-- three boxes of one's own, and that nothing older has changed -/
structure Bm (w : World) (X Y Z : List Value) (W : World) : Prop where
  bx : BoxC w w.heap.size X W
  bs : BoxC w (w.heap.size + 1) Y W
  bz : BoxC w (w.heap.size + 2) Z W
  B : Below w.heap.size w W
  n : w.heap.size + 3 ≤ W.heap.size
theorem Bm.on {w W W' : World} {X Y Z : List Value} (h : Bm w X Y Z W) (hb : Below W.heap.size W W') : Bm w X Y Z W' := ⟨h.bx.on hb, h.bs.on hb, h.bz.on hb, bthen h.B hb (Nat.le_refl _), Nat.le_trans h.n hb.size⟩
theorem Bm.new (w : World) (X Y Z : Array Value) (t t' t'' : TypeId) : Bm w X.toList Y.toList Z.toList (((w.alloc (.cells X t)).alloc (.cells Y t')).alloc (.cells Z t'')) :=
  ⟨rtNext (rtNext (rtAt0 w X t) _) _, rtNext (rtAt1 w _ Y t') _, rtAt2 w _ _ Z t'', rtThree w _ _ _, by simp⟩
def BmSt (x : Bd) (ps : List Bp) (w : World) (X Y Z : List Value) (n g : Nat) (i : Value) (wr : World) : Prop :=
  ∃ k : Nat, k + g = n ∧ i = .int .i64 (k : Int) ∧ (∀ j, j < k → bdEq x (ps.getD j ⟨Bk.Bd0, none, 0⟩).x = false) ∧ Bm w X Y Z wr
theorem not_mem_all {x : Bd} {ps : List Bp} {l : List Bd} (h : ps.map Bp.x = l) (hn : ∀ j, j < ps.length → bdEq x (ps.getD j ⟨Bk.Bd0, none, 0⟩).x = false) : x ∉ l := by
  subst h
  intro hin
  obtain ⟨p, hp, rfl⟩ := List.mem_map.1 hin
  obtain ⟨j, hj, rfl⟩ := List.getElem_of_mem hp
  have := hn j hj
  rw [← bd_get hj, bdEq_dec] at this
  exact of_decide_eq_false this rfl
theorem mem_at {x : Bd} {ps : List Bp} {l : List Bd} (h : ps.map Bp.x = l) {k : Nat} (hk : k < ps.length) (he : bdEq x (ps.getD k ⟨Bk.Bd0, none, 0⟩).x = true) : x ∈ l := by
  subst h
  rw [← bd_get hk, bdEq_dec] at he
  rw [of_decide_eq_true he]
  exact List.mem_map.2 ⟨_, List.getElem_mem hk, rfl⟩
set_option maxRecDepth 100000 in
set_option maxHeartbeats 16000000 in
theorem r14MakeBind_any (b : Bk) (A : Option Addr) (c : Nat) (B : Option Addr) (d : Nat) (ps : List Bp) (x : Bd) (Ax : Option Addr) (cx : Nat) (w : World) (U : Nat → Prop) (hl : b.shops.length ≤ 1000) (hlb : b.binds.length ≤ 1000) (hI : BkAt w A c B d b ps) (hU : BkU U w A B ps) (hx : BdOk w x Ax cx) (hxu : x.want ≠ [] → ∀ a, Ax = some a → U a.block ∧ a.block < w.heap.size) :
    Calls Tryz.prog 27 #[bkV A c B d b, bdV x Ax cx] w (BkPost U (b.bind x).1 (b.bind x).2 w) := by
  have hbi : b.bind x = if Bk.bcode b x ≠ 0 then (b, Bk.bcode b x) else if x ∈ b.binds then (b, 0) else if 32 ≤ b.binds.length then (b, 12) else (⟨b.shops, b.binds ++ [x]⟩, 0) := rfl
  obtain ⟨shops, binds⟩ := b
  dsimp only at hl hlb hbi
  have hbc : Bk.bcode ⟨shops, binds⟩ x = match Bk.shop ⟨shops, binds⟩ x.shop with | none => 10 | some s => if s.sort = 4 then 8 else if Wrd.nameCode x.to ≠ 0 then Wrd.nameCode x.to else Bk.rcode s.sort x := rfl
  obtain ⟨iN, hiN, hzN0, hzN1, hzN2⟩ := info_parts infoRBd
  have hf := find_idx (fun y : Sh => y.name == x.shop) shops Bk.Sh0
  have hm0 := Bm.new w #[.slice A shops.length c, .slice B binds.length d] #[.string (ofL x.shop), .string (ofL x.to), .bool x.up, .string (ofL x.key), .slice Ax x.want.length cx, .bool x.all] #[.slice none 0 0, .slice none 0 0] 32 69 32
  have HF := Lib.hid (r14Find_any ⟨shops, binds⟩ A c B d x.shop _ (by show shops.length ≤ 100000; omega) (hI.shs.on hm0.B))
  have HM0 := Lib.hid hm0
  have HNM := Lib.hid (fun W => rname_any x.to W (by have := hx.tol; omega))
  have HI0 := Lib.hid hI
  have HU := Lib.hid hU
  have HXO := Lib.hid hx
  have HXU := Lib.hid hxu
  have HRU := Lib.hid (fun s W => r14rule_any x Ax cx s W)
  have HCK := Lib.hid (fun s W h => rCheck10_any (bdRu s x) Ax cx W h)
  have hml := hI.len
  dsimp only at hml
  have HML := Lib.hid hml
  dsimp only at HF
  clear hI hU hx hxu hm0 hml
  simp only [bkV, bdV] at HF ⊢
  obtain ⟨e1, e2⟩ | ⟨k0, e1, hk0, e2⟩ := hf
  · have e2' : Bk.shop ⟨shops, binds⟩ x.shop = none := e2
    rw [e2'] at hbc
    dsimp only at hbc
    rw [e1] at HF
    rw [hbi, hbc, if_pos (by omega)]
    dsimp only
    clear e1 e2 e2' hbc hbi HRU HCK
    go_enter Tryz.func27, Tryz.ntmps27
    go_wp2_with fail
    generalize ((w.alloc (.cells #[.slice A shops.length c, .slice B binds.length d] 32)).alloc (.cells #[.string (ofL x.shop), .string (ofL x.to), .bool x.up, .string (ofL x.key), .slice Ax x.want.length cx, .bool x.all] 69)).alloc (.cells #[.slice none 0 0, .slice none 0 0] 32) = w1 at *
    refine HF.out.mono ?_
    rintro e w2 ⟨rfl, b2⟩
    have HM2 := Lib.hid (HM0.out.on b2)
    clear b2
    have x0 := HM2.out.bx.cs 0 _ rfl
    have x1 := HM2.out.bx.cs 1 _ rfl
    have xl := HM2.out.bx.lt
    have s0 := HM2.out.bs.cs 0 _ rfl
    have s1 := HM2.out.bs.cs 1 _ rfl
    have s2 := HM2.out.bs.cs 2 _ rfl
    have s3 := HM2.out.bs.cs 3 _ rfl
    have s4 := HM2.out.bs.cs 4 _ rfl
    have s5 := HM2.out.bs.cs 5 _ rfl
    have sl := HM2.out.bs.lt
    have r0 := HM2.out.bz.cs 0 _ rfl
    have r1 := HM2.out.bz.cs 1 _ rfl
    have rl := HM2.out.bz.lt
    have rf := HM2.out.bz.s
    unfold Soft at rf
    go_wp2_with fail
    have hQ := HM2.out.bz.fill [.slice A shops.length c, .slice B binds.length d] rfl
    have hB := below_putAll (g := w.heap.size + 2) (by omega) [.slice A shops.length c, .slice B binds.length d] 0 HM2.out.B
    simp only [putAll] at hQ hB
    have g0 := hQ.cs 0 _ rfl
    have g1 := hQ.cs 1 _ rfl
    exact bodyPost_ret (v := .tuple #[.agg #[.slice A shops.length c, .slice B binds.length d], .int .i64 10]) (by simp [results, Tryz.results27, go_sem, g0, g1]) rfl ⟨A, c, B, d, ps, rfl, HI0.out.on hB, (HU.out.mono (fun g h => .inl h)).on hB.size, hB⟩
  · have e2' : Bk.shop ⟨shops, binds⟩ x.shop = some (shops.getD k0 Bk.Sh0) := e2
    rw [e2'] at hbc
    dsimp only at hbc
    rw [e1] at HF
    obtain ⟨bb, off, rfl, hbl, hat⟩ := shs_get HI0.out.shs.row hk0
    rw [sh_get hk0] at hat
    generalize shops.getD k0 Bk.Sh0 = y at *
    have HAT := Lib.hid hat
    have hkb : bb < w.heap.size := hbl
    have hk1 : ¬ ((k0 : Int) < 0) := by omega
    have hk2 : (k0 : Int) < (shops.length : Int) := by omega
    clear e1 e2 e2' hat hbl
    by_cases h4 : y.sort = 4
    · have d4 : ((y.sort : Int) == 4) = true := by rw [h4]; rfl
      rw [if_pos h4] at hbc
      rw [hbi, hbc, if_pos (by omega)]
      dsimp only
      clear hbc hbi HRU HCK h4
      go_enter Tryz.func27, Tryz.ntmps27
      go_wp2_with fail
      generalize ((w.alloc (.cells #[.slice (some ⟨bb, off, none⟩) shops.length c, .slice B binds.length d] 32)).alloc (.cells #[.string (ofL x.shop), .string (ofL x.to), .bool x.up, .string (ofL x.key), .slice Ax x.want.length cx, .bool x.all] 69)).alloc (.cells #[.slice none 0 0, .slice none 0 0] 32) = w1 at *
      refine HF.out.mono ?_
      rintro e w2 ⟨rfl, b2⟩
      have HM2 := Lib.hid (HM0.out.on b2)
      clear b2
      have x0 := HM2.out.bx.cs 0 _ rfl
      have x1 := HM2.out.bx.cs 1 _ rfl
      have xl := HM2.out.bx.lt
      have s0 := HM2.out.bs.cs 0 _ rfl
      have s1 := HM2.out.bs.cs 1 _ rfl
      have s2 := HM2.out.bs.cs 2 _ rfl
      have s3 := HM2.out.bs.cs 3 _ rfl
      have s4 := HM2.out.bs.cs 4 _ rfl
      have s5 := HM2.out.bs.cs 5 _ rfl
      have sl := HM2.out.bs.lt
      have r0 := HM2.out.bz.cs 0 _ rfl
      have r1 := HM2.out.bz.cs 1 _ rfl
      have rl := HM2.out.bz.lt
      have rf := HM2.out.bz.s
      unfold Soft at rf
      have q0 := rtCell HM2.out.B (HAT.out 0 _ rfl)
      have q1 := rtCell HM2.out.B (HAT.out 1 _ rfl)
      have q2 := rtCell HM2.out.B (HAT.out 2 _ rfl)
      rw [Nat.add_zero] at q0
      have ql : bb < w2.heap.size := Nat.lt_of_lt_of_le hkb HM2.out.B.size
      go_wp2_with fail
      have hQ := HM2.out.bz.fill [.slice (some ⟨bb, off, none⟩) shops.length c, .slice B binds.length d] rfl
      have hB := below_putAll (g := w.heap.size + 2) (by omega) [.slice (some ⟨bb, off, none⟩) shops.length c, .slice B binds.length d] 0 HM2.out.B
      simp only [putAll] at hQ hB
      have g0 := hQ.cs 0 _ rfl
      have g1 := hQ.cs 1 _ rfl
      exact bodyPost_ret (v := .tuple #[.agg #[.slice (some ⟨bb, off, none⟩) shops.length c, .slice B binds.length d], .int .i64 8]) (by simp [results, Tryz.results27, go_sem, g0, g1]) rfl ⟨some ⟨bb, off, none⟩, c, B, d, ps, rfl, HI0.out.on hB, (HU.out.mono (fun g h => .inl h)).on hB.size, hB⟩
    · have d4 : ((y.sort : Int) == 4) = false := beq_eq_false_iff_ne.2 (by omega)
      rw [if_neg h4, rcode_ru] at hbc
      clear h4
      have HR1 := Lib.hid (HRU.out y.sort)
      have HC1 := Lib.hid (HCK.out y.sort)
      generalize hK : Wrd.nameCode x.to = K at *
      clear hK HRU HCK
      by_cases hk : K = 0
      · have dk1 : ((K : Int) == 0) = true := by rw [hk]; rfl
        rw [if_neg (fun h => h hk)] at hbc
        rw [hbc] at hbi
        generalize ruCode (bdRu y.sort x) = R at *
        simp only [bdV, ruV, bdRu] at HR1 HC1
        by_cases hr : R = 0
        · have dr1 : ((R : Int) != 0) = false := by rw [hr]; rfl
          rw [if_neg (fun h => h hr)] at hbi
          have HBI := Lib.hid hbi
          clear hbi hbc hk hr
          go_enter Tryz.func27, Tryz.ntmps27
          go_wp2_with fail
          generalize ((w.alloc (.cells #[.slice (some ⟨bb, off, none⟩) shops.length c, .slice B binds.length d] 32)).alloc (.cells #[.string (ofL x.shop), .string (ofL x.to), .bool x.up, .string (ofL x.key), .slice Ax x.want.length cx, .bool x.all] 69)).alloc (.cells #[.slice none 0 0, .slice none 0 0] 32) = w1 at *
          refine HF.out.mono ?_
          rintro e w2 ⟨rfl, b2⟩
          have HM2 := Lib.hid (HM0.out.on b2)
          clear b2
          have x0 := HM2.out.bx.cs 0 _ rfl
          have x1 := HM2.out.bx.cs 1 _ rfl
          have xl := HM2.out.bx.lt
          have s0 := HM2.out.bs.cs 0 _ rfl
          have s1 := HM2.out.bs.cs 1 _ rfl
          have s2 := HM2.out.bs.cs 2 _ rfl
          have s3 := HM2.out.bs.cs 3 _ rfl
          have s4 := HM2.out.bs.cs 4 _ rfl
          have s5 := HM2.out.bs.cs 5 _ rfl
          have sl := HM2.out.bs.lt
          have r0 := HM2.out.bz.cs 0 _ rfl
          have r1 := HM2.out.bz.cs 1 _ rfl
          have rl := HM2.out.bz.lt
          have rf := HM2.out.bz.s
          unfold Soft at rf
          have q0 := rtCell HM2.out.B (HAT.out 0 _ rfl)
          have q1 := rtCell HM2.out.B (HAT.out 1 _ rfl)
          have q2 := rtCell HM2.out.B (HAT.out 2 _ rfl)
          rw [Nat.add_zero] at q0
          have ql : bb < w2.heap.size := Nat.lt_of_lt_of_le hkb HM2.out.B.size
          go_wp2_with fail
          refine (HNM.out _).mono ?_
          rintro e w3 ⟨rfl, rfl⟩
          go_upto_region 8 with fail
          refine wp_region_held_drew (S := fun a => Below (w2.heap.size) w2 a) (by kernel_rfl) (by (try dsimp only); exact (Below.refl _ _).drew) (fun hHeld => ?_)
          refine wpAnyH_take (i := 0) (oi := { dst := some 31, op := Go.Op.load 69 (Go.Operand.tmp 3), type := 69, pos := "ref.go:114", after := #[], guard := none }) (v := ?_) rfl (by kernel_rfl) (by kernel_rfl) (by kernel_rfl) (fun _ _ _ h => h) (Or.inl ⟨by rfl, ?_⟩) (by assumption) ?_
          rotate_left 1
          · intro wS hSw; (try dsimp only at hSw); have x0 := cell_on hSw x0; have x1 := cell_on hSw x1; have s0 := cell_on hSw s0; have s1 := cell_on hSw s1; have s2 := cell_on hSw s2; have s3 := cell_on hSw s3; have s4 := cell_on hSw s4; have s5 := cell_on hSw s5; have q0 := cell_on hSw q0; have q1 := cell_on hSw q1; have q2 := cell_on hSw q2; go_simp; try with_reducible rfl
          try simp only [Act.put, List.setIfInBounds_toArray, List.set_cons_zero, List.set_cons_succ]
          refine wpAnyH_take (i := 1) (oi := { dst := some 32, op := Go.Op.fieldAddr 32 (Go.Operand.tmp 2) 0, type := 0, pos := "ref.go:114", after := #[], guard := none }) (v := ?_) rfl (by kernel_rfl) (by kernel_rfl) (by kernel_rfl) (fun _ _ _ h => h) (Or.inl ⟨by rfl, ?_⟩) (by assumption) ?_
          rotate_left 1
          · intro wS hSw; (try dsimp only at hSw); go_simp; try with_reducible rfl
          try simp only [Act.put, List.setIfInBounds_toArray, List.set_cons_zero, List.set_cons_succ]
          refine wpAnyH_take (i := 2) (oi := { dst := some 33, op := Go.Op.load 29 (Go.Operand.tmp 32), type := 29, pos := "ref.go:114", after := #[{ on := 1, ground := Go.Ground.data }], guard := none }) (v := ?_) rfl (by kernel_rfl) (by kernel_rfl) (by kernel_rfl) (fun _ _ _ h => h) (Or.inl ⟨by rfl, ?_⟩) (by assumption) ?_
          rotate_left 1
          · intro wS hSw; (try dsimp only at hSw); have x0 := cell_on hSw x0; have x1 := cell_on hSw x1; have s0 := cell_on hSw s0; have s1 := cell_on hSw s1; have s2 := cell_on hSw s2; have s3 := cell_on hSw s3; have s4 := cell_on hSw s4; have s5 := cell_on hSw s5; have q0 := cell_on hSw q0; have q1 := cell_on hSw q1; have q2 := cell_on hSw q2; go_simp; try with_reducible rfl
          try simp only [Act.put, List.setIfInBounds_toArray, List.set_cons_zero, List.set_cons_succ]
          refine wpAnyH_take (i := 3) (oi := { dst := some 34, op := Go.Op.move (Go.Operand.tmp 6), type := 3, pos := "ref.go:114", after := #[], guard := none }) (v := ?_) rfl (by kernel_rfl) (by kernel_rfl) (by kernel_rfl) (fun _ _ _ h => h) (Or.inl ⟨by rfl, ?_⟩) (by assumption) ?_
          rotate_left 1
          · intro wS hSw; (try dsimp only at hSw); go_simp; try with_reducible rfl
          try simp only [Act.put, List.setIfInBounds_toArray, List.set_cons_zero, List.set_cons_succ]
          refine wpAnyH_take (i := 4) (oi := { dst := some 35, op := Go.Op.indexAddr 29 (Go.Operand.tmp 33) (Go.Operand.tmp 34), type := 0, pos := "ref.go:114", after := #[{ on := 2, ground := Go.Ground.data }, { on := 3, ground := Go.Ground.data }], guard := none }) (v := ?_) rfl (by kernel_rfl) (by kernel_rfl) (by kernel_rfl) (fun _ _ _ h => h) (Or.inl ⟨by rfl, ?_⟩) (by assumption) ?_
          rotate_left 1
          · intro wS hSw; (try dsimp only at hSw); go_simp; try with_reducible rfl
          try simp only [Act.put, List.setIfInBounds_toArray, List.set_cons_zero, List.set_cons_succ]
          refine wpAnyH_take (i := 5) (oi := { dst := some 36, op := Go.Op.fieldAddr 57 (Go.Operand.tmp 35) 1, type := 0, pos := "ref.go:114", after := #[{ on := 4, ground := Go.Ground.data }], guard := none }) (v := ?_) rfl (by kernel_rfl) (by kernel_rfl) (by kernel_rfl) (fun _ _ _ h => h) (Or.inl ⟨by rfl, ?_⟩) (by assumption) ?_
          rotate_left 1
          · intro wS hSw; (try dsimp only at hSw); go_simp; try with_reducible rfl
          try simp only [Act.put, List.setIfInBounds_toArray, List.set_cons_zero, List.set_cons_succ]
          refine wpAnyH_take (i := 6) (oi := { dst := some 37, op := Go.Op.load 5 (Go.Operand.tmp 36), type := 5, pos := "ref.go:114", after := #[{ on := 5, ground := Go.Ground.data }], guard := none }) (v := ?_) rfl (by kernel_rfl) (by kernel_rfl) (by kernel_rfl) (fun _ _ _ h => h) (Or.inl ⟨by rfl, ?_⟩) (by assumption) ?_
          rotate_left 1
          · intro wS hSw; (try dsimp only at hSw); have x0 := cell_on hSw x0; have x1 := cell_on hSw x1; have s0 := cell_on hSw s0; have s1 := cell_on hSw s1; have s2 := cell_on hSw s2; have s3 := cell_on hSw s3; have s4 := cell_on hSw s4; have s5 := cell_on hSw s5; have q0 := cell_on hSw q0; have q1 := cell_on hSw q1; have q2 := cell_on hSw q2; go_simp; try with_reducible rfl
          try simp only [Act.put, List.setIfInBounds_toArray, List.set_cons_zero, List.set_cons_succ]
          refine wpAnyH_ready (rs := [7]) (by kernel_rfl) (by simp) ?_
          refine AllReadyH.cons (o := { dst := some 38, op := Go.Op.call { callee := Go.Callee.value (Go.Operand.func 45), args := #[Go.Operand.tmp 31, Go.Operand.tmp 37], argTypes := #[69, 5] }, type := 88, pos := "ref.go:114", after := #[{ on := 0, ground := Go.Ground.data }, { on := 6, ground := Go.Ground.data }], guard := none }) rfl (fun K hK => ?_) (AllReadyH.nil)
          go_simp
          go_at_call 45
          refine (HR1.out _).mono ?_
          rintro e wx ⟨rfl, hb2⟩
          refine hK.out _ _ (bthen hHeld hb2 (Nat.le_refl _)) (fun hHeld2 => ?_)
          clear hK K hHeld hb2
          have hHeld := hHeld2
          clear hHeld2
          try simp only [Act.put, List.setIfInBounds_toArray, List.set_cons_zero, List.set_cons_succ]
          refine wpAnyH_ready (rs := [8]) (by kernel_rfl) (by simp) ?_
          refine AllReadyH.cons (o := { dst := some 39, op := Go.Op.call { callee := Go.Callee.value (Go.Operand.func 62), args := #[Go.Operand.tmp 38], argTypes := #[88] }, type := 3, pos := "ref.go:114", after := #[{ on := 7, ground := Go.Ground.data }, { on := 7, ground := Go.Ground.chain }], guard := none }) rfl (fun K hK => ?_) (AllReadyH.nil)
          go_simp
          go_at_call 62
          refine (HC1.out _ ((HXO.out.on (bthen HM2.out.B (show Below w2.heap.size w2 _ from hHeld) (Nat.le_refl _))).ru y.sort)).mono ?_
          rintro e wx ⟨rfl, hb2⟩
          refine hK.out _ _ (bthen hHeld hb2 (Nat.le_refl _)) (fun hHeld2 => ?_)
          clear hK K hHeld hb2
          have hHeld := hHeld2
          clear hHeld2
          try simp only [Act.put, List.setIfInBounds_toArray, List.set_cons_zero, List.set_cons_succ]
          refine wpAnyH_take (i := 9) (oi := { dst := some 7, op := Go.Op.assign (Go.Operand.tmp 39), type := 3, pos := "ref.go:114", after := #[{ on := 8, ground := Go.Ground.data }, { on := 8, ground := Go.Ground.chain }, { on := 0, ground := Go.Ground.phase }, { on := 1, ground := Go.Ground.phase }, { on := 2, ground := Go.Ground.phase }, { on := 3, ground := Go.Ground.phase }, { on := 4, ground := Go.Ground.phase }, { on := 5, ground := Go.Ground.phase }, { on := 6, ground := Go.Ground.phase }, { on := 7, ground := Go.Ground.phase }, { on := 8, ground := Go.Ground.phase }], guard := none }) (v := ?_) rfl (by kernel_rfl) (by kernel_rfl) (by kernel_rfl) (fun _ _ _ h => h) (Or.inl ⟨by rfl, ?_⟩) (by assumption) ?_
          rotate_left 1
          · intro wS hSw; (try dsimp only at hSw); go_simp; try with_reducible rfl
          try simp only [Act.put, List.setIfInBounds_toArray, List.set_cons_zero, List.set_cons_succ]
          refine wpAnyH_done (by kernel_rfl) ?_ _
          have hZ := hHeld
          clear hHeld
          have hm5 := HM2.out.on (show Below w2.heap.size w2 _ from hZ)
          clear hZ q0 q1 q2 ql x0 x1 xl s0 s1 s2 s3 s4 s5 sl r0 r1 rl rf
          have HM5 := Lib.hid hm5
          clear hm5
          have x0 := HM5.out.bx.cs 0 _ rfl
          have x1 := HM5.out.bx.cs 1 _ rfl
          have xl := HM5.out.bx.lt
          have s0 := HM5.out.bs.cs 0 _ rfl
          have s1 := HM5.out.bs.cs 1 _ rfl
          have s2 := HM5.out.bs.cs 2 _ rfl
          have s3 := HM5.out.bs.cs 3 _ rfl
          have s4 := HM5.out.bs.cs 4 _ rfl
          have s5 := HM5.out.bs.cs 5 _ rfl
          have sl := HM5.out.bs.lt
          have r0 := HM5.out.bz.cs 0 _ rfl
          have r1 := HM5.out.bz.cs 1 _ rfl
          have rl := HM5.out.bz.lt
          have rf := HM5.out.bz.s
          unfold Soft at rf
          rw [← HML.out] at x1
          go_wp2_with fail
          clear x0 x1 xl s0 s1 s2 s3 s4 s5 sl r0 r1 rl rf
          go_loopg [47] ps.length (fun g i wr => BmSt x ps w [.slice (some ⟨bb, off, none⟩) shops.length c, .slice B binds.length d] [.string (ofL x.shop), .string (ofL x.to), .bool x.up, .string (ofL x.key), .slice Ax x.want.length cx, .bool x.all] [.slice none 0 0, .slice none 0 0] ps.length g i wr)
          case atStart => exact ⟨0, by omega, rfl, fun j hj => absurd hj (by omega), HM5.out⟩
          case round =>
            obtain ⟨k, hk, rfl, hno, hm⟩ := hrel
            have HK := Lib.hid hk
            have HNO := Lib.hid hno
            have HM6 := Lib.hid hm
            have hpl : ps.length ≤ 1000 := by have := HML.out; omega
            clear hk hno hm
            have x0 := HM6.out.bx.cs 0 _ rfl
            have x1 := HM6.out.bx.cs 1 _ rfl
            have xl := HM6.out.bx.lt
            have s0 := HM6.out.bs.cs 0 _ rfl
            have s1 := HM6.out.bs.cs 1 _ rfl
            have s2 := HM6.out.bs.cs 2 _ rfl
            have s3 := HM6.out.bs.cs 3 _ rfl
            have s4 := HM6.out.bs.cs 4 _ rfl
            have s5 := HM6.out.bs.cs 5 _ rfl
            have sl := HM6.out.bs.lt
            have r0 := HM6.out.bz.cs 0 _ rfl
            have r1 := HM6.out.bz.cs 1 _ rfl
            have rl := HM6.out.bz.lt
            have rf := HM6.out.bz.s
            unfold Soft at rf
            by_cases hlt : k < ps.length
            · have hbd := HI0.out.bds.on HM6.out.B
              obtain ⟨ba, oa, rfl, hba, hca⟩ := bps_get hbd.row hlt
              have hok := hbd.ok ps[k] (List.getElem_mem hlt)
              rw [bd_get hlt] at hca hok
              have HMY := Lib.hid (fun h => mem_at (x := x) HI0.out.xs hlt h)
              have HNX := Lib.hid (show bdEq x (ps.getD k ⟨Bk.Bd0, none, 0⟩).x = false → ∀ j, j < k + 1 → bdEq x (ps.getD j ⟨Bk.Bd0, none, 0⟩).x = false from fun hq j hj => by
                by_cases e : j = k
                · rw [e]; exact hq
                · exact HNO.out j (by omega))
              generalize ps.getD k ⟨Bk.Bd0, none, 0⟩ = p at *
              obtain ⟨z, Az, cz⟩ := p
              unfold bpL bdL at hca
              dsimp only at hca hok HMY HNX
              have c0 := hca 0 _ rfl
              have c1 := hca 1 _ rfl
              have c2 := hca 2 _ rfl
              have c3 := hca 3 _ rfl
              have c4 := hca 4 _ rfl
              have c5 := hca 5 _ rfl
              rw [Nat.add_zero] at c0
              have HA := Lib.hid (rtOne wr (.cells #[.string (ofL z.shop), .string (ofL z.to), .bool z.up, .string (ofL z.key), .slice Az z.want.length cz, .bool z.all] 69))
              have hxo := HXO.out.on (bthen HM6.out.B HA.out (Nat.le_refl _))
              have hsb := r14SameBind_any x z Ax cx Az cz _ hxo.len hok.len hxo.row (hok.on HA.out).row
              simp only [bdV] at hsb
              have HSB := Lib.hid hsb
              clear hsb hxo hca hok hbd
              cases hs : bdEq x z with
              | true =>
                rw [hs] at HSB
                have HIN := Lib.hid (HMY.out hs)
                have HBE := Lib.hid (show Bk.bind ⟨shops, binds⟩ x = (⟨shops, binds⟩, 0) by rw [HBI.out, if_pos HIN.out])
                clear hs
                go_wp2_with fail
                refine HSB.out.mono ?_
                rintro e w7 ⟨rfl, b7⟩
                have HM7 := Lib.hid (HM6.out.on (bthen HA.out b7 (Nat.le_refl _)))
                clear b7 c0 c1 c2 c3 c4 c5
                clear x0 x1 xl s0 s1 s2 s3 s4 s5 sl r0 r1 rl rf
                have x0 := HM7.out.bx.cs 0 _ rfl
                have x1 := HM7.out.bx.cs 1 _ rfl
                have xl := HM7.out.bx.lt
                have s0 := HM7.out.bs.cs 0 _ rfl
                have s1 := HM7.out.bs.cs 1 _ rfl
                have s2 := HM7.out.bs.cs 2 _ rfl
                have s3 := HM7.out.bs.cs 3 _ rfl
                have s4 := HM7.out.bs.cs 4 _ rfl
                have s5 := HM7.out.bs.cs 5 _ rfl
                have sl := HM7.out.bs.lt
                have r0 := HM7.out.bz.cs 0 _ rfl
                have r1 := HM7.out.bz.cs 1 _ rfl
                have rl := HM7.out.bz.lt
                have rf := HM7.out.bz.s
                unfold Soft at rf
                go_wp2_with fail
                have hQ := HM7.out.bz.fill [.slice (some ⟨bb, off, none⟩) shops.length c, .slice (some ⟨ba, oa, none⟩) binds.length d] rfl
                have hB := below_putAll (g := w.heap.size + 2) (by omega) [.slice (some ⟨bb, off, none⟩) shops.length c, .slice (some ⟨ba, oa, none⟩) binds.length d] 0 HM7.out.B
                simp only [putAll] at hQ hB
                have g0 := hQ.cs 0 _ rfl
                have g1 := hQ.cs 1 _ rfl
                refine bodyPost_ret (v := .tuple #[.agg #[.slice (some ⟨bb, off, none⟩) shops.length c, .slice (some ⟨ba, oa, none⟩) binds.length d], .int .i64 0]) (by simp [results, Tryz.results27, go_sem, g0, g1]) rfl ?_
                unfold BkPost
                rw [HBE.out]
                exact ⟨some ⟨bb, off, none⟩, c, some ⟨ba, oa, none⟩, d, ps, rfl, HI0.out.on hB, (HU.out.mono (fun g h => .inl h)).on hB.size, hB⟩
              | false =>
                rw [hs] at HSB
                have HNZ := Lib.hid (HNX.out hs)
                clear hs
                go_wp2_with fail
                refine HSB.out.mono ?_
                rintro e w7 ⟨rfl, b7⟩
                have HM7 := Lib.hid (HM6.out.on (bthen HA.out b7 (Nat.le_refl _)))
                clear b7
                go_wp2_with fail
                go_roundg (gk - 1)
                case rel => exact ⟨k + 1, by have := HK.out; omega, by go_num, HNZ.out, HM7.out⟩
                case measure => have := HK.out; omega
            · have hnm := not_mem_all (x := x) HI0.out.xs (fun j hj => HNO.out j (by have := HK.out; omega))
              dsimp only at hnm
              by_cases h32 : 32 ≤ binds.length
              · have d32 : decide ((binds.length : Int) ≥ 32) = true := decide_eq_true (by omega)
                have HBE := Lib.hid (show Bk.bind ⟨shops, binds⟩ x = (⟨shops, binds⟩, 12) by rw [HBI.out, if_neg hnm, if_pos h32])
                clear hnm h32
                go_wp2_with fail
                have hQ := HM6.out.bz.fill [.slice (some ⟨bb, off, none⟩) shops.length c, .slice B binds.length d] rfl
                have hB := below_putAll (g := w.heap.size + 2) (by omega) [.slice (some ⟨bb, off, none⟩) shops.length c, .slice B binds.length d] 0 HM6.out.B
                simp only [putAll] at hQ hB
                have g0 := hQ.cs 0 _ rfl
                have g1 := hQ.cs 1 _ rfl
                refine bodyPost_ret (v := .tuple #[.agg #[.slice (some ⟨bb, off, none⟩) shops.length c, .slice B binds.length d], .int .i64 12]) (by simp [results, Tryz.results27, go_sem, g0, g1]) rfl ?_
                unfold BkPost
                rw [HBE.out]
                exact ⟨some ⟨bb, off, none⟩, c, B, d, ps, rfl, HI0.out.on hB, (HU.out.mono (fun g h => .inl h)).on hB.size, hB⟩
              · have d32 : decide ((binds.length : Int) ≥ 32) = false := decide_eq_false (by omega)
                have HBE := Lib.hid (show Bk.bind ⟨shops, binds⟩ x = (⟨shops, binds ++ [x]⟩, 0) by rw [HBI.out, if_neg hnm, if_neg h32])
                clear hnm h32
                have HPX := Lib.hid (HI0.out.on HM6.out.B)
                have HO0 := Lib.hid (World.ownsRow_nil wr wr.heap.size 69 6)
                have HRW := Lib.hid HPX.out.bds.row
                have HAA := Lib.hid (fun W => rtOne W (.cells #[.string (ofL x.shop), .string (ofL x.to), .bool x.up, .string (ofL x.key), .slice Ax x.want.length cx, .bool x.all] 69))
                have HNEW := Lib.hid (fun (W : World) => Rws.of_news (w := W.alloc (.cells #[.string (ofL x.shop), .string (ofL x.to), .bool x.up, .string (ofL x.key), .slice Ax x.want.length cx, .bool x.all] 69)) (b := W.heap.size) (off := 0) (cs := bps [⟨x, Ax, cx⟩]) (fun j u hu => by
                  rw [bps_one1] at hu
                  rw [Nat.zero_add]
                  exact (BoxC.new (w := W) (Nat.le_refl _) #[.string (ofL x.shop), .string (ofL x.to), .bool x.up, .string (ofL x.key), .slice Ax x.want.length cx, .bool x.all] 69).cs j u hu))
                have HBL := Lib.hid (show (bps ps).length = binds.length * 6 by rw [bps_len, HML.out])
                go_wp2_with (first
                  | (at_builtin; refine wpList_append_rws _ rfl (Operand.tmp 61) (Operand.tmp 63) 30 rfl wr.heap.size 69 iN _ 6 88 Tryz.underlying30 hiN hzN0 hzN1 hzN2 rfl (by decide) (by decide) (by rfl) HO0.out (by rfl) HRW.out HBL.out (bps_one ps) (by omega) HPX.out.nilB (Nat.le_refl _) ?_; intro v' w5 hown hgrow; rw [Nat.zero_add, List.nil_append] at hown; have HB5 := Lib.hid ((Below.refl wr.heap.size wr).grown hgrow (Nat.le_refl _) (fun k hk => by cases hk)); obtain ⟨A5, c5, rfl, -, -⟩ := Rw.own_cells hown; have HO5 := Lib.hid (Rw.own_on hown (HAA.out w5)); have HNW := Lib.hid (HNEW.out w5); have hs5 : wr.heap.size ≤ (w5.alloc (.cells #[.string (ofL x.shop), .string (ofL x.to), .bool x.up, .string (ofL x.key), .slice Ax x.want.length cx, .bool x.all] 69)).heap.size := Nat.le_trans HB5.out.size (HAA.out w5).size; have HM7 := Lib.hid (HM6.out.on HB5.out); clear hown hgrow x0 x1 xl s0 s1 s2 s3 s4 s5 sl r0 r1 rl rf; have x0 := HM7.out.bx.cs 0 _ rfl; have x1 := HM7.out.bx.cs 1 _ rfl; have xl := HM7.out.bx.lt; have s0 := HM7.out.bs.cs 0 _ rfl; have s1 := HM7.out.bs.cs 1 _ rfl; have s2 := HM7.out.bs.cs 2 _ rfl; have s3 := HM7.out.bs.cs 3 _ rfl; have s4 := HM7.out.bs.cs 4 _ rfl; have s5 := HM7.out.bs.cs 5 _ rfl; have sl := HM7.out.bs.lt; have r0 := HM7.out.bz.cs 0 _ rfl; have r1 := HM7.out.bz.cs 1 _ rfl; have rl := HM7.out.bz.lt; have rf := HM7.out.bz.s; unfold Soft at rf)
                  | (at_builtin; refine wpList_append_rws _ rfl (Operand.tmp 65) (Operand.tmp 67) 30 rfl wr.heap.size 69 iN _ 6 88 Tryz.underlying30 hiN hzN0 hzN1 hzN2 rfl (by decide) (by decide) (by rfl) HO5.out (by rfl) HNW.out (by rfl) (bps_one _) (by omega) (fun e => by cases e) hs5 ?_; intro v6 w6 hown hgrow; rw [← bps_app] at hown; have HB6 := Lib.hid ((bthen HB5.out (HAA.out w5) (Nat.le_refl _)).grown hgrow hs5 (fun k hk => (HO5.out.lt k hk).1)); have HO6 := Lib.hid hown; obtain ⟨A6, c6, rfl, -, -⟩ := Rw.own_cells hown; have HM8 := Lib.hid (HM6.out.on HB6.out); clear hown hgrow x0 x1 xl s0 s1 s2 s3 s4 s5 sl r0 r1 rl rf; have x0 := HM8.out.bx.cs 0 _ rfl; have x1 := HM8.out.bx.cs 1 _ rfl; have xl := HM8.out.bx.lt; have s0 := HM8.out.bs.cs 0 _ rfl; have s1 := HM8.out.bs.cs 1 _ rfl; have s2 := HM8.out.bs.cs 2 _ rfl; have s3 := HM8.out.bs.cs 3 _ rfl; have s4 := HM8.out.bs.cs 4 _ rfl; have s5 := HM8.out.bs.cs 5 _ rfl; have sl := HM8.out.bs.lt; have r0 := HM8.out.bz.cs 0 _ rfl; have r1 := HM8.out.bz.cs 1 _ rfl; have rl := HM8.out.bz.lt; have rf := HM8.out.bz.s; unfold Soft at rf; have xf := HM8.out.bx.s; unfold Soft at xf))
                have hQ := (HM8.out.bz.aside (g := w.heap.size) (by omega) 1 (.slice A6 (binds.length + 1) c6)).fill [.slice (some ⟨bb, off, none⟩) shops.length c, .slice A6 (binds.length + 1) c6] rfl
                have hB := below_putAll (g := w.heap.size + 2) (by omega) [.slice (some ⟨bb, off, none⟩) shops.length c, .slice A6 (binds.length + 1) c6] 0 (HM8.out.B.setCell (p := ⟨w.heap.size, 1, none⟩) (Nat.le_refl _) (.slice A6 (binds.length + 1) c6))
                have hO := rtOwnPut (rtOwnPut (rtOwnPut HO6.out (g := w.heap.size) (by have := HM6.out.n; omega) 1 (.slice A6 (binds.length + 1) c6)) (g := w.heap.size + 2) (by have := HM6.out.n; omega) 0 (.slice (some ⟨bb, off, none⟩) shops.length c)) (g := w.heap.size + 2) (by have := HM6.out.n; omega) 1 (.slice A6 (binds.length + 1) c6)
                simp only [putAll] at hQ hB
                have g0 := hQ.cs 0 _ rfl
                have g1 := hQ.cs 1 _ rfl
                obtain ⟨A9, c9, e9, hc9, hn9, hr9, hb9⟩ := Rws.of_own hO
                obtain ⟨rfl, -, rfl⟩ := Value.slice.inj e9
                have h0 := HI0.out.on hB
                have hu := (HU.out.on hB.size).mono (V := fun g => U g ∨ w.heap.size ≤ g) (fun g h => .inl h)
                refine bodyPost_ret (v := .tuple #[.agg #[.slice (some ⟨bb, off, none⟩) shops.length c, .slice A6 (binds.length + 1) c6], .int .i64 0]) (by simp [results, Tryz.results27, go_sem, g0, g1]) rfl ?_
                unfold BkPost
                rw [HBE.out]
                refine ⟨some ⟨bb, off, none⟩, c, A6, c6, ps ++ [⟨x, Ax, cx⟩], by simp [bkV], ⟨?_, h0.capA, h0.nilA, by rw [List.length_append, HML.out]; exact hc9, hn9, h0.shs, ⟨hr9, fun p hp => ?_⟩⟩, ⟨hu.a, fun a ha => ⟨.inr (by have := (hb9 a ha).1; have := HM6.out.n; omega), (hb9 a ha).2⟩, fun q hq hw a ha => ?_⟩, hB⟩
                · rw [List.map_append, h0.xs]; rfl
                · rcases List.mem_append.1 hp with hp | hp
                  · exact h0.bds.ok p hp
                  · obtain rfl := List.mem_singleton.1 hp
                    exact HXO.out.on hB
                · rcases List.mem_append.1 hq with hq | hq
                  · exact hu.p q hq hw a ha
                  · obtain rfl := List.mem_singleton.1 hq
                    have h1 := HXU.out hw a ha
                    exact ⟨.inl h1.1, Nat.lt_of_lt_of_le h1.2 hB.size⟩
        · have dr1 : ((R : Int) != 0) = true := by rw [bne_iff_ne]; omega
          rw [if_pos hr] at hbi
          rw [hbi]
          dsimp only
          clear hbi hbc hk hr
          go_enter Tryz.func27, Tryz.ntmps27
          go_wp2_with fail
          generalize ((w.alloc (.cells #[.slice (some ⟨bb, off, none⟩) shops.length c, .slice B binds.length d] 32)).alloc (.cells #[.string (ofL x.shop), .string (ofL x.to), .bool x.up, .string (ofL x.key), .slice Ax x.want.length cx, .bool x.all] 69)).alloc (.cells #[.slice none 0 0, .slice none 0 0] 32) = w1 at *
          refine HF.out.mono ?_
          rintro e w2 ⟨rfl, b2⟩
          have HM2 := Lib.hid (HM0.out.on b2)
          clear b2
          have x0 := HM2.out.bx.cs 0 _ rfl
          have x1 := HM2.out.bx.cs 1 _ rfl
          have xl := HM2.out.bx.lt
          have s0 := HM2.out.bs.cs 0 _ rfl
          have s1 := HM2.out.bs.cs 1 _ rfl
          have s2 := HM2.out.bs.cs 2 _ rfl
          have s3 := HM2.out.bs.cs 3 _ rfl
          have s4 := HM2.out.bs.cs 4 _ rfl
          have s5 := HM2.out.bs.cs 5 _ rfl
          have sl := HM2.out.bs.lt
          have r0 := HM2.out.bz.cs 0 _ rfl
          have r1 := HM2.out.bz.cs 1 _ rfl
          have rl := HM2.out.bz.lt
          have rf := HM2.out.bz.s
          unfold Soft at rf
          have q0 := rtCell HM2.out.B (HAT.out 0 _ rfl)
          have q1 := rtCell HM2.out.B (HAT.out 1 _ rfl)
          have q2 := rtCell HM2.out.B (HAT.out 2 _ rfl)
          rw [Nat.add_zero] at q0
          have ql : bb < w2.heap.size := Nat.lt_of_lt_of_le hkb HM2.out.B.size
          go_wp2_with fail
          refine (HNM.out _).mono ?_
          rintro e w3 ⟨rfl, rfl⟩
          go_upto_region 8 with fail
          refine wp_region_held_drew (S := fun a => Below (w2.heap.size) w2 a) (by kernel_rfl) (by (try dsimp only); exact (Below.refl _ _).drew) (fun hHeld => ?_)
          refine wpAnyH_take (i := 0) (oi := { dst := some 31, op := Go.Op.load 69 (Go.Operand.tmp 3), type := 69, pos := "ref.go:114", after := #[], guard := none }) (v := ?_) rfl (by kernel_rfl) (by kernel_rfl) (by kernel_rfl) (fun _ _ _ h => h) (Or.inl ⟨by rfl, ?_⟩) (by assumption) ?_
          rotate_left 1
          · intro wS hSw; (try dsimp only at hSw); have x0 := cell_on hSw x0; have x1 := cell_on hSw x1; have s0 := cell_on hSw s0; have s1 := cell_on hSw s1; have s2 := cell_on hSw s2; have s3 := cell_on hSw s3; have s4 := cell_on hSw s4; have s5 := cell_on hSw s5; have q0 := cell_on hSw q0; have q1 := cell_on hSw q1; have q2 := cell_on hSw q2; go_simp; try with_reducible rfl
          try simp only [Act.put, List.setIfInBounds_toArray, List.set_cons_zero, List.set_cons_succ]
          refine wpAnyH_take (i := 1) (oi := { dst := some 32, op := Go.Op.fieldAddr 32 (Go.Operand.tmp 2) 0, type := 0, pos := "ref.go:114", after := #[], guard := none }) (v := ?_) rfl (by kernel_rfl) (by kernel_rfl) (by kernel_rfl) (fun _ _ _ h => h) (Or.inl ⟨by rfl, ?_⟩) (by assumption) ?_
          rotate_left 1
          · intro wS hSw; (try dsimp only at hSw); go_simp; try with_reducible rfl
          try simp only [Act.put, List.setIfInBounds_toArray, List.set_cons_zero, List.set_cons_succ]
          refine wpAnyH_take (i := 2) (oi := { dst := some 33, op := Go.Op.load 29 (Go.Operand.tmp 32), type := 29, pos := "ref.go:114", after := #[{ on := 1, ground := Go.Ground.data }], guard := none }) (v := ?_) rfl (by kernel_rfl) (by kernel_rfl) (by kernel_rfl) (fun _ _ _ h => h) (Or.inl ⟨by rfl, ?_⟩) (by assumption) ?_
          rotate_left 1
          · intro wS hSw; (try dsimp only at hSw); have x0 := cell_on hSw x0; have x1 := cell_on hSw x1; have s0 := cell_on hSw s0; have s1 := cell_on hSw s1; have s2 := cell_on hSw s2; have s3 := cell_on hSw s3; have s4 := cell_on hSw s4; have s5 := cell_on hSw s5; have q0 := cell_on hSw q0; have q1 := cell_on hSw q1; have q2 := cell_on hSw q2; go_simp; try with_reducible rfl
          try simp only [Act.put, List.setIfInBounds_toArray, List.set_cons_zero, List.set_cons_succ]
          refine wpAnyH_take (i := 3) (oi := { dst := some 34, op := Go.Op.move (Go.Operand.tmp 6), type := 3, pos := "ref.go:114", after := #[], guard := none }) (v := ?_) rfl (by kernel_rfl) (by kernel_rfl) (by kernel_rfl) (fun _ _ _ h => h) (Or.inl ⟨by rfl, ?_⟩) (by assumption) ?_
          rotate_left 1
          · intro wS hSw; (try dsimp only at hSw); go_simp; try with_reducible rfl
          try simp only [Act.put, List.setIfInBounds_toArray, List.set_cons_zero, List.set_cons_succ]
          refine wpAnyH_take (i := 4) (oi := { dst := some 35, op := Go.Op.indexAddr 29 (Go.Operand.tmp 33) (Go.Operand.tmp 34), type := 0, pos := "ref.go:114", after := #[{ on := 2, ground := Go.Ground.data }, { on := 3, ground := Go.Ground.data }], guard := none }) (v := ?_) rfl (by kernel_rfl) (by kernel_rfl) (by kernel_rfl) (fun _ _ _ h => h) (Or.inl ⟨by rfl, ?_⟩) (by assumption) ?_
          rotate_left 1
          · intro wS hSw; (try dsimp only at hSw); go_simp; try with_reducible rfl
          try simp only [Act.put, List.setIfInBounds_toArray, List.set_cons_zero, List.set_cons_succ]
          refine wpAnyH_take (i := 5) (oi := { dst := some 36, op := Go.Op.fieldAddr 57 (Go.Operand.tmp 35) 1, type := 0, pos := "ref.go:114", after := #[{ on := 4, ground := Go.Ground.data }], guard := none }) (v := ?_) rfl (by kernel_rfl) (by kernel_rfl) (by kernel_rfl) (fun _ _ _ h => h) (Or.inl ⟨by rfl, ?_⟩) (by assumption) ?_
          rotate_left 1
          · intro wS hSw; (try dsimp only at hSw); go_simp; try with_reducible rfl
          try simp only [Act.put, List.setIfInBounds_toArray, List.set_cons_zero, List.set_cons_succ]
          refine wpAnyH_take (i := 6) (oi := { dst := some 37, op := Go.Op.load 5 (Go.Operand.tmp 36), type := 5, pos := "ref.go:114", after := #[{ on := 5, ground := Go.Ground.data }], guard := none }) (v := ?_) rfl (by kernel_rfl) (by kernel_rfl) (by kernel_rfl) (fun _ _ _ h => h) (Or.inl ⟨by rfl, ?_⟩) (by assumption) ?_
          rotate_left 1
          · intro wS hSw; (try dsimp only at hSw); have x0 := cell_on hSw x0; have x1 := cell_on hSw x1; have s0 := cell_on hSw s0; have s1 := cell_on hSw s1; have s2 := cell_on hSw s2; have s3 := cell_on hSw s3; have s4 := cell_on hSw s4; have s5 := cell_on hSw s5; have q0 := cell_on hSw q0; have q1 := cell_on hSw q1; have q2 := cell_on hSw q2; go_simp; try with_reducible rfl
          try simp only [Act.put, List.setIfInBounds_toArray, List.set_cons_zero, List.set_cons_succ]
          refine wpAnyH_ready (rs := [7]) (by kernel_rfl) (by simp) ?_
          refine AllReadyH.cons (o := { dst := some 38, op := Go.Op.call { callee := Go.Callee.value (Go.Operand.func 45), args := #[Go.Operand.tmp 31, Go.Operand.tmp 37], argTypes := #[69, 5] }, type := 88, pos := "ref.go:114", after := #[{ on := 0, ground := Go.Ground.data }, { on := 6, ground := Go.Ground.data }], guard := none }) rfl (fun K hK => ?_) (AllReadyH.nil)
          go_simp
          go_at_call 45
          refine (HR1.out _).mono ?_
          rintro e wx ⟨rfl, hb2⟩
          refine hK.out _ _ (bthen hHeld hb2 (Nat.le_refl _)) (fun hHeld2 => ?_)
          clear hK K hHeld hb2
          have hHeld := hHeld2
          clear hHeld2
          try simp only [Act.put, List.setIfInBounds_toArray, List.set_cons_zero, List.set_cons_succ]
          refine wpAnyH_ready (rs := [8]) (by kernel_rfl) (by simp) ?_
          refine AllReadyH.cons (o := { dst := some 39, op := Go.Op.call { callee := Go.Callee.value (Go.Operand.func 62), args := #[Go.Operand.tmp 38], argTypes := #[88] }, type := 3, pos := "ref.go:114", after := #[{ on := 7, ground := Go.Ground.data }, { on := 7, ground := Go.Ground.chain }], guard := none }) rfl (fun K hK => ?_) (AllReadyH.nil)
          go_simp
          go_at_call 62
          refine (HC1.out _ ((HXO.out.on (bthen HM2.out.B (show Below w2.heap.size w2 _ from hHeld) (Nat.le_refl _))).ru y.sort)).mono ?_
          rintro e wx ⟨rfl, hb2⟩
          refine hK.out _ _ (bthen hHeld hb2 (Nat.le_refl _)) (fun hHeld2 => ?_)
          clear hK K hHeld hb2
          have hHeld := hHeld2
          clear hHeld2
          try simp only [Act.put, List.setIfInBounds_toArray, List.set_cons_zero, List.set_cons_succ]
          refine wpAnyH_take (i := 9) (oi := { dst := some 7, op := Go.Op.assign (Go.Operand.tmp 39), type := 3, pos := "ref.go:114", after := #[{ on := 8, ground := Go.Ground.data }, { on := 8, ground := Go.Ground.chain }, { on := 0, ground := Go.Ground.phase }, { on := 1, ground := Go.Ground.phase }, { on := 2, ground := Go.Ground.phase }, { on := 3, ground := Go.Ground.phase }, { on := 4, ground := Go.Ground.phase }, { on := 5, ground := Go.Ground.phase }, { on := 6, ground := Go.Ground.phase }, { on := 7, ground := Go.Ground.phase }, { on := 8, ground := Go.Ground.phase }], guard := none }) (v := ?_) rfl (by kernel_rfl) (by kernel_rfl) (by kernel_rfl) (fun _ _ _ h => h) (Or.inl ⟨by rfl, ?_⟩) (by assumption) ?_
          rotate_left 1
          · intro wS hSw; (try dsimp only at hSw); go_simp; try with_reducible rfl
          try simp only [Act.put, List.setIfInBounds_toArray, List.set_cons_zero, List.set_cons_succ]
          refine wpAnyH_done (by kernel_rfl) ?_ _
          have hZ := hHeld
          clear hHeld
          have hm5 := HM2.out.on (show Below w2.heap.size w2 _ from hZ)
          clear hZ q0 q1 q2 ql x0 x1 xl s0 s1 s2 s3 s4 s5 sl r0 r1 rl rf
          have HM5 := Lib.hid hm5
          clear hm5
          have x0 := HM5.out.bx.cs 0 _ rfl
          have x1 := HM5.out.bx.cs 1 _ rfl
          have xl := HM5.out.bx.lt
          have s0 := HM5.out.bs.cs 0 _ rfl
          have s1 := HM5.out.bs.cs 1 _ rfl
          have s2 := HM5.out.bs.cs 2 _ rfl
          have s3 := HM5.out.bs.cs 3 _ rfl
          have s4 := HM5.out.bs.cs 4 _ rfl
          have s5 := HM5.out.bs.cs 5 _ rfl
          have sl := HM5.out.bs.lt
          have r0 := HM5.out.bz.cs 0 _ rfl
          have r1 := HM5.out.bz.cs 1 _ rfl
          have rl := HM5.out.bz.lt
          have rf := HM5.out.bz.s
          unfold Soft at rf
          go_wp2_with fail
          have hQ := HM5.out.bz.fill [.slice (some ⟨bb, off, none⟩) shops.length c, .slice B binds.length d] rfl
          have hB := below_putAll (g := w.heap.size + 2) (by omega) [.slice (some ⟨bb, off, none⟩) shops.length c, .slice B binds.length d] 0 HM5.out.B
          simp only [putAll] at hQ hB
          have g0 := hQ.cs 0 _ rfl
          have g1 := hQ.cs 1 _ rfl
          exact bodyPost_ret (v := .tuple #[.agg #[.slice (some ⟨bb, off, none⟩) shops.length c, .slice B binds.length d], .int .i64 (R : Int)]) (by simp [results, Tryz.results27, go_sem, g0, g1]) rfl ⟨some ⟨bb, off, none⟩, c, B, d, ps, rfl, HI0.out.on hB, (HU.out.mono (fun g h => .inl h)).on hB.size, hB⟩
      · have dk1 : ((K : Int) == 0) = false := beq_eq_false_iff_ne.2 (by omega)
        have dk2 : ((K : Int) != 0) = true := by rw [bne_iff_ne]; omega
        rw [if_pos hk] at hbc
        rw [hbi, hbc, if_pos hk]
        dsimp only
        clear hbi hbc hk
        go_enter Tryz.func27, Tryz.ntmps27
        go_wp2_with fail
        generalize ((w.alloc (.cells #[.slice (some ⟨bb, off, none⟩) shops.length c, .slice B binds.length d] 32)).alloc (.cells #[.string (ofL x.shop), .string (ofL x.to), .bool x.up, .string (ofL x.key), .slice Ax x.want.length cx, .bool x.all] 69)).alloc (.cells #[.slice none 0 0, .slice none 0 0] 32) = w1 at *
        refine HF.out.mono ?_
        rintro e w2 ⟨rfl, b2⟩
        have HM2 := Lib.hid (HM0.out.on b2)
        clear b2
        have x0 := HM2.out.bx.cs 0 _ rfl
        have x1 := HM2.out.bx.cs 1 _ rfl
        have xl := HM2.out.bx.lt
        have s0 := HM2.out.bs.cs 0 _ rfl
        have s1 := HM2.out.bs.cs 1 _ rfl
        have s2 := HM2.out.bs.cs 2 _ rfl
        have s3 := HM2.out.bs.cs 3 _ rfl
        have s4 := HM2.out.bs.cs 4 _ rfl
        have s5 := HM2.out.bs.cs 5 _ rfl
        have sl := HM2.out.bs.lt
        have r0 := HM2.out.bz.cs 0 _ rfl
        have r1 := HM2.out.bz.cs 1 _ rfl
        have rl := HM2.out.bz.lt
        have rf := HM2.out.bz.s
        unfold Soft at rf
        have q0 := rtCell HM2.out.B (HAT.out 0 _ rfl)
        have q1 := rtCell HM2.out.B (HAT.out 1 _ rfl)
        have q2 := rtCell HM2.out.B (HAT.out 2 _ rfl)
        rw [Nat.add_zero] at q0
        have ql : bb < w2.heap.size := Nat.lt_of_lt_of_le hkb HM2.out.B.size
        go_wp2_with fail
        refine (HNM.out _).mono ?_
        rintro e w3 ⟨rfl, rfl⟩
        go_wp2_with fail
        have hQ := HM2.out.bz.fill [.slice (some ⟨bb, off, none⟩) shops.length c, .slice B binds.length d] rfl
        have hB := below_putAll (g := w.heap.size + 2) (by omega) [.slice (some ⟨bb, off, none⟩) shops.length c, .slice B binds.length d] 0 HM2.out.B
        simp only [putAll] at hQ hB
        have g0 := hQ.cs 0 _ rfl
        have g1 := hQ.cs 1 _ rfl
        exact bodyPost_ret (v := .tuple #[.agg #[.slice (some ⟨bb, off, none⟩) shops.length c, .slice B binds.length d], .int .i64 (K : Int)]) (by simp [results, Tryz.results27, go_sem, g0, g1]) rfl ⟨some ⟨bb, off, none⟩, c, B, d, ps, rfl, HI0.out.on hB, (HU.out.mono (fun g h => .inl h)).on hB.size, hB⟩
end Go.Proofs.YtopobliajgocaaaGreatDoor
end
