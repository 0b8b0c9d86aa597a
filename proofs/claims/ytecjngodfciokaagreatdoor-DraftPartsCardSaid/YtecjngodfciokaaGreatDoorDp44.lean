/-
  WHETHER TWO ROWS OF THE DOCUMENT'S DEEDS ARE THE SAME: walked.
-/
import Derived.Test.YtecjngodfciokaaGreatDoorDp40
import Derived.Test.YtecjngodfciokaaGreatDoorDp43
import Derived.Deep.RegionHeld3
import Derived.Deep.DeepCutAuto
section
namespace Go.Proofs.YtecjngodfciokaaGreatDoor
open Go.ChangeShapes Go.WideShapes Go.ChangeAt Go.RowKit
def dsSame (l m : List Dp) : Bool := decide (l.map Dp.x = m.map Dp.x)
theorem dsSame_len {l m : List Dp} (h : l.length ≠ m.length) : dsSame l m = false := by
  unfold dsSame
  refine decide_eq_false fun e => h ?_
  have := congrArg List.length e
  simpa using this
theorem dsSame_no {l m : List Dp} {k : Nat} (hk : k < l.length) (hk2 : k < m.length) (h : (l.getD k Dp0).x ≠ (m.getD k Dp0).x) : dsSame l m = false := by
  unfold dsSame
  refine decide_eq_false fun e => h ?_
  have := congrArg (fun r => r[k]?) e
  simp only [List.getElem?_map, List.getElem?_eq_getElem hk, List.getElem?_eq_getElem hk2, Option.map_some] at this
  rw [← dp_get hk, ← dp_get hk2]
  exact Option.some.inj this
theorem dsSame_yes {l m : List Dp} (hn : l.length = m.length) (h : ∀ j, j < l.length → (l.getD j Dp0).x = (m.getD j Dp0).x) : dsSame l m = true := by
  unfold dsSame
  refine decide_eq_true (List.ext_getElem (by simpa using hn) fun j h1 h2 => ?_)
  rw [List.getElem_map, List.getElem_map]
  have hj : j < l.length := by simpa using h1
  have hj2 : j < m.length := by omega
  have := h j hj
  rw [← dp_get hj, ← dp_get hj2] at this
  exact this
set_option maxRecDepth 100000 in
set_option maxHeartbeats 16000000 in
theorem r22SameAll_any (l m : List Dp) (A : Option Addr) (c : Nat) (B : Option Addr) (d : Nat) (w : World) (hl : l.length ≤ 100000) (hm : m.length ≤ 100000) (hp : Dps w A l) (hq : Dps w B m) :
    Calls Tryz.prog 13 #[.slice A l.length c, .slice B m.length d] w fun e w' => e = .returned (.bool (dsSame l m)) ∧ Below w.heap.size w w' := by
  have HP := Lib.hid hp
  have HQ := Lib.hid hq
  have HLE := Lib.hid (fun h => dsSame_len (l := l) (m := m) h)
  have HNO := Lib.hid (fun k (h1 : k < l.length) (h2 : k < m.length) h => dsSame_no h1 h2 h)
  have HYES := Lib.hid (fun h1 h2 => dsSame_yes (l := l) (m := m) h1 h2)
  clear hp hq
  generalize dsSame l m = M at *
  obtain ⟨n, hn⟩ : ∃ n, n = l.length := ⟨_, rfl⟩
  rw [← hn] at hl
  rw [← hn]
  obtain ⟨n2, hn2⟩ : ∃ n, n = m.length := ⟨_, rfl⟩
  rw [← hn2] at hm
  rw [← hn2]
  have HN := Lib.hid hn
  have HN2 := Lib.hid hn2
  clear hn hn2
  by_cases he : n = n2
  · subst he
    have hne : ((n : Int) != (n : Int)) = false := by simp
    go_enter Tryz.func13, Tryz.ntmps13
    go_wp2_with fail
    go_loopg [13] n (fun g i wr => ∃ k : Nat, k + g = n ∧ i = .int .i64 (k : Int) ∧ (∀ j, j < k → (l.getD j Dp0).x = (m.getD j Dp0).x) ∧ Below w.heap.size w wr)
    case atStart => exact ⟨0, by omega, rfl, fun j hj => absurd hj (by omega), Below.refl _ _⟩
    case round =>
      obtain ⟨k, hk, rfl, hno, hB⟩ := hrel
      have HB := Lib.hid hB
      have HSO := Lib.hid hno
      have HK := Lib.hid hk
      clear hB hno hk
      by_cases hlt : k < n
      · have hki : (k : Int) < (n : Int) := by omega
        have hkl : k < l.length := by have := HN.out; omega
        have hkm : k < m.length := by have := HN2.out; omega
        obtain ⟨b1, o1, rfl, hb1, hat1, hok1⟩ := dps_elt (HP.out.on HB.out) hkl
        obtain ⟨b2, o2, rfl, hb2l, hat2, hok2⟩ := dps_elt (HQ.out.on HB.out) hkm
        have HNX : Hid ((l.getD k Dp0).x ≠ (m.getD k Dp0).x → M = false) := fun h => HNO.out k hkl hkm h
        have HSX : Hid ((l.getD k Dp0).x = (m.getD k Dp0).x → ∀ j, j < k + 1 → (l.getD j Dp0).x = (m.getD j Dp0).x) := fun h j hj => by
          by_cases e : j = k
          · rw [e]; exact h
          · exact HSO.out j (by omega)
        generalize hp1 : l.getD k Dp0 = p at hat1 hok1 HNX HSX
        generalize hp2 : m.getD k Dp0 = q at hat2 hok2 HNX HSX
        clear hp1 hp2
        obtain ⟨x, xA, xc, xB, xd⟩ := p
        obtain ⟨y, yA, yc, yB, yd⟩ := q
        have HX := Lib.hid (show wr.rangeAt b1 (o1 + k * 29) (deL x xA xc xB xd) from hat1)
        have HY := Lib.hid (show wr.rangeAt b2 (o2 + k * 29) (deL y yA yc yB yd) from hat2)
        have HXO := Lib.hid (show DeOk wr x xA xc xB xd from hok1)
        have HYO := Lib.hid (show DeOk wr y yA yc yB yd from hok2)
        have HSM := Lib.hid (fun W (g1 : DeOk W x xA xc xB xd) (g2 : DeOk W y yA yc yB yd) => r22Same_any x y xA xc xB xd yA yc yB yd W g1.bind.len g2.bind.len g1.mail.len g2.mail.len g1.bind.row g1.mail.row g2.bind.row g2.mail.row)
        clear hat1 hat2 hok1 hok2
        dsimp only at HNX HSX
        go_upto_region 6 with fail
        refine wp_region_held_drew (S := fun a => Below (wr.heap.size) wr a) (by kernel_rfl) (by (try dsimp only); exact (Below.refl _ _).drew) (fun hHeld => ?_)
        refine wpAnyH_take (i := 0) (oi := { dst := some 16, op := Go.Op.move (Go.Operand.tmp 0), type := 28, pos := "ref.go:46", after := #[], guard := none }) (v := ?_) rfl (by kernel_rfl) (by kernel_rfl) (by kernel_rfl) (fun _ _ _ h => h) (Or.inl ⟨by rfl, ?_⟩) (by assumption) ?_
        rotate_left 1
        · intro wS hSw; (try dsimp only at hSw); go_simp; try with_reducible rfl
        try simp only [Act.put, List.setIfInBounds_toArray, List.set_cons_zero, List.set_cons_succ]
        refine wpAnyH_take (i := 1) (oi := { dst := some 17, op := Go.Op.move (Go.Operand.tmp 5), type := 3, pos := "ref.go:46", after := #[], guard := none }) (v := ?_) rfl (by kernel_rfl) (by kernel_rfl) (by kernel_rfl) (fun _ _ _ h => h) (Or.inl ⟨by rfl, ?_⟩) (by assumption) ?_
        rotate_left 1
        · intro wS hSw; (try dsimp only at hSw); go_simp; try with_reducible rfl
        try simp only [Act.put, List.setIfInBounds_toArray, List.set_cons_zero, List.set_cons_succ]
        refine wpAnyH_take (i := 2) (oi := { dst := some 18, op := Go.Op.indexAddr 28 (Go.Operand.tmp 16) (Go.Operand.tmp 17), type := 0, pos := "ref.go:46", after := #[{ on := 0, ground := Go.Ground.data }, { on := 1, ground := Go.Ground.data }], guard := none }) (v := ?_) rfl (by kernel_rfl) (by kernel_rfl) (by kernel_rfl) (fun _ _ _ h => h) (Or.inl ⟨by rfl, ?_⟩) (by assumption) ?_
        rotate_left 1
        · intro wS hSw; (try dsimp only at hSw); go_simp; try with_reducible rfl
        try simp only [Act.put, List.setIfInBounds_toArray, List.set_cons_zero, List.set_cons_succ]
        refine wpAnyH_take (i := 3) (oi := { dst := some 19, op := Go.Op.load 49 (Go.Operand.tmp 18), type := 49, pos := "ref.go:46", after := #[{ on := 2, ground := Go.Ground.data }], guard := none }) (v := .agg (deL x xA xc xB xd).toArray) rfl (by kernel_rfl) (by kernel_rfl) (by kernel_rfl) (fun _ _ _ h => h) (yieldsIf_load_mid (by rfl) 49 _ (by rfl) b1 (o1 + k * 29) (by rfl) (deL x xA xc xB xd) _ (fun W9 h9 j v hj => (h9.cell (p := ⟨b1, o1 + k * 29 + j, none⟩) hb1).trans (HX.out j v hj)) Tryz.underlying49 rfl (by rw [rde_size, deL_len])) (by assumption) ?_
        try simp only [Act.put, List.setIfInBounds_toArray, List.set_cons_zero, List.set_cons_succ]
        refine wpAnyH_take (i := 4) (oi := { dst := some 20, op := Go.Op.move (Go.Operand.tmp 1), type := 28, pos := "ref.go:46", after := #[], guard := none }) (v := ?_) rfl (by kernel_rfl) (by kernel_rfl) (by kernel_rfl) (fun _ _ _ h => h) (Or.inl ⟨by rfl, ?_⟩) (by assumption) ?_
        rotate_left 1
        · intro wS hSw; (try dsimp only at hSw); go_simp; try with_reducible rfl
        try simp only [Act.put, List.setIfInBounds_toArray, List.set_cons_zero, List.set_cons_succ]
        refine wpAnyH_take (i := 5) (oi := { dst := some 21, op := Go.Op.move (Go.Operand.tmp 5), type := 3, pos := "ref.go:46", after := #[], guard := none }) (v := ?_) rfl (by kernel_rfl) (by kernel_rfl) (by kernel_rfl) (fun _ _ _ h => h) (Or.inl ⟨by rfl, ?_⟩) (by assumption) ?_
        rotate_left 1
        · intro wS hSw; (try dsimp only at hSw); go_simp; try with_reducible rfl
        try simp only [Act.put, List.setIfInBounds_toArray, List.set_cons_zero, List.set_cons_succ]
        refine wpAnyH_take (i := 6) (oi := { dst := some 22, op := Go.Op.indexAddr 28 (Go.Operand.tmp 20) (Go.Operand.tmp 21), type := 0, pos := "ref.go:46", after := #[{ on := 4, ground := Go.Ground.data }, { on := 5, ground := Go.Ground.data }], guard := none }) (v := ?_) rfl (by kernel_rfl) (by kernel_rfl) (by kernel_rfl) (fun _ _ _ h => h) (Or.inl ⟨by rfl, ?_⟩) (by assumption) ?_
        rotate_left 1
        · intro wS hSw; (try dsimp only at hSw); go_simp; try with_reducible rfl
        try simp only [Act.put, List.setIfInBounds_toArray, List.set_cons_zero, List.set_cons_succ]
        refine wpAnyH_take (i := 7) (oi := { dst := some 23, op := Go.Op.load 49 (Go.Operand.tmp 22), type := 49, pos := "ref.go:46", after := #[{ on := 6, ground := Go.Ground.data }], guard := none }) (v := .agg (deL y yA yc yB yd).toArray) rfl (by kernel_rfl) (by kernel_rfl) (by kernel_rfl) (fun _ _ _ h => h) (yieldsIf_load_mid (by rfl) 49 _ (by rfl) b2 (o2 + k * 29) (by rfl) (deL y yA yc yB yd) _ (fun W9 h9 j v hj => (h9.cell (p := ⟨b2, o2 + k * 29 + j, none⟩) hb2l).trans (HY.out j v hj)) Tryz.underlying49 rfl (by rw [rde_size, deL_len])) (by assumption) ?_
        try simp only [Act.put, List.setIfInBounds_toArray, List.set_cons_zero, List.set_cons_succ]
        refine wpAnyH_ready (rs := [8]) (by kernel_rfl) (by simp) ?_
        refine AllReadyH.cons (o := { dst := some 24, op := Go.Op.call { callee := Go.Callee.value (Go.Operand.func 32), args := #[Go.Operand.tmp 19, Go.Operand.tmp 23], argTypes := #[49, 49] }, type := 4, pos := "ref.go:46", after := #[{ on := 3, ground := Go.Ground.data }, { on := 7, ground := Go.Ground.data }], guard := none }) rfl (fun K hK => ?_) (AllReadyH.nil)
        go_simp
        go_at_call 32
        refine (HSM.out _ (HXO.out.on hHeld) (HYO.out.on hHeld)).mono ?_
        rintro e wx ⟨rfl, hb2⟩
        refine hK.out _ _ (bthen hHeld hb2 (Nat.le_refl _)) (fun hHeld2 => ?_)
        clear hK K hHeld hb2
        have hHeld := hHeld2
        clear hHeld2
        try simp only [Act.put, List.setIfInBounds_toArray, List.set_cons_zero, List.set_cons_succ]
        refine wpAnyH_take (i := 9) (oi := { dst := some 25, op := Go.Op.unOp Go.UnOp.not 4 (Go.Operand.tmp 24), type := 4, pos := "ref.go:46", after := #[{ on := 8, ground := Go.Ground.data }], guard := none }) (v := ?_) rfl (by kernel_rfl) (by kernel_rfl) (by kernel_rfl) (fun _ _ _ h => h) (Or.inl ⟨by rfl, ?_⟩) (by assumption) ?_
        rotate_left 1
        · intro wS hSw; (try dsimp only at hSw); go_simp; try with_reducible rfl
        try simp only [Act.put, List.setIfInBounds_toArray, List.set_cons_zero, List.set_cons_succ]
        refine wpAnyH_done (by kernel_rfl) ?_ _
        have hZ := hHeld
        clear hHeld
        have HB6 := Lib.hid (bthen HB.out hZ (Nat.le_refl _))
        clear hZ
        by_cases hxy : x = y
        · have HS2 := Lib.hid (HSX.out hxy)
          rw [decide_eq_true hxy]
          clear hxy
          go_wp2_with fail
          go_roundg (gk - 1)
          case rel => exact ⟨k + 1, by have := HK.out; omega, by go_num, HS2.out, HB6.out⟩
          case measure => have := HK.out; omega
        · have HM := Lib.hid (HNX.out hxy)
          rw [decide_eq_false hxy]
          clear hxy
          go_wp2_with fail
          go_ret
          exact ⟨ret_bool HM.out.symm, HB6.out⟩
      · have hkn : k = n := by have := HK.out; omega
        have HM := Lib.hid (HYES.out (by have := HN.out; have := HN2.out; omega) (fun j hj => HSO.out j (by have := HN.out; omega)))
        subst hkn
        go_wp2_with fail
        go_ret
        exact ⟨ret_bool HM.out.symm, HB.out⟩
  · have hne : ((n : Int) != (n2 : Int)) = true := by simp; omega
    have HM := Lib.hid (HLE.out (by have := HN.out; have := HN2.out; omega))
    go_enter Tryz.func13, Tryz.ntmps13
    go_wp2_with fail
    go_ret
    exact ⟨ret_bool HM.out.symm, Below.refl _ _⟩
end Go.Proofs.YtecjngodfciokaaGreatDoor
end
