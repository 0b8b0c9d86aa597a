/-
  WHETHER TWO ROWS OF THE DOCUMENT'S DEEDS ARE THE SAME: walked. PLAIN over drafts: what is told at a tick may be gone through; Add to none, and to what lies in memory. WHETHER THE DOCUMENT'S DRAFT SETTLES ONE: walked.
-/
import Derived.Test.YtecjngodfciokaaGreatDoorDl37
import Derived.Test.YtecjngodfciokaaGreatDoorDl39
import Derived.Deep.RegionHeld3
import Derived.Deep.DeepCutAuto
section
namespace Go.Proofs.YtecjngodfciokaaGreatDoor
open Go.ChangeShapes Go.WideShapes Go.ChangeAt Go.RowKit
theorem qdl40a (l : List Value) (i : Nat) (v : Value) : l.toArray.setIfInBounds i v = (l.set i v).toArray := by simp
theorem qdl40b (v u : Value) (l : List Value) : (v :: l).set 0 u = u :: l := rfl
theorem qdl40c (v u : Value) (n : Nat) (l : List Value) : (v :: l).set (n + 1) u = v :: l.set n u := rfl
def dsSame (l m : List Dp) : Bool := decide (l.map Dp.x = m.map Dp.x)
theorem dsSame_len {l m : List Dp} (h : l.length ≠ m.length) : dsSame l m = false := by
  unfold dsSame
  refine decide_eq_false fun e => h ?_
  have := congrArg List.length e
  simpa using this
theorem dsSame_no {l m : List Dp} {k : Nat} (hk : k < l.length) (hk2 : k < m.length) (h : (l.getD k Dp0).x ≠ (m.getD k Dp0).x) : dsSame l m = false := by
  unfold dsSame
  refine decide_eq_false fun e => h ?_
  have := congrArg (fun r => r[k]?) e
  simp only [List.getElem?_map, List.getElem?_eq_getElem hk, List.getElem?_eq_getElem hk2, Option.map_some] at this
  rw [← dp_get hk, ← dp_get hk2]
  exact Option.some.inj this
theorem dsSame_yes {l m : List Dp} (hn : l.length = m.length) (h : ∀ j, j < l.length → (l.getD j Dp0).x = (m.getD j Dp0).x) : dsSame l m = true := by
  unfold dsSame
  refine decide_eq_true (List.ext_getElem (by simpa using hn) fun j h1 h2 => ?_)
  rw [List.getElem_map, List.getElem_map]
  have hj : j < l.length := by simpa using h1
  have hj2 : j < m.length := by omega
  have := h j hj
  rw [← dp_get hj, ← dp_get hj2] at this
  exact this
set_option maxRecDepth 100000 in
set_option maxHeartbeats 16000000 in
theorem r22SameAll_any (l m : List Dp) (A : Option Addr) (c : Nat) (B : Option Addr) (d : Nat) (w : World) (hl : l.length ≤ 100000) (hm : m.length ≤ 100000) (hp : Dps w A l) (hq : Dps w B m) :
    Calls Tryz.prog 13 #[.slice A l.length c, .slice B m.length d] w fun e w' => e = .returned (.bool (dsSame l m)) ∧ Below w.heap.size w w' := by
  have HP := Lib.hid hp
  have HQ := Lib.hid hq
  have HLE := Lib.hid (fun h => dsSame_len (l := l) (m := m) h)
  have HNO := Lib.hid (fun k (h1 : k < l.length) (h2 : k < m.length) h => dsSame_no h1 h2 h)
  have HYES := Lib.hid (fun h1 h2 => dsSame_yes (l := l) (m := m) h1 h2)
  clear hp hq
  generalize dsSame l m = M at *
  obtain ⟨n, hn⟩ : ∃ n, n = l.length := ⟨_, rfl⟩
  rw [← hn] at hl
  rw [← hn]
  obtain ⟨n2, hn2⟩ : ∃ n, n = m.length := ⟨_, rfl⟩
  rw [← hn2] at hm
  rw [← hn2]
  have HN := Lib.hid hn
  have HN2 := Lib.hid hn2
  clear hn hn2
  by_cases he : n = n2
  · subst he
    have hne : ((n : Int) != (n : Int)) = false := by simp
    go_enter Tryz.func13, Tryz.ntmps13
    go_wp2_with fail
    go_loopg [13] n (fun g i wr => ∃ k : Nat, k + g = n ∧ i = .int .i64 (k : Int) ∧ (∀ j, j < k → (l.getD j Dp0).x = (m.getD j Dp0).x) ∧ Below w.heap.size w wr)
    case atStart => exact ⟨0, by omega, rfl, fun j hj => absurd hj (by omega), Below.refl _ _⟩
    case round =>
      obtain ⟨k, hk, rfl, hno, hB⟩ := hrel
      have HB := Lib.hid hB
      have HSO := Lib.hid hno
      have HK := Lib.hid hk
      clear hB hno hk
      by_cases hlt : k < n
      · have hki : (k : Int) < (n : Int) := by omega
        have hkl : k < l.length := by have := HN.out; omega
        have hkm : k < m.length := by have := HN2.out; omega
        obtain ⟨b1, o1, rfl, hb1, hat1, hok1⟩ := dps_elt (HP.out.on HB.out) hkl
        obtain ⟨b2, o2, rfl, hb2l, hat2, hok2⟩ := dps_elt (HQ.out.on HB.out) hkm
        have HNX : Hid ((l.getD k Dp0).x ≠ (m.getD k Dp0).x → M = false) := fun h => HNO.out k hkl hkm h
        have HSX : Hid ((l.getD k Dp0).x = (m.getD k Dp0).x → ∀ j, j < k + 1 → (l.getD j Dp0).x = (m.getD j Dp0).x) := fun h j hj => by
          by_cases e : j = k
          · rw [e]; exact h
          · exact HSO.out j (by omega)
        generalize hp1 : l.getD k Dp0 = p at hat1 hok1 HNX HSX
        generalize hp2 : m.getD k Dp0 = q at hat2 hok2 HNX HSX
        clear hp1 hp2
        obtain ⟨x, xA, xc, xB, xd⟩ := p
        obtain ⟨y, yA, yc, yB, yd⟩ := q
        have HX := Lib.hid (show wr.rangeAt b1 (o1 + k * 29) (deL x xA xc xB xd) from hat1)
        have HY := Lib.hid (show wr.rangeAt b2 (o2 + k * 29) (deL y yA yc yB yd) from hat2)
        have HXO := Lib.hid (show DeOk wr x xA xc xB xd from hok1)
        have HYO := Lib.hid (show DeOk wr y yA yc yB yd from hok2)
        have HSM := Lib.hid (fun W (g1 : DeOk W x xA xc xB xd) (g2 : DeOk W y yA yc yB yd) => r22Same_any x y xA xc xB xd yA yc yB yd W g1.bind.len g2.bind.len g1.mail.len g2.mail.len g1.bind.row g1.mail.row g2.bind.row g2.mail.row)
        clear hat1 hat2 hok1 hok2
        dsimp only at HNX HSX
        go_upto_region 6 with fail
        refine wp_region_held_drew (S := fun a => Below (wr.heap.size) wr a) (by kernel_rfl) (by (try dsimp only); exact (Below.refl _ _).drew) (fun hHeld => ?_)
        refine wpAnyH_take (i := 0) (oi := ⟨some 16, .move (.tmp 0), 28, "ref.go:46", #[], none⟩) (v := ?_) rfl (by kernel_rfl) (by kernel_rfl) (by kernel_rfl) (fun _ _ _ h => h) (Or.inl ⟨by rfl, ?_⟩) (by assumption) ?_
        rotate_left 1
        · intro wS hSw; (try dsimp only at hSw); go_simp; try with_reducible rfl
        try simp only [Act.put, qdl40a, qdl40b, qdl40c]
        refine wpAnyH_take (i := 1) (oi := ⟨some 17, .move (.tmp 5), 3, "ref.go:46", #[], none⟩) (v := ?_) rfl (by kernel_rfl) (by kernel_rfl) (by kernel_rfl) (fun _ _ _ h => h) (Or.inl ⟨by rfl, ?_⟩) (by assumption) ?_
        rotate_left 1
        · intro wS hSw; (try dsimp only at hSw); go_simp; try with_reducible rfl
        try simp only [Act.put, qdl40a, qdl40b, qdl40c]
        refine wpAnyH_take (i := 2) (oi := ⟨some 18, .indexAddr 28 (.tmp 16) (.tmp 17), 0, "ref.go:46", #[⟨0, .data⟩, ⟨1, .data⟩], none⟩) (v := ?_) rfl (by kernel_rfl) (by kernel_rfl) (by kernel_rfl) (fun _ _ _ h => h) (Or.inl ⟨by rfl, ?_⟩) (by assumption) ?_
        rotate_left 1
        · intro wS hSw; (try dsimp only at hSw); go_simp; try with_reducible rfl
        try simp only [Act.put, qdl40a, qdl40b, qdl40c]
        refine wpAnyH_take (i := 3) (oi := ⟨some 19, .load 49 (.tmp 18), 49, "ref.go:46", #[⟨2, .data⟩], none⟩) (v := .agg (deL x xA xc xB xd).toArray) rfl (by kernel_rfl) (by kernel_rfl) (by kernel_rfl) (fun _ _ _ h => h) (yieldsIf_load_mid (by rfl) 49 _ (by rfl) b1 (o1 + k * 29) (by rfl) (deL x xA xc xB xd) _ (fun W9 h9 j v hj => (h9.cell (p := ⟨b1, o1 + k * 29 + j, none⟩) hb1).trans (HX.out j v hj)) Tryz.underlying49 rfl (by rw [rde_size, deL_len])) (by assumption) ?_
        try simp only [Act.put, qdl40a, qdl40b, qdl40c]
        refine wpAnyH_take (i := 4) (oi := ⟨some 20, .move (.tmp 1), 28, "ref.go:46", #[], none⟩) (v := ?_) rfl (by kernel_rfl) (by kernel_rfl) (by kernel_rfl) (fun _ _ _ h => h) (Or.inl ⟨by rfl, ?_⟩) (by assumption) ?_
        rotate_left 1
        · intro wS hSw; (try dsimp only at hSw); go_simp; try with_reducible rfl
        try simp only [Act.put, qdl40a, qdl40b, qdl40c]
        refine wpAnyH_take (i := 5) (oi := ⟨some 21, .move (.tmp 5), 3, "ref.go:46", #[], none⟩) (v := ?_) rfl (by kernel_rfl) (by kernel_rfl) (by kernel_rfl) (fun _ _ _ h => h) (Or.inl ⟨by rfl, ?_⟩) (by assumption) ?_
        rotate_left 1
        · intro wS hSw; (try dsimp only at hSw); go_simp; try with_reducible rfl
        try simp only [Act.put, qdl40a, qdl40b, qdl40c]
        refine wpAnyH_take (i := 6) (oi := ⟨some 22, .indexAddr 28 (.tmp 20) (.tmp 21), 0, "ref.go:46", #[⟨4, .data⟩, ⟨5, .data⟩], none⟩) (v := ?_) rfl (by kernel_rfl) (by kernel_rfl) (by kernel_rfl) (fun _ _ _ h => h) (Or.inl ⟨by rfl, ?_⟩) (by assumption) ?_
        rotate_left 1
        · intro wS hSw; (try dsimp only at hSw); go_simp; try with_reducible rfl
        try simp only [Act.put, qdl40a, qdl40b, qdl40c]
        refine wpAnyH_take (i := 7) (oi := ⟨some 23, .load 49 (.tmp 22), 49, "ref.go:46", #[⟨6, .data⟩], none⟩) (v := .agg (deL y yA yc yB yd).toArray) rfl (by kernel_rfl) (by kernel_rfl) (by kernel_rfl) (fun _ _ _ h => h) (yieldsIf_load_mid (by rfl) 49 _ (by rfl) b2 (o2 + k * 29) (by rfl) (deL y yA yc yB yd) _ (fun W9 h9 j v hj => (h9.cell (p := ⟨b2, o2 + k * 29 + j, none⟩) hb2l).trans (HY.out j v hj)) Tryz.underlying49 rfl (by rw [rde_size, deL_len])) (by assumption) ?_
        try simp only [Act.put, qdl40a, qdl40b, qdl40c]
        refine wpAnyH_ready (rs := [8]) (by kernel_rfl) (by simp) ?_
        refine AllReadyH.cons (o := ⟨some 24, .call { callee := .value (.func 32), args := #[.tmp 19, .tmp 23], argTypes := #[49, 49] }, 4, "ref.go:46", #[⟨3, .data⟩, ⟨7, .data⟩], none⟩) rfl (fun K hK => ?_) (AllReadyH.nil)
        go_simp
        go_at_call 32
        refine (HSM.out _ (HXO.out.on hHeld) (HYO.out.on hHeld)).mono ?_
        rintro e wx ⟨rfl, hb2⟩
        refine hK.out _ _ (bthen hHeld hb2 (Nat.le_refl _)) (fun hHeld2 => ?_)
        clear hK K hHeld hb2
        have hHeld := hHeld2
        clear hHeld2
        try simp only [Act.put, qdl40a, qdl40b, qdl40c]
        refine wpAnyH_take (i := 9) (oi := ⟨some 25, .unOp .not 4 (.tmp 24), 4, "ref.go:46", #[⟨8, .data⟩], none⟩) (v := ?_) rfl (by kernel_rfl) (by kernel_rfl) (by kernel_rfl) (fun _ _ _ h => h) (Or.inl ⟨by rfl, ?_⟩) (by assumption) ?_
        rotate_left 1
        · intro wS hSw; (try dsimp only at hSw); go_simp; try with_reducible rfl
        try simp only [Act.put, qdl40a, qdl40b, qdl40c]
        refine wpAnyH_done (by kernel_rfl) ?_ _
        have hZ := hHeld
        clear hHeld
        have HB6 := Lib.hid (bthen HB.out hZ (Nat.le_refl _))
        clear hZ
        by_cases hxy : x = y
        · have HS2 := Lib.hid (HSX.out hxy)
          rw [decide_eq_true hxy]
          clear hxy
          go_wp2_with fail
          go_roundg (gk - 1)
          case rel => exact ⟨k + 1, by have := HK.out; omega, by go_num, HS2.out, HB6.out⟩
          case measure => have := HK.out; omega
        · have HM := Lib.hid (HNX.out hxy)
          rw [decide_eq_false hxy]
          clear hxy
          go_wp2_with fail
          go_ret
          exact ⟨ret_bool HM.out.symm, HB6.out⟩
      · have hkn : k = n := by have := HK.out; omega
        have HM := Lib.hid (HYES.out (by have := HN.out; have := HN2.out; omega) (fun j hj => HSO.out j (by have := HN.out; omega)))
        subst hkn
        go_wp2_with fail
        go_ret
        exact ⟨ret_bool HM.out.symm, HB.out⟩
  · have hne : ((n : Int) != (n2 : Int)) = true := by simp; omega
    have HM := Lib.hid (HLE.out (by have := HN.out; have := HN2.out; omega))
    go_enter Tryz.func13, Tryz.ntmps13
    go_wp2_with fail
    go_ret
    exact ⟨ret_bool HM.out.symm, Below.refl _ _⟩
end Go.Proofs.YtecjngodfciokaaGreatDoor
end
section
namespace Go.Proofs.YtecjngodfciokaaGreatDoor
open Go.ChangeShapes Go.WideShapes Go.ChangeAt Go.RowKit
theorem dps_of_din {w : World} {A : Option Addr} {l : List Dp} (h : Din w A l) (hl : ∀ p ∈ l, deLight p.x = true) : Dps w A l := ⟨h.row, fun p hp => de_light_Ok (hl p hp) (h.in_ p hp)⟩
theorem din_of {W : World} {A : Option Addr} {q : List Dp} (h : Dps W A q) (hf : ∀ p ∈ q, De.Fits p.x) : Din W A q := ⟨h.row, fun p hp => by
  have o := h.ok p hp
  exact ⟨o.bind.row, o.bind.cap, by have := o.bind.len; omega, o.mail.row, o.mail.cap, by have := o.mail.len; omega, hf p hp⟩⟩
theorem dsLight_yes {l : List Dp} (h : dsLight l = true) : l.length ≤ 40 ∧ ∀ p ∈ l, deLight p.x = true := by
  unfold dsLight at h
  rw [Bool.and_eq_true, List.all_eq_true, decide_eq_true_eq] at h
  exact ⟨h.2, h.1⟩
theorem lifeN_lt {t l : Nat} : lifeN t l < 18446744073709551616 := by unfold lifeN; split <;> omega
theorem own_light {x : De} (h : deLight x = true) : deLight (Dr.own x) = true := by
  have e : deLight (Dr.own x) = (decide (mx7 x ≤ 40) && (decide (max x.bind.key.length x.text.length ≤ 100) && (lightB [] && maLight x.mail))) := rfl
  obtain ⟨h1, h2, h3, h4⟩ := de_light_ok h
  rw [e, decide_eq_true h1, decide_eq_true h2, h4]
  rfl
theorem at_light {T : Nat} {x : De} (h : deLight x = true) : deLight (at1 T x) = true := by
  have e : deLight (at1 T x) = (decide (mx7 x ≤ 40) && (decide (max x.bind.key.length x.text.length ≤ 100) && (lightB [] && maLight x.mail))) := by
    unfold at1
    split <;> rfl
  obtain ⟨h1, h2, h3, h4⟩ := de_light_ok h
  rw [e, decide_eq_true h1, decide_eq_true h2, h4]
  rfl
theorem own_fits {x : De} (h : De.Fits x) : De.Fits (Dr.own x) := ⟨h.kd, h.tick, h.sort, h.most, h.life, (fun p hp => by simp [Dr.own] at hp), h.id, h.how, h.frm, h.cd, h.num, h.mail⟩
theorem at_fits {T : Nat} (hT : T < 18446744073709551616) {x : De} (h : De.Fits x) : De.Fits (at1 T x) := by
  unfold at1
  split
  · exact ⟨h.kd, hT, h.sort, h.most, h.life, (fun p hp => by simp [at6, Dr.own] at hp), h.id, h.how, h.frm, h.cd, h.num, ⟨h.mail.id, lifeN_lt, h.mail.hops, h.mail.head⟩⟩
  · exact ⟨h.kd, hT, h.sort, h.most, h.life, (fun p hp => by simp [at8, Dr.own] at hp), h.id, h.how, h.frm, h.cd, h.num, h.mail⟩
/-- light ones that fit -/
def Good (l : List De) : Prop := ∀ x ∈ l, deLight x = true ∧ De.Fits x
theorem good_own {l : List De} (h : Good l) : Good (l.map Dr.own) := fun x hx => by
  obtain ⟨y, hy, rfl⟩ := List.mem_map.1 hx
  exact ⟨own_light (h y hy).1, own_fits (h y hy).2⟩
theorem good_at {T : Nat} (hT : T < 18446744073709551616) {l : List De} (h : Good l) : Good (l.map (at1 T)) := fun x hx => by
  obtain ⟨y, hy, rfl⟩ := List.mem_map.1 hx
  exact ⟨at_light (h y hy).1, at_fits hT (h y hy).2⟩
theorem good_append {l m : List De} (h : Good l) (h2 : Good m) : Good (l ++ m) := fun x hx => by
  rcases List.mem_append.1 hx with hx | hx
  · exact h x hx
  · exact h2 x hx
theorem good_nil : Good [] := fun x hx => by simp at hx
theorem good_in {l : List Dp} {L : List De} (h : Good L) (e : l.map Dp.x = L) : ∀ p ∈ l, deLight p.x = true ∧ De.Fits p.x := fun _ hp => h _ (e ▸ List.mem_map_of_mem hp)
theorem good_din {W : World} {A : Option Addr} {q : List Dp} {L : List De} (hD : Dps W A q) (h : Good L) (e : q.map Dp.x = L) : Din W A q := din_of hD fun p hp => (good_in h e p hp).2
theorem good_all {q : List Dp} {L : List De} (h : Good L) (e : q.map Dp.x = L) : lightAll q = true := List.all_eq_true.2 fun p hp => (good_in h e p hp).1
theorem good_of {w : World} {A : Option Addr} {l : List Dp} (h : Din w A l) (hl : ∀ p ∈ l, deLight p.x = true) : Good (l.map Dp.x) := fun x hx => by
  obtain ⟨p, hp, rfl⟩ := List.mem_map.1 hx
  exact ⟨hl p hp, (h.in_ p hp).fits⟩
def AddIPost (l ys : List Dp) (A : Option Addr) (c : Nat) (w : World) (e : Ending) (w' : World) : Prop :=
  (Dr.addN (l.map Dp.x) (ys.map Dp.x) ≠ 0 ∧ e = .returned (.tuple #[.agg #[.slice A l.length c], .int .i64 (Dr.addN (l.map Dp.x) (ys.map Dp.x) : Int)]) ∧ Below w.heap.size w w') ∨
  (Dr.addN (l.map Dp.x) (ys.map Dp.x) = 0 ∧ ∃ A' c' mm, e = .returned (.tuple #[.agg #[.slice A' mm.length c'], .int .i64 0]) ∧ mm.length ≤ c' ∧ mm.length ≤ 16 ∧ mm.map Dp.x = l.map Dp.x ++ (ys.map Dp.x).map Dr.own ∧ Dps w' A' mm ∧ InD w'.heap.size A' mm ∧ Below w.heap.size w w' ∧ ∀ G, G < w.heap.size → InP (fun b => b ≠ G) A l → InP (fun b => b ≠ G) A' mm)
theorem drAddI_any (l ys : List Dp) (A : Option Addr) (c : Nat) (Y : Option Addr) (yc : Nat) (w : World) (hcap : l.length ≤ c) (hD : Dps w A l) (hI : InD w.heap.size A l) (hY : Dps w Y ys) (hl : l.length ≤ 16) (hys : ys.length ≤ 100000) (hL : Len w) :
    Calls Tryz.prog 8 #[.agg #[.slice A l.length c], .slice Y ys.length yc] w (AddIPost l ys A c w) :=
  (drAddG_any l ys A c Y yc w hcap hD hI.away hI.awayD hY hl hys hL).mono fun e w' h => by
    rcases h with h | ⟨h0, A', c', mm, h1, h2, h3, h4, h5, h6, h7, h8, h9⟩
    · exact Or.inl h
    · exact Or.inr ⟨h0, A', c', mm, h1, h2, h3, h4, h5, h9 _ (fun b _ g2 => g2) (hI.mono h8.size), h8, fun G hG h => h9 _ (fun b g1 _ => by omega) h⟩
/-- the same, with where it lies -/
theorem addI_flat2 {l ys : List Dp} {A : Option Addr} {c : Nat} {w : World} {e : Ending} {w' : World} {G : Nat} (h : AddIPost l ys A c w e w') (hD : Dps w A l) (hI : InD w.heap.size A l) (hG : G < w.heap.size) (hN : InP (fun b => b ≠ G) A l) (hc : l.length ≤ c) (hl : l.length ≤ 16) {L : List De} (hL : l.map Dp.x = L) :
    ∃ my AY cY, e = .returned (.tuple #[.agg #[.slice AY my.length cY], .int .i64 ((Dr.addN L (ys.map Dp.x) : Nat) : Int)]) ∧ my.map Dp.x = (if Dr.addN L (ys.map Dp.x) = 0 then L ++ (ys.map Dp.x).map Dr.own else L) ∧ my.length ≤ 16 ∧ my.length ≤ cY ∧ Dps w' AY my ∧ InD w'.heap.size AY my ∧ InP (fun b => b ≠ G) AY my ∧ Below w.heap.size w w' := by
  subst hL
  rcases h with ⟨h0, rfl, b⟩ | ⟨h0, A', c', mm, rfl, h1, h2, h3, h4, h5, b, h6⟩
  · exact ⟨l, A, c, rfl, by rw [if_neg h0], hl, hc, hD.on b, hI.mono b.size, hN, b⟩
  · exact ⟨mm, A', c', by rw [h0]; rfl, by rw [if_pos h0]; exact h3, h2, h1, h4, h5, h6 G hG hN, b⟩
theorem good_due {l : List Dp} {L : List De} (h : Good L) (e : l.map Dp.x = L) : ∀ p ∈ l, p.x.mail.due < 18446744073709551616 := fun p hp => (good_in h e p hp).2.mail.due
end Go.Proofs.YtecjngodfciokaaGreatDoor
end
section
namespace Go.Proofs.YtecjngodfciokaaGreatDoor
open Go.ChangeShapes Go.WideShapes Go.ChangeAt Go.RowKit
set_option maxRecDepth 100000 in
set_option maxHeartbeats 16000000 in
theorem r26Settles_any (n0 : List UInt8) (i0 : Nat) (l : List Dp) (A : Option Addr) (c : Nat) (w : World) (hl : l.length ≤ 100000) (hp : Dps w A l) :
    Calls Tryz.prog 17 #[.slice A l.length c, .string (ofL n0), .int .u64 (i0 : Int)] w fun e w' => e = .returned (.bool (l.any fun p => setl n0 i0 p.x)) ∧ Below w.heap.size w w' := by
  have HP := Lib.hid hp
  have HYES : Hid (∀ k, k < l.length → setl n0 i0 (l.getD k Dp0).x = true → (l.any fun p => setl n0 i0 p.x) = true) := fun k hk h => List.any_eq_true.2 ⟨l[k], List.getElem_mem hk, by rw [dp_get hk]; exact h⟩
  have HNONE : Hid ((∀ j, j < l.length → setl n0 i0 (l.getD j Dp0).x = false) → (l.any fun p => setl n0 i0 p.x) = false) := fun h => by
    rw [List.any_eq_false]
    intro p hp
    obtain ⟨j, hj, rfl⟩ := List.getElem_of_mem hp
    rw [dp_get hj, h j hj]
    simp
  clear hp
  generalize (l.any fun p => setl n0 i0 p.x) = M at *
  obtain ⟨n, hn⟩ : ∃ n, n = l.length := ⟨_, rfl⟩
  rw [← hn]
  have HN := Lib.hid hn
  have hnl : n ≤ 100000 := by omega
  clear hn hl
  go_enter Tryz.func17, Tryz.ntmps17
  go_wp2_with fail
  go_loopg [11] n (fun g i wr => ∃ k : Nat, k + g = n ∧ i = .int .i64 (k : Int) ∧ (∀ j, j < k → setl n0 i0 (l.getD j Dp0).x = false) ∧ Below w.heap.size w wr)
  case atStart => exact ⟨0, by omega, rfl, fun j hj => absurd hj (by omega), Below.refl _ _⟩
  case round =>
    obtain ⟨k, hk, rfl, hno, hB⟩ := hrel
    have HB := Lib.hid hB
    have HNO := Lib.hid hno
    have HK := Lib.hid hk
    clear hB hno hk
    by_cases hlt : k < n
    · have hki : (k : Int) < (n : Int) := by omega
      have hkl : k < l.length := by have := HN.out; omega
      obtain ⟨bb, off, rfl, hbl, hat, _⟩ := dps_elt (HP.out.on HB.out) hkl
      have HQ : Hid (setl n0 i0 (l.getD k Dp0).x = true → M = true) := fun h => HYES.out k hkl h
      have HSX : Hid (setl n0 i0 (l.getD k Dp0).x = false → ∀ j, j < k + 1 → setl n0 i0 (l.getD j Dp0).x = false) := fun h j hj => by
        by_cases e : j = k
        · rw [e]; exact h
        · exact HNO.out j (by omega)
      generalize hpk : l.getD k Dp0 = p at hat HQ HSX
      clear hpk
      obtain ⟨x, XA, xc, XB, xd⟩ := p
      have HAT := Lib.hid (show wr.rangeAt bb (off + k * 29) (deL x XA xc XB xd) from hat)
      clear hat
      dsimp only at HQ HSX
      unfold setl at HQ HSX
      have HE5 := Lib.hid (BoxC.new (w := wr) (W := wr) (Nat.le_refl _) (deL x XA xc XB xd).toArray 49)
      have HBX5 := Lib.hid (rtOne wr (.cells (deL x XA xc XB xd).toArray 49))
      go_upto_region 4 with (first
        | (refine wpList_load_mid (by rfl) 49 _ (by rfl) bb (off + k * 29) (by rfl) (deL x XA xc XB xd) _ HAT.out Tryz.underlying49 rfl (by rw [rde_size, deL_len]) ?_)
        | (refine wpList_store_new2 (by rfl) 49 _ _ (by rfl) _ (deL x XA xc XB xd).toArray (by rfl) (by rfl) (by rw [rde_size]; rfl) (by rfl) (de_all _ _ _ _ _) ?_))
      generalize wr.alloc (.cells (deL x XA xc XB xd).toArray 49) = W5 at *
      have HB6 := Lib.hid (bthen HB.out HBX5.out (Nat.le_refl _))
      have e0 : W5.cell? ⟨wr.heap.size, 0, none⟩ = some (.int .u8 (x.kd : Int)) := HE5.out.cs 0 _ rfl
      have e15 : W5.cell? ⟨wr.heap.size, 15, none⟩ = some (.string (ofL x.name)) := HE5.out.cs 15 _ rfl
      have e16 : W5.cell? ⟨wr.heap.size, 16, none⟩ = some (.int .u64 (x.id : Int)) := HE5.out.cs 16 _ rfl
      have el := HE5.out.lt
      have h1 := str_same x.name n0
      have h2 := cast_beq x.id i0
      have h0 : ((x.kd : Int) == (8 : Int)) = (x.kd == 8) := cast_beq x.kd 8
      generalize (x.name == n0) = N1 at *
      generalize (x.id == i0) = N2 at *
      generalize (x.kd == 8) = N0 at *
      cases N0
      · have HS2 := Lib.hid (HSX.out (by simp))
        go_wp2_with fail
        go_roundg (gk - 1)
        case rel => exact ⟨k + 1, by have := HK.out; omega, by go_num, HS2.out, HB6.out⟩
        case measure => have := HK.out; omega
      · cases N1
        · have HS2 := Lib.hid (HSX.out (by simp))
          go_wp2_with fail
          go_roundg (gk - 1)
          case rel => exact ⟨k + 1, by have := HK.out; omega, by go_num, HS2.out, HB6.out⟩
          case measure => have := HK.out; omega
        · cases N2
          · have HS2 := Lib.hid (HSX.out (by simp))
            go_wp2_with fail
            go_roundg (gk - 1)
            case rel => exact ⟨k + 1, by have := HK.out; omega, by go_num, HS2.out, HB6.out⟩
            case measure => have := HK.out; omega
          · have HM := Lib.hid (HQ.out (by simp))
            go_wp2_with fail
            go_ret
            exact ⟨ret_bool HM.out.symm, HB6.out⟩
    · have hkn : k = n := by have := HK.out; omega
      have HM := Lib.hid (HNONE.out (fun j hj => HNO.out j (by have := HN.out; omega)))
      subst hkn
      go_wp2_with fail
      go_ret
      exact ⟨ret_bool HM.out.symm, HB.out⟩
end Go.Proofs.YtecjngodfciokaaGreatDoor
end
