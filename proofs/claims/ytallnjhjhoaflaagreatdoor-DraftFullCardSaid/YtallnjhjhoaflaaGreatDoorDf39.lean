/-
  A PUT MORE IN A DRAFT OF THE SAME PUTS: walked.
-/
import Derived.Test.YtallnjhjhoaflaaGreatDoorDf23
import Derived.Test.YtallnjhjhoaflaaGreatDoorDf24
import Derived.Test.YtallnjhjhoaflaaGreatDoorDf38
import Derived.BigFrame
import Derived.Deep.RegionHeld3
import Derived.Deep.DeepCutAuto
section
namespace Go.Proofs.YtallnjhjhoaflaaGreatDoor
open Go.ChangeShapes Go.WideShapes Go.ChangeAt Go.RowKit
theorem d6_none {w : World} {A : Option Addr} {x : De} {l : List Hp} (h : D6 w A x l) : A = none → l.length = 0 ∧ l.length = 0 := by
  rintro rfl
  have h1 := Rws.no h.row
  have h2 := d6_len x l
  rw [h1] at h2
  simp at h2
  exact ⟨by omega, by omega⟩
theorem d6_news {w : World} {A : Option Addr} {x : De} {l : List Hp} (h : D6 w A x l) : ∀ b, A = some b → ∀ j u, (l.flatMap (dfL x))[j]? = some u → w.cell? (b.add j) = some u := by
  rintro b rfl j u hu
  obtain ⟨b', off, e, hlt, hc⟩ := h.row.at_ j u hu
  cases e
  rw [rws_add]
  exact hc
theorem prs_grown {w w' : World} {A : Option Addr} {l : List Hd.Pr} (h : Prs w A l) (hg : w.grownBy w' none) : Prs w' A l := h.grown hg (fun a _ e => by cases e)
/-- the boxes: the deed's, what is more, what is told -/
structure AdW (w : World) (t : Nat) (m : Ml) (B : Option Addr) (d : Nat) (A : Option Addr) (n c g8 : Nat) (W : World) : Prop where
  e : BoxC w g8 (deL (Df t m) none 0 B d) W
  mo : BoxC w (w.heap.size + 2) [.slice A n c] W
  r : BoxC w (w.heap.size + 1) [.slice none 0 0] W
  x : BoxC w w.heap.size [.slice A n c] W
  B : Below w.heap.size w W
  gg : w.heap.size + 2 < g8
theorem AdW.on {w : World} {t : Nat} {m : Ml} {B : Option Addr} {d : Nat} {A : Option Addr} {n c g8 : Nat} {W W' : World} (h : AdW w t m B d A n c g8 W) (hb : Below W.heap.size W W') : AdW w t m B d A n c g8 W' := ⟨h.e.on hb, h.mo.on hb, h.r.on hb, h.x.on hb, bthen h.B hb (Nat.le_refl _), h.gg⟩
theorem AdW.grown {w : World} {t : Nat} {m : Ml} {B : Option Addr} {d : Nat} {A : Option Addr} {n c g8 : Nat} {W W' : World} (h : AdW w t m B d A n c g8 W) (hg : W.grownBy W' none) : AdW w t m B d A n c g8 W' := ⟨rtKept h.e hg (by simp), rtKept h.mo hg (by simp), rtKept h.r hg (by simp), rtKept h.x hg (by simp), h.B.grown hg h.B.size (fun k hk => by cases hk), h.gg⟩
def AddPost (t : Nat) (m : Ml) (A : Option Addr) (c : Nat) (l : List Hp) (w : World) (e : Ending) (w' : World) : Prop :=
  (l.length < 16 ∧ ∃ A' c' p, e = .returned (.tuple #[.agg #[.slice A' (l.length + 1) c'], .int .i64 0]) ∧ l.length + 1 ≤ c' ∧ D6 w' A' (Df t m) (l ++ [p]) ∧ (∀ a, A' = some a → w.heap.size ≤ a.block) ∧ (∀ a, p.B = some a → w.heap.size ≤ a.block) ∧ Below w.heap.size w w') ∨ (16 ≤ l.length ∧ e = .returned (.tuple #[.agg #[.slice A l.length c], .int .i64 12]) ∧ Below w.heap.size w w')
set_option maxRecDepth 100000 in
set_option maxHeartbeats 16000000 in
theorem drAdd6_any (t : Nat) (m : Ml) (A : Option Addr) (c : Nat) (l : List Hp) (B : Option Addr) (d r : Nat) (w : World) (hcap : l.length ≤ c) (h0 : m.code = 0) (hm : MaOk w m B d) (hD : D6 w A (Df t m) l) (hR : w.rangeAt r 0 (deL (Df t m) none 0 B d)) (hr : r < w.heap.size) (hl : l.length ≤ 16) (hL : Len w) :
    Calls Tryz.prog 8 #[.agg #[.slice A l.length c], .slice (some ⟨r, 0, none⟩) 1 1] w (AddPost t m A c l w) := by
  have HB3 := Lib.hid (rtThree w (.cells #[.slice A l.length c] 27) (.cells #[.slice none 0 0] 27) (.cells #[.slice A l.length c] 27))
  have HX3 := Lib.hid (rtNext (rtNext (rtAt0 w #[.slice A l.length c] 27) (.cells #[.slice none 0 0] 27)) (.cells #[.slice A l.length c] 27))
  have HR3 := Lib.hid (rtNext (rtAt1 w (.cells #[.slice A l.length c] 27) #[.slice none 0 0] 27) (.cells #[.slice A l.length c] 27))
  have HM3 := Lib.hid (rtAt2 w (.cells #[.slice A l.length c] 27) (.cells #[.slice none 0 0] 27) #[.slice A l.length c] 27)
  have HSZ := Lib.hid (show (((w.alloc (.cells #[.slice A l.length c] 27)).alloc (.cells #[.slice none 0 0] 27)).alloc (.cells #[.slice A l.length c] 27)).heap.size = w.heap.size + 3 by simp)
  have HD := Lib.hid hD
  have HMA := Lib.hid hm
  have HCAP := Lib.hid hcap
  have HL16 := Lib.hid hl
  have HCK := Lib.hid (fun W (g1 : MaOk W m B d) (g2 : Len W) => drCheck6_any t m B d A l.length c W h0 g1 g2)
  have HL0 := Lib.hid hL
  have HRG := Lib.hid (show ∀ W, Below w.heap.size w W → W.rangeAt r 0 (deL (Df t m) none 0 B d) from fun W hb j v hj => (hb.cell (p := ⟨r, 0 + j, none⟩) hr).trans (hR j v hj))
  clear hD hm hcap hl hL hR h0 hr
  go_enter Tryz.func8, Tryz.ntmps8
  go_upto_region 2 with fail
  generalize ((w.alloc (.cells #[.slice A l.length c] 27)).alloc (.cells #[.slice none 0 0] 27)).alloc (.cells #[.slice A l.length c] 27) = W3 at *
  go_wp2_with fail
  go_loopg [13] 1 (fun g i wr => ∃ k : Nat, k + g = 1 ∧ i = .int .i64 (k : Int) ∧ (k = 0 ∧ W3 = wr ∨ k = 1 ∧ ∃ A' c' p, BoxC w (w.heap.size + 2) [.slice A' (l.length + 1) c'] wr ∧ BoxC w (w.heap.size + 1) [.slice none 0 0] wr ∧ l.length + 1 ≤ c' ∧ l.length < 16 ∧ D6 (wr.setCell ⟨w.heap.size + 1, 0, none⟩ (.slice A' (l.length + 1) c')) A' (Df t m) (l ++ [p]) ∧ (∀ a, A' = some a → w.heap.size ≤ a.block) ∧ (∀ a, p.B = some a → w.heap.size ≤ a.block) ∧ Below w.heap.size w wr))
  case atStart => exact ⟨0, by omega, rfl, Or.inl ⟨rfl, rfl⟩⟩
  case round =>
    obtain ⟨k, hk, rfl, ⟨rfl, rfl⟩ | ⟨rfl, A', c', p, hmo, hre, hc', hlt, hD', hnA, hnp, hB'⟩⟩ := hrel
    · have HB5 := Lib.hid (bthen HB3.out (rtOne W3 (.cells (deL (Df t m) none 0 B d).toArray 39)) (Nat.le_refl _))
      have HE5 := Lib.hid (BoxC.new (w := w) (W := W3) HB3.out.size (deL (Df t m) none 0 B d).toArray 39)
      have HW5 := Lib.hid (show AdW w t m B d A l.length c W3.heap.size (W3.alloc (.cells (deL (Df t m) none 0 B d).toArray 39)) from ⟨HE5.out, rtNext HM3.out _, rtNext HR3.out _, rtNext HX3.out _, HB5.out, by have := HSZ.out; omega⟩)
      go_upto_region 5 with (first
        | (refine wpList_load_mid (by rfl) 39 _ (by rfl) r 0 (by rfl) (deL (Df t m) none 0 B d) _ (HRG.out _ HB3.out) Tryz.underlying39 rfl (by rw [de_size, deL_len]) ?_)
        | (refine wpList_store_new2 (by rfl) 39 _ _ (by rfl) _ (deL (Df t m) none 0 B d).toArray (by rfl) (by rfl) (by rw [de_size]; rfl) (by rfl) (de_all _ _ _ _ _) ?_))
      clear HB5 HE5
      generalize hg8 : W3.heap.size = g8 at *
      generalize W3.alloc (.cells (deL (Df t m) none 0 B d).toArray 39) = W5 at *
      have c0 := HW5.out.mo.cs 0 _ rfl
      have cl := HW5.out.mo.lt
      go_wp2_with (refine wpList_load_mid (by rfl) 39 _ (by rfl) g8 0 (by rfl) (deL (Df t m) none 0 B d) _ HW5.out.e.cs.range Tryz.underlying39 rfl (by rw [de_size, deL_len]) ?_)
      refine (HCK.out _ (HMA.out.on HW5.out.B) (HL0.out.on HW5.out.B)).mono ?_
      rintro e W6 ⟨rfl, b6⟩
      have HW6 := Lib.hid (HW5.out.on b6)
      clear b6 c0 cl
      by_cases hf : 16 ≤ l.length
      · have hF : (fullN l.length : Int) = 12 := by unfold fullN; rw [if_pos hf]; rfl
        have HF := Lib.hid hf
        rw [hF]
        clear hf hF
        have x0 := HW6.out.x.cs 0 _ rfl
        have xl := HW6.out.x.lt
        have r0 := HW6.out.r.cs 0 _ rfl
        have rl := HW6.out.r.lt
        have rf := HW6.out.r.s
        unfold Soft at rf
        go_wp2_with fail
        have hB := HW6.out.B.setCell (p := ⟨w.heap.size + 1, 0, none⟩) (by show w.heap.size ≤ w.heap.size + 1; omega) (.slice A l.length c)
        have hR := HW6.out.r.put 0 (.slice A l.length c) (by simp)
        have q0 := hR.cs 0 _ rfl
        exact bodyPost_ret (v := .tuple #[.agg #[.slice A l.length c], .int .i64 12]) (by simp [results, Tryz.results8, go_sem, q0]) rfl (Or.inr ⟨HF.out, rfl, hB⟩)
      · have hF : (fullN l.length : Int) = 0 := by unfold fullN; rw [if_neg hf]; rfl
        have HF := Lib.hid hf
        rw [hF]
        clear hf hF
        go_upto_region 8 with fail
        refine wp_region_held_drew (S := fun a => BoxC w g8 (deL (Df t m) none 0 B d) a ∧ Below w.heap.size w a) (by kernel_rfl) (by (try dsimp only); exact ⟨(HW6.out.on (Below.refl _ _).drew).e, (HW6.out.on (Below.refl _ _).drew).B⟩) (fun hHeld => ?_)
        replace HW6 := Lib.hid (HW6.out.on (Below.refl _ _).drew)
        refine wpAnyH_take (i := 0) (oi := { dst := some 24, op := Go.Op.fieldAddr 27 (Go.Operand.tmp 6) 0, type := 0, pos := "draft.go:54", after := #[], guard := none }) (v := ?_) rfl (by kernel_rfl) (by kernel_rfl) (by kernel_rfl) (fun _ _ _ h => h) (Or.inl ⟨by rfl, ?_⟩) (by assumption) ?_
        rotate_left 1
        · intro wS hSw; go_simp; try with_reducible rfl
        try simp only [Act.put, List.setIfInBounds_toArray, List.set_cons_zero, List.set_cons_succ]
        refine wpAnyH_take (i := 3) (oi := { dst := some 27, op := Go.Op.load 39 (Go.Operand.tmp 8), type := 39, pos := "draft.go:54", after := #[], guard := none }) (v := .agg (deL (Df t m) none 0 B d).toArray) rfl (by kernel_rfl) (by kernel_rfl) (by kernel_rfl) (fun _ _ _ h => h) (yieldsIf_load_mid (by rfl) 39 _ (by rfl) g8 0 (by rfl) (deL (Df t m) none 0 B d) _ (fun W9 h9 => h9.1.cs.range) Tryz.underlying39 rfl (by rw [de_size, deL_len])) (by assumption) ?_
        try simp only [Act.put, List.setIfInBounds_toArray, List.set_cons_zero, List.set_cons_succ]
        refine wpAnyH_ready (rs := [1]) (by kernel_rfl) (by simp) ?_
        refine AllReadyH.cons (o := { dst := some 25, op := Go.Op.load 22 (Go.Operand.tmp 24), type := 22, pos := "draft.go:54", after := #[{ on := 0, ground := Go.Ground.data }], guard := none }) rfl (fun K hK => ?_) (AllReadyH.nil)
        have c0 := HW6.out.mo.cs 0 _ rfl
        go_simp
        refine hK.out _ _ hHeld (fun hHeld2 => ?_)
        clear c0
        clear hK K hHeld
        have hHeld := hHeld2
        clear hHeld2
        try simp only [Act.put, List.setIfInBounds_toArray, List.set_cons_zero, List.set_cons_succ]
        refine wpAnyH_ready (rs := [2]) (by kernel_rfl) (by simp) ?_
        refine AllReadyH.cons (o := { dst := some 26, op := Go.Op.call { callee := Go.Callee.value (Go.Operand.func 24), args := #[Go.Operand.tmp 25], argTypes := #[22] }, type := 22, pos := "draft.go:54", after := #[{ on := 1, ground := Go.Ground.data }], guard := none }) rfl (fun K hK => ?_) (AllReadyH.nil)
        go_simp
        go_at_call 24
        refine (clipDe_any A l.length c _ HCAP.out).mono ?_
        rintro e wx ⟨rfl, rfl⟩
        refine hK.out _ _ hHeld (fun hHeld2 => ?_)
        clear hK K hHeld
        have hHeld := hHeld2
        clear hHeld2
        try simp only [Act.put, List.setIfInBounds_toArray, List.set_cons_zero, List.set_cons_succ]
        refine wpAnyH_ready (rs := [4]) (by kernel_rfl) (by simp) ?_
        refine AllReadyH.cons (o := { dst := some 28, op := Go.Op.call { callee := Go.Callee.value (Go.Operand.func 25), args := #[Go.Operand.tmp 27], argTypes := #[39] }, type := 39, pos := "draft.go:54", after := #[{ on := 3, ground := Go.Ground.data }, { on := 2, ground := Go.Ground.chain }], guard := none }) rfl (fun K hK => ?_) (AllReadyH.nil)
        go_simp
        go_at_call 25
        refine (drOwn_any t m B d _ HMA.out.len HMA.out.cap (HMA.out.row.on HW6.out.B)).mono ?_
        rintro e wx ⟨B5, d5, rfl, ho5, hb2⟩
        have HSZ5 := Lib.hid HW6.out.mo.lt
        replace HW6 := Lib.hid (HW6.out.on hb2)
        have HO5 := Lib.hid ho5
        refine hK.out _ _ ⟨hHeld.1.on hb2, bthen hHeld.2 hb2 (Nat.le_refl _)⟩ (fun hHeld2 => ?_)
        clear hb2 ho5
        clear hK K hHeld
        have hHeld := hHeld2
        clear hHeld2
        try simp only [Act.put, List.setIfInBounds_toArray, List.set_cons_zero, List.set_cons_succ]
        refine wpAnyH_ready (rs := [5]) (by kernel_rfl) (by simp) ?_
        refine AllReadyH.cons (o := { dst := some 29, op := Go.Op.buildSlice 22 1 #[(0, Go.Operand.tmp 28)], type := 22, pos := "draft.go:54", after := #[{ on := 4, ground := Go.Ground.data }], guard := none }) rfl (fun K hK => ?_) (AllReadyH.nil)
        rw [if_pos (by rfl)]
        refine wp_buildDe _ (by rfl) (Df t m) none 0 B5 d5 (by kernel_rfl) ?_
        have HN5 := Lib.hid (BoxC.new (w := w) (W := wx) HW6.out.B.size (deL (Df t m) none 0 B5 d5).toArray 39)
        replace HO5 := Lib.hid (OwnPrs.on HO5.out (rtOne wx (.cells (deL (Df t m) none 0 B5 d5).toArray 39)))
        replace HW6 := Lib.hid (HW6.out.on (rtOne wx (.cells (deL (Df t m) none 0 B5 d5).toArray 39)))
        refine hK.out _ _ ⟨HW6.out.e, HW6.out.B⟩ (fun hHeld2 => ?_)
        generalize hg7 : wx.heap.size = g7 at *
        generalize hwy : wx.alloc (.cells (deL (Df t m) none 0 B5 d5).toArray 39) = wy at *
        clear hK K hHeld
        have hHeld := hHeld2
        clear hHeld2
        try simp only [Act.put, List.setIfInBounds_toArray, List.set_cons_zero, List.set_cons_succ]
        refine wpAnyH_ready (rs := [6]) (by kernel_rfl) (by simp) ?_
        refine AllReadyH.cons (o := { dst := some 30, op := Go.Op.call { callee := Go.Callee.builtin Go.Builtin.append, args := #[Go.Operand.tmp 26, Go.Operand.tmp 29], argTypes := #[22, 22] }, type := 22, pos := "draft.go:54", after := #[{ on := 2, ground := Go.Ground.data }, { on := 5, ground := Go.Ground.data }, { on := 4, ground := Go.Ground.chain }], guard := none }) rfl (fun K hK => ?_) (AllReadyH.nil)
        have HD6 := Lib.hid (HD.out.on HW6.out.B)
        obtain ⟨iD, hiD, hzD, hsD, hbD⟩ := info_parts infoDe
        refine step_append_grows (by rfl) _ _ 22 (by rfl) 39 iD _ 29 344 Tryz.underlying22 hiD hzD hsD hbD (by rfl) (by decide) A l.length l.length (l.flatMap (dfL (Df t m))) (by rfl) (d6_none HD6.out) (d6_len _ _) (d6_news HD6.out) ⟨g7, 0, none⟩ 1 1 (deL (Df t m) none 0 B5 d5) (by rfl) rfl (fun j u hj => by rw [rws_add, Nat.zero_add]; exact HN5.out.cs j u hj) (de_one _ _ _ _ _) (by omega) (by unfold maxLen; have := HL16.out; omega) (by have := HL16.out; omega) ?_
        intro v7 w7 hown7 hgr7
        have HW7 := Lib.hid (HW6.out.grown hgr7)
        have HOW := Lib.hid hown7
        have HGR := Lib.hid hgr7
        refine hK.out _ _ ⟨HW7.out.e, HW7.out.B⟩ (fun hHeld2 => ?_)
        clear hown7 hgr7
        clear hK K hHeld
        have hHeld := hHeld2
        clear hHeld2
        try simp only [Act.put, List.setIfInBounds_toArray, List.set_cons_zero, List.set_cons_succ]
        refine wpAnyH_take (i := 7) (oi := { dst := some 31, op := Go.Op.fieldAddr 27 (Go.Operand.tmp 6) 0, type := 0, pos := "draft.go:54", after := #[{ on := 0, ground := Go.Ground.phase }, { on := 1, ground := Go.Ground.phase }, { on := 2, ground := Go.Ground.phase }, { on := 3, ground := Go.Ground.phase }, { on := 4, ground := Go.Ground.phase }, { on := 5, ground := Go.Ground.phase }, { on := 6, ground := Go.Ground.phase }], guard := none }) (v := ?_) rfl (by kernel_rfl) (by kernel_rfl) (by kernel_rfl) (fun _ _ _ h => h) (Or.inl ⟨by rfl, ?_⟩) (by assumption) ?_
        rotate_left 1
        · intro wS hSw; go_simp; try with_reducible rfl
        try simp only [Act.put, List.setIfInBounds_toArray, List.set_cons_zero, List.set_cons_succ]
        refine wpAnyH_ready (rs := [8]) (by kernel_rfl) (by simp) ?_
        refine AllReadyH.cons (o := { dst := none, op := Go.Op.store 22 (Go.Operand.tmp 31) (Go.Operand.tmp 30), type := 0, pos := "draft.go:54", after := #[{ on := 7, ground := Go.Ground.data }, { on := 6, ground := Go.Ground.data }, { on := 6, ground := Go.Ground.chain }, { on := 0, ground := Go.Ground.phase }, { on := 1, ground := Go.Ground.phase }, { on := 2, ground := Go.Ground.phase }, { on := 3, ground := Go.Ground.phase }, { on := 4, ground := Go.Ground.phase }, { on := 5, ground := Go.Ground.phase }, { on := 6, ground := Go.Ground.phase }], guard := none }) rfl (fun K hK => ?_) (AllReadyH.nil)
        have n0 := HW7.out.mo.cs 0 _ rfl
        have nl := HW7.out.mo.lt
        have nf := HW7.out.mo.s
        unfold Soft at nf
        obtain ⟨A7, c7, rfl, hc7, hn7, hr7, hb7⟩ := Rws.of_own HOW.out
        go_simp
        refine hK.out _ _ ⟨HW7.out.e.aside (g := w.heap.size + 2) (by have := HW7.out.gg; omega) 0 _, HW7.out.B.setCell (p := ⟨w.heap.size + 2, 0, none⟩) (by show w.heap.size ≤ w.heap.size + 2; omega) _⟩ (fun hHeld2 => ?_)
        clear n0 nl nf
        clear hK K hHeld
        have hHeld := hHeld2
        clear hHeld2
        try simp only [Act.put, List.setIfInBounds_toArray, List.set_cons_zero, List.set_cons_succ]
        refine wpAnyH_done (by kernel_rfl) ?_ _
        clear hHeld
        have HC7 := Lib.hid hc7
        have HMO := Lib.hid (HW7.out.mo.put 0 (.slice A7 (l.length + 1) c7) (by simp))
        have HRE := Lib.hid (HW7.out.r.aside (g := w.heap.size + 2) (by omega) 0 (.slice A7 (l.length + 1) c7))
        have hB8 := HW7.out.B.setCell (p := ⟨w.heap.size + 2, 0, none⟩) (by show w.heap.size ≤ w.heap.size + 2; omega) (.slice A7 (l.length + 1) c7)
        have hB9 := hB8.setCell (p := ⟨w.heap.size + 1, 0, none⟩) (by show w.heap.size ≤ w.heap.size + 1; omega) (.slice A7 (l.length + 1) c7)
        have hsz6 : w.heap.size + 2 < wy.heap.size := HW6.out.mo.lt
        have hD8 : D6 ((w7.setCell ⟨w.heap.size + 2, 0, none⟩ (.slice A7 (l.length + 1) c7)).setCell ⟨w.heap.size + 1, 0, none⟩ (.slice A7 (l.length + 1) c7)) A7 (Df t m) (l ++ [⟨B5, d5⟩]) := by
          refine ⟨?_, fun q hq => ?_⟩
          · rw [List.flatMap_append, List.flatMap_singleton]
            exact rwsPut (rwsPut hr7 (fun a ha => by have := (hb7 a ha).1; omega) 0 _) (fun a ha => by have := (hb7 a ha).1; omega) 0 _
          · rcases List.mem_append.1 hq with hq | hq
            · exact ⟨(HD.out.ok q hq).1.on hB9, (HD.out.ok q hq).2⟩
            · obtain rfl := List.mem_singleton.1 hq
              have hrow := OwnPrs.row HO5.out
              refine ⟨?_, hrow.2.1⟩
              have h1 := prs_grown hrow.1 HGR.out
              exact (h1.aside (fun a ha => by have h2 := (OwnPrs.row HO5.out).2.2 a ha; have h3 := HSZ5.out; omega) 0 _).aside (fun a ha => by have h2 := (OwnPrs.row HO5.out).2.2 a ha; have h3 := HSZ5.out; omega) 0 _
        have HD8 := Lib.hid hD8
        have HB8 := Lib.hid hB8
        have HB7B := Lib.hid hb7
        clear hB8 hB9 hD8 hc7 hn7 hr7 hb7 hsz6
        go_wp2_with fail
        go_roundg (gk - 1)
        case rel => exact ⟨1, by omega, by go_num, Or.inr ⟨rfl, A7, c7, ⟨B5, d5⟩, HMO.out, HRE.out, HC7.out, Nat.lt_of_not_le HF.out, HD8.out, fun a ha => Nat.le_trans HW6.out.B.size (HB7B.out a ha).1, fun a ha => by have h2 := (OwnPrs.row HO5.out).2.2 a ha; have h3 := HSZ5.out; omega, HB8.out⟩⟩
        case measure => omega
    · have HMO := Lib.hid hmo
      have HRE := Lib.hid hre
      have HB9 := Lib.hid hB'
      have HD9 := Lib.hid hD'
      have HC9 := Lib.hid hc'
      have HLT := Lib.hid hlt
      have HNA := Lib.hid hnA
      have HNP := Lib.hid hnp
      clear hmo hre hc' hD' hB' hlt hnA hnp
      have m0 := HMO.out.cs 0 _ rfl
      have ml := HMO.out.lt
      have r0 := HRE.out.cs 0 _ rfl
      have rl := HRE.out.lt
      have rf := HRE.out.s
      unfold Soft at rf
      go_wp2_with fail
      have hB := HB9.out.setCell (p := ⟨w.heap.size + 1, 0, none⟩) (by show w.heap.size ≤ w.heap.size + 1; omega) (.slice A' (l.length + 1) c')
      have hR := HRE.out.put 0 (.slice A' (l.length + 1) c') (by simp)
      have q0 := hR.cs 0 _ rfl
      exact bodyPost_ret (v := .tuple #[.agg #[.slice A' (l.length + 1) c'], .int .i64 0]) (by simp [results, Tryz.results8, go_sem, q0]) rfl (Or.inl ⟨HLT.out, A', c', p, rfl, HC9.out, HD9.out, HNA.out, HNP.out, hB⟩)
end Go.Proofs.YtallnjhjhoaflaaGreatDoor
end
