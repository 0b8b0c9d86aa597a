/-
  ADD OF ANY DEEDS, the program's: walked.
-/
import Derived.Test.YtecjngodfciokaaGreatDoorDl30

section
namespace Go.Proofs.YtecjngodfciokaaGreatDoor
open Go.ChangeShapes Go.WideShapes Go.ChangeAt Go.RowKit
theorem qdl31a (l : List Value) (i : Nat) (v : Value) : l.toArray.setIfInBounds i v = (l.set i v).toArray := by simp
theorem qdl31b (v u : Value) (l : List Value) : (v :: l).set 0 u = u :: l := rfl
theorem qdl31c (v u : Value) (n : Nat) (l : List Value) : (v :: l).set (n + 1) u = v :: l.set n u := rfl
namespace Dr
/-- why they can't all stand behind the others -/
def addN (l : List De) : List De → Nat
  | [] => 0
  | y :: ys => if chk l y ≠ 0 then chk l y else addN (l ++ [own y]) ys
theorem chk_room {l : List De} {x : De} (h : chk l x = 0) : l.length < 16 := by
  unfold chk at h
  split at h
  · omega
  · split at h
    · omega
    · split at h
      · omega
      · split at h <;> omega
end Dr
theorem dps_none {w : World} {A : Option Addr} {l : List Dp} (h : Dps w A l) : A = none → l.length = 0 ∧ l.length = 0 := by
  rintro rfl
  have h1 := Rws.no h.row
  have h2 := dps_len l
  rw [h1] at h2
  simp at h2
  exact ⟨by omega, by omega⟩
theorem dps_news {w : World} {A : Option Addr} {l : List Dp} (h : Dps w A l) : ∀ b, A = some b → ∀ j u, (l.flatMap dpL)[j]? = some u → w.cell? (b.add j) = some u := by
  rintro b rfl j u hu
  obtain ⟨b', off, e, hlt, hc⟩ := h.row.at_ j u hu
  cases e
  rw [rws_add]
  exact hc
theorem rws_grown {w w' : World} {A : Option Addr} {cs : List Value} (h : Rws w A cs) (hg : w.grownBy w' none) : Rws w' A cs := ⟨fun i u hu => by
  obtain ⟨g, off, rfl, hlt, hc⟩ := h.at_ i u hu
  exact ⟨g, off, rfl, Nat.lt_of_lt_of_le hlt hg.size, hg.cell hc (by simp)⟩⟩
theorem DeOk.grown {w w' : World} {x : De} {A : Option Addr} {c : Nat} {B : Option Addr} {d : Nat} (h : DeOk w x A c B d) (hg : w.grownBy w' none) : DeOk w' x A c B d :=
  ⟨h.sn, h.st, h.qn, h.qd, ⟨h.bind.shop, h.bind.tol, h.bind.key, h.bind.len, h.bind.cap, h.bind.lite, prs_grown h.bind.row hg⟩, h.name, ⟨h.mail.shop, h.mail.key, h.mail.body, h.mail.len, h.mail.cap, h.mail.lite, prs_grown h.mail.row hg⟩, h.text⟩
theorem Dps.grown {w w' : World} {A : Option Addr} {l : List Dp} (h : Dps w A l) (hg : w.grownBy w' none) : Dps w' A l := ⟨rws_grown h.row hg, fun p hp => (h.ok p hp).grown hg⟩
theorem DeOk.aside {w : World} {x : De} {A : Option Addr} {c : Nat} {B : Option Addr} {d : Nat} (h : DeOk w x A c B d) {g : Nat} (hA : ∀ a, A = some a → g ≠ a.block) (hB : ∀ a, B = some a → g ≠ a.block) (j : Nat) (v : Value) : DeOk (w.setCell ⟨g, j, none⟩ v) x A c B d :=
  ⟨h.sn, h.st, h.qn, h.qd, ⟨h.bind.shop, h.bind.tol, h.bind.key, h.bind.len, h.bind.cap, h.bind.lite, h.bind.row.aside hA j v⟩, h.name, ⟨h.mail.shop, h.mail.key, h.mail.body, h.mail.len, h.mail.cap, h.mail.lite, h.mail.row.aside hB j v⟩, h.text⟩
theorem de_own {w w' : World} {x : De} {A : Option Addr} {c : Nat} {B : Option Addr} {d : Nat} (h : DeOk w x A c B d) {B' : Option Addr} {d' : Nat} (hp : Prs w' B' x.mail.head) (hd : x.mail.head.length ≤ d') : DeOk w' (Dr.own x) none 0 B' d' :=
  ⟨h.sn, h.st, h.qn, h.qd, ⟨h.bind.shop, h.bind.tol, h.bind.key, Nat.zero_le _, Nat.le_refl _, lite_nil, Prs.nil _ _⟩, h.name, ⟨h.mail.shop, h.mail.key, h.mail.body, h.mail.len, hd, h.mail.lite, hp⟩, h.text⟩
/-- a place that the call's own boxes don't lie at -/
def Away (s : Nat) (A : Option Addr) : Prop := ∀ a, A = some a → a.block < s ∨ s + 3 ≤ a.block
def AwayD (s : Nat) (l : List Dp) : Prop := ∀ p ∈ l, Away s p.A ∧ Away s p.B
theorem Dps.aside {w : World} {A : Option Addr} {l : List Dp} (h : Dps w A l) {s g : Nat} (hs : s ≤ g) (hg : g < s + 3) (hA : Away s A) (hl : AwayD s l) (j : Nat) (v : Value) : Dps (w.setCell ⟨g, j, none⟩ v) A l :=
  ⟨rwsPut h.row (fun a ha => by rcases hA a ha with h | h <;> omega) j v, fun p hp => (h.ok p hp).aside (fun a ha => by rcases (hl p hp).1 a ha with h | h <;> omega) (fun a ha => by rcases (hl p hp).2 a ha with h | h <;> omega) j v⟩
/-- the boxes: the deed's, what is more, what is told, what was -/
structure AdG (w : World) (x : De) (XA : Option Addr) (xc : Nat) (XB : Option Addr) (xd : Nat) (A : Option Addr) (n c : Nat) (A' : Option Addr) (c' : Nat) (mm : List Dp) (g8 : Nat) (W : World) : Prop where
  e : BoxC w g8 (deL x XA xc XB xd) W
  mo : BoxC w (w.heap.size + 2) [.slice A' mm.length c'] W
  r : BoxC w (w.heap.size + 1) [.slice none 0 0] W
  x : BoxC w w.heap.size [.slice A n c] W
  D : Dps W A' mm
  B : Below w.heap.size w W
  gg : w.heap.size + 2 < g8
theorem AdG.on {w : World} {x : De} {XA : Option Addr} {xc : Nat} {XB : Option Addr} {xd : Nat} {A : Option Addr} {n c : Nat} {A' : Option Addr} {c' : Nat} {mm : List Dp} {g8 : Nat} {W W' : World} (h : AdG w x XA xc XB xd A n c A' c' mm g8 W) (hb : Below W.heap.size W W') : AdG w x XA xc XB xd A n c A' c' mm g8 W' := ⟨h.e.on hb, h.mo.on hb, h.r.on hb, h.x.on hb, h.D.on hb, bthen h.B hb (Nat.le_refl _), h.gg⟩
theorem AdG.grown {w : World} {x : De} {XA : Option Addr} {xc : Nat} {XB : Option Addr} {xd : Nat} {A : Option Addr} {n c : Nat} {A' : Option Addr} {c' : Nat} {mm : List Dp} {g8 : Nat} {W W' : World} (h : AdG w x XA xc XB xd A n c A' c' mm g8 W) (hg : W.grownBy W' none) : AdG w x XA xc XB xd A n c A' c' mm g8 W' := ⟨rtKept h.e hg (by simp), rtKept h.mo hg (by simp), rtKept h.r hg (by simp), rtKept h.x hg (by simp), h.D.grown hg, h.B.grown hg h.B.size (fun k hk => by cases hk), h.gg⟩
/-- all of it lies in blocks of a kind -/
structure InP (P : Nat → Prop) (A : Option Addr) (l : List Dp) : Prop where
  row : ∀ a, A = some a → P a.block
  a : ∀ p ∈ l, ∀ a, p.A = some a → P a.block
  b : ∀ p ∈ l, ∀ a, p.B = some a → P a.block
theorem InP.imp {P Q : Nat → Prop} {A : Option Addr} {l : List Dp} (h : InP P A l) (hi : ∀ b, P b → Q b) : InP Q A l := ⟨fun a ha => hi _ (h.row a ha), fun p hp a ha => hi _ (h.a p hp a ha), fun p hp a ha => hi _ (h.b p hp a ha)⟩
theorem InP.none (P : Nat → Prop) : InP P none [] := ⟨fun a h => (by cases h), fun p h => (by simp at h), fun p h => (by simp at h)⟩
def InD (s : Nat) (A : Option Addr) (l : List Dp) : Prop := InP (fun b => b < s) A l
theorem InD.mono {s t : Nat} {A : Option Addr} {l : List Dp} (h : InD s A l) (ht : s ≤ t) : InD t A l := InP.imp h fun _ hb => Nat.lt_of_lt_of_le hb ht
theorem InD.away {s : Nat} {A : Option Addr} {l : List Dp} (h : InD s A l) : Away s A := fun a ha => Or.inl (h.row a ha)
theorem InD.awayD {s : Nat} {A : Option Addr} {l : List Dp} (h : InD s A l) : AwayD s l := fun p hp => ⟨fun a ha => Or.inl (h.a p hp a ha), fun a ha => Or.inl (h.b p hp a ha)⟩
theorem InD.none (s : Nat) : InD s none [] := InP.none _
def AddGPost (l ys : List Dp) (A : Option Addr) (c : Nat) (w : World) (e : Ending) (w' : World) : Prop :=
  (Dr.addN (l.map Dp.x) (ys.map Dp.x) ≠ 0 ∧ e = .returned (.tuple #[.agg #[.slice A l.length c], .int .i64 (Dr.addN (l.map Dp.x) (ys.map Dp.x) : Int)]) ∧ Below w.heap.size w w') ∨
  (Dr.addN (l.map Dp.x) (ys.map Dp.x) = 0 ∧ ∃ A' c' mm, e = .returned (.tuple #[.agg #[.slice A' mm.length c'], .int .i64 0]) ∧ mm.length ≤ c' ∧ mm.length ≤ 16 ∧ mm.map Dp.x = l.map Dp.x ++ (ys.map Dp.x).map Dr.own ∧ Dps w' A' mm ∧ Away w.heap.size A' ∧ AwayD w.heap.size mm ∧ Below w.heap.size w w' ∧ (∀ P : Nat → Prop, (∀ b, w.heap.size ≤ b → b < w'.heap.size → P b) → InP P A l → InP P A' mm))
/-- what each round keeps -/
def AddR (l ys : List Dp) (A : Option Addr) (c : Nat) (w : World) (g : Nat) (i : Value) (wr : World) : Prop :=
  ∃ k : Nat, k + g = ys.length ∧ i = .int .i64 (k : Int) ∧ ∃ A' c' mm, BoxC w (w.heap.size + 2) [.slice A' mm.length c'] wr ∧ BoxC w (w.heap.size + 1) [.slice none 0 0] wr ∧ BoxC w w.heap.size [.slice A l.length c] wr ∧ mm.length ≤ c' ∧ mm.length ≤ 16 ∧
    mm.map Dp.x = l.map Dp.x ++ ((ys.take k).map Dp.x).map Dr.own ∧ Dr.addN (l.map Dp.x) (ys.map Dp.x) = Dr.addN (mm.map Dp.x) ((ys.drop k).map Dp.x) ∧ Dps wr A' mm ∧ Away w.heap.size A' ∧ AwayD w.heap.size mm ∧ Below w.heap.size w wr ∧ (∀ P : Nat → Prop, (∀ b, w.heap.size ≤ b → b < wr.heap.size → P b) → InP P A l → InP P A' mm)
set_option maxRecDepth 100000 in
set_option maxHeartbeats 32000000 in
theorem drAddG_any (l ys : List Dp) (A : Option Addr) (c : Nat) (Y : Option Addr) (yc : Nat) (w : World) (hcap : l.length ≤ c) (hD : Dps w A l) (hAw : Away w.heap.size A) (hLw : AwayD w.heap.size l) (hY : Dps w Y ys) (hl : l.length ≤ 16) (hys : ys.length ≤ 100000) (hL : Len w) :
    Calls Tryz.prog 8 #[.agg #[.slice A l.length c], .slice Y ys.length yc] w (AddGPost l ys A c w) := by
  have HB3 := Lib.hid (rtThree w (.cells #[.slice A l.length c] 27) (.cells #[.slice none 0 0] 27) (.cells #[.slice A l.length c] 27))
  have HX3 := Lib.hid (rtNext (rtNext (rtAt0 w #[.slice A l.length c] 27) (.cells #[.slice none 0 0] 27)) (.cells #[.slice A l.length c] 27))
  have HR3 := Lib.hid (rtNext (rtAt1 w (.cells #[.slice A l.length c] 27) #[.slice none 0 0] 27) (.cells #[.slice A l.length c] 27))
  have HM3 := Lib.hid (rtAt2 w (.cells #[.slice A l.length c] 27) (.cells #[.slice none 0 0] 27) #[.slice A l.length c] 27)
  have HS0 := Lib.hid (show AddR l ys A c w ys.length (.int .i64 ((0 : Nat) : Int)) (((w.alloc (.cells #[.slice A l.length c] 27)).alloc (.cells #[.slice none 0 0] 27)).alloc (.cells #[.slice A l.length c] 27)) from ⟨0, by omega, rfl, A, c, l, HM3.out, HR3.out, HX3.out, hcap, hl, by simp, by simp, hD.on HB3.out, hAw, hLw, HB3.out, fun P _ h => h⟩)
  have HY := Lib.hid hY
  have HL0 := Lib.hid hL
  have HYS := Lib.hid hys
  obtain ⟨n, hn⟩ : ∃ n, n = ys.length := ⟨_, rfl⟩
  rw [← hn]
  rw [← hn] at HS0
  have HN := Lib.hid hn
  have hnl : n ≤ 100000 := by omega
  clear hD hAw hLw hcap hl hL hY hys hn HB3 HX3 HR3 HM3
  go_enter Tryz.func8, Tryz.ntmps8
  go_upto_region 2 with fail
  generalize ((w.alloc (.cells #[.slice A l.length c] 27)).alloc (.cells #[.slice none 0 0] 27)).alloc (.cells #[.slice A l.length c] 27) = W3 at *
  go_wp2_with fail
  go_loopg [13] n (fun g i wr => AddR l ys A c w g i wr)
  case atStart => exact HS0.out
  case round =>
    obtain ⟨k, hk, rfl, A', c', mm, hmo, hre, hx, hc', h16, hmm, had, hDm, hAw, hLw, hB', hInd⟩ := hrel
    have HK := Lib.hid hk
    have HC9 := Lib.hid hc'
    have HCAP := HC9
    have HM16 := Lib.hid h16
    have HMM := Lib.hid hmm
    have HADD := Lib.hid had
    have HAW := Lib.hid hAw
    have HLW := Lib.hid hLw
    have HMO := Lib.hid hmo
    have HRE := Lib.hid hre
    have HXX := Lib.hid hx
    have HDM := Lib.hid hDm
    have HBB := Lib.hid hB'
    have HIND := Lib.hid hInd
    clear hInd hk hc' h16 hmm had hAw hLw hmo hre hx hDm hB' HS0
    by_cases hlt : k < n
    · have hki : (k : Int) < (n : Int) := by omega
      have hkl : k < ys.length := by have := HN.out; omega
      obtain ⟨bb, off, rfl, hbl, hat, _⟩ := dps_elt (HY.out.on HBB.out) hkl
      have hok : DeOk w (ys.getD k Dp0).x (ys.getD k Dp0).A (ys.getD k Dp0).c (ys.getD k Dp0).B (ys.getD k Dp0).d := by
        obtain ⟨_, _, _, _, _, h⟩ := dps_elt HY.out hkl
        exact h
      have HDR : Hid ((ys.drop k).map Dp.x = (ys.getD k Dp0).x :: (ys.drop (k + 1)).map Dp.x) := by
        unfold Hid
        rw [← List.getElem_cons_drop hkl, List.map_cons, dp_get hkl]
      have HTK : Hid ((ys.take (k + 1)).map Dp.x = (ys.take k).map Dp.x ++ [(ys.getD k Dp0).x]) := by
        unfold Hid
        rw [← List.take_append_getElem hkl, List.map_append, List.map_singleton, dp_get hkl]
      generalize ys.getD k Dp0 = p at *
      obtain ⟨x, XA, xc, XB, xd⟩ := p
      dsimp only at hok HDR HTK
      have HAT := Lib.hid (show wr.rangeAt bb (off + k * 29) (deL x XA xc XB xd) from hat)
      have HMA := Lib.hid hok
      clear hat hok
      have HE5 := Lib.hid (BoxC.new (w := w) (W := wr) HBB.out.size (deL x XA xc XB xd).toArray 39)
      have HBX5 := Lib.hid (rtOne wr (.cells (deL x XA xc XB xd).toArray 39))
      have HW5 := Lib.hid (show AdG w x XA xc XB xd A l.length c A' c' mm wr.heap.size (wr.alloc (.cells (deL x XA xc XB xd).toArray 39)) from ⟨HE5.out, HMO.out.on HBX5.out, HRE.out.on HBX5.out, HXX.out.on HBX5.out, HDM.out.on HBX5.out, bthen HBB.out HBX5.out (Nat.le_refl _), HMO.out.lt⟩)
      have HCK := Lib.hid (fun W (g1 : DeOk W x XA xc XB xd) (g2 : Dps W A' mm) (g3 : Len W) => drCheckG_any x XA xc XB xd mm A' c' W (by have := HM16.out; omega) g1 g2 g3)
      go_upto_region 5 with (first
        | (refine wpList_load_mid (by rfl) 39 _ (by rfl) bb (off + k * 29) (by rfl) (deL x XA xc XB xd) _ HAT.out Tryz.underlying39 rfl (by rw [de_size, deL_len]) ?_)
        | (refine wpList_store_new2 (by rfl) 39 _ _ (by rfl) _ (deL x XA xc XB xd).toArray (by rfl) (by rfl) (by rw [de_size]; rfl) (by rfl) (de_all _ _ _ _ _) ?_))
      clear HE5 HBX5
      generalize hg8 : wr.heap.size = g8 at *
      generalize wr.alloc (.cells (deL x XA xc XB xd).toArray 39) = W5 at *
      have c0 := HW5.out.mo.cs 0 _ rfl
      have cl := HW5.out.mo.lt
      go_wp2_with (refine wpList_load_mid (by rfl) 39 _ (by rfl) g8 0 (by rfl) (deL x XA xc XB xd) _ HW5.out.e.cs.range Tryz.underlying39 rfl (by rw [de_size, deL_len]) ?_)
      refine (HCK.out _ (HMA.out.on HW5.out.B) HW5.out.D (HL0.out.on HW5.out.B)).mono ?_
      rintro e W6 ⟨rfl, b6⟩
      have HW6 := Lib.hid (HW5.out.on b6)
      clear b6 c0 cl
      by_cases hf : Dr.chk (mm.map Dp.x) x = 0
      · have HF := Lib.hid hf
        have HL16 := Lib.hid (show mm.length < 16 by have := Dr.chk_room hf; rw [List.length_map] at this; exact this)
        have HADN : Hid (Dr.addN (l.map Dp.x) (ys.map Dp.x) = Dr.addN (mm.map Dp.x ++ [Dr.own x]) ((ys.drop (k + 1)).map Dp.x)) := by
          unfold Hid
          rw [HADD.out, HDR.out]
          show (if Dr.chk (mm.map Dp.x) x ≠ 0 then _ else _) = _
          rw [if_neg (by rw [hf]; simp)]
        rw [hf]
        clear hf
        go_upto_region 8 with fail
        refine wp_region_held_drew (S := fun a => BoxC w g8 (deL x XA xc XB xd) a ∧ Below w.heap.size w a) (by kernel_rfl) (by (try dsimp only); exact ⟨(HW6.out.on (Below.refl _ _).drew).e, (HW6.out.on (Below.refl _ _).drew).B⟩) (fun hHeld => ?_)
        replace HW6 := Lib.hid (HW6.out.on (Below.refl _ _).drew)
        refine wpAnyH_take (i := 0) (oi := ⟨some 24, .fieldAddr 27 (.tmp 6) 0, 0, "draft.go:54", #[], none⟩) (v := ?_) rfl (by kernel_rfl) (by kernel_rfl) (by kernel_rfl) (fun _ _ _ h => h) (Or.inl ⟨by rfl, ?_⟩) (by assumption) ?_
        rotate_left 1
        · intro wS hSw; go_simp; try with_reducible rfl
        try simp only [Act.put, qdl31a, qdl31b, qdl31c]
        refine wpAnyH_take (i := 3) (oi := ⟨some 27, .load 39 (.tmp 8), 39, "draft.go:54", #[], none⟩) (v := .agg (deL x XA xc XB xd).toArray) rfl (by kernel_rfl) (by kernel_rfl) (by kernel_rfl) (fun _ _ _ h => h) (yieldsIf_load_mid (by rfl) 39 _ (by rfl) g8 0 (by rfl) (deL x XA xc XB xd) _ (fun W9 h9 => h9.1.cs.range) Tryz.underlying39 rfl (by rw [de_size, deL_len])) (by assumption) ?_
        try simp only [Act.put, qdl31a, qdl31b, qdl31c]
        refine wpAnyH_ready (rs := [1]) (by kernel_rfl) (by simp) ?_
        refine AllReadyH.cons (o := ⟨some 25, .load 22 (.tmp 24), 22, "draft.go:54", #[⟨0, .data⟩], none⟩) rfl (fun K hK => ?_) (AllReadyH.nil)
        have c0 := HW6.out.mo.cs 0 _ rfl
        go_simp
        refine hK.out _ _ hHeld (fun hHeld2 => ?_)
        clear c0
        clear hK K hHeld
        have hHeld := hHeld2
        clear hHeld2
        try simp only [Act.put, qdl31a, qdl31b, qdl31c]
        refine wpAnyH_ready (rs := [2]) (by kernel_rfl) (by simp) ?_
        refine AllReadyH.cons (o := ⟨some 26, .call { callee := .value (.func 28), args := #[.tmp 25], argTypes := #[22] }, 22, "draft.go:54", #[⟨1, .data⟩], none⟩) rfl (fun K hK => ?_) (AllReadyH.nil)
        go_simp
        go_at_call 28
        refine (clipDe_any A' mm.length c' _ HCAP.out).mono ?_
        rintro e wx ⟨rfl, rfl⟩
        refine hK.out _ _ hHeld (fun hHeld2 => ?_)
        clear hK K hHeld
        have hHeld := hHeld2
        clear hHeld2
        try simp only [Act.put, qdl31a, qdl31b, qdl31c]
        refine wpAnyH_ready (rs := [4]) (by kernel_rfl) (by simp) ?_
        refine AllReadyH.cons (o := ⟨some 28, .call { callee := .value (.func 29), args := #[.tmp 27], argTypes := #[39] }, 39, "draft.go:54", #[⟨3, .data⟩, ⟨2, .chain⟩], none⟩) rfl (fun K hK => ?_) (AllReadyH.nil)
        go_simp
        go_at_call 29
        refine (drOwnG_any x XA xc XB xd _ HMA.out.mail.len HMA.out.mail.cap (HMA.out.mail.row.on HW6.out.B)).mono ?_
        rintro e wx ⟨B5, d5, rfl, ho5, hb2⟩
        have HSZ5 := Lib.hid HW6.out.mo.lt
        replace HW6 := Lib.hid (HW6.out.on hb2)
        have HO5 := Lib.hid ho5
        refine hK.out _ _ ⟨hHeld.1.on hb2, bthen hHeld.2 hb2 (Nat.le_refl _)⟩ (fun hHeld2 => ?_)
        clear hb2 ho5
        clear hK K hHeld
        have hHeld := hHeld2
        clear hHeld2
        try simp only [Act.put, qdl31a, qdl31b, qdl31c]
        refine wpAnyH_ready (rs := [5]) (by kernel_rfl) (by simp) ?_
        refine AllReadyH.cons (o := ⟨some 29, .buildSlice 22 1 #[(0, .tmp 28)], 22, "draft.go:54", #[⟨4, .data⟩], none⟩) rfl (fun K hK => ?_) (AllReadyH.nil)
        rw [if_pos (by rfl)]
        refine wp_buildDe _ (by rfl) (Dr.own x) none 0 B5 d5 (by kernel_rfl) ?_
        have HN5 := Lib.hid (BoxC.new (w := w) (W := wx) HW6.out.B.size (deL (Dr.own x) none 0 B5 d5).toArray 39)
        replace HO5 := Lib.hid (OwnPrs.on HO5.out (rtOne wx (.cells (deL (Dr.own x) none 0 B5 d5).toArray 39)))
        replace HW6 := Lib.hid (HW6.out.on (rtOne wx (.cells (deL (Dr.own x) none 0 B5 d5).toArray 39)))
        refine hK.out _ _ ⟨HW6.out.e, HW6.out.B⟩ (fun hHeld2 => ?_)
        generalize hg7 : wx.heap.size = g7 at *
        generalize hwy : wx.alloc (.cells (deL (Dr.own x) none 0 B5 d5).toArray 39) = wy at *
        clear hK K hHeld
        have hHeld := hHeld2
        clear hHeld2
        try simp only [Act.put, qdl31a, qdl31b, qdl31c]
        refine wpAnyH_ready (rs := [6]) (by kernel_rfl) (by simp) ?_
        refine AllReadyH.cons (o := ⟨some 30, .call { callee := .builtin .append, args := #[.tmp 26, .tmp 29], argTypes := #[22, 22] }, 22, "draft.go:54", #[⟨2, .data⟩, ⟨5, .data⟩, ⟨4, .chain⟩], none⟩) rfl (fun K hK => ?_) (AllReadyH.nil)
        have HD6 := Lib.hid HW6.out.D
        obtain ⟨iD, hiD, hzD, hsD, hbD⟩ := info_parts infoDe
        refine step_append_grows (by rfl) _ _ 22 (by rfl) 39 iD _ 29 344 Tryz.underlying22 hiD hzD hsD hbD (by rfl) (by decide) A' mm.length mm.length (mm.flatMap dpL) (by rfl) (dps_none HD6.out) (dps_len _) (dps_news HD6.out) ⟨g7, 0, none⟩ 1 1 (deL (Dr.own x) none 0 B5 d5) (by rfl) rfl (fun j u hj => by rw [rws_add, Nat.zero_add]; exact HN5.out.cs j u hj) (de_one _ _ _ _ _) (by omega) (by unfold maxLen; have := HL16.out; omega) (by have := HL16.out; omega) ?_
        intro v7 w7 hown7 hgr7
        have HW7 := Lib.hid (HW6.out.grown hgr7)
        have HOW := Lib.hid hown7
        have HGR := Lib.hid hgr7
        refine hK.out _ _ ⟨HW7.out.e, HW7.out.B⟩ (fun hHeld2 => ?_)
        clear hown7 hgr7
        clear hK K hHeld
        have hHeld := hHeld2
        clear hHeld2
        try simp only [Act.put, qdl31a, qdl31b, qdl31c]
        refine wpAnyH_take (i := 7) (oi := ⟨some 31, .fieldAddr 27 (.tmp 6) 0, 0, "draft.go:54", #[⟨0, .phase⟩, ⟨1, .phase⟩, ⟨2, .phase⟩, ⟨3, .phase⟩, ⟨4, .phase⟩, ⟨5, .phase⟩, ⟨6, .phase⟩], none⟩) (v := ?_) rfl (by kernel_rfl) (by kernel_rfl) (by kernel_rfl) (fun _ _ _ h => h) (Or.inl ⟨by rfl, ?_⟩) (by assumption) ?_
        rotate_left 1
        · intro wS hSw; go_simp; try with_reducible rfl
        try simp only [Act.put, qdl31a, qdl31b, qdl31c]
        refine wpAnyH_ready (rs := [8]) (by kernel_rfl) (by simp) ?_
        refine AllReadyH.cons (o := ⟨none, .store 22 (.tmp 31) (.tmp 30), 0, "draft.go:54", #[⟨7, .data⟩, ⟨6, .data⟩, ⟨6, .chain⟩, ⟨0, .phase⟩, ⟨1, .phase⟩, ⟨2, .phase⟩, ⟨3, .phase⟩, ⟨4, .phase⟩, ⟨5, .phase⟩, ⟨6, .phase⟩], none⟩) rfl (fun K hK => ?_) (AllReadyH.nil)
        have n0 := HW7.out.mo.cs 0 _ rfl
        have nl := HW7.out.mo.lt
        have nf := HW7.out.mo.s
        unfold Soft at nf
        obtain ⟨A7, c7, rfl, hc7, hn7, hr7, hb7⟩ := Rws.of_own HOW.out
        go_simp
        refine hK.out _ _ ⟨HW7.out.e.aside (g := w.heap.size + 2) (by have := HW7.out.gg; omega) 0 _, HW7.out.B.setCell (p := ⟨w.heap.size + 2, 0, none⟩) (by show w.heap.size ≤ w.heap.size + 2; omega) _⟩ (fun hHeld2 => ?_)
        clear n0 nl nf
        clear hK K hHeld
        have hHeld := hHeld2
        clear hHeld2
        try simp only [Act.put, qdl31a, qdl31b, qdl31c]
        refine wpAnyH_done (by kernel_rfl) ?_ _
        clear hHeld
        have HC7 := Lib.hid hc7
        have HMO8 := Lib.hid (HW7.out.mo.put 0 (.slice A7 (mm.length + 1) c7) (by simp))
        have HRE8 := Lib.hid (HW7.out.r.aside (g := w.heap.size + 2) (by omega) 0 (.slice A7 (mm.length + 1) c7))
        have HXX8 := Lib.hid (HW7.out.x.aside (g := w.heap.size + 2) (by omega) 0 (.slice A7 (mm.length + 1) c7))
        have hsz6 : w.heap.size + 2 < wy.heap.size := HW6.out.mo.lt
        have hrow := OwnPrs.row HO5.out
        have hA8 : Away w.heap.size A7 := fun a ha => Or.inr (by have := (hb7 a ha).1; omega)
        have hN8 : Away w.heap.size B5 := fun a ha => Or.inr (by have h2 := hrow.2.2 a ha; have h3 := HSZ5.out; omega)
        have hL8 : AwayD w.heap.size (mm ++ [⟨Dr.own x, none, 0, B5, d5⟩]) := fun q hq => by
          rcases List.mem_append.1 hq with hq | hq
          · exact HLW.out q hq
          · obtain rfl := List.mem_singleton.1 hq
            exact ⟨(fun a ha => by cases ha), hN8⟩
        have hD8 : Dps (w7.setCell ⟨w.heap.size + 2, 0, none⟩ (.slice A7 (mm.length + 1) c7)) A7 (mm ++ [⟨Dr.own x, none, 0, B5, d5⟩]) := by
          refine Dps.aside (s := w.heap.size) ⟨?_, fun q hq => ?_⟩ (by omega) (by omega) hA8 hL8 0 _
          · rw [List.flatMap_append, List.flatMap_singleton]
            exact hr7
          · rcases List.mem_append.1 hq with hq | hq
            · exact HW7.out.D.ok q hq
            · obtain rfl := List.mem_singleton.1 hq
              exact de_own HMA.out (prs_grown hrow.1 HGR.out) hrow.2.1
        have hI8 : ∀ P : Nat → Prop, (∀ b, w.heap.size ≤ b → b < (w7.setCell ⟨w.heap.size + 2, 0, none⟩ (.slice A7 (mm.length + 1) c7)).heap.size → P b) → InP P A l → InP P A7 (mm ++ [⟨Dr.own x, none, 0, B5, d5⟩]) := fun P hP h => by
          have h1 := HW7.out.e.lt
          have h2 := HGR.out.size
          have h3 : (w7.setCell ⟨w.heap.size + 2, 0, none⟩ (.slice A7 (mm.length + 1) c7)).heap.size = w7.heap.size := by simp
          rw [h3] at hP
          have h4 := HIND.out P (fun b g1 g2 => hP b g1 (by omega)) h
          refine ⟨fun a ha => hP _ (by have := (hb7 a ha).1; omega) (hb7 a ha).2, fun q hq a ha => ?_, fun q hq a ha => ?_⟩
          · rcases List.mem_append.1 hq with hq | hq
            · exact h4.a q hq a ha
            · obtain rfl := List.mem_singleton.1 hq
              cases ha
          · rcases List.mem_append.1 hq with hq | hq
            · exact h4.b q hq a ha
            · obtain rfl := List.mem_singleton.1 hq
              exact hP _ (by have g2 := hrow.2.2 a ha; have g3 := HSZ5.out; omega) (Nat.lt_of_lt_of_le (hrow.2.2 a ha).2 h2)
        have HS8 : Hid (AddR l ys A c w (gk - 1) (.int .i64 ((k + 1 : Nat) : Int)) (w7.setCell ⟨w.heap.size + 2, 0, none⟩ (.slice A7 (mm.length + 1) c7))) := by
          refine ⟨k + 1, by have := HK.out; omega, rfl, A7, c7, mm ++ [⟨Dr.own x, none, 0, B5, d5⟩], ?_, HRE8.out, HXX8.out, ?_, ?_, ?_, ?_, hD8, hA8, hL8, HW7.out.B.setCell (p := ⟨w.heap.size + 2, 0, none⟩) (by show w.heap.size ≤ w.heap.size + 2; omega) _, hI8⟩
          · rw [List.length_append]; exact HMO8.out
          · rw [List.length_append]; exact HC7.out
          · rw [List.length_append]; have := HL16.out; simp; omega
          · rw [List.map_append, HMM.out, HTK.out, List.map_append, List.append_assoc]; rfl
          · rw [List.map_append]; exact HADN.out
        clear hc7 hn7 hr7 hb7 hsz6 hrow hA8 hN8 hL8 hD8 hI8
        go_wp2_with fail
        go_roundg (gk - 1)
        case rel => exact HS8.out
        case measure => have := HK.out; have := HN.out; omega
      · have HF := Lib.hid hf
        have HADN : Hid (Dr.addN (l.map Dp.x) (ys.map Dp.x) = Dr.chk (mm.map Dp.x) x) := by
          unfold Hid
          rw [HADD.out, HDR.out]
          show (if Dr.chk (mm.map Dp.x) x ≠ 0 then _ else _) = _
          rw [if_pos hf]
        have hne : ((Dr.chk (mm.map Dp.x) x : Int) != 0) = true := by simp; omega
        generalize Dr.chk (mm.map Dp.x) x = F at *
        clear hf
        have x0 := HW6.out.x.cs 0 _ rfl
        have xl := HW6.out.x.lt
        have r0 := HW6.out.r.cs 0 _ rfl
        have rl := HW6.out.r.lt
        have rf := HW6.out.r.s
        unfold Soft at rf
        go_wp2_with fail
        have hB := HW6.out.B.setCell (p := ⟨w.heap.size + 1, 0, none⟩) (by show w.heap.size ≤ w.heap.size + 1; omega) (.slice A l.length c)
        have hR := HW6.out.r.put 0 (.slice A l.length c) (by simp)
        have q0 := hR.cs 0 _ rfl
        exact bodyPost_ret (v := .tuple #[.agg #[.slice A l.length c], .int .i64 (F : Int)]) (by simp [results, Tryz.results8, go_sem, q0]) rfl (Or.inl ⟨by rw [HADN.out]; exact HF.out, by rw [HADN.out], hB⟩)
    · have hkn : ¬ (k : Int) < (n : Int) := by omega
      have hke : k = ys.length := by have := HK.out; have := HN.out; omega
      have HADN : Hid (Dr.addN (l.map Dp.x) (ys.map Dp.x) = 0) := by
        unfold Hid
        rw [HADD.out, hke, List.drop_length]
        rfl
      have HMM2 : Hid (mm.map Dp.x = l.map Dp.x ++ (ys.map Dp.x).map Dr.own) := by
        unfold Hid
        rw [HMM.out, hke, List.take_length]
      have m0 := HMO.out.cs 0 _ rfl
      have ml := HMO.out.lt
      have r0 := HRE.out.cs 0 _ rfl
      have rl := HRE.out.lt
      have rf := HRE.out.s
      unfold Soft at rf
      clear hke
      go_wp2_with fail
      have hB := HBB.out.setCell (p := ⟨w.heap.size + 1, 0, none⟩) (by show w.heap.size ≤ w.heap.size + 1; omega) (.slice A' mm.length c')
      have hR := HRE.out.put 0 (.slice A' mm.length c') (by simp)
      have q0 := hR.cs 0 _ rfl
      exact bodyPost_ret (v := .tuple #[.agg #[.slice A' mm.length c'], .int .i64 0]) (by simp [results, Tryz.results8, go_sem, q0]) rfl (Or.inr ⟨HADN.out, A', c', mm, rfl, HC9.out, HM16.out, HMM2.out, HDM.out.aside (s := w.heap.size) (by omega) (by omega) HAW.out HLW.out 0 _, HAW.out, HLW.out, hB, fun P hP h => HIND.out P (fun b h1 h2 => hP b h1 (by simpa using h2)) h⟩)
end Go.Proofs.YtecjngodfciokaaGreatDoor
end
