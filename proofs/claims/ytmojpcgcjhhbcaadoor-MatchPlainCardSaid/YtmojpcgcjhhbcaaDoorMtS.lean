/-
  THE LAW MatchSame, walked: whether any two rules are the same.
-/
import Derived.Test.YtmojpcgcjhhbcaaDoorMtF
import Derived.Test.YtmojpcgcjhhbcaaDoorMtD
import Derived.Deep.RegionHeld3
import Derived.Deep.DeepCutAuto
namespace Go.Proofs.YtmojpcgcjhhbcaaDoor
open Go.ChangeShapes Go.WideShapes Go.ChangeAt Go.RowKit

/-- the law's two boxes, the rows of its rules -/
structure MsC (w : World) (p q : Nat) (r : Ru) (A : Option Addr) (c : Nat) (s : Ru) (B : Option Addr) (d : Nat) (W : World) : Prop where
  rp : Cels W p (ruL r A c)
  rq : Cels W q (ruL s B d)
  lp : p < W.heap.size
  lq : q < W.heap.size
  ra : Prs W A r.want
  rb : Prs W B s.want
  B : Below w.heap.size w W
theorem MsC.on {w : World} {p q : Nat} {r : Ru} {A : Option Addr} {c : Nat} {s : Ru} {B : Option Addr} {d : Nat} {W W' : World} (h : MsC w p q r A c s B d W) (hb : Below W.heap.size W W') : MsC w p q r A c s B d W' :=
  ⟨h.rp.on hb h.lp, h.rq.on hb h.lq, Nat.lt_of_lt_of_le h.lp hb.size, Nat.lt_of_lt_of_le h.lq hb.size, h.ra.on hb, h.rb.on hb, bthen h.B hb (Nat.le_refl _)⟩
abbrev MsS (w : World) (p q : Nat) (r : Ru) (A : Option Addr) (c : Nat) (s : Ru) (B : Option Addr) (d : Nat) (W : World) : Prop :=
  (W.cell? ⟨p, 0, none⟩ = some (.int .u8 (r.sort : Int)) ∧ W.cell? ⟨p, 1, none⟩ = some (.string (ofL r.key)) ∧ W.cell? ⟨p, 2, none⟩ = some (.slice A r.want.length c) ∧ W.cell? ⟨p, 3, none⟩ = some (.bool r.all) ∧ p < W.heap.size ∧
   W.cell? ⟨q, 0, none⟩ = some (.int .u8 (s.sort : Int)) ∧ W.cell? ⟨q, 1, none⟩ = some (.string (ofL s.key)) ∧ W.cell? ⟨q, 2, none⟩ = some (.slice B s.want.length d) ∧ W.cell? ⟨q, 3, none⟩ = some (.bool s.all) ∧ q < W.heap.size) ∧ MsC w p q r A c s B d W
theorem MsC.s {w : World} {p q : Nat} {r : Ru} {A : Option Addr} {c : Nat} {s : Ru} {B : Option Addr} {d : Nat} {W : World} (h : MsC w p q r A c s B d W) : MsS w p q r A c s B d W :=
  ⟨⟨h.rp 0 _ rfl, h.rp 1 _ rfl, h.rp 2 _ rfl, h.rp 3 _ rfl, h.lp, h.rq 0 _ rfl, h.rq 1 _ rfl, h.rq 2 _ rfl, h.rq 3 _ rfl, h.lq⟩, h⟩
theorem MsS.on {w : World} {p q : Nat} {r : Ru} {A : Option Addr} {c : Nat} {s : Ru} {B : Option Addr} {d : Nat} {W W' : World} (h : MsS w p q r A c s B d W) (hb : Below W.heap.size W W') : MsS w p q r A c s B d W' := (h.2.on hb).s
theorem MsC.start (w : World) (r : Ru) (A : Option Addr) (c : Nat) (s : Ru) (B : Option Addr) (d : Nat) (hA : Prs w A r.want) (hB : Prs w B s.want) (t : TypeId) :
    MsC w w.heap.size (w.heap.size + 1) r A c s B d ((w.alloc (.cells #[.int .u8 (r.sort : Int), .string (ofL r.key), .slice A r.want.length c, .bool r.all] t)).alloc (.cells #[.int .u8 (s.sort : Int), .string (ofL s.key), .slice B s.want.length d, .bool s.all] t)) := by
  have e1 : (w.alloc (.cells #[.int .u8 (r.sort : Int), .string (ofL r.key), .slice A r.want.length c, .bool r.all] t)).heap.size = w.heap.size + 1 := by simp
  have hb0 : Below w.heap.size w (w.alloc (.cells #[.int .u8 (r.sort : Int), .string (ofL r.key), .slice A r.want.length c, .bool r.all] t)) := (Below.refl _ _).alloc (Nat.le_refl _) _
  have hb := (Below.refl (w.alloc (.cells #[.int .u8 (r.sort : Int), .string (ofL r.key), .slice A r.want.length c, .bool r.all] t)).heap.size (w.alloc (.cells #[.int .u8 (r.sort : Int), .string (ofL r.key), .slice A r.want.length c, .bool r.all] t))).alloc (Nat.le_refl _) (.cells #[.int .u8 (s.sort : Int), .string (ofL s.key), .slice B s.want.length d, .bool s.all] t)
  refine ⟨(ruBox r A c w t).on hb (by simp), ?_, by simp; omega, by simp, (hA.on hb0).on hb, (hB.on hb0).on hb, bthen hb0 hb (Nat.le_refl _)⟩
  rw [← e1]
  exact Cels.new _ _ _
/-- a rule that came in -/
structure RuIn (w : World) (r : Ru) (A : Option Addr) (c : Nat) : Prop where
  row : Prs w A r.want
  cap : r.want.length ≤ c
  big : r.want.length ≤ 9223372036854775807
  fits : ∀ p ∈ r.want, Hd.Fits p
theorem light_ru {r : Ru} (h : (decide (r.key.length ≤ 100) && lightB r.want) = true) : r.key.length ≤ 100 ∧ r.want.length ≤ 12 ∧ Lite r.want := by
  rw [Bool.and_eq_true, decide_eq_true_eq] at h
  obtain ⟨h1, h2⟩ := h
  obtain ⟨h3, h4, -⟩ := light_lite h2
  exact ⟨h1, h3, h4⟩
set_option maxRecDepth 100000 in
set_option maxHeartbeats 16000000 in
theorem matchSame_walk (r s : Ru) (A : Option Addr) (c : Nat) (B : Option Addr) (d : Nat) (w : World) (hr : RuIn w r A c) (hs : RuIn w s B d) (hL : Len w) :
    Calls Tryd.prog 8 #[ruV r A c, ruV s B d] w fun e w' => e = .returned (.bool true) ∧ Below w.heap.size w w' := by
  have HM0 := Lib.hid (MsC.start w r A c s B d hr.row hs.row 48)
  have HAW := Lib.hid (awake10_any _ (hL.on HM0.out.B))
  have HLR := Lib.hid (fun W h => light10_any r A c W hr.big h)
  have HLS := Lib.hid (fun W h => light10_any s B d W hs.big h)
  clear hL
  simp only [ruV] at HLR HLS ⊢
  cases hlr : (decide (r.key.length ≤ 100) && lightB r.want) with
  | false =>
    rw [hlr] at HLR
    clear hlr
    go_enter Tryd.func8, Tryd.ntmps8
    go_wp2_with fail
    refine HAW.out.mono ?_
    rintro e w1 ⟨rfl, b1⟩
    have hM1 := HM0.out.on b1
    have HM1 := Lib.hid hM1
    obtain ⟨⟨c0, c1, c2, c3, c4, -⟩, -⟩ := hM1.s
    clear b1 hM1
    go_wp2_with fail
    refine (HLR.out _ HM1.out.ra).mono ?_
    rintro e w2 ⟨rfl, b2⟩
    have HB2 := Lib.hid (bthen HM1.out.B b2 (Nat.le_refl _))
    clear b2
    go_wp2_with fail
    go_ret
    exact ⟨rfl, HB2.out⟩
  | true =>
    obtain ⟨-, hrl, -⟩ := light_ru hlr
    rw [hlr] at HLR
    clear hlr
    cases hls : (decide (s.key.length ≤ 100) && lightB s.want) with
    | false =>
      rw [hls] at HLS
      clear hls
      go_enter Tryd.func8, Tryd.ntmps8
      go_wp2_with fail
      refine HAW.out.mono ?_
      rintro e w1 ⟨rfl, b1⟩
      have hM1 := HM0.out.on b1
      have HM1 := Lib.hid hM1
      obtain ⟨⟨c0, c1, c2, c3, c4, -⟩, -⟩ := hM1.s
      clear b1 hM1
      go_wp2_with fail
      refine (HLR.out _ HM1.out.ra).mono ?_
      rintro e w2 ⟨rfl, b2⟩
      have hM2 := HM1.out.on b2
      have HM2 := Lib.hid hM2
      clear c0 c1 c2 c3 c4
      obtain ⟨⟨-, -, -, -, -, c0, c1, c2, c3, c4⟩, -⟩ := hM2.s
      clear b2 hM2
      go_wp2_with fail
      refine (HLS.out _ HM2.out.rb).mono ?_
      rintro e w3 ⟨rfl, b3⟩
      have HB3 := Lib.hid (bthen HM2.out.B b3 (Nat.le_refl _))
      clear b3
      go_wp2_with fail
      go_ret
      exact ⟨rfl, HB3.out⟩
    | true =>
      obtain ⟨-, hsl, -⟩ := light_ru hls
      rw [hls] at HLS
      clear hls
      have H1 := Lib.hid (fun W h1 h2 => mSame_any r s A c B d W (by omega) (by omega) h1 h2)
      have H2 := Lib.hid (fun W h1 => to10_any r A c W (by omega) hr.cap h1)
      have H3 := Lib.hid (fun W h1 => to10_any s B d W (by omega) hs.cap h1)
      have H4 := Lib.hid (fun A1 c1 A2 c2 W h1 h2 => rSame10_any r s A1 c1 A2 c2 W (by omega) (by omega) h1 h2)
      have H5 := Lib.hid (fun W h1 => mSame_any r r A c A c W (by omega) (by omega) h1 h1)
      rw [ruSame_self] at H5
      generalize ruSame r s = X at *
      simp only [ruV] at H1 H2 H3 H5
      have hxx : (X == X) = true := by simp
      go_enter Tryd.func8, Tryd.ntmps8
      go_wp2_with fail
      refine HAW.out.mono ?_
      rintro e w1 ⟨rfl, b1⟩
      have hM1 := HM0.out.on b1
      have HM1 := Lib.hid hM1
      obtain ⟨⟨c0, c1, c2, c3, c4, -⟩, -⟩ := hM1.s
      clear b1 hM1
      go_wp2_with fail
      refine (HLR.out _ HM1.out.ra).mono ?_
      rintro e w2 ⟨rfl, b2⟩
      have hM2 := HM1.out.on b2
      have HM2 := Lib.hid hM2
      clear c0 c1 c2 c3 c4
      obtain ⟨⟨-, -, -, -, -, c0, c1, c2, c3, c4⟩, -⟩ := hM2.s
      clear b2 hM2
      go_wp2_with fail
      refine (HLS.out _ HM2.out.rb).mono ?_
      rintro e w3 ⟨rfl, b3⟩
      have HM3 := Lib.hid (HM2.out.on b3)
      clear b3 c0 c1 c2 c3 c4
      go_upto_region 5 with fail
      have HX := Lib.hid ((HM3.out.on (Below.refl _ _).drew).s)
      clear HM0 HM1 HM2 HM3 HAW HLR HLS
      refine wp_region_noPanic ?_
      refine wp_region_held_drew (S := MsS w w.heap.size (w.heap.size + 1) r A c s B d) (by kernel_rfl) ?_ (fun hHeld => ?_)
      · (try dsimp only); (first | assumption | exact HX.out | exact MsS.on (by assumption) hb2)
      refine wpAnyH_take (i := 0) (v := ?_) rfl (by kernel_rfl) (by kernel_rfl) (by kernel_rfl) (fun _ _ _ h => h) (Or.inl ⟨by rfl, ?_⟩) (by assumption) ?_
      rotate_left
      · intro w hSw; (try dsimp only at hSw); go_simp; try with_reducible rfl
      (try simp only [List.getElem_toArray, List.getElem_cons_zero, Act.put, List.setIfInBounds_toArray, List.set_cons_zero, List.set_cons_succ])
      refine wpAnyH_take (i := 1) (v := ?_) rfl (by kernel_rfl) (by kernel_rfl) (by kernel_rfl) (fun _ _ _ h => h) (Or.inl ⟨by rfl, ?_⟩) (by assumption) ?_
      rotate_left
      · intro w hSw; (try dsimp only at hSw); go_simp; try with_reducible rfl
      (try simp only [List.getElem_toArray, List.getElem_cons_succ, List.getElem_cons_zero, Act.put, List.setIfInBounds_toArray, List.set_cons_zero, List.set_cons_succ])
      refine wpAnyH_take (i := 3) (v := ?_) rfl (by kernel_rfl) (by kernel_rfl) (by kernel_rfl) (fun _ _ _ h => h) (Or.inl ⟨by rfl, ?_⟩) (by assumption) ?_
      rotate_left
      · intro w hSw; (try dsimp only at hSw); go_simp; try with_reducible rfl
      (try simp only [List.getElem_toArray, List.getElem_cons_succ, List.getElem_cons_zero, Act.put, List.setIfInBounds_toArray, List.set_cons_zero, List.set_cons_succ])
      refine wpAnyH_take (i := 5) (v := ?_) rfl (by kernel_rfl) (by kernel_rfl) (by kernel_rfl) (fun _ _ _ h => h) (Or.inl ⟨by rfl, ?_⟩) (by assumption) ?_
      rotate_left
      · intro w hSw; (try dsimp only at hSw); go_simp; try with_reducible rfl
      (try simp only [List.getElem_toArray, List.getElem_cons_succ, List.getElem_cons_zero, Act.put, List.setIfInBounds_toArray, List.set_cons_zero, List.set_cons_succ])
      refine wpAnyH_ready (rs := [2]) (by kernel_rfl) (by simp) ?_
      refine AllReadyH.cons rfl (fun K hK => ?_) (AllReadyH.nil)
      · go_simp
        (go_at_call 33; ((refine (H1.out _ hHeld.2.ra hHeld.2.rb).mono ?_); rintro e' wz ⟨rfl, hb2⟩))
        refine hK.out _ _ ?_ (fun hHeld => ?_)
        · (try dsimp only); (first | assumption | exact HX.out | exact MsS.on (by assumption) hb2)
        clear hK K
        (try simp only [List.getElem_toArray, List.getElem_cons_succ, List.getElem_cons_zero, Act.put, List.setIfInBounds_toArray, List.set_cons_zero, List.set_cons_succ])
        refine wpAnyH_ready (rs := [4]) (by kernel_rfl) (by simp) ?_
        refine AllReadyH.cons rfl (fun K hK => ?_) (AllReadyH.nil)
        · go_simp
          (go_at_call 28; ((refine (H2.out _ hHeld.2.ra).mono ?_); rintro e' wz ⟨A1, c1, rfl, -, hp1, hb2⟩); have HP1 := Lib.hid hp1; clear hp1)
          refine hK.out _ _ ?_ (fun hHeld => ?_)
          · (try dsimp only); (first | assumption | exact HX.out | exact MsS.on (by assumption) hb2)
          clear hK K
          (try simp only [List.getElem_toArray, List.getElem_cons_succ, List.getElem_cons_zero, Act.put, List.setIfInBounds_toArray, List.set_cons_zero, List.set_cons_succ])
          refine wpAnyH_ready (rs := [6]) (by kernel_rfl) (by simp) ?_
          refine AllReadyH.cons rfl (fun K hK => ?_) (AllReadyH.nil)
          · go_simp
            (go_at_call 28; ((refine (H3.out _ hHeld.2.rb).mono ?_); rintro e' wz ⟨A2, c2, rfl, -, hp2, hb2⟩); have HP2 := Lib.hid hp2; have HP1 := Lib.hid (HP1.out.on hb2); clear hp2)
            refine hK.out _ _ ?_ (fun hHeld => ?_)
            · (try dsimp only); (first | assumption | exact HX.out | exact MsS.on (by assumption) hb2)
            clear hK K
            (try simp only [List.getElem_toArray, List.getElem_cons_succ, List.getElem_cons_zero, Act.put, List.setIfInBounds_toArray, List.set_cons_zero, List.set_cons_succ])
            refine wpAnyH_ready (rs := [7]) (by kernel_rfl) (by simp) ?_
            refine AllReadyH.cons rfl (fun K hK => ?_) (AllReadyH.nil)
            · go_simp
              (go_at_call 34; ((refine (H4.out A1 c1 A2 c2 _ HP1.out HP2.out).mono ?_); rintro e' wz ⟨rfl, hb2⟩))
              refine hK.out _ _ ?_ (fun hHeld => ?_)
              · (try dsimp only); (first | assumption | exact HX.out | exact MsS.on (by assumption) hb2)
              clear hK K
              (try simp only [List.getElem_toArray, List.getElem_cons_succ, List.getElem_cons_zero, Act.put, List.setIfInBounds_toArray, List.set_cons_zero, List.set_cons_succ])
              refine wpAnyH_take (i := 8) (v := ?_) rfl (by kernel_rfl) (by kernel_rfl) (by kernel_rfl) (fun _ _ _ h => h) (Or.inl ⟨by rfl, ?_⟩) (by assumption) ?_
              rotate_left
              · intro w hSw; (try dsimp only at hSw); go_simp; try with_reducible rfl
              (try simp only [List.getElem_toArray, List.getElem_cons_succ, List.getElem_cons_zero, Act.put, List.setIfInBounds_toArray, List.set_cons_zero, List.set_cons_succ])
              refine wpAnyH_take (i := 9) (v := ?_) rfl (by kernel_rfl) (by kernel_rfl) (by kernel_rfl) (fun _ _ _ h => h) (Or.inl ⟨by rfl, ?_⟩) (by assumption) ?_
              rotate_left
              · intro w hSw; (try dsimp only at hSw); go_simp; try with_reducible rfl
              (try simp only [List.getElem_toArray, List.getElem_cons_succ, List.getElem_cons_zero, Act.put, List.setIfInBounds_toArray, List.set_cons_zero, List.set_cons_succ])
              refine wpAnyH_take (i := 10) (v := ?_) rfl (by kernel_rfl) (by kernel_rfl) (by kernel_rfl) (fun _ _ _ h => h) (Or.inl ⟨by rfl, ?_⟩) (by assumption) ?_
              rotate_left
              · intro w hSw; (try dsimp only at hSw); go_simp; try with_reducible rfl
              (try simp only [List.getElem_toArray, List.getElem_cons_succ, List.getElem_cons_zero, Act.put, List.setIfInBounds_toArray, List.set_cons_zero, List.set_cons_succ])
              refine wpAnyH_take (i := 11) (v := ?_) rfl (by kernel_rfl) (by kernel_rfl) (by kernel_rfl) (fun _ _ _ h => h) (Or.inl ⟨by rfl, ?_⟩) (by assumption) ?_
              rotate_left
              · intro w hSw; (try dsimp only at hSw); go_simp; try with_reducible rfl
              (try simp only [List.getElem_toArray, List.getElem_cons_succ, List.getElem_cons_zero, Act.put, List.setIfInBounds_toArray, List.set_cons_zero, List.set_cons_succ])
              refine wpAnyH_ready (rs := [12]) (by kernel_rfl) (by simp) ?_
              refine AllReadyH.cons rfl (fun K hK => ?_) (AllReadyH.nil)
              · go_simp
                (go_at_call 33; ((refine (H5.out _ hHeld.2.ra).mono ?_); rintro e' wz ⟨rfl, hb2⟩))
                refine hK.out _ _ ?_ (fun hHeld => ?_)
                · (try dsimp only); (first | assumption | exact HX.out | exact MsS.on (by assumption) hb2)
                clear hK K
                (try simp only [List.getElem_toArray, List.getElem_cons_succ, List.getElem_cons_zero, Act.put, List.setIfInBounds_toArray, List.set_cons_zero, List.set_cons_succ])
                refine wpAnyH_take (i := 13) (v := ?_) rfl (by kernel_rfl) (by kernel_rfl) (by kernel_rfl) (fun _ _ _ h => h) (Or.inl ⟨by rfl, ?_⟩) (by assumption) ?_
                rotate_left
                · intro w hSw; (try dsimp only at hSw); go_simp; try with_reducible rfl
                (try simp only [List.getElem_toArray, List.getElem_cons_succ, List.getElem_cons_zero, Act.put, List.setIfInBounds_toArray, List.set_cons_zero, List.set_cons_succ])
                refine wpAnyH_take (i := 14) (v := ?_) rfl (by kernel_rfl) (by kernel_rfl) (by kernel_rfl) (fun _ _ _ h => h) (Or.inl ⟨by rfl, ?_⟩) (by assumption) ?_
                rotate_left
                · intro w hSw; (try dsimp only at hSw); go_simp; try with_reducible rfl
                (try simp only [List.getElem_toArray, List.getElem_cons_succ, List.getElem_cons_zero, Act.put, List.setIfInBounds_toArray, List.set_cons_zero, List.set_cons_succ])
                refine wpAnyH_done (by kernel_rfl) ?_ _
                refine NoPanic.normal ?_
                have HBZ := Lib.hid hHeld.2.B
                clear hHeld
                go_wp2_with fail
                go_ret
                exact ⟨rfl, HBZ.out⟩
end Go.Proofs.YtmojpcgcjhhbcaaDoor
