/-
  THE LAW ON A FEED CUT IN TWO, walked.
-/
import Derived.Test.YtecgedbabcdfkaaDoorFdH
import Derived.Test.YtecgedbabcdfkaaDoorFdD
import Derived.Deep.RegionWith
import Derived.Deep.DeepCutAuto
namespace Go.Proofs.YtecgedbabcdfkaaDoor
open Go.ChangeShapes Go.WideShapes Go.ChangeAt Go.RowKit

structure FcIn (w : World) (F F3 : Nat) (r : List UInt8) (e : Nat) (x y : Value) (A1 A2 A3 : Option Addr) (fs f2 f3 : List Fr.Frame) (wr : World) : Prop where
  d1 : Duo F (.string (ofL r)) (.int .i64 (e : Int)) wr
  d3 : Duo F3 x y wr
  a1 : Frms wr A1 fs
  a2 : Frms wr A2 f2
  a3 : Frms wr A3 f3
  below : Below w.heap.size w wr
theorem FcIn.on {w : World} {F F3 : Nat} {r : List UInt8} {e : Nat} {x y : Value} {A1 A2 A3 : Option Addr} {fs f2 f3 : List Fr.Frame} {wr w' : World} (h : FcIn w F F3 r e x y A1 A2 A3 fs f2 f3 wr) (hb : Below wr.heap.size wr w') : FcIn w F F3 r e x y A1 A2 A3 fs f2 f3 w' :=
  ⟨h.d1.on hb h.d1.lt, h.d3.on hb h.d3.lt, h.a1.on hb, h.a2.on hb, h.a3.on hb, bthen h.below hb (Nat.le_refl _)⟩
theorem FcIn.alloc {w : World} {F F3 : Nat} {r : List UInt8} {e : Nat} {x y : Value} {A1 A2 A3 : Option Addr} {fs f2 f3 : List Fr.Frame} {wr : World} (h : FcIn w F F3 r e x y A1 A2 A3 fs f2 f3 wr) (o : Obj) : FcIn w F F3 r e x y A1 A2 A3 fs f2 f3 (wr.alloc o) :=
  h.on ((Below.refl _ _).alloc (Nat.le_refl _) o)
theorem FcIn.drew {w : World} {F F3 : Nat} {r : List UInt8} {e : Nat} {x y : Value} {A1 A2 A3 : Option Addr} {fs f2 f3 : List Fr.Frame} {wr : World} (h : FcIn w F F3 r e x y A1 A2 A3 fs f2 f3 wr) : FcIn w F F3 r e x y A1 A2 A3 fs f2 f3 wr.drew :=
  h.on (Below.refl _ _).drew
theorem FcIn.finA {w : World} {F F2 : Nat} {r : List UInt8} {e : Nat} {x y : Value} {A1 A2 A3 : Option Addr} {fs f2 f3 : List Fr.Frame} {w4 : World} (h : FcIn w F F2 r e x y A1 A2 A3 fs f2 f3 w4) (x' y' : Value) (t : TypeId) : FcIn w F w4.heap.size r e x' y' A1 A2 A3 fs f2 f3 (w4.alloc (.cells #[x', y'] t)) :=
  let g := h.alloc (.cells #[x', y'] t)
  ⟨g.d1, Duo.new w4 x' y' t, g.a1, g.a2, g.a3, g.below⟩
theorem FcIn.finB {w : World} {F F2 : Nat} {r : List UInt8} {e : Nat} {x y : Value} {A1 A2 A3 : Option Addr} {fs f2 f3 : List Fr.Frame} {wq w4 : World} {z1 z2 : Value} (h : FcIn w F F2 r e x y A1 A2 none fs f2 [] wq) (hb : Below wq.heap.size wq w4) (hd : Duo wq.heap.size z1 z2 w4) (h3 : Frms w4 A3 f3) (hn : ∀ a, A3 = some a → a.block ≠ wq.heap.size) (x' y' : Value) : FcIn w F wq.heap.size r e x' y' A1 A2 A3 fs f2 f3 ((w4.setCell ⟨wq.heap.size, 0, none⟩ x').setCell ⟨wq.heap.size, 1, none⟩ y') :=
  let g := h.on ((hb.setCell (Nat.le_refl _) x').setCell (Nat.le_refl _) y')
  ⟨g.d1, (hd.set0 _).set1 _, g.a1, g.a2, (h3.set hn _).set hn _, g.below⟩
set_option maxRecDepth 100000 in
set_option maxHeartbeats 8000000 in
theorem cuts_walk (s : List UInt8) (at' : Nat) (w : World) (hl : s.length ≤ 9223372036854775807) (ha : at' < 65536) (hT : Tab w) :
    Calls Tryd.prog 8 #[.string (ofL s), .int .u16 (at' : Int)] w fun e w' => e = .returned (.bool true) ∧ Below w.heap.size w w' := by
  have hz : (ofL s).size = s.length := ofL_size s
  have HT := Lib.hid hT
  have HAW := Lib.hid (fdAwake_any w hT)
  clear hT
  by_cases h15 : 1500 < s.length
  · go_enter Tryd.func8, Tryd.ntmps8
    go_wp2_with fail
    refine HAW.out.mono ?_
    rintro e w1 ⟨rfl, b1⟩
    have B1 := Lib.hid b1
    clear b1
    go_wp2_with fail
    go_ret
    exact ⟨rfl, B1.out⟩
  · obtain ⟨K, hK, hKl⟩ : ∃ K : Nat, (at' : Int) % ((s.length : Int) + 1) = (K : Int) ∧ K < s.length + 1 := ⟨at' % (s.length + 1), by rw [Int.natCast_emod, Int.natCast_add]; rfl, Nat.mod_lt _ (by omega)⟩
    have s1 := fun W => slice_to_l (P := Tryd.prog) Tryd.underlying9 s .i64 (K : Int) K rfl (by omega) W
    have s2 := fun W => slice_from_l (P := Tryd.prog) Tryd.underlying9 s .i64 (K : Int) K rfl (by omega) W
    have T1 := Lib.hid (fun W h => take_ok [] s W (by simp; omega) h)
    have T2 := Lib.hid (fun W h => take_ok [] (s.take K) W (by simp; omega) h)
    have hrl := Fr.feed_rest_le (s.take K)
    have hrl2 : (s.take K).length ≤ 1500 := by rw [List.length_take]; omega
    have hdl2 : (s.drop K).length ≤ 1500 := by rw [List.length_drop]; omega
    have T3 := Lib.hid (fun W h => take_any (Fr.feed (s.take K)).2.1 (s.drop K) (Fr.feed (s.take K)).2.2 W (by omega) h)
    have hTF := Fr.take_feed (s.take K) (s.drop K)
    rw [List.take_append_drop] at hTF
    have hsm := Fr.feed_small (l := s)
    have hcnt := Fr.feed_count s
    rw [List.nil_append, show ofL [] = ⟨#[]⟩ from rfl] at T1 T2
    rw [hTF] at T1 hsm hcnt
    have hz1 : (ofL (s.take K)).size ≤ 1500 := by rw [ofL_size]; exact hrl2
    have hz2 : (ofL (s.drop K)).size ≤ 1500 := by rw [ofL_size]; exact hdl2
    have hn : (Fr.feed (s.take K)).1.length + (Fr.take (Fr.feed (s.take K)).2.1 (Fr.feed (s.take K)).2.2 (s.drop K)).1.length ≤ 100000 := by
      simp only [List.length_append] at hcnt; omega
    simp only at hsm
    clear hTF hrl hrl2 hdl2 hcnt
    generalize hTT : Fr.take (Fr.feed (s.take K)).2.1 (Fr.feed (s.take K)).2.2 (s.drop K) = T at *
    clear hTT
    generalize Fr.feed (s.take K) = FS at *
    generalize s.take K = sa at *
    generalize s.drop K = sb at *
    obtain ⟨f2, r2, e2⟩ := FS
    obtain ⟨f3, r, e⟩ := T
    have hzr : (ofL r).size = r.length := ofL_size r
    simp only at T1 T2 T3 hsm hn
    go_enter Tryd.func8, Tryd.ntmps8
    go_wp2_with fail
    refine HAW.out.mono ?_
    rintro e' w1 ⟨rfl, b1⟩
    have B1 := Lib.hid b1
    have HT1 := Lib.hid (HT.out.below b1 HT.out.pos)
    clear b1
    go_wp2_with fail
    refine (T1.out _ HT1.out).mono ?_
    rintro e' w2 ⟨A1, c1, rfl, -, -, hF1, -, b2⟩
    simp only [TakeV]
    have HT2 := Lib.hid ((HT1.out.below b2 HT1.out.pos).alloc (.cells #[.string (ofL r), .int .i64 (e : Int)] 45))
    have B2 := Lib.hid ((bthen B1.out b2 (Nat.le_refl _)).alloc (Nat.le_trans B1.out.size b2.size) (.cells #[.string (ofL r), .int .i64 (e : Int)] 45))
    have D2 := Lib.hid (Duo.new w2 (.string (ofL r)) (.int .i64 (e : Int)) 45)
    have HF1 := Lib.hid (hF1.on ((Below.refl _ _).alloc (Nat.le_refl _) (.cells #[.string (ofL r), .int .i64 (e : Int)] 45)))
    clear hF1 b2
    go_wp2_with fail
    refine (T2.out _ HT2.out).mono ?_
    rintro e' w3 ⟨A2, c2, rfl, -, hn2, hF2, -, b3⟩
    simp only [TakeV]
    have HT3 := Lib.hid ((HT2.out.below b3 HT2.out.pos).alloc (.cells #[.string (ofL r2), .int .i64 (e2 : Int)] 45))
    have b3' := b3.alloc (b3.size) (.cells #[.string (ofL r2), .int .i64 (e2 : Int)] 45)
    have HD2 := Lib.hid (D2.out.on b3' D2.out.lt)
    have B3 := Lib.hid (bthen B2.out b3' (Nat.le_refl _))
    have HF13 := Lib.hid (HF1.out.on b3')
    have HF2 := Lib.hid (hF2.on ((Below.refl _ _).alloc (Nat.le_refl _) (.cells #[.string (ofL r2), .int .i64 (e2 : Int)] 45)))
    have HN2 := Lib.hid hn2
    have D3 := Lib.hid (Duo.new w3 (.string (ofL r2)) (.int .i64 (e2 : Int)) 45)
    clear hF2 b3 b3' hn2
    go_upto_region 8 with fail
    generalize w3.alloc (.cells #[.string (ofL r2), .int .i64 (e2 : Int)] 45) = wq at *
    generalize w3.heap.size = F2 at *
    generalize w2.heap.size = F at *
    go_cut [6, 7, 9, 10, 11] (fun s6 s7 s9 s10 s11 wx => ∃ F3 A3 c3, s6 = .pointer (some ⟨F, 0, none⟩) ∧ s7 = .slice A1 (f2.length + f3.length) c1 ∧ s9 = .slice A2 f2.length c2 ∧ s10 = .pointer (some ⟨F3, 0, none⟩) ∧ s11 = .slice A3 f3.length c3 ∧ (A3 = none → c3 = 0) ∧ FcIn w F F3 r e (.string (ofL r)) (.int .i64 (e : Int)) A1 A2 A3 (f2 ++ f3) f2 f3 wx)
    case first =>
      have hlt := D3.out.lt
      have q0 := D3.out.c0
      have q1 := D3.out.c1
      have HTd := Lib.hid (show Tab wq.drew from fun i hi => (HT3.out i hi : wq.drew.cell? _ = _))
      have hTe := HT3.out.alloc (.cells #[.string ⟨#[]⟩, .int .i64 0] 45)
      have HTe := Lib.hid (show Tab (wq.alloc (.cells #[.string ⟨#[]⟩, .int .i64 0] 45)).drew from fun i hi => (hTe i hi : (wq.alloc (.cells #[.string ⟨#[]⟩, .int .i64 0] 45)).drew.cell? _ = _))
      have HZ := Lib.hid ((Duo.new wq (.string ⟨#[]⟩) (.int .i64 0) 45).drew)
      have HQ := Lib.hid (show FcIn w F F2 r e (.string (ofL r2)) (.int .i64 (e2 : Int)) A1 A2 none (f2 ++ f3) f2 [] wq from ⟨HD2.out, D3.out, HF13.out, HF2.out, Frms.nil _ _, B3.out⟩)
      have HC := Lib.hid (fun W h => (T3.out W h).mono (R' := fun e' w' => ∃ A c, e' = .returned (.tuple #[.agg #[.string (ofL r), .int .i64 (e : Int)], .slice A f3.length c]) ∧ (A = none → c = 0) ∧ Frms w' A f3 ∧ (∀ a, A = some a → W.heap.size ≤ a.block) ∧ Below W.heap.size W w') (fun e' w' ⟨A, c, he, _, hn, hF, hb, b⟩ => ⟨A, c, he, hn, hF, hb, b⟩))
      clear hTe
      go_region_with (first
        | (go_at_call 19; refine (HC.out wq.drew HTd.out).mono ?_; rintro e' w4 ⟨A3, c3, rfl, hn3, hF3, -, b4⟩; have HN3 := Lib.hid hn3; have HIn := Lib.hid (show FcIn w F F2 r e (.string (ofL r2)) (.int .i64 (e2 : Int)) A1 A2 A3 (f2 ++ f3) f2 f3 w4 from let g := HQ.out.drew.on b4; ⟨g.d1, g.d3, g.a1, g.a2, hF3, g.below⟩); clear hn3 hF3 b4)
        | (go_at_call 19; refine (HC.out (wq.alloc (.cells #[.string ⟨#[]⟩, .int .i64 0] 45)).drew HTe.out).mono ?_; rintro e' w4 ⟨A3, c3, rfl, hn3, hF3, hb3, b4⟩; have HN3 := Lib.hid hn3; have hd4 := HZ.out.on b4 HZ.out.lt; have p0 := hd4.c0; have p1 := hd4.c1; have p2 := hd4.fz 0; have p3 := hd4.fz 1; have p4 := hd4.lt; have HIn := Lib.hid (fun x' y' => HQ.out.finB ((((Below.refl _ _).alloc (Nat.le_refl _) (.cells #[.string ⟨#[]⟩, .int .i64 0] 45)).drew).trans (b4.mono (by simp))) hd4 hF3 (fun a ha => by have := hb3 a ha; simp at this; omega) x' y'); clear hn3 hF3 hb3 hd4 b4))
      all_goals
        go_wp2_with fail
        go_meet
        first
          | exact ⟨_, A3, c3, rfl, rfl, rfl, rfl, rfl, HN3.out, HIn.out.finA _ _ _⟩
          | exact ⟨_, A3, c3, rfl, rfl, rfl, rfl, rfl, HN3.out, HIn.out _ _⟩
    case rest =>
      obtain ⟨F3, A3, c3, rfl, rfl, rfl, rfl, rfl, hn3, hX⟩ := hcut
      have HN3 := Lib.hid hn3
      have HX0 := Lib.hid hX
      have HX := Lib.hid hX.drew
      have HEQ := Lib.hid (fun AC cC W h1 h2 => eqSelf_any A1 AC c1 cC (f2 ++ f3) W (by rw [List.length_append]; exact hn) h1 h2)
      simp only [List.length_append] at HEQ
      clear hX hn3
      clear T1 T2 T3 s1 s2 HAW HT HT1 HT2 HT3 B1 B2 B3 HD2 D2 D3 HF1 HF13 HF2
      go_upto_region 9 with fail
      refine wp_region_noPanic ?_
      refine wp_region_held_drew (S := FcIn w F F3 r e (.string (ofL r)) (.int .i64 (e : Int)) A1 A2 A3 (f2 ++ f3) f2 f3) (by kernel_rfl) ?_ (fun hHeld => ?_)
      · (try dsimp only); (first | assumption | exact HX.out | exact (HX0.out.alloc _).drew | (refine FcIn.on ?hz hb2; case hz => assumption) | (refine FcIn.alloc ?hz _; case hz => assumption))
      refine wpAnyH_take (i := 0) (v := ?_) rfl (by kernel_rfl) (by kernel_rfl) (by kernel_rfl) (fun _ _ _ h => h) (Or.inl ⟨by rfl, ?_⟩) (by assumption) ?_
      rotate_left
      · intro w hSw; have l0 := hSw.d1.c0; have l1 := hSw.d1.c1; have l2 := hSw.d3.c0; have l3 := hSw.d3.c1; clear hSw; go_simp; try with_reducible rfl
      (try simp only [List.getElem_toArray, List.getElem_cons_zero, Act.put, List.setIfInBounds_toArray, List.set_cons_zero, List.set_cons_succ])
      refine wpAnyH_take (i := 1) (v := ?_) rfl (by kernel_rfl) (by kernel_rfl) (by kernel_rfl) (fun _ _ _ h => h) (Or.inl ⟨by rfl, ?_⟩) (by assumption) ?_
      rotate_left
      · intro w hSw; have l0 := hSw.d1.c0; have l1 := hSw.d1.c1; have l2 := hSw.d3.c0; have l3 := hSw.d3.c1; clear hSw; go_simp; try with_reducible rfl
      (try simp only [List.getElem_toArray, List.getElem_cons_succ, List.getElem_cons_zero, Act.put, List.setIfInBounds_toArray, List.set_cons_zero, List.set_cons_succ])
      refine wpAnyH_take (i := 2) (v := ?_) rfl (by kernel_rfl) (by kernel_rfl) (by kernel_rfl) (fun _ _ _ h => h) (Or.inl ⟨by rfl, ?_⟩) (by assumption) ?_
      rotate_left
      · intro w hSw; have l0 := hSw.d1.c0; have l1 := hSw.d1.c1; have l2 := hSw.d3.c0; have l3 := hSw.d3.c1; clear hSw; go_simp; try with_reducible rfl
      (try simp only [List.getElem_toArray, List.getElem_cons_succ, List.getElem_cons_zero, Act.put, List.setIfInBounds_toArray, List.set_cons_zero, List.set_cons_succ])
      refine wpAnyH_ready (rs := [3]) (by kernel_rfl) (by simp) ?_
      refine AllReadyH.cons rfl (fun K hK => ?_) (AllReadyH.nil)
      · go_simp
        refine hK.out _ _ ?_ (fun hHeld => ?_)
        · (try dsimp only); (first | assumption | exact HX.out | exact (HX0.out.alloc _).drew | (refine FcIn.on ?hz hb2; case hz => assumption) | (refine FcIn.alloc ?hz _; case hz => assumption))
        clear hK K
        (try simp only [List.getElem_toArray, List.getElem_cons_succ, List.getElem_cons_zero, Act.put, List.setIfInBounds_toArray, List.set_cons_zero, List.set_cons_succ])
        refine wpAnyH_ready (rs := [4]) (by kernel_rfl) (by simp) ?_
        refine AllReadyH.cons rfl (fun K hK => ?_) (AllReadyH.nil)
        · go_simp
          (go_at_call 25; ((refine (concat_any A2 A3 c2 c3 _ 2 f2 f3 _ (by omega) (Duo.drew (Duo.new _ _ _ _)) hHeld.a2 hHeld.a3 HN2.out HN3.out).mono ?_); rintro e' wz ⟨vc, rfl, ho, hb2⟩; obtain ⟨AC, cC, rfl, -, -, hFC⟩ := rown_frms ho; have HFC := Lib.hid hFC; clear hFC ho))
          refine hK.out _ _ ?_ (fun hHeld => ?_)
          · (try dsimp only); (first | assumption | exact HX.out | exact (HX0.out.alloc _).drew | (refine FcIn.on ?hz hb2; case hz => assumption) | (refine FcIn.alloc ?hz _; case hz => assumption))
          clear hK K
          (try simp only [List.getElem_toArray, List.getElem_cons_succ, List.getElem_cons_zero, Act.put, List.setIfInBounds_toArray, List.set_cons_zero, List.set_cons_succ])
          refine wpAnyH_ready (rs := [5]) (by kernel_rfl) (by simp) ?_
          refine AllReadyH.cons rfl (fun K hK => ?_) (AllReadyH.nil)
          · go_simp
            (go_at_call 24; ((refine (HEQ.out AC cC _ hHeld.a1 HFC.out).mono ?_); rintro e' wz ⟨rfl, hb2⟩))
            refine hK.out _ _ ?_ (fun hHeld => ?_)
            · (try dsimp only); (first | assumption | exact HX.out | exact (HX0.out.alloc _).drew | (refine FcIn.on ?hz hb2; case hz => assumption) | (refine FcIn.alloc ?hz _; case hz => assumption))
            clear hK K
            (try simp only [List.getElem_toArray, List.getElem_cons_succ, List.getElem_cons_zero, Act.put, List.setIfInBounds_toArray, List.set_cons_zero, List.set_cons_succ])
            refine wpAnyH_take (i := 6) (v := ?_) rfl (by kernel_rfl) (by kernel_rfl) (by kernel_rfl) (fun _ _ _ h => h) (Or.inl ⟨by rfl, ?_⟩) (by assumption) ?_
            rotate_left
            · intro w hSw; have l0 := hSw.d1.c0; have l1 := hSw.d1.c1; have l2 := hSw.d3.c0; have l3 := hSw.d3.c1; clear hSw; go_simp; try with_reducible rfl
            (try simp only [List.getElem_toArray, List.getElem_cons_succ, List.getElem_cons_zero, Act.put, List.setIfInBounds_toArray, List.set_cons_zero, List.set_cons_succ])
            refine wpAnyH_take (i := 7) (v := ?_) rfl (by kernel_rfl) (by kernel_rfl) (by kernel_rfl) (fun _ _ _ h => h) (Or.inl ⟨by rfl, ?_⟩) (by assumption) ?_
            rotate_left
            · intro w hSw; have l0 := hSw.d1.c0; have l1 := hSw.d1.c1; have l2 := hSw.d3.c0; have l3 := hSw.d3.c1; clear hSw; go_simp; try with_reducible rfl
            (try simp only [List.getElem_toArray, List.getElem_cons_succ, List.getElem_cons_zero, Act.put, List.setIfInBounds_toArray, List.set_cons_zero, List.set_cons_succ])
            refine wpAnyH_take (i := 9) (v := ?_) rfl (by kernel_rfl) (by kernel_rfl) (by kernel_rfl) (fun _ _ _ h => h) (Or.inl ⟨by rfl, ?_⟩) (by assumption) ?_
            rotate_left
            · intro w hSw; have l0 := hSw.d1.c0; have l1 := hSw.d1.c1; have l2 := hSw.d3.c0; have l3 := hSw.d3.c1; clear hSw; go_simp; try with_reducible rfl
            (try simp only [List.getElem_toArray, List.getElem_cons_succ, List.getElem_cons_zero, Act.put, List.setIfInBounds_toArray, List.set_cons_zero, List.set_cons_succ])
            refine wpAnyH_ready (rs := [8]) (by kernel_rfl) (by simp) ?_
            refine AllReadyH.cons rfl (fun K hK => ?_) (AllReadyH.nil)
            · go_simp
              (go_at_call 22; ((refine (frest_any _ _ _).mono ?_); rintro e' wz ⟨rfl, hb2⟩))
              refine hK.out _ _ ?_ (fun hHeld => ?_)
              · (try dsimp only); (first | assumption | exact HX.out | exact (HX0.out.alloc _).drew | (refine FcIn.on ?hz hb2; case hz => assumption) | (refine FcIn.alloc ?hz _; case hz => assumption))
              clear hK K
              (try simp only [List.getElem_toArray, List.getElem_cons_succ, List.getElem_cons_zero, Act.put, List.setIfInBounds_toArray, List.set_cons_zero, List.set_cons_succ])
              refine wpAnyH_ready (rs := [10]) (by kernel_rfl) (by simp) ?_
              refine AllReadyH.cons rfl (fun K hK => ?_) (AllReadyH.nil)
              · go_simp
                (go_at_call 22; ((refine (frest_any _ _ _).mono ?_); rintro e' wz ⟨rfl, hb2⟩))
                refine hK.out _ _ ?_ (fun hHeld => ?_)
                · (try dsimp only); (first | assumption | exact HX.out | exact (HX0.out.alloc _).drew | (refine FcIn.on ?hz hb2; case hz => assumption) | (refine FcIn.alloc ?hz _; case hz => assumption))
                clear hK K
                (try simp only [List.getElem_toArray, List.getElem_cons_succ, List.getElem_cons_zero, Act.put, List.setIfInBounds_toArray, List.set_cons_zero, List.set_cons_succ])
                refine wpAnyH_take (i := 11) (v := ?_) rfl (by kernel_rfl) (by kernel_rfl) (by kernel_rfl) (fun _ _ _ h => h) (Or.inl ⟨by rfl, ?_⟩) (by assumption) ?_
                rotate_left
                · intro w hSw; have l0 := hSw.d1.c0; have l1 := hSw.d1.c1; have l2 := hSw.d3.c0; have l3 := hSw.d3.c1; clear hSw; go_simp; try with_reducible rfl
                (try simp only [List.getElem_toArray, List.getElem_cons_succ, List.getElem_cons_zero, Act.put, List.setIfInBounds_toArray, List.set_cons_zero, List.set_cons_succ])
                refine wpAnyH_take (i := 12) (v := ?_) rfl (by kernel_rfl) (by kernel_rfl) (by kernel_rfl) (fun _ _ _ h => h) (Or.inl ⟨by rfl, ?_⟩) (by assumption) ?_
                rotate_left
                · intro w hSw; have l0 := hSw.d1.c0; have l1 := hSw.d1.c1; have l2 := hSw.d3.c0; have l3 := hSw.d3.c1; clear hSw; go_simp; try with_reducible rfl
                (try simp only [List.getElem_toArray, List.getElem_cons_succ, List.getElem_cons_zero, Act.put, List.setIfInBounds_toArray, List.set_cons_zero, List.set_cons_succ])
                refine wpAnyH_take (i := 13) (v := ?_) rfl (by kernel_rfl) (by kernel_rfl) (by kernel_rfl) (fun _ _ _ h => h) (Or.inl ⟨by rfl, ?_⟩) (by assumption) ?_
                rotate_left
                · intro w hSw; have l0 := hSw.d1.c0; have l1 := hSw.d1.c1; have l2 := hSw.d3.c0; have l3 := hSw.d3.c1; clear hSw; go_simp; try with_reducible rfl
                (try simp only [List.getElem_toArray, List.getElem_cons_succ, List.getElem_cons_zero, Act.put, List.setIfInBounds_toArray, List.set_cons_zero, List.set_cons_succ])
                refine wpAnyH_take (i := 14) (v := ?_) rfl (by kernel_rfl) (by kernel_rfl) (by kernel_rfl) (fun _ _ _ h => h) (Or.inl ⟨by rfl, ?_⟩) (by assumption) ?_
                rotate_left
                · intro w hSw; have l0 := hSw.d1.c0; have l1 := hSw.d1.c1; have l2 := hSw.d3.c0; have l3 := hSw.d3.c1; clear hSw; go_simp; try with_reducible rfl
                (try simp only [List.getElem_toArray, List.getElem_cons_succ, List.getElem_cons_zero, Act.put, List.setIfInBounds_toArray, List.set_cons_zero, List.set_cons_succ])
                refine wpAnyH_take (i := 16) (v := ?_) rfl (by kernel_rfl) (by kernel_rfl) (by kernel_rfl) (fun _ _ _ h => h) (Or.inl ⟨by rfl, ?_⟩) (by assumption) ?_
                rotate_left
                · intro w hSw; have l0 := hSw.d1.c0; have l1 := hSw.d1.c1; have l2 := hSw.d3.c0; have l3 := hSw.d3.c1; clear hSw; go_simp; try with_reducible rfl
                (try simp only [List.getElem_toArray, List.getElem_cons_succ, List.getElem_cons_zero, Act.put, List.setIfInBounds_toArray, List.set_cons_zero, List.set_cons_succ])
                refine wpAnyH_ready (rs := [15]) (by kernel_rfl) (by simp) ?_
                refine AllReadyH.cons rfl (fun K hK => ?_) (AllReadyH.nil)
                · go_simp
                  (go_at_call 23; ((refine (ferr_any _ _ _).mono ?_); rintro e' wz ⟨rfl, hb2⟩))
                  refine hK.out _ _ ?_ (fun hHeld => ?_)
                  · (try dsimp only); (first | assumption | exact HX.out | exact (HX0.out.alloc _).drew | (refine FcIn.on ?hz hb2; case hz => assumption) | (refine FcIn.alloc ?hz _; case hz => assumption))
                  clear hK K
                  (try simp only [List.getElem_toArray, List.getElem_cons_succ, List.getElem_cons_zero, Act.put, List.setIfInBounds_toArray, List.set_cons_zero, List.set_cons_succ])
                  refine wpAnyH_ready (rs := [17]) (by kernel_rfl) (by simp) ?_
                  refine AllReadyH.cons rfl (fun K hK => ?_) (AllReadyH.nil)
                  · go_simp
                    (go_at_call 23; ((refine (ferr_any _ _ _).mono ?_); rintro e' wz ⟨rfl, hb2⟩))
                    refine hK.out _ _ ?_ (fun hHeld => ?_)
                    · (try dsimp only); (first | assumption | exact HX.out | exact (HX0.out.alloc _).drew | (refine FcIn.on ?hz hb2; case hz => assumption) | (refine FcIn.alloc ?hz _; case hz => assumption))
                    clear hK K
                    (try simp only [List.getElem_toArray, List.getElem_cons_succ, List.getElem_cons_zero, Act.put, List.setIfInBounds_toArray, List.set_cons_zero, List.set_cons_succ])
                    refine wpAnyH_take (i := 18) (v := ?_) rfl (by kernel_rfl) (by kernel_rfl) (by kernel_rfl) (fun _ _ _ h => h) (Or.inl ⟨by rfl, ?_⟩) (by assumption) ?_
                    rotate_left
                    · intro w hSw; have l0 := hSw.d1.c0; have l1 := hSw.d1.c1; have l2 := hSw.d3.c0; have l3 := hSw.d3.c1; clear hSw; go_simp; try with_reducible rfl
                    (try simp only [List.getElem_toArray, List.getElem_cons_succ, List.getElem_cons_zero, Act.put, List.setIfInBounds_toArray, List.set_cons_zero, List.set_cons_succ])
                    refine wpAnyH_take (i := 19) (v := ?_) rfl (by kernel_rfl) (by kernel_rfl) (by kernel_rfl) (fun _ _ _ h => h) (Or.inl ⟨by rfl, ?_⟩) (by assumption) ?_
                    rotate_left
                    · intro w hSw; have l0 := hSw.d1.c0; have l1 := hSw.d1.c1; have l2 := hSw.d3.c0; have l3 := hSw.d3.c1; clear hSw; go_simp; try with_reducible rfl
                    (try simp only [List.getElem_toArray, List.getElem_cons_succ, List.getElem_cons_zero, Act.put, List.setIfInBounds_toArray, List.set_cons_zero, List.set_cons_succ])
                    refine wpAnyH_take (i := 20) (v := ?_) rfl (by kernel_rfl) (by kernel_rfl) (by kernel_rfl) (fun _ _ _ h => h) (Or.inl ⟨by rfl, ?_⟩) (by assumption) ?_
                    rotate_left
                    · intro w hSw; have l0 := hSw.d1.c0; have l1 := hSw.d1.c1; have l2 := hSw.d3.c0; have l3 := hSw.d3.c1; clear hSw; go_simp; try with_reducible rfl
                    (try simp only [List.getElem_toArray, List.getElem_cons_succ, List.getElem_cons_zero, Act.put, List.setIfInBounds_toArray, List.set_cons_zero, List.set_cons_succ])
                    refine wpAnyH_take (i := 21) (v := ?_) rfl (by kernel_rfl) (by kernel_rfl) (by kernel_rfl) (fun _ _ _ h => h) (Or.inl ⟨by rfl, ?_⟩) (by assumption) ?_
                    rotate_left
                    · intro w hSw; have l0 := hSw.d1.c0; have l1 := hSw.d1.c1; have l2 := hSw.d3.c0; have l3 := hSw.d3.c1; clear hSw; go_simp; try with_reducible rfl
                    (try simp only [List.getElem_toArray, List.getElem_cons_succ, List.getElem_cons_zero, Act.put, List.setIfInBounds_toArray, List.set_cons_zero, List.set_cons_succ])
                    refine wpAnyH_ready (rs := [22]) (by kernel_rfl) (by simp) ?_
                    refine AllReadyH.cons rfl (fun K hK => ?_) (AllReadyH.nil)
                    · go_simp
                      (go_at_call 22; ((refine (frest_any _ _ _).mono ?_); rintro e' wz ⟨rfl, hb2⟩))
                      refine hK.out _ _ ?_ (fun hHeld => ?_)
                      · (try dsimp only); (first | assumption | exact HX.out | exact (HX0.out.alloc _).drew | (refine FcIn.on ?hz hb2; case hz => assumption) | (refine FcIn.alloc ?hz _; case hz => assumption))
                      clear hK K
                      (try simp only [List.getElem_toArray, List.getElem_cons_succ, List.getElem_cons_zero, Act.put, List.setIfInBounds_toArray, List.set_cons_zero, List.set_cons_succ])
                      refine wpAnyH_take (i := 23) (v := ?_) rfl (by kernel_rfl) (by kernel_rfl) (by kernel_rfl) (fun _ _ _ h => h) (Or.inl ⟨by rfl, ?_⟩) (by assumption) ?_
                      rotate_left
                      · intro w hSw; have l0 := hSw.d1.c0; have l1 := hSw.d1.c1; have l2 := hSw.d3.c0; have l3 := hSw.d3.c1; clear hSw; go_simp; try with_reducible rfl
                      (try simp only [List.getElem_toArray, List.getElem_cons_succ, List.getElem_cons_zero, Act.put, List.setIfInBounds_toArray, List.set_cons_zero, List.set_cons_succ])
                      refine wpAnyH_take (i := 24) (v := ?_) rfl (by kernel_rfl) (by kernel_rfl) (by kernel_rfl) (fun _ _ _ h => h) (Or.inl ⟨by rfl, ?_⟩) (by assumption) ?_
                      rotate_left
                      · intro w hSw; have l0 := hSw.d1.c0; have l1 := hSw.d1.c1; have l2 := hSw.d3.c0; have l3 := hSw.d3.c1; clear hSw; go_simp; try with_reducible rfl
                      (try simp only [List.getElem_toArray, List.getElem_cons_succ, List.getElem_cons_zero, Act.put, List.setIfInBounds_toArray, List.set_cons_zero, List.set_cons_succ])
                      refine wpAnyH_take (i := 25) (v := ?_) rfl (by kernel_rfl) (by kernel_rfl) (by kernel_rfl) (fun _ _ _ h => h) (Or.inl ⟨by rfl, ?_⟩) (by assumption) ?_
                      rotate_left
                      · intro w hSw; have l0 := hSw.d1.c0; have l1 := hSw.d1.c1; have l2 := hSw.d3.c0; have l3 := hSw.d3.c1; clear hSw; go_simp; try with_reducible rfl
                      (try simp only [List.getElem_toArray, List.getElem_cons_succ, List.getElem_cons_zero, Act.put, List.setIfInBounds_toArray, List.set_cons_zero, List.set_cons_succ])
                      refine wpAnyH_take (i := 26) (v := ?_) rfl (by kernel_rfl) (by kernel_rfl) (by kernel_rfl) (fun _ _ _ h => h) (Or.inl ⟨by rfl, ?_⟩) (by assumption) ?_
                      rotate_left
                      · intro w hSw; have l0 := hSw.d1.c0; have l1 := hSw.d1.c1; have l2 := hSw.d3.c0; have l3 := hSw.d3.c1; clear hSw; go_simp; try with_reducible rfl
                      (try simp only [List.getElem_toArray, List.getElem_cons_succ, List.getElem_cons_zero, Act.put, List.setIfInBounds_toArray, List.set_cons_zero, List.set_cons_succ])
                      refine wpAnyH_done (by kernel_rfl) ?_ _
                      refine NoPanic.normal ?_
                      have hbl := hHeld.below
                      go_wp2_with fail
                      go_ret
                      exact ⟨by show Ending.returned (.bool (decide ((r.length : Int) < 2057))) = _; rw [decide_eq_true (by omega)], hbl⟩
end Go.Proofs.YtecgedbabcdfkaaDoor
