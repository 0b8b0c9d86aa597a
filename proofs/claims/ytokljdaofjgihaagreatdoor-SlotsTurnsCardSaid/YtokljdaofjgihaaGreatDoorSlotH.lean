/-
  THE LAW ON WHOSE TURN IT IS, walked.
-/
import Derived.Test.YtokljdaofjgihaaGreatDoorSlotG
import Derived.Deep.RegionHeld3
import Derived.Deep.DeepCutAuto
namespace Go.Proofs.YtokljdaofjgihaaGreatDoor
open Go.ChangeShapes Go.WideShapes Go.ChangeAt Go.RowKit

/-- a policy's cells in a block -/
abbrev PolCe (W : World) (b : Nat) (p : Pl.Pol) (pa : Option Addr) (pc : Nat) (sa : Option Addr) (sc : Nat) (ga : Option Addr) (gc : Nat) : Prop :=
  Cell5 W b (.int .i64 p.work) (.int .i64 p.give) (.slice pa p.places.length pc) (.slice sa p.slots.length sc) (.slice ga p.grants.length gc)
structure SfIn (w : World) (g : Nat) (p : Pl.Pol) (pa : Option Addr) (pc : Nat) (sa : Option Addr) (sc : Nat) (ga : Option Addr) (gc : Nat) (pa' : Option Addr) (pc' : Nat) (sa' : Option Addr) (sc' : Nat) (ga' : Option Addr) (gc' : Nat) (W : World) : Prop where
  b0 : PolCe W w.heap.size p pa pc sa sc ga gc
  b1 : PolCe W g p pa' pc' sa' sc' ga' gc'
  i0 : PolIs W p pa pc sa sc ga gc
  i1 : PolIs W p pa' pc' sa' sc' ga' gc'
  below : Below w.heap.size w W
theorem SfIn.on {w : World} {g : Nat} {p : Pl.Pol} {pa : Option Addr} {pc : Nat} {sa : Option Addr} {sc : Nat} {ga : Option Addr} {gc : Nat} {pa' : Option Addr} {pc' : Nat} {sa' : Option Addr} {sc' : Nat} {ga' : Option Addr} {gc' : Nat} {W W' : World}
    (h : SfIn w g p pa pc sa sc ga gc pa' pc' sa' sc' ga' gc' W) (hb : Below W.heap.size W W') : SfIn w g p pa pc sa sc ga gc pa' pc' sa' sc' ga' gc' W' :=
  ⟨h.b0.on hb, h.b1.on hb, h.i0.on hb, h.i1.on hb, h.below.trans (hb.mono h.below.size)⟩
abbrev SfS (w : World) (g : Nat) (p : Pl.Pol) (pa : Option Addr) (pc : Nat) (sa : Option Addr) (sc : Nat) (ga : Option Addr) (gc : Nat) (pa' : Option Addr) (pc' : Nat) (sa' : Option Addr) (sc' : Nat) (ga' : Option Addr) (gc' : Nat) (W : World) : Prop :=
  (W.cell? ⟨w.heap.size, 0, none⟩ = some (.int .i64 p.work) ∧ W.cell? ⟨w.heap.size, 1, none⟩ = some (.int .i64 p.give) ∧ W.cell? ⟨w.heap.size, 2, none⟩ = some (.slice pa p.places.length pc) ∧ W.cell? ⟨w.heap.size, 3, none⟩ = some (.slice sa p.slots.length sc) ∧ W.cell? ⟨w.heap.size, 4, none⟩ = some (.slice ga p.grants.length gc) ∧
   W.cell? ⟨g, 0, none⟩ = some (.int .i64 p.work) ∧ W.cell? ⟨g, 1, none⟩ = some (.int .i64 p.give) ∧ W.cell? ⟨g, 2, none⟩ = some (.slice pa' p.places.length pc') ∧ W.cell? ⟨g, 3, none⟩ = some (.slice sa' p.slots.length sc') ∧ W.cell? ⟨g, 4, none⟩ = some (.slice ga' p.grants.length gc')) ∧ SfIn w g p pa pc sa sc ga gc pa' pc' sa' sc' ga' gc' W
theorem SfIn.six {w : World} {g : Nat} {p : Pl.Pol} {pa : Option Addr} {pc : Nat} {sa : Option Addr} {sc : Nat} {ga : Option Addr} {gc : Nat} {pa' : Option Addr} {pc' : Nat} {sa' : Option Addr} {sc' : Nat} {ga' : Option Addr} {gc' : Nat} {W : World}
    (h : SfIn w g p pa pc sa sc ga gc pa' pc' sa' sc' ga' gc' W) : SfS w g p pa pc sa sc ga gc pa' pc' sa' sc' ga' gc' W :=
  ⟨⟨h.b0.c0, h.b0.c1, h.b0.c2, h.b0.c3, h.b0.c4, h.b1.c0, h.b1.c1, h.b1.c2, h.b1.c3, h.b1.c4⟩, h⟩
theorem SfS.on {w : World} {g : Nat} {p : Pl.Pol} {pa : Option Addr} {pc : Nat} {sa : Option Addr} {sc : Nat} {ga : Option Addr} {gc : Nat} {pa' : Option Addr} {pc' : Nat} {sa' : Option Addr} {sc' : Nat} {ga' : Option Addr} {gc' : Nat} {W W' : World}
    (h : SfS w g p pa pc sa sc ga gc pa' pc' sa' sc' ga' gc' W) (hb : Below W.heap.size W W') : SfS w g p pa pc sa sc ga gc pa' pc' sa' sc' ga' gc' W' := (h.2.on hb).six
def StN (sl : List Int) (x : Int) (W : World) (g : Nat) (n i : Value) (wr : World) : Prop :=
  ∃ k : Nat, k + g = sl.length ∧ i = .int .i64 (k : Int) ∧ n = .int .i64 (((sl.take k).count x : Nat) : Int) ∧ wr = W
set_option maxRecDepth 100000 in
set_option maxHeartbeats 16000000 in
theorem slotsTurns_walk (p : Pl.Pol) (pa : Option Addr) (pc : Nat) (sa : Option Addr) (sc : Nat) (ga : Option Addr) (gc : Nat) (x : Int) (t : Nat) (w : World) (h : PolIn w p pa pc sa sc ga gc) (hnil : sa = none → sc = 0) (ht : t < 18446744073709551616) (hE : Env w) :
    Calls Tryz.prog 6 #[polV p pa pc sa sc ga gc, .int .i64 x, .int .u64 (t : Int)] w fun e w' => e = .returned (.bool true) ∧ Below w.heap.size w w' := by
  have hs : Below w.heap.size w (w.alloc (.cells #[.int .i64 p.work, .int .i64 p.give, .slice pa p.places.length pc, .slice sa p.slots.length sc, .slice ga p.grants.length gc] 26)) := (Below.refl _ _).alloc (Nat.le_refl _) _
  have HAW := Lib.hid (awake6_any _ (hE.on hs))
  have HS := Lib.hid hs
  have HI := Lib.hid (h.on hs)
  have HC0 := Lib.hid (Cell5.new w (.int .i64 p.work) (.int .i64 p.give) (.slice pa p.places.length pc) (.slice sa p.slots.length sc) (.slice ga p.grants.length gc) 26)
  have HM := Lib.hid (fun W (h : PolIn W p pa pc sa sc ga gc) => may_any p pa pc sa sc ga gc W h hnil)
  have HTO := Lib.hid (fun W (h : PolIs W p pa pc sa sc ga gc) h1 h2 h3 => to_any p pa pc sa sc ga gc W h h1 h2 h3 hnil)
  clear h hs
  simp only [polV] at HM HTO ⊢
  cases hm : may p with
  | false =>
    rw [hm] at HM
    clear hm ht
    go_enter Tryz.func6, Tryz.ntmps6
    go_wp2_with fail
    refine HAW.out.mono ?_
    rintro e w1 ⟨rfl, b1⟩
    obtain ⟨c0, c1, c2, c3, c4⟩ := HC0.out.on b1
    have HB1 := Lib.hid (HS.out.trans (b1.mono HS.out.size))
    have HI1 := Lib.hid (HI.out.on b1)
    clear b1
    go_wp2_with fail
    refine (HM.out _ HI1.out).mono ?_
    rintro e w2 ⟨rfl, b2⟩
    have HB2 := Lib.hid (HB1.out.trans (b2.mono HB1.out.size))
    clear b2 c0 c1 c2 c3 c4
    go_wp2_with fail
    go_ret
    exact ⟨rfl, HB2.out⟩
  | true =>
    rw [hm] at HM
    obtain ⟨hlight, hchk⟩ := may_is hm
    obtain ⟨s1, s2, s3, -⟩ := light_size hlight
    obtain ⟨k1, k2, -⟩ := slots_fact hchk
    have HLI := Lib.hid (fun W (h : PolIn W p pa pc sa sc ga gc) => h.light hlight)
    have HK1 := Lib.hid k1
    have HTO := Lib.hid (fun W h => HTO.out W h (by omega) (by omega) (by omega))
    have HAT := Lib.hid (fun W h => sat_any p pa pc sa sc ga gc t W (by omega) k1 ht h)
    have HRD := Lib.hid (fun W => sround_any p pa pc sa sc ga gc t W (by omega) k1 ht)
    have HTU := Lib.hid (fun W h => sturns_any p pa pc sa sc ga gc x W (by omega) h)
    have HNX := Lib.hid (fun W h => next_any p pa pc sa sc ga gc x t W (by omega) k1 ht h)
    have HRAT := Lib.hid (fun pa' pc' sa' sc' ga' gc' W h => rat_any p pa' pc' sa' sc' ga' gc' t W (by omega) k1 ht h)
    have HRRD := Lib.hid (fun pa' pc' sa' sc' ga' gc' W => rround_any p pa' pc' sa' sc' ga' gc' t W (by omega) k1 ht)
    have HRNX := Lib.hid (fun pa' pc' sa' sc' ga' gc' W h => rnext_any p pa' pc' sa' sc' ga' gc' x t W (by omega) k1 ht h)
    have hn3 : (p.slots.length : Int) ≤ 1000 := by omega
    simp only [polV] at HAT HRD HTU HNX HRAT HRRD HRNX
    have HT := Lib.hid (count_take p.slots x)
    have HLE := Lib.hid (count_le_len p.slots x)
    have HFULL := Lib.hid (show (p.slots.take p.slots.length).count x = p.slots.count x by rw [List.take_length])
    clear hlight hchk hm s1 s2 s3 k1 k2 ht
    go_enter Tryz.func6, Tryz.ntmps6
    go_wp2_with fail
    refine HAW.out.mono ?_
    rintro e w1 ⟨rfl, b1⟩
    have HC1 := Lib.hid (HC0.out.on b1)
    obtain ⟨c0, c1, c2, c3, c4⟩ := HC1.out
    have HB1 := Lib.hid (HS.out.trans (b1.mono HS.out.size))
    have HI1 := Lib.hid (HI.out.on b1)
    clear b1
    go_wp2_with fail
    refine (HM.out _ HI1.out).mono ?_
    rintro e w2 ⟨rfl, b2⟩
    have HC2 := Lib.hid (HC1.out.on b2)
    have HB2 := Lib.hid (HB1.out.trans (b2.mono HB1.out.size))
    have HI2 := Lib.hid (HLI.out _ (HI1.out.on b2))
    clear b2 c0 c1 c2 c3 c4
    obtain ⟨c0, c1, c2, c3, c4⟩ := HC2.out
    go_wp2_with fail
    refine (HTO.out _ HI2.out).mono ?_
    rintro e w3 ⟨pa', pc', sa', sc', ga', gc', rfl, hp', b3⟩
    have hal : Below w3.heap.size w3 (w3.alloc (.cells #[.int .i64 p.work, .int .i64 p.give, .slice pa' p.places.length pc', .slice sa' p.slots.length sc', .slice ga' p.grants.length gc'] 32)) := (Below.refl _ _).alloc (Nat.le_refl _) _
    have HX0 := Lib.hid (show SfIn w w3.heap.size p pa pc sa sc ga gc pa' pc' sa' sc' ga' gc' _ from ⟨(HC2.out.on b3).on hal, Cell5.new w3 _ _ _ _ _ 32, (HI2.out.on b3).on hal, hp'.on hal, (HB2.out.trans (b3.mono HB2.out.size)).trans (hal.mono (Nat.le_trans HB2.out.size b3.size))⟩)
    have HRAT := Lib.hid (HRAT.out pa' pc' sa' sc' ga' gc')
    have HRRD := Lib.hid (HRRD.out pa' pc' sa' sc' ga' gc')
    have HRNX := Lib.hid (HRNX.out pa' pc' sa' sc' ga' gc')
    simp only [polV]
    clear hp' b3 hal c0 c1 c2 c3 c4
    go_wp2_with fail
    generalize w3.alloc (.cells #[.int .i64 p.work, .int .i64 p.give, .slice pa' p.places.length pc', .slice sa' p.slots.length sc', .slice ga' p.grants.length gc'] 32) = wq at *
    generalize w3.heap.size = g at *
    go_loopg [8, 25] p.slots.length (fun g' n i wr => StN p.slots x wq g' n i wr)
    case atStart => exact ⟨0, by omega, rfl, by simp, rfl⟩
    case round =>
      obtain ⟨k, hk, rfl, rfl, rfl⟩ := hrel
      have HK := Lib.hid hk
      clear hk
      have hle := HLE.out k
      by_cases hlt : k < p.slots.length
      · obtain ⟨b, o, hsa, hb, hc⟩ := HX0.out.i1.sl.at_ k hlt
        have HN := Lib.hid (HT.out k hlt)
        have HG : Hid (∀ C' : Nat, C' = (p.slots.take (k + 1)).count x → StN p.slots x wr (gk - 1) (.int .i64 (C' : Int)) (.int .i64 ((k + 1 : Nat) : Int)) wr) := fun C' h => ⟨k + 1, by have := HK.out; omega, rfl, by rw [h], rfl⟩
        rw [HN.out] at HG
        clear HN
        generalize (p.slots.take k).count x = C at *
        generalize p.slots.getD k 0 = y at *
        subst hsa
        cases hy : y == x with
        | true =>
          rw [hy] at HG
          go_wp2_with fail
          go_roundg (gk - 1)
          case rel => have := HG.out (C + 1) rfl; simpa using this
          case measure => have := HK.out; omega
        | false =>
          rw [hy] at HG
          go_wp2_with fail
          go_roundg (gk - 1)
          case rel => have := HG.out C rfl; simpa using this
          case measure => have := HK.out; omega
      · have HE := Lib.hid (show (p.slots.take k).count x = p.slots.count x by rw [show k = p.slots.length by have := HK.out; omega]; exact HFULL.out)
        rw [HE.out]
        clear hle HT HLE HFULL
        obtain ⟨c0, c1, c2, c3, c4⟩ := HX0.out.b0
        go_wp2_with fail
        (with_reducible refine (HNX.out _ HX0.out.i0.sl).mono ?_)
        rintro e u1 ⟨rfl, hb1⟩
        have HX1 := Lib.hid (HX0.out.on hb1)
        clear hb1 c0 c1 c2 c3 c4
        obtain ⟨c0, c1, c2, c3, c4⟩ := HX1.out.b1
        go_wp2_with fail
        (with_reducible refine (HRNX.out _ HX1.out.i1.sl).mono ?_)
        rintro e u2 ⟨rfl, hb2⟩
        have HX2 := Lib.hid (HX1.out.on hb2)
        clear hb2 c0 c1 c2 c3 c4
        go_upto_region 15 with fail
        have HX := Lib.hid (show SfIn w g p pa pc sa sc ga gc pa' pc' sa' sc' ga' gc' u2.drew from HX2.out.on (Below.refl _ _).drew)
        generalize p.slots.count x = CC at *
        generalize Sl.next p.slots x t = M at *
        generalize Sl.at_ p.slots t = ATV at *
        generalize t / p.slots.length = RDV at *
        clear HNX HRNX HAW HS HI HM HTO HLI HC0 HC1 HI1 HI2 HC2 HB1 HB2 HX0 HX1 HX2
        refine wp_region_noPanic ?_
        refine wp_region_held_drew (S := SfS w g p pa pc sa sc ga gc pa' pc' sa' sc' ga' gc') (by kernel_rfl) ?_ (fun hHeld => ?_)
        · (try dsimp only); (first | assumption | exact HX.out.six | exact SfS.on (by assumption) hb2)
        refine wpAnyH_take (i := 0) (v := ?_) rfl (by kernel_rfl) (by kernel_rfl) (by kernel_rfl) (fun _ _ _ h => h) (Or.inl ⟨by rfl, ?_⟩) (by assumption) ?_
        rotate_left
        · intro w hSw; (try dsimp only at hSw); go_simp; try with_reducible rfl
        (try simp only [List.getElem_toArray, List.getElem_cons_zero, Act.put, List.setIfInBounds_toArray, List.set_cons_zero, List.set_cons_succ])
        refine wpAnyH_take (i := 1) (v := ?_) rfl (by kernel_rfl) (by kernel_rfl) (by kernel_rfl) (fun _ _ _ h => h) (Or.inl ⟨by rfl, ?_⟩) (by assumption) ?_
        rotate_left
        · intro w hSw; (try dsimp only at hSw); go_simp; try with_reducible rfl
        (try simp only [List.getElem_toArray, List.getElem_cons_succ, List.getElem_cons_zero, Act.put, List.setIfInBounds_toArray, List.set_cons_zero, List.set_cons_succ])
        refine wpAnyH_take (i := 3) (v := ?_) rfl (by kernel_rfl) (by kernel_rfl) (by kernel_rfl) (fun _ _ _ h => h) (Or.inl ⟨by rfl, ?_⟩) (by assumption) ?_
        rotate_left
        · intro w hSw; (try dsimp only at hSw); go_simp; try with_reducible rfl
        (try simp only [List.getElem_toArray, List.getElem_cons_succ, List.getElem_cons_zero, Act.put, List.setIfInBounds_toArray, List.set_cons_zero, List.set_cons_succ])
        refine wpAnyH_take (i := 4) (v := ?_) rfl (by kernel_rfl) (by kernel_rfl) (by kernel_rfl) (fun _ _ _ h => h) (Or.inl ⟨by rfl, ?_⟩) (by assumption) ?_
        rotate_left
        · intro w hSw; (try dsimp only at hSw); go_simp; try with_reducible rfl
        (try simp only [List.getElem_toArray, List.getElem_cons_succ, List.getElem_cons_zero, Act.put, List.setIfInBounds_toArray, List.set_cons_zero, List.set_cons_succ])
        refine wpAnyH_ready (rs := [2]) (by kernel_rfl) (by simp) ?_
        refine AllReadyH.cons rfl (fun K hK => ?_) (AllReadyH.nil)
        · go_simp
          (go_at_call 29; ((with_reducible refine (HAT.out _ hHeld.2.i0.sl).mono ?_); rintro e' wz ⟨rfl, hb2⟩))
          refine hK.out _ _ ?_ (fun hHeld => ?_)
          · (try dsimp only); (first | assumption | exact HX.out.six | exact SfS.on (by assumption) hb2)
          clear hK K
          (try simp only [List.getElem_toArray, List.getElem_cons_succ, List.getElem_cons_zero, Act.put, List.setIfInBounds_toArray, List.set_cons_zero, List.set_cons_succ])
          refine wpAnyH_ready (rs := [5]) (by kernel_rfl) (by simp) ?_
          refine AllReadyH.cons rfl (fun K hK => ?_) (AllReadyH.nil)
          · go_simp
            (go_at_call 30; ((with_reducible refine (HRAT.out _ hHeld.2.i1.sl).mono ?_); rintro e' wz ⟨rfl, hb2⟩))
            refine hK.out _ _ ?_ (fun hHeld => ?_)
            · (try dsimp only); (first | assumption | exact HX.out.six | exact SfS.on (by assumption) hb2)
            clear hK K
            (try simp only [List.getElem_toArray, List.getElem_cons_succ, List.getElem_cons_zero, Act.put, List.setIfInBounds_toArray, List.set_cons_zero, List.set_cons_succ])
            refine wpAnyH_take (i := 6) (v := ?_) rfl (by kernel_rfl) (by kernel_rfl) (by kernel_rfl) (fun _ _ _ h => h) (Or.inl ⟨by rfl, ?_⟩) (by assumption) ?_
            rotate_left
            · intro w hSw; (try dsimp only at hSw); go_simp; try with_reducible rfl
            (try simp only [List.getElem_toArray, List.getElem_cons_succ, List.getElem_cons_zero, Act.put, List.setIfInBounds_toArray, List.set_cons_zero, List.set_cons_succ])
            refine wpAnyH_take (i := 7) (v := ?_) rfl (by kernel_rfl) (by kernel_rfl) (by kernel_rfl) (fun _ _ _ h => h) (Or.inl ⟨by rfl, ?_⟩) (by assumption) ?_
            rotate_left
            · intro w hSw; (try dsimp only at hSw); go_simp; try with_reducible rfl
            (try simp only [List.getElem_toArray, List.getElem_cons_succ, List.getElem_cons_zero, Act.put, List.setIfInBounds_toArray, List.set_cons_zero, List.set_cons_succ])
            refine wpAnyH_take (i := 8) (v := ?_) rfl (by kernel_rfl) (by kernel_rfl) (by kernel_rfl) (fun _ _ _ h => h) (Or.inl ⟨by rfl, ?_⟩) (by assumption) ?_
            rotate_left
            · intro w hSw; (try dsimp only at hSw); go_simp; try with_reducible rfl
            (try simp only [List.getElem_toArray, List.getElem_cons_succ, List.getElem_cons_zero, Act.put, List.setIfInBounds_toArray, List.set_cons_zero, List.set_cons_succ])
            refine wpAnyH_take (i := 9) (v := ?_) rfl (by kernel_rfl) (by kernel_rfl) (by kernel_rfl) (fun _ _ _ h => h) (Or.inl ⟨by rfl, ?_⟩) (by assumption) ?_
            rotate_left
            · intro w hSw; (try dsimp only at hSw); go_simp; try with_reducible rfl
            (try simp only [List.getElem_toArray, List.getElem_cons_succ, List.getElem_cons_zero, Act.put, List.setIfInBounds_toArray, List.set_cons_zero, List.set_cons_succ])
            refine wpAnyH_take (i := 11) (v := ?_) rfl (by kernel_rfl) (by kernel_rfl) (by kernel_rfl) (fun _ _ _ h => h) (Or.inl ⟨by rfl, ?_⟩) (by assumption) ?_
            rotate_left
            · intro w hSw; (try dsimp only at hSw); go_simp; try with_reducible rfl
            (try simp only [List.getElem_toArray, List.getElem_cons_succ, List.getElem_cons_zero, Act.put, List.setIfInBounds_toArray, List.set_cons_zero, List.set_cons_succ])
            refine wpAnyH_take (i := 12) (v := ?_) rfl (by kernel_rfl) (by kernel_rfl) (by kernel_rfl) (fun _ _ _ h => h) (Or.inl ⟨by rfl, ?_⟩) (by assumption) ?_
            rotate_left
            · intro w hSw; (try dsimp only at hSw); go_simp; try with_reducible rfl
            (try simp only [List.getElem_toArray, List.getElem_cons_succ, List.getElem_cons_zero, Act.put, List.setIfInBounds_toArray, List.set_cons_zero, List.set_cons_succ])
            refine wpAnyH_ready (rs := [10]) (by kernel_rfl) (by simp) ?_
            refine AllReadyH.cons rfl (fun K hK => ?_) (AllReadyH.nil)
            · go_simp
              (go_at_call 31; ((with_reducible refine (HRD.out _).mono ?_); rintro e' wz ⟨rfl, hb2⟩))
              refine hK.out _ _ ?_ (fun hHeld => ?_)
              · (try dsimp only); (first | assumption | exact HX.out.six | exact SfS.on (by assumption) hb2)
              clear hK K
              (try simp only [List.getElem_toArray, List.getElem_cons_succ, List.getElem_cons_zero, Act.put, List.setIfInBounds_toArray, List.set_cons_zero, List.set_cons_succ])
              refine wpAnyH_ready (rs := [13]) (by kernel_rfl) (by simp) ?_
              refine AllReadyH.cons rfl (fun K hK => ?_) (AllReadyH.nil)
              · go_simp
                (go_at_call 32; ((with_reducible refine (HRRD.out _).mono ?_); rintro e' wz ⟨rfl, hb2⟩))
                refine hK.out _ _ ?_ (fun hHeld => ?_)
                · (try dsimp only); (first | assumption | exact HX.out.six | exact SfS.on (by assumption) hb2)
                clear hK K
                (try simp only [List.getElem_toArray, List.getElem_cons_succ, List.getElem_cons_zero, Act.put, List.setIfInBounds_toArray, List.set_cons_zero, List.set_cons_succ])
                refine wpAnyH_take (i := 14) (v := ?_) rfl (by kernel_rfl) (by kernel_rfl) (by kernel_rfl) (fun _ _ _ h => h) (Or.inl ⟨by rfl, ?_⟩) (by assumption) ?_
                rotate_left
                · intro w hSw; (try dsimp only at hSw); go_simp; try with_reducible rfl
                (try simp only [List.getElem_toArray, List.getElem_cons_succ, List.getElem_cons_zero, Act.put, List.setIfInBounds_toArray, List.set_cons_zero, List.set_cons_succ])
                refine wpAnyH_take (i := 15) (v := ?_) rfl (by kernel_rfl) (by kernel_rfl) (by kernel_rfl) (fun _ _ _ h => h) (Or.inl ⟨by rfl, ?_⟩) (by assumption) ?_
                rotate_left
                · intro w hSw; (try dsimp only at hSw); go_simp; try with_reducible rfl
                (try simp only [List.getElem_toArray, List.getElem_cons_succ, List.getElem_cons_zero, Act.put, List.setIfInBounds_toArray, List.set_cons_zero, List.set_cons_succ])
                refine wpAnyH_take (i := 16) (v := ?_) rfl (by kernel_rfl) (by kernel_rfl) (by kernel_rfl) (fun _ _ _ h => h) (Or.inl ⟨by rfl, ?_⟩) (by assumption) ?_
                rotate_left
                · intro w hSw; (try dsimp only at hSw); go_simp; try with_reducible rfl
                (try simp only [List.getElem_toArray, List.getElem_cons_succ, List.getElem_cons_zero, Act.put, List.setIfInBounds_toArray, List.set_cons_zero, List.set_cons_succ])
                refine wpAnyH_take (i := 17) (v := ?_) rfl (by kernel_rfl) (by kernel_rfl) (by kernel_rfl) (fun _ _ _ h => h) (Or.inl ⟨by rfl, ?_⟩) (by assumption) ?_
                rotate_left
                · intro w hSw; (try dsimp only at hSw); go_simp; try with_reducible rfl
                (try simp only [List.getElem_toArray, List.getElem_cons_succ, List.getElem_cons_zero, Act.put, List.setIfInBounds_toArray, List.set_cons_zero, List.set_cons_succ])
                refine wpAnyH_take (i := 18) (v := ?_) rfl (by kernel_rfl) (by kernel_rfl) (by kernel_rfl) (fun _ _ _ h => h) (Or.inl ⟨by rfl, ?_⟩) (by assumption) ?_
                rotate_left
                · intro w hSw; (try dsimp only at hSw); go_simp; try with_reducible rfl
                (try simp only [List.getElem_toArray, List.getElem_cons_succ, List.getElem_cons_zero, Act.put, List.setIfInBounds_toArray, List.set_cons_zero, List.set_cons_succ])
                refine wpAnyH_take (i := 19) (v := ?_) rfl (by kernel_rfl) (by kernel_rfl) (by kernel_rfl) (fun _ _ _ h => h) (Or.inl ⟨by rfl, ?_⟩) (by assumption) ?_
                rotate_left
                · intro w hSw; (try dsimp only at hSw); go_simp; try with_reducible rfl
                (try simp only [List.getElem_toArray, List.getElem_cons_succ, List.getElem_cons_zero, Act.put, List.setIfInBounds_toArray, List.set_cons_zero, List.set_cons_succ])
                refine wpAnyH_take (i := 20) (v := ?_) rfl (by kernel_rfl) (by kernel_rfl) (by kernel_rfl) (fun _ _ _ h => h) (Or.inl ⟨by rfl, ?_⟩) (by assumption) ?_
                rotate_left
                · intro w hSw; (try dsimp only at hSw); go_simp; try with_reducible rfl
                (try simp only [List.getElem_toArray, List.getElem_cons_succ, List.getElem_cons_zero, Act.put, List.setIfInBounds_toArray, List.set_cons_zero, List.set_cons_succ])
                refine wpAnyH_take (i := 21) (v := ?_) rfl (by kernel_rfl) (by kernel_rfl) (by kernel_rfl) (fun _ _ _ h => h) (Or.inl ⟨by rfl, ?_⟩) (by assumption) ?_
                rotate_left
                · intro w hSw; (try dsimp only at hSw); go_simp; try with_reducible rfl
                (try simp only [List.getElem_toArray, List.getElem_cons_succ, List.getElem_cons_zero, Act.put, List.setIfInBounds_toArray, List.set_cons_zero, List.set_cons_succ])
                refine wpAnyH_take (i := 22) (v := ?_) rfl (by kernel_rfl) (by kernel_rfl) (by kernel_rfl) (fun _ _ _ h => h) (Or.inl ⟨by rfl, ?_⟩) (by assumption) ?_
                rotate_left
                · intro w hSw; (try dsimp only at hSw); go_simp; try with_reducible rfl
                (try simp only [List.getElem_toArray, List.getElem_cons_succ, List.getElem_cons_zero, Act.put, List.setIfInBounds_toArray, List.set_cons_zero, List.set_cons_succ])
                refine wpAnyH_take (i := 23) (v := ?_) rfl (by kernel_rfl) (by kernel_rfl) (by kernel_rfl) (fun _ _ _ h => h) (Or.inl ⟨by rfl, ?_⟩) (by assumption) ?_
                rotate_left
                · intro w hSw; (try dsimp only at hSw); go_simp; try with_reducible rfl
                (try simp only [List.getElem_toArray, List.getElem_cons_succ, List.getElem_cons_zero, Act.put, List.setIfInBounds_toArray, List.set_cons_zero, List.set_cons_succ])
                refine wpAnyH_take (i := 24) (v := ?_) rfl (by kernel_rfl) (by kernel_rfl) (by kernel_rfl) (fun _ _ _ h => h) (Or.inl ⟨by rfl, ?_⟩) (by assumption) ?_
                rotate_left
                · intro w hSw; (try dsimp only at hSw); go_simp; try with_reducible rfl
                (try simp only [List.getElem_toArray, List.getElem_cons_succ, List.getElem_cons_zero, Act.put, List.setIfInBounds_toArray, List.set_cons_zero, List.set_cons_succ])
                refine wpAnyH_take (i := 25) (v := ?_) rfl (by kernel_rfl) (by kernel_rfl) (by kernel_rfl) (fun _ _ _ h => h) (Or.inl ⟨by rfl, ?_⟩) (by assumption) ?_
                rotate_left
                · intro w hSw; (try dsimp only at hSw); go_simp; try with_reducible rfl
                (try simp only [List.getElem_toArray, List.getElem_cons_succ, List.getElem_cons_zero, Act.put, List.setIfInBounds_toArray, List.set_cons_zero, List.set_cons_succ])
                refine wpAnyH_take (i := 26) (v := ?_) rfl (by kernel_rfl) (by kernel_rfl) (by kernel_rfl) (fun _ _ _ h => h) (Or.inl ⟨by rfl, ?_⟩) (by assumption) ?_
                rotate_left
                · intro w hSw; (try dsimp only at hSw); go_simp; try with_reducible rfl
                (try simp only [List.getElem_toArray, List.getElem_cons_succ, List.getElem_cons_zero, Act.put, List.setIfInBounds_toArray, List.set_cons_zero, List.set_cons_succ])
                refine wpAnyH_take (i := 27) (v := ?_) rfl (by kernel_rfl) (by kernel_rfl) (by kernel_rfl) (fun _ _ _ h => h) (Or.inl ⟨by rfl, ?_⟩) (by assumption) ?_
                rotate_left
                · intro w hSw; (try dsimp only at hSw); go_simp; try with_reducible rfl
                (try simp only [List.getElem_toArray, List.getElem_cons_succ, List.getElem_cons_zero, Act.put, List.setIfInBounds_toArray, List.set_cons_zero, List.set_cons_succ])
                refine wpAnyH_take (i := 28) (v := ?_) rfl (by kernel_rfl) (by kernel_rfl) (by kernel_rfl) (fun _ _ _ h => h) (Or.inl ⟨by rfl, ?_⟩) (by assumption) ?_
                rotate_left
                · intro w hSw; (try dsimp only at hSw); go_simp; try with_reducible rfl
                (try simp only [List.getElem_toArray, List.getElem_cons_succ, List.getElem_cons_zero, Act.put, List.setIfInBounds_toArray, List.set_cons_zero, List.set_cons_succ])
                refine wpAnyH_take (i := 30) (v := ?_) rfl (by kernel_rfl) (by kernel_rfl) (by kernel_rfl) (fun _ _ _ h => h) (Or.inl ⟨by rfl, ?_⟩) (by assumption) ?_
                rotate_left
                · intro w hSw; (try dsimp only at hSw); go_simp; try with_reducible rfl
                (try simp only [List.getElem_toArray, List.getElem_cons_succ, List.getElem_cons_zero, Act.put, List.setIfInBounds_toArray, List.set_cons_zero, List.set_cons_succ])
                refine wpAnyH_ready (rs := [29]) (by kernel_rfl) (by simp) ?_
                refine AllReadyH.cons rfl (fun K hK => ?_) (AllReadyH.nil)
                · go_simp
                  (go_at_call 33; ((with_reducible refine (HTU.out _ hHeld.2.i0.sl).mono ?_); rintro e' wz ⟨rfl, hb2⟩))
                  refine hK.out _ _ ?_ (fun hHeld => ?_)
                  · (try dsimp only); (first | assumption | exact HX.out.six | exact SfS.on (by assumption) hb2)
                  clear hK K
                  (try simp only [List.getElem_toArray, List.getElem_cons_succ, List.getElem_cons_zero, Act.put, List.setIfInBounds_toArray, List.set_cons_zero, List.set_cons_succ])
                  refine wpAnyH_take (i := 31) (v := ?_) rfl (by kernel_rfl) (by kernel_rfl) (by kernel_rfl) (fun _ _ _ h => h) (Or.inl ⟨by rfl, ?_⟩) (by assumption) ?_
                  rotate_left
                  · intro w hSw; (try dsimp only at hSw); go_simp; try with_reducible rfl
                  (try simp only [List.getElem_toArray, List.getElem_cons_succ, List.getElem_cons_zero, Act.put, List.setIfInBounds_toArray, List.set_cons_zero, List.set_cons_succ])
                  refine wpAnyH_take (i := 32) (v := ?_) rfl (by kernel_rfl) (by kernel_rfl) (by kernel_rfl) (fun _ _ _ h => h) (Or.inl ⟨by rfl, ?_⟩) (by assumption) ?_
                  rotate_left
                  · intro w hSw; (try dsimp only at hSw); go_simp; try with_reducible rfl
                  (try simp only [List.getElem_toArray, List.getElem_cons_succ, List.getElem_cons_zero, Act.put, List.setIfInBounds_toArray, List.set_cons_zero, List.set_cons_succ])
                  refine wpAnyH_take (i := 33) (v := ?_) rfl (by kernel_rfl) (by kernel_rfl) (by kernel_rfl) (fun _ _ _ h => h) (Or.inl ⟨by rfl, ?_⟩) (by assumption) ?_
                  rotate_left
                  · intro w hSw; (try dsimp only at hSw); go_simp; try with_reducible rfl
                  (try simp only [List.getElem_toArray, List.getElem_cons_succ, List.getElem_cons_zero, Act.put, List.setIfInBounds_toArray, List.set_cons_zero, List.set_cons_succ])
                  refine wpAnyH_done (by kernel_rfl) ?_ _
                  refine NoPanic.normal ?_
                  have hbl := hHeld.2.below
                  go_wp2_with fail
                  go_ret
                  exact ⟨by simp, hbl⟩
end Go.Proofs.YtokljdaofjgihaaGreatDoor
