/-
  THE FRAME THAT BYTES BEGIN WITH, by the document, walked.
-/
import Derived.Test.YtecgedbabcdfkaaDoorFrmE
namespace Go.Proofs.YtecgedbabcdfkaaDoor
open Go.ChangeShapes Go.WideShapes Go.ChangeAt Go.RowKit

def TriB (w a : World) : Prop := Tri w.heap.size (.int .u8 0) (.int .u8 0) (.string ⟨#[]⟩) a ∧ Below w.heap.size w a
theorem TriB.on {w a a' : World} (h : TriB w a) (hb : Below a.heap.size a a') : TriB w a' := ⟨h.1.on hb h.1.lt, bthen h.2 hb (Nat.le_refl _)⟩
theorem TriB.drew {w a : World} (h : TriB w a) : TriB w a.drew := ⟨⟨h.1.c0, h.1.c1, h.1.c2, h.1.fz⟩, h.2.drew⟩
theorem below_put3 {B : Nat} {w a : World} (h : Below B w a) (x y z : Value) : Below B w (((a.setCell ⟨B, 0, none⟩ x).setCell ⟨B, 1, none⟩ y).setCell ⟨B, 2, none⟩ z) :=
  ((h.setCell (Nat.le_refl _) x).setCell (Nat.le_refl _) y).setCell (Nat.le_refl _) z
theorem Tri.drewN {b : Nat} {x y z : Value} {w : World} (h : Tri b x y z w) (n : Nat) : Tri b x y z (w.drewN n) := ⟨h.c0, h.c1, h.c2, h.fz⟩
set_option maxRecDepth 100000 in
set_option maxHeartbeats 8000000 in
theorem rparse_any (l : List UInt8) (w : World) (hl : l.length ≤ 100000) :
    Calls Tryd.prog 16 #[.string (ofL l)] w fun e w' => e = .returned (parseV l) ∧ Below w.heap.size w w' := by
  have hz : (ofL l).size = l.length := ofL_size l
  have HR := Lib.hid (Tri.new w (.int .u8 0) (.int .u8 0) (.string ⟨#[]⟩) 33)
  by_cases h4 : l.length < 4
  · have hc : Fr.code l = 3 := by unfold Fr.code; rw [if_pos h4]
    have hv : parseV l = .tuple #[noFrm, .int .i64 0, .int .i64 (Fr.code l : Int)] := if_neg (by omega)
    rw [hc] at hv
    have HV := Lib.hid hv
    clear hv hc
    go_enter Tryd.func16, Tryd.ntmps16
    go_wp2_with fail
    exact bodyPost_ret (v := .tuple #[.agg #[.int .u8 0, .int .u8 0, .string ⟨#[]⟩], .int .i64 0, .int .i64 3]) (by simp [results, Tryd.results16, go_sem]) rfl ⟨by rw [HV.out]; rfl, (Below.refl _ _).alloc (Nat.le_refl _) _⟩
  have x2 := fun W => idx_l (P := Tryd.prog) Tryd.underlying9 l .i64 2 2 rfl (by omega) W
  have x3 := fun W => idx_l (P := Tryd.prog) Tryd.underlying9 l .i64 3 3 rfl (by omega) W
  have b2 := (l.getD 2 0).toNat_lt
  have b3 := (l.getD 3 0).toNat_lt
  have hN : (((l.getD 2 0).toNat : Nat) : Int) * 256 + (((l.getD 3 0).toNat : Nat) : Int) = ((Fr.len l : Nat) : Int) := by unfold Fr.len; omega
  have HC := Lib.hid (show Fr.code l = if l.length < 4 then 3 else if 2048 < Fr.len l then 5 else if l.length < Fr.len l + 9 then 3 else if l.getD (Fr.len l + 8) 0 ≠ 206 then 4
    else if Oct.val ((l.drop (Fr.len l + 4)).take 4) ≠ Crc.sum (l.take (Fr.len l + 4)) then 14 else 0 from rfl)
  generalize (l.getD 2 0).toNat = n2 at *
  generalize (l.getD 3 0).toNat = n3 at *
  have q2 : n2 < 256 := b2
  have q3 : n3 < 256 := b3
  have k1 : IntKind.i64.wrap ((n2 : Int) * 256) = (n2 : Int) * 256 := by rw [IntKind.wrap_i64]; omega
  have k2 : IntKind.i64.wrap ((n2 : Int) * 256 + (n3 : Int)) = ((Fr.len l : Nat) : Int) := by rw [IntKind.wrap_i64]; omega
  clear b2 b3
  generalize hL : Fr.len l = L at *
  have hLb : L < 65536 := by omega
  have HL := Lib.hid hL
  clear hL
  by_cases h5 : 2048 < L
  · have hc : Fr.code l = 5 := by rw [HC.out, if_neg h4, if_pos h5]
    have hv : parseV l = .tuple #[noFrm, .int .i64 0, .int .i64 (Fr.code l : Int)] := if_neg (by omega)
    rw [hc] at hv
    have HV := Lib.hid hv
    clear hv hc hN
    go_enter Tryd.func16, Tryd.ntmps16
    go_wp2_with fail
    go_quiet (fail)
    clear k1 k2 x2 x3
    have HRq := Lib.hid (HR.out.drewN nq)
    have HBq := Lib.hid (below_drewN ((Below.refl w.heap.size w).alloc (Nat.le_refl _) (.cells #[.int .u8 0, .int .u8 0, .string ⟨#[]⟩] 33)) nq)
    generalize (w.alloc (.cells #[.int .u8 0, .int .u8 0, .string ⟨#[]⟩] 33)).drewN nq = wq at *
    have r0 := HRq.out.c0
    have r1 := HRq.out.c1
    have r2 := HRq.out.c2
    have rf0 := HRq.out.fz 0
    have rf1 := HRq.out.fz 1
    have rf2 := HRq.out.fz 2
    go_wp2_with fail
    exact bodyPost_ret (v := .tuple #[.agg #[.int .u8 0, .int .u8 0, .string ⟨#[]⟩], .int .i64 0, .int .i64 5]) (by simp [results, Tryd.results16, go_sem, r0, r1, r2]) rfl ⟨by rw [HV.out]; rfl, ((HBq.out.setCell (by simp) _).setCell (by simp) _).setCell (by simp) _⟩
  by_cases h9 : l.length < L + 9
  · have hc : Fr.code l = 3 := by rw [HC.out, if_neg h4, if_neg h5, if_pos h9]
    have hv : parseV l = .tuple #[noFrm, .int .i64 0, .int .i64 (Fr.code l : Int)] := if_neg (by omega)
    rw [hc] at hv
    have HV := Lib.hid hv
    clear hv hc hN
    go_enter Tryd.func16, Tryd.ntmps16
    go_wp2_with fail
    go_quiet (fail)
    clear k1 k2 x2 x3
    have HRq := Lib.hid (HR.out.drewN nq)
    have HBq := Lib.hid (below_drewN ((Below.refl w.heap.size w).alloc (Nat.le_refl _) (.cells #[.int .u8 0, .int .u8 0, .string ⟨#[]⟩] 33)) nq)
    generalize (w.alloc (.cells #[.int .u8 0, .int .u8 0, .string ⟨#[]⟩] 33)).drewN nq = wq at *
    have r0 := HRq.out.c0
    have r1 := HRq.out.c1
    have r2 := HRq.out.c2
    have rf0 := HRq.out.fz 0
    have rf1 := HRq.out.fz 1
    have rf2 := HRq.out.fz 2
    go_wp2_with fail
    exact bodyPost_ret (v := .tuple #[.agg #[.int .u8 0, .int .u8 0, .string ⟨#[]⟩], .int .i64 0, .int .i64 3]) (by simp [results, Tryd.results16, go_sem, r0, r1, r2]) rfl ⟨by rw [HV.out]; rfl, ((HBq.out.setCell (by simp) _).setCell (by simp) _).setCell (by simp) _⟩
  have x8 := fun W => idx_l (P := Tryd.prog) Tryd.underlying9 l .i64 ((L : Int) + 8) (L + 8) (by omega) (by omega) W
  have b8 := (l.getD (L + 8) 0).toNat_lt
  by_cases h206 : l.getD (L + 8) 0 ≠ 206
  · have hc : Fr.code l = 4 := by rw [HC.out, if_neg h4, if_neg h5, if_neg h9, if_pos h206]
    have hv : parseV l = .tuple #[noFrm, .int .i64 0, .int .i64 (Fr.code l : Int)] := if_neg (by omega)
    rw [hc] at hv
    have HV := Lib.hid hv
    have k3 : ((((l.getD (L + 8) 0).toNat : Nat) : Int) != 206) = true := by
      rw [bne_iff_ne]
      intro h
      apply h206
      apply UInt8.toNat_inj.1
      show _ = 206
      omega
    clear hv hc hN h206
    generalize (l.getD (L + 8) 0).toNat = n8 at *
    go_enter Tryd.func16, Tryd.ntmps16
    go_wp2_with fail
    go_quiet (fail)
    clear k1 k2 x2 x3
    have HRq := Lib.hid (HR.out.drewN nq)
    have HBq := Lib.hid (below_drewN ((Below.refl w.heap.size w).alloc (Nat.le_refl _) (.cells #[.int .u8 0, .int .u8 0, .string ⟨#[]⟩] 33)) nq)
    generalize (w.alloc (.cells #[.int .u8 0, .int .u8 0, .string ⟨#[]⟩] 33)).drewN nq = wq at *
    have r0 := HRq.out.c0
    have r1 := HRq.out.c1
    have r2 := HRq.out.c2
    have rf0 := HRq.out.fz 0
    have rf1 := HRq.out.fz 1
    have rf2 := HRq.out.fz 2
    go_wp2_with fail
    exact bodyPost_ret (v := .tuple #[.agg #[.int .u8 0, .int .u8 0, .string ⟨#[]⟩], .int .i64 0, .int .i64 4]) (by simp [results, Tryd.results16, go_sem, r0, r1, r2]) rfl ⟨by rw [HV.out]; rfl, ((HBq.out.setCell (by simp) _).setCell (by simp) _).setCell (by simp) _⟩
  have k3 : ((((l.getD (L + 8) 0).toNat : Nat) : Int) != 206) = false := by
    have h2 : l.getD (L + 8) 0 = 206 := by
      rcases Decidable.em (l.getD (L + 8) 0 = 206) with h | h
      · exact h
      · exact absurd h h206
    rw [h2]; rfl
  rw [if_neg h4, if_neg h5, if_neg h9, if_neg h206] at HC
  have H2 := Lib.hid (fun W => rsum_l (l.take (L + 4)) W (by rw [List.length_take]; omega))
  have hs := Crc.sum_lt (l.take (L + 4))
  have H3 := Lib.hid (fun W => rnum_l (Crc.sum (l.take (L + 4))) 4 4 W (by omega) (by omega) rfl)
  have hws : IntKind.u64.wrap (((Crc.sum (l.take (L + 4)) : Nat)) : Int) = ((Crc.sum (l.take (L + 4)) : Nat) : Int) := by rw [IntKind.wrap_u64]; omega
  have y1 := fun W => slice_l (P := Tryd.prog) Tryd.underlying9 l .i64 .i64 ((L : Int) + 4) ((L : Int) + 8) (L + 4) (L + 8) (by omega) (by omega) (by omega) (by omega) W
  rw [show L + 8 - (L + 4) = 4 by omega] at y1
  have y2 := fun W => slice_to_l (P := Tryd.prog) Tryd.underlying9 l .i64 ((L : Int) + 4) (L + 4) (by omega) (by omega) W
  have v4 : IntKind.i64.wrap ((L : Int) + 4) = (L : Int) + 4 := by rw [IntKind.wrap_i64]; omega
  have v8 : IntKind.i64.wrap ((L : Int) + 8) = (L : Int) + 8 := by rw [IntKind.wrap_i64]; omega
  have hd := ofL_beq ((l.drop (L + 4)).take 4) (Oct.be 4 (Crc.sum (l.take (L + 4))))
  have hiff : ((l.drop (L + 4)).take 4 = Oct.be 4 (Crc.sum (l.take (L + 4)))) ↔ Oct.val ((l.drop (L + 4)).take 4) = Crc.sum (l.take (L + 4)) := by
    constructor
    · intro h
      rw [h, Fr.val_sum]
    · intro h
      rw [← h]
      have hl4 : ((l.drop (L + 4)).take 4).length = 4 := by rw [List.length_take, List.length_drop]; omega
      have := Oct.be_val ((l.drop (L + 4)).take 4)
      rw [hl4] at this
      exact this.symm
  have hT4 : (Oct.be 4 (Crc.sum (l.take (L + 4)))).length = 4 := Oct.length_be _ _
  generalize hX : (l.drop (L + 4)).take 4 = X at *
  generalize hY : Oct.be 4 (Crc.sum (l.take (L + 4))) = Y at *
  generalize hU : l.take (L + 4) = U at *
  have HIF := Lib.hid hiff
  have HHN := Lib.hid hN
  have hD : ((ofL X).toList == (ofL Y).toList) = decide (X = Y) := hd
  generalize hDD : decide (X = Y) = D at *
  have HD := Lib.hid hDD
  have HC' := HC
  clear hN hX hY hU hd hDD hiff h206
  generalize Crc.sum U = S at *
  generalize (l.getD (L + 8) 0).toNat = n8 at *
  go_enter Tryd.func16, Tryd.ntmps16
  go_wp2_with fail
  go_quiet (fail)
  have HRq := Lib.hid (show TriB w _ from ⟨HR.out.drewN nq, below_drewN ((Below.refl w.heap.size w).alloc (Nat.le_refl _) (.cells #[.int .u8 0, .int .u8 0, .string ⟨#[]⟩] 33)) nq⟩)
  generalize (w.alloc (.cells #[.int .u8 0, .int .u8 0, .string ⟨#[]⟩] 33)).drewN nq = wq at *
  clear k1 k2 x2 x3
  go_upto_region 10 with fail
  clear x8 b8 k3
  go_cut [46] (fun s46 wx => s46 = .bool !D ∧ TriB w wx)
  case first =>
    refine wp_region_noPanic ?_
    refine wp_region_held_drew (S := TriB w) (by kernel_rfl) ?_ (fun hHeld => ?_)
    · (try dsimp only); (first | assumption | exact HRq.out.drew | exact TriB.on (by assumption) hb2)
    refine wpAnyH_take (i := 0) (v := ?_) rfl (by kernel_rfl) (by kernel_rfl) (by kernel_rfl) (fun _ _ _ h => h) (Or.inl ⟨by rfl, ?_⟩) (by assumption) ?_
    rotate_left
    · intro w hSw; (try dsimp only at hSw); go_simp; try with_reducible rfl
    (try simp only [List.getElem_toArray, List.getElem_cons_zero, Act.put, List.setIfInBounds_toArray, List.set_cons_zero, List.set_cons_succ])
    refine wpAnyH_take (i := 1) (v := ?_) rfl (by kernel_rfl) (by kernel_rfl) (by kernel_rfl) (fun _ _ _ h => h) (Or.inl ⟨by rfl, ?_⟩) (by assumption) ?_
    rotate_left
    · intro w hSw; (try dsimp only at hSw); go_simp; try with_reducible rfl
    (try simp only [List.getElem_toArray, List.getElem_cons_succ, List.getElem_cons_zero, Act.put, List.setIfInBounds_toArray, List.set_cons_zero, List.set_cons_succ])
    refine wpAnyH_take (i := 2) (v := ?_) rfl (by kernel_rfl) (by kernel_rfl) (by kernel_rfl) (fun _ _ _ h => h) (Or.inl ⟨by rfl, ?_⟩) (by assumption) ?_
    rotate_left
    · intro w hSw; (try dsimp only at hSw); go_simp; try with_reducible rfl
    (try simp only [List.getElem_toArray, List.getElem_cons_succ, List.getElem_cons_zero, Act.put, List.setIfInBounds_toArray, List.set_cons_zero, List.set_cons_succ])
    refine wpAnyH_take (i := 3) (v := ?_) rfl (by kernel_rfl) (by kernel_rfl) (by kernel_rfl) (fun _ _ _ h => h) (Or.inl ⟨by rfl, ?_⟩) (by assumption) ?_
    rotate_left
    · intro w hSw; (try dsimp only at hSw); go_simp; try with_reducible rfl
    (try simp only [List.getElem_toArray, List.getElem_cons_succ, List.getElem_cons_zero, Act.put, List.setIfInBounds_toArray, List.set_cons_zero, List.set_cons_succ])
    refine wpAnyH_take (i := 4) (v := ?_) rfl (by kernel_rfl) (by kernel_rfl) (by kernel_rfl) (fun _ _ _ h => h) (Or.inl ⟨by rfl, ?_⟩) (by assumption) ?_
    rotate_left
    · intro w hSw; (try dsimp only at hSw); go_simp; try with_reducible rfl
    (try simp only [List.getElem_toArray, List.getElem_cons_succ, List.getElem_cons_zero, Act.put, List.setIfInBounds_toArray, List.set_cons_zero, List.set_cons_succ])
    refine wpAnyH_take (i := 5) (v := ?_) rfl (by kernel_rfl) (by kernel_rfl) (by kernel_rfl) (fun _ _ _ h => h) (Or.inl ⟨by rfl, ?_⟩) (by assumption) ?_
    rotate_left
    · intro w hSw; (try dsimp only at hSw); go_simp; try with_reducible rfl
    (try simp only [List.getElem_toArray, List.getElem_cons_succ, List.getElem_cons_zero, Act.put, List.setIfInBounds_toArray, List.set_cons_zero, List.set_cons_succ])
    refine wpAnyH_take (i := 6) (v := ?_) rfl (by kernel_rfl) (by kernel_rfl) (by kernel_rfl) (fun _ _ _ h => h) (Or.inl ⟨by rfl, ?_⟩) (by assumption) ?_
    rotate_left
    · intro w hSw; (try dsimp only at hSw); go_simp; try with_reducible rfl
    (try simp only [List.getElem_toArray, List.getElem_cons_succ, List.getElem_cons_zero, Act.put, List.setIfInBounds_toArray, List.set_cons_zero, List.set_cons_succ])
    refine wpAnyH_take (i := 7) (v := ?_) rfl (by kernel_rfl) (by kernel_rfl) (by kernel_rfl) (fun _ _ _ h => h) (Or.inl ⟨by rfl, ?_⟩) (by assumption) ?_
    rotate_left
    · intro w hSw; (try dsimp only at hSw); go_simp; try with_reducible rfl
    (try simp only [List.getElem_toArray, List.getElem_cons_succ, List.getElem_cons_zero, Act.put, List.setIfInBounds_toArray, List.set_cons_zero, List.set_cons_succ])
    refine wpAnyH_take (i := 8) (v := ?_) rfl (by kernel_rfl) (by kernel_rfl) (by kernel_rfl) (fun _ _ _ h => h) (Or.inl ⟨by rfl, ?_⟩) (by assumption) ?_
    rotate_left
    · intro w hSw; (try dsimp only at hSw); go_simp; try with_reducible rfl
    (try simp only [List.getElem_toArray, List.getElem_cons_succ, List.getElem_cons_zero, Act.put, List.setIfInBounds_toArray, List.set_cons_zero, List.set_cons_succ])
    refine wpAnyH_take (i := 9) (v := ?_) rfl (by kernel_rfl) (by kernel_rfl) (by kernel_rfl) (fun _ _ _ h => h) (Or.inl ⟨by rfl, ?_⟩) (by assumption) ?_
    rotate_left
    · intro w hSw; (try dsimp only at hSw); go_simp; try with_reducible rfl
    (try simp only [List.getElem_toArray, List.getElem_cons_succ, List.getElem_cons_zero, Act.put, List.setIfInBounds_toArray, List.set_cons_zero, List.set_cons_succ])
    refine wpAnyH_ready (rs := [10]) (by kernel_rfl) (by simp) ?_
    refine AllReadyH.cons rfl (fun K hK => ?_) (AllReadyH.nil)
    · go_simp
      (go_at_call 45; ((with_reducible refine (H2.out _).mono ?_); rintro e' wa ⟨rfl, rfl⟩))
      refine hK.out _ _ ?_ (fun hHeld => ?_)
      · (try dsimp only); (first | assumption | exact HRq.out.drew | exact TriB.on (by assumption) hb2)
      clear hK K
      (try simp only [List.getElem_toArray, List.getElem_cons_succ, List.getElem_cons_zero, Act.put, List.setIfInBounds_toArray, List.set_cons_zero, List.set_cons_succ])
      refine wpAnyH_take (i := 11) (v := ?_) rfl (by kernel_rfl) (by kernel_rfl) (by kernel_rfl) (fun _ _ _ h => h) (Or.inl ⟨by rfl, ?_⟩) (by assumption) ?_
      rotate_left
      · intro w hSw; (try dsimp only at hSw); go_simp; try with_reducible rfl
      (try simp only [List.getElem_toArray, List.getElem_cons_succ, List.getElem_cons_zero, Act.put, List.setIfInBounds_toArray, List.set_cons_zero, List.set_cons_succ])
      refine wpAnyH_ready (rs := [12]) (by kernel_rfl) (by simp) ?_
      refine AllReadyH.cons rfl (fun K hK => ?_) (AllReadyH.nil)
      · go_simp
        (go_at_call 44; ((with_reducible refine (H3.out _).mono ?_); rintro e' wa ⟨rfl, hb2⟩))
        refine hK.out _ _ ?_ (fun hHeld => ?_)
        · (try dsimp only); (first | assumption | exact HRq.out.drew | exact TriB.on (by assumption) hb2)
        clear hK K
        (try simp only [List.getElem_toArray, List.getElem_cons_succ, List.getElem_cons_zero, Act.put, List.setIfInBounds_toArray, List.set_cons_zero, List.set_cons_succ])
        refine wpAnyH_take (i := 13) (v := ?_) rfl (by kernel_rfl) (by kernel_rfl) (by kernel_rfl) (fun _ _ _ h => h) (Or.inl ⟨by rfl, ?_⟩) (by assumption) ?_
        rotate_left
        · intro w hSw; (try dsimp only at hSw); go_simp; try with_reducible rfl
        (try simp only [List.getElem_toArray, List.getElem_cons_succ, List.getElem_cons_zero, Act.put, List.setIfInBounds_toArray, List.set_cons_zero, List.set_cons_succ])
        refine wpAnyH_done (by kernel_rfl) ?_ _
        refine NoPanic.normal ?_
        have hbl := hHeld
        go_wp2_with fail
        go_meet
        exact ⟨rfl, hbl⟩
  case rest =>
    obtain ⟨rfl, hB⟩ := hcut
    have HB := Lib.hid hB
    have r0 := hB.1.c0
    have r1 := hB.1.c1
    have r2 := hB.1.c2
    have rf0 := hB.1.fz 0
    have rf1 := hB.1.fz 1
    have rf2 := hB.1.fz 2
    clear hB
    cases D
    · have hne : ¬ (X = Y) := by simpa using HD.out
      have hc : Fr.code l = 14 := by rw [HC.out, if_pos (fun h => hne (HIF.out.2 h))]
      have hv : parseV l = .tuple #[noFrm, .int .i64 0, .int .i64 (Fr.code l : Int)] := if_neg (by omega)
      rw [hc] at hv
      have HV := Lib.hid hv
      clear hv hc hne
      go_wp2_with fail
      exact bodyPost_ret (v := .tuple #[.agg #[.int .u8 0, .int .u8 0, .string ⟨#[]⟩], .int .i64 0, .int .i64 14]) (by simp [results, Tryd.results16, go_sem, r0, r1, r2]) rfl ⟨by rw [HV.out]; rfl, ((HB.out.2.setCell (by simp) _).setCell (by simp) _).setCell (by simp) _⟩
    · have heq : X = Y := by simpa using HD.out
      have hc : Fr.code l = 0 := by rw [HC.out, if_neg (fun h => h (HIF.out.1 heq))]
      have hv : parseV l = .tuple #[frmV l, .int .i64 ((Fr.len l + 9 : Nat) : Int), .int .i64 0] := if_pos hc
      have hb : frmV l = .agg #[.int .u8 ((l.getD 0 0).toNat : Int), .int .u8 ((l.getD 1 0).toNat : Int), .string (ofL ((l.drop 4).take L))] := by unfold frmV Fr.body; rw [HL.out]
      rw [HL.out, hb] at hv
      have HV := Lib.hid hv
      clear hv hc heq hb
      have x0 := fun W => idx_l (P := Tryd.prog) Tryd.underlying9 l .i64 0 0 rfl (by omega) W
      have x1 := fun W => idx_l (P := Tryd.prog) Tryd.underlying9 l .i64 1 1 rfl (by omega) W
      have xb := fun W => slice_l (P := Tryd.prog) Tryd.underlying9 l .i64 .i64 4 ((L : Int) + 4) 4 (L + 4) rfl (by omega) (by omega) (by omega) W
      rw [show L + 4 - 4 = L by omega] at xb
      have v9 : IntKind.i64.wrap ((L : Int) + 9) = (L : Int) + 9 := by rw [IntKind.wrap_i64]; omega
      have v9' : ((L + 9 : Nat) : Int) = (L : Int) + 9 := by omega
      rw [v9'] at HV
      generalize (l.getD 0 0).toNat = c0 at *
      generalize (l.getD 1 0).toNat = c1 at *
      generalize (l.drop 4).take L = B at *
      clear v9'
      go_wp2_with fail
      refine wp_region_noPanic ?_
      refine wp_region_held_drew (S := fun a => Below w.heap.size w a) (by kernel_rfl) ?_ (fun hHeld => ?_)
      · (try dsimp only); (first | assumption | exact HB.out.2.drew | exact below_put3 (by assumption) _ _ _)
      refine wpAnyH_take (i := 0) (v := ?_) rfl (by kernel_rfl) (by kernel_rfl) (by kernel_rfl) (fun _ _ _ h => h) (Or.inl ⟨by rfl, ?_⟩) (by assumption) ?_
      rotate_left
      · intro w hSw; (try dsimp only at hSw); go_simp; try with_reducible rfl
      (try simp only [List.getElem_toArray, List.getElem_cons_zero, Act.put, List.setIfInBounds_toArray, List.set_cons_zero, List.set_cons_succ])
      refine wpAnyH_take (i := 1) (v := ?_) rfl (by kernel_rfl) (by kernel_rfl) (by kernel_rfl) (fun _ _ _ h => h) (Or.inl ⟨by rfl, ?_⟩) (by assumption) ?_
      rotate_left
      · intro w hSw; (try dsimp only at hSw); go_simp; try with_reducible rfl
      (try simp only [List.getElem_toArray, List.getElem_cons_succ, List.getElem_cons_zero, Act.put, List.setIfInBounds_toArray, List.set_cons_zero, List.set_cons_succ])
      refine wpAnyH_take (i := 2) (v := ?_) rfl (by kernel_rfl) (by kernel_rfl) (by kernel_rfl) (fun _ _ _ h => h) (Or.inl ⟨by rfl, ?_⟩) (by assumption) ?_
      rotate_left
      · intro w hSw; (try dsimp only at hSw); go_simp; try with_reducible rfl
      (try simp only [List.getElem_toArray, List.getElem_cons_succ, List.getElem_cons_zero, Act.put, List.setIfInBounds_toArray, List.set_cons_zero, List.set_cons_succ])
      refine wpAnyH_take (i := 3) (v := ?_) rfl (by kernel_rfl) (by kernel_rfl) (by kernel_rfl) (fun _ _ _ h => h) (Or.inl ⟨by rfl, ?_⟩) (by assumption) ?_
      rotate_left
      · intro w hSw; (try dsimp only at hSw); go_simp; try with_reducible rfl
      (try simp only [List.getElem_toArray, List.getElem_cons_succ, List.getElem_cons_zero, Act.put, List.setIfInBounds_toArray, List.set_cons_zero, List.set_cons_succ])
      refine wpAnyH_take (i := 4) (v := ?_) rfl (by kernel_rfl) (by kernel_rfl) (by kernel_rfl) (fun _ _ _ h => h) (Or.inl ⟨by rfl, ?_⟩) (by assumption) ?_
      rotate_left
      · intro w hSw; (try dsimp only at hSw); go_simp; try with_reducible rfl
      (try simp only [List.getElem_toArray, List.getElem_cons_succ, List.getElem_cons_zero, Act.put, List.setIfInBounds_toArray, List.set_cons_zero, List.set_cons_succ])
      refine wpAnyH_take (i := 5) (v := ?_) rfl (by kernel_rfl) (by kernel_rfl) (by kernel_rfl) (fun _ _ _ h => h) (Or.inl ⟨by rfl, ?_⟩) (by assumption) ?_
      rotate_left
      · intro w hSw; (try dsimp only at hSw); go_simp; try with_reducible rfl
      (try simp only [List.getElem_toArray, List.getElem_cons_succ, List.getElem_cons_zero, Act.put, List.setIfInBounds_toArray, List.set_cons_zero, List.set_cons_succ])
      refine wpAnyH_take (i := 6) (v := ?_) rfl (by kernel_rfl) (by kernel_rfl) (by kernel_rfl) (fun _ _ _ h => h) (Or.inl ⟨by rfl, ?_⟩) (by assumption) ?_
      rotate_left
      · intro w hSw; (try dsimp only at hSw); go_simp; try with_reducible rfl
      (try simp only [List.getElem_toArray, List.getElem_cons_succ, List.getElem_cons_zero, Act.put, List.setIfInBounds_toArray, List.set_cons_zero, List.set_cons_succ])
      refine wpAnyH_take (i := 7) (v := ?_) rfl (by kernel_rfl) (by kernel_rfl) (by kernel_rfl) (fun _ _ _ h => h) (Or.inl ⟨by rfl, ?_⟩) (by assumption) ?_
      rotate_left
      · intro w hSw; (try dsimp only at hSw); go_simp; try with_reducible rfl
      (try simp only [List.getElem_toArray, List.getElem_cons_succ, List.getElem_cons_zero, Act.put, List.setIfInBounds_toArray, List.set_cons_zero, List.set_cons_succ])
      refine wpAnyH_take (i := 8) (v := ?_) rfl (by kernel_rfl) (by kernel_rfl) (by kernel_rfl) (fun _ _ _ h => h) (Or.inl ⟨by rfl, ?_⟩) (by assumption) ?_
      rotate_left
      · intro w hSw; (try dsimp only at hSw); go_simp; try with_reducible rfl
      (try simp only [List.getElem_toArray, List.getElem_cons_succ, List.getElem_cons_zero, Act.put, List.setIfInBounds_toArray, List.set_cons_zero, List.set_cons_succ])
      refine wpAnyH_take (i := 9) (v := ?_) rfl (by kernel_rfl) (by kernel_rfl) (by kernel_rfl) (fun _ _ _ h => h) (Or.inl ⟨by rfl, ?_⟩) (by assumption) ?_
      rotate_left
      · intro w hSw; (try dsimp only at hSw); go_simp; try with_reducible rfl
      (try simp only [List.getElem_toArray, List.getElem_cons_succ, List.getElem_cons_zero, Act.put, List.setIfInBounds_toArray, List.set_cons_zero, List.set_cons_succ])
      refine wpAnyH_take (i := 10) (v := ?_) rfl (by kernel_rfl) (by kernel_rfl) (by kernel_rfl) (fun _ _ _ h => h) (Or.inl ⟨by rfl, ?_⟩) (by assumption) ?_
      rotate_left
      · intro w hSw; (try dsimp only at hSw); go_simp; try with_reducible rfl
      (try simp only [List.getElem_toArray, List.getElem_cons_succ, List.getElem_cons_zero, Act.put, List.setIfInBounds_toArray, List.set_cons_zero, List.set_cons_succ])
      refine wpAnyH_ready (rs := [11]) (by kernel_rfl) (by simp) ?_
      refine AllReadyH.cons rfl (fun K hK => ?_) (AllReadyH.nil)
      · go_simp
        refine hK.out _ _ ?_ (fun hHeld => ?_)
        · (try dsimp only); (first | assumption | exact HB.out.2.drew | exact below_put3 (by assumption) _ _ _)
        clear hK K
        (try simp only [List.getElem_toArray, List.getElem_cons_succ, List.getElem_cons_zero, Act.put, List.setIfInBounds_toArray, List.set_cons_zero, List.set_cons_succ])
        refine wpAnyH_take (i := 12) (v := ?_) rfl (by kernel_rfl) (by kernel_rfl) (by kernel_rfl) (fun _ _ _ h => h) (Or.inl ⟨by rfl, ?_⟩) (by assumption) ?_
        rotate_left
        · intro w hSw; (try dsimp only at hSw); go_simp; try with_reducible rfl
        (try simp only [List.getElem_toArray, List.getElem_cons_succ, List.getElem_cons_zero, Act.put, List.setIfInBounds_toArray, List.set_cons_zero, List.set_cons_succ])
        refine wpAnyH_take (i := 13) (v := ?_) rfl (by kernel_rfl) (by kernel_rfl) (by kernel_rfl) (fun _ _ _ h => h) (Or.inl ⟨by rfl, ?_⟩) (by assumption) ?_
        rotate_left
        · intro w hSw; (try dsimp only at hSw); go_simp; try with_reducible rfl
        (try simp only [List.getElem_toArray, List.getElem_cons_succ, List.getElem_cons_zero, Act.put, List.setIfInBounds_toArray, List.set_cons_zero, List.set_cons_succ])
        refine wpAnyH_done (by kernel_rfl) ?_ _
        refine NoPanic.normal ?_
        have hbl := hHeld
        go_wp2_with fail
        exact bodyPost_ret (v := .tuple #[.agg #[.int .u8 (c0 : Int), .int .u8 (c1 : Int), .string (ofL B)], .int .i64 ((L : Int) + 9), .int .i64 0]) (by simp [results, Tryd.results16, go_sem, r0, r1, r2]) rfl ⟨by rw [HV.out], hbl⟩
end Go.Proofs.YtecgedbabcdfkaaDoor
