/-
  THE LAW NotesReads, walked.
-/
import Derived.Test.YtabnkbdbbneihaaNtN
import Derived.Deep.RegionHeld3
import Derived.Deep.DeepCutAuto
namespace Go.Proofs.Ytabnkbdbbneihaa
open Go.ChangeShapes Go.WideShapes Go.ChangeAt Go.RowKit

namespace Nt
theorem lFail_ne (s : LSt) {c : Int} (hc : c ≠ 0) : (lFail s c).2 ≠ 0 := by
  unfold lFail
  split
  · rename_i h
    rcases h with h | h
    · exact absurd h hc
    · exact h
  · exact hc
theorem readA_len {s : LSt} (h : lOk s) : (readA s).2.length ≤ 32 ∧ (readA s).2.length ≤ (readA s).1 ∧ (readA s).1 < 18446744073709551616 := by
  unfold readA
  by_cases he : (readE s).2 ≠ 0
  · rw [if_pos he]; exact ⟨by simp, by simp, by decide⟩
  · rw [if_neg he]
    refine ⟨?_, ?_, readT_lt s⟩ <;> dsimp only <;> rw [rds_len]
    all_goals
      have hm : ¬ 32 < readN s ∧ readN s = min (readT s) 32 := by
        have hk := lOk_raw (lOk_raw h 8) 1
        by_cases h1 : 32 < readN s
        · exfalso
          apply he
          have e : readS s = lFail (lRaw (lRaw s 8) 1) 6 := by unfold readS mid; rw [if_pos h1]
          unfold readE
          rw [rds_err _ (by rw [e]; exact lOk_fail hk _) (by rw [e]; exact lFail_ne _ (by decide)), e]
          exact lFail_ne _ (by decide)
        · by_cases h2 : readN s = min (readT s) 32
          · exact ⟨h1, h2⟩
          · exfalso
            apply he
            have e : readS s = lFail (lRaw (lRaw s 8) 1) 7 := by unfold readS mid; rw [if_neg h1, if_pos h2]
            unfold readE
            rw [rds_err _ (by rw [e]; exact lOk_fail hk _) (by rw [e]; exact lFail_ne _ (by decide)), e]
            exact lFail_ne _ (by decide)
      omega
theorem addK_T {T : Nat} {l : List Nt} {x : Nt} (h : l.length ≤ T) : (addK T l x).length ≤ addT T x := by
  unfold addK addT
  split
  · exact h
  · split
    · exact h
    · rw [List.length_append, List.length_drop]; simp; omega
theorem addT_lt {T : Nat} {x : Nt} (h : T < 18446744073709551616) : addT T x < 18446744073709551616 := by
  unfold addT
  split
  · exact h
  · split <;> omega
end Nt
theorem drewB (w : World) (n : Nat) : Below w.heap.size w (w.drewN n) := ⟨rfl, rfl, rfl, Nat.le_refl _, fun _ _ => rfl⟩
theorem cell_onB {w w' : World} {a : Addr} {v : Value} (hb : Below w.heap.size w w') (h : w.cell? a = some v) : w'.cell? a = some v := (hb.cell (World.block_lt_of_cell? w _ h)).trans h
attribute [local go_sem ↓] rnt_eql
attribute [local go_sem] guardRNt
set_option maxRecDepth 100000 in
set_option maxHeartbeats 16000000 in
theorem notesReads_walk (l : List UInt8) (x : Nt) (k : Nat) (w : World) (hl : l.length ≤ 9223372036854775807) (hx : x.Fits) (hk : k < 18446744073709551616) :
    Calls Try.prog 4 #[.string (ofL l), .agg #[.int .u64 (x.t : Int), .int .u8 (x.k : Int), .string (ofL x.b)], .int .u64 (k : Int)] w fun e w' => e = .returned (.bool true) ∧ Below w.heap.size w w' := by
  have hz : (ofL l).size = l.length := ofL_size l
  have hzx : (ofL x.b).size = x.b.length := ofL_size x.b
  have hx63 := hx.2.2
  have HAW := Lib.hid (awake19_any (w.alloc (.cells #[.int .u64 (x.t : Int), .int .u8 (x.k : Int), .string (ofL x.b)] 32)))
  have HA0 := Lib.hid (alloc1B w (.cells #[.int .u64 (x.t : Int), .int .u8 (x.k : Int), .string (ofL x.b)] 32))
  have HX0 := Lib.hid (show (w.alloc (.cells #[.int .u64 (x.t : Int), .int .u8 (x.k : Int), .string (ofL x.b)] 32)).cell? ⟨w.heap.size, 0, none⟩ = some (.int .u64 (x.t : Int)) ∧ (w.alloc (.cells #[.int .u64 (x.t : Int), .int .u8 (x.k : Int), .string (ofL x.b)] 32)).cell? ⟨w.heap.size, 1, none⟩ = some (.int .u8 (x.k : Int)) ∧ (w.alloc (.cells #[.int .u64 (x.t : Int), .int .u8 (x.k : Int), .string (ofL x.b)] 32)).cell? ⟨w.heap.size, 2, none⟩ = some (.string (ofL x.b)) from ⟨cell_new _ _ _ _ _ rfl, cell_new _ _ _ _ _ rfl, cell_new _ _ _ _ _ rfl⟩)
  go_enter Try.func4, Try.ntmps4
  go_wp2_with fail
  refine HAW.out.mono ?_
  rintro e w1 ⟨rfl, b1⟩
  have q0 := (b1.cell (p := ⟨w.heap.size, 0, none⟩) (by simp)).trans HX0.out.1
  have q1 := (b1.cell (p := ⟨w.heap.size, 1, none⟩) (by simp)).trans HX0.out.2.1
  have q2 := (b1.cell (p := ⟨w.heap.size, 2, none⟩) (by simp)).trans HX0.out.2.2
  have ql : w.heap.size < w1.heap.size := Nat.lt_of_lt_of_le (by simp) b1.size
  have HQ := Lib.hid (And.intro q0 (And.intro q1 (And.intro q2 ql)))
  have HB1 := Lib.hid (bthen HA0.out b1 (Nat.le_refl _))
  clear b1 HX0
  by_cases h1 : 1000 < l.length
  · go_wp2_with fail
    go_ret
    exact ⟨rfl, HB1.out⟩
  · by_cases h2 : 80 < x.b.length
    · go_wp2_with fail
      go_ret
      exact ⟨rfl, HB1.out⟩
    · have HNEW := Lib.hid (inew_l l w1)
      go_wp2_with fail
      refine HNEW.out.mono ?_
      rintro e w2 ⟨rfl, hi2, b2⟩
      have HI2 := Lib.hid ((rdr_in w1.heap.size).on hi2 (alloc1B w2 (.cells #[.string (ofL l), .int .i64 0, .int .i64 0] 55)))
      have HR2 := Lib.hid (RefL.new l w2 55)
      have HB2 := Lib.hid (bthen (bthen HB1.out b2 (Nat.le_refl _)) (alloc1B w2 (.cells #[.string (ofL l), .int .i64 0, .int .i64 0] 55)) (Nat.le_refl _))
      have hl1 : w1.heap.size < w2.heap.size := hi2.lt
      have hok : lOk (l, (0 : Int)) := lOk_new l
      have HRA := Lib.hid (Nt.readA_len hok)
      have HP := Lib.hid (fun W h => ntRead_any w1.heap.size (l, 0) W h hok)
      have HRP := Lib.hid (fun W h => r19Read_any w2.heap.size (ofL l) (l, 0) W h (by omega) hok)
      unfold ReadPost at HP HRP
      have HX2 := Lib.hid (show (w2.alloc (.cells #[.string (ofL l), .int .i64 0, .int .i64 0] 55)).cell? ⟨w.heap.size, 0, none⟩ = some (.int .u64 (x.t : Int)) ∧ (w2.alloc (.cells #[.string (ofL l), .int .i64 0, .int .i64 0] 55)).cell? ⟨w.heap.size, 1, none⟩ = some (.int .u8 (x.k : Int)) ∧ (w2.alloc (.cells #[.string (ofL l), .int .i64 0, .int .i64 0] 55)).cell? ⟨w.heap.size, 2, none⟩ = some (.string (ofL x.b)) ∧ w.heap.size < (w2.alloc (.cells #[.string (ofL l), .int .i64 0, .int .i64 0] 55)).heap.size from ⟨cell_onB (alloc1B _ _) (cell_onB b2 HQ.out.1), cell_onB (alloc1B _ _) (cell_onB b2 HQ.out.2.1), cell_onB (alloc1B _ _) (cell_onB b2 HQ.out.2.2.1), by have := HQ.out.2.2.2; simp; omega⟩)
      have hwq : w.heap.size < w1.heap.size := HQ.out.2.2.2
      clear hi2 b2 hok HNEW
      go_wp2_with fail
      refine (HP.out _ HI2.out).mono ?_
      rintro e w4 ⟨A4, c4, rfl, hc4, hn4, hN4, ho4, hi4, hg4⟩
      have HR4 := Lib.hid ((rdr_ref w2.heap.size (ofL l)).gr HR2.out hg4 (fun e => by have := Option.some.inj e; omega))
      have HI4 := Lib.hid hi4
      have HN4 := Lib.hid hN4
      have HO4 := Lib.hid (show ∀ a, A4 = some a → w2.heap.size < a.block from fun a ha => by have := ho4 a ha; simp at this; omega)
      have HCC4 := Lib.hid (And.intro hc4 hn4)
      have HB4 := Lib.hid (HB2.out.grown hg4 HB2.out.size (fun k hk => by cases hk; have := HB1.out.size; omega))
      have HLT4 := Lib.hid (Nat.lt_of_lt_of_le (show w2.heap.size < _ from by simp) hg4.size)
      have HX24 := Lib.hid (show w4.cell? ⟨w.heap.size, 0, none⟩ = some (.int .u64 (x.t : Int)) ∧ w4.cell? ⟨w.heap.size, 1, none⟩ = some (.int .u8 (x.k : Int)) ∧ w4.cell? ⟨w.heap.size, 2, none⟩ = some (.string (ofL x.b)) ∧ w.heap.size < w4.heap.size from ⟨hg4.cell HX2.out.1 (fun e => by have := Option.some.inj e; simp only at this; omega), hg4.cell HX2.out.2.1 (fun e => by have := Option.some.inj e; simp only at this; omega), hg4.cell HX2.out.2.2.1 (fun e => by have := Option.some.inj e; simp only at this; omega), Nat.lt_of_lt_of_le HX2.out.2.2.2 hg4.size⟩)
      clear hc4 hn4 hN4 ho4 hi4 hg4 HX2
      go_wp2_with fail
      refine (HRP.out _ HR4.out).mono ?_
      rintro e w5 ⟨A5, c5, rfl, hc5, hn5, hN5, ho5, hi5, hg5⟩
      have HR5 := Lib.hid hi5
      have HI5 := Lib.hid ((rdr_in w1.heap.size).gr HI4.out hg5 (fun e => by have := Option.some.inj e; omega))
      have HNP := Lib.hid (Rws.keep HN4.out hg5 (fun a ha e => by have := HO4.out a ha; have := Option.some.inj e; omega))
      have HND := Lib.hid hN5
      have HCC5 := Lib.hid (And.intro hc5 hn5)
      have HB5 := Lib.hid (HB4.out.grown hg5 HB4.out.size (fun k hk => by cases hk; have := HB1.out.size; omega))
      have HX25 := Lib.hid (show w5.cell? ⟨w.heap.size, 0, none⟩ = some (.int .u64 (x.t : Int)) ∧ w5.cell? ⟨w.heap.size, 1, none⟩ = some (.int .u8 (x.k : Int)) ∧ w5.cell? ⟨w.heap.size, 2, none⟩ = some (.string (ofL x.b)) ∧ w.heap.size < w5.heap.size from ⟨hg5.cell HX24.out.1 (fun e => by have := Option.some.inj e; simp only at this; omega), hg5.cell HX24.out.2.1 (fun e => by have := Option.some.inj e; simp only at this; omega), hg5.cell HX24.out.2.2.1 (fun e => by have := Option.some.inj e; simp only at this; omega), Nat.lt_of_lt_of_le HX24.out.2.2.2 hg5.size⟩)
      clear HX24 hc5 hn5 hN5 ho5 hi5 hg5 HI2 HR2 HB2 HI4 HR4 HN4 HO4 HB4 HP HRP
      generalize Nt.readA (l, 0) = RA at *
      generalize Nt.readE (l, 0) = RE at *
      obtain ⟨T, L⟩ := RA
      simp only at HRA HNP HND HCC4 HCC5
      have HX5 := Lib.hid (show w5.cell? ⟨w.heap.size, 0, none⟩ = some (.int .u64 (x.t : Int)) ∧ w5.cell? ⟨w.heap.size, 1, none⟩ = some (.int .u8 (x.k : Int)) ∧ w5.cell? ⟨w.heap.size, 2, none⟩ = some (.string (ofL x.b)) ∧ w.heap.size < w5.heap.size from
        (HX25.out))
      go_wp2_with fail
      have HN7 := Lib.hid ((Du2.new w5 (.int .u64 (T : Int)) (.slice A4 L.length c4) 27).on (alloc1B _ (.cells #[.int .u64 (T : Int), .slice A5 L.length c5] 30)))
      have HM7 := Lib.hid (Du2.new (w5.alloc (.cells #[.int .u64 (T : Int), .slice A4 L.length c4] 27)) (.int .u64 (T : Int)) (.slice A5 L.length c5) 30)
      rw [show (w5.alloc (.cells #[.int .u64 (T : Int), .slice A4 L.length c4] 27)).heap.size = w5.heap.size + 1 by simp] at HM7
      have hb57 : Below w5.heap.size w5 ((w5.alloc (.cells #[.int .u64 (T : Int), .slice A4 L.length c4] 27)).alloc (.cells #[.int .u64 (T : Int), .slice A5 L.length c5] 30)) := (alloc1B _ _).trans ((alloc1B _ _).mono (by simp))
      have HB57 := Lib.hid hb57
      have HI7 := Lib.hid ((rdr_in w1.heap.size).on HI5.out hb57)
      have HR7 := Lib.hid ((rdr_ref w2.heap.size (ofL l)).on HR5.out hb57)
      have HNP7 := Lib.hid (show Nts _ A4 L from Rws.on HNP.out hb57)
      have HND7 := Lib.hid (Nts.on HND.out hb57)
      have HB7 := Lib.hid (bthen HB5.out hb57 (Nat.le_refl _))
      have HX7 := Lib.hid (And.intro ((hb57.cell (p := ⟨w.heap.size, 0, none⟩) HX5.out.2.2.2).trans HX5.out.1) (And.intro ((hb57.cell (p := ⟨w.heap.size, 1, none⟩) HX5.out.2.2.2).trans HX5.out.2.1) (And.intro ((hb57.cell (p := ⟨w.heap.size, 2, none⟩) HX5.out.2.2.2).trans HX5.out.2.2.1) (Nat.lt_of_lt_of_le HX5.out.2.2.2 hb57.size))))
      clear hb57 HI5 HR5 HNP HND HB5 HX5
      generalize (w5.alloc (.cells #[.int .u64 (T : Int), .slice A4 L.length c4] 27)).alloc (.cells #[.int .u64 (T : Int), .slice A5 L.length c5] 30) = w7 at *
      generalize hbi : w1.heap.size = bi at *
      generalize hbq : w2.heap.size = bq at *
      generalize hp1 : w5.heap.size + 1 = p1 at *
      generalize hp : w5.heap.size = p at *
      have hS0 := Lib.hid (show (fun a => a.cell? ⟨p, 0, none⟩ = some (.int .u64 (T : Int)) ∧ a.cell? ⟨p, 1, none⟩ = some (.slice A4 L.length c4) ∧ a.cell? ⟨p1, 0, none⟩ = some (.int .u64 (T : Int)) ∧ a.cell? ⟨p1, 1, none⟩ = some (.slice A5 L.length c5) ∧ a.cell? ⟨bq, 2, none⟩ = some (.int .i64 RE.2) ∧ Below w7.heap.size w7 a) w7.drew from ⟨HN7.out.c0, HN7.out.c1, HM7.out.c0, HM7.out.c1, HR7.out.code, (Below.refl _ _).drew⟩)
      have HON := Lib.hid (fun (W W' : World) (h : (fun a => a.cell? ⟨p, 0, none⟩ = some (.int .u64 (T : Int)) ∧ a.cell? ⟨p, 1, none⟩ = some (.slice A4 L.length c4) ∧ a.cell? ⟨p1, 0, none⟩ = some (.int .u64 (T : Int)) ∧ a.cell? ⟨p1, 1, none⟩ = some (.slice A5 L.length c5) ∧ a.cell? ⟨bq, 2, none⟩ = some (.int .i64 RE.2) ∧ Below w7.heap.size w7 a) W) (hb : Below W.heap.size W W') => show (fun a => a.cell? ⟨p, 0, none⟩ = some (.int .u64 (T : Int)) ∧ a.cell? ⟨p, 1, none⟩ = some (.slice A4 L.length c4) ∧ a.cell? ⟨p1, 0, none⟩ = some (.int .u64 (T : Int)) ∧ a.cell? ⟨p1, 1, none⟩ = some (.slice A5 L.length c5) ∧ a.cell? ⟨bq, 2, none⟩ = some (.int .i64 RE.2) ∧ Below w7.heap.size w7 a) W' from ⟨cell_onB hb h.1, cell_onB hb h.2.1, cell_onB hb h.2.2.1, cell_onB hb h.2.2.2.1, cell_onB hb h.2.2.2.2.1, bthen h.2.2.2.2.2 hb (Nat.le_refl _)⟩)
      have HGET := Lib.hid (fun (W : World) (h : (fun a => a.cell? ⟨p, 0, none⟩ = some (.int .u64 (T : Int)) ∧ a.cell? ⟨p, 1, none⟩ = some (.slice A4 L.length c4) ∧ a.cell? ⟨p1, 0, none⟩ = some (.int .u64 (T : Int)) ∧ a.cell? ⟨p1, 1, none⟩ = some (.slice A5 L.length c5) ∧ a.cell? ⟨bq, 2, none⟩ = some (.int .i64 RE.2) ∧ Below w7.heap.size w7 a) W) => h.2.2.2.2.2)
      refine wp_region_noPanic ?_
      refine wp_region_held_drew (S := (fun a => a.cell? ⟨p, 0, none⟩ = some (.int .u64 (T : Int)) ∧ a.cell? ⟨p, 1, none⟩ = some (.slice A4 L.length c4) ∧ a.cell? ⟨p1, 0, none⟩ = some (.int .u64 (T : Int)) ∧ a.cell? ⟨p1, 1, none⟩ = some (.slice A5 L.length c5) ∧ a.cell? ⟨bq, 2, none⟩ = some (.int .i64 RE.2) ∧ Below w7.heap.size w7 a)) (by kernel_rfl) ?_ (fun hHeld => ?_)
      · (try dsimp only); first | exact hS0.out | assumption | exact HON.out _ _ (by assumption) (drewB _ nq) | exact HON.out _ _ (by assumption) hb2
      refine wpAnyH_take (i := 0) (v := ?_) rfl (by kernel_rfl) (by kernel_rfl) (by kernel_rfl) (fun _ _ _ h => h) (Or.inl ⟨by rfl, ?_⟩) (by assumption) ?_
      rotate_left
      · intro w hSw; (try dsimp only at hSw); go_simp; try with_reducible rfl
      (try simp only [List.getElem_toArray, List.getElem_cons_zero, Act.put, List.setIfInBounds_toArray, List.set_cons_zero, List.set_cons_succ])
      refine wpAnyH_take (i := 2) (v := ?_) rfl (by kernel_rfl) (by kernel_rfl) (by kernel_rfl) (fun _ _ _ h => h) (Or.inl ⟨by rfl, ?_⟩) (by assumption) ?_
      rotate_left
      · intro w hSw; (try dsimp only at hSw); go_simp; try with_reducible rfl
      (try simp only [List.getElem_toArray, List.getElem_cons_succ, List.getElem_cons_zero, Act.put, List.setIfInBounds_toArray, List.set_cons_zero, List.set_cons_succ])
      refine wpAnyH_ready (rs := [1]) (by kernel_rfl) (by simp) ?_
      refine AllReadyH.cons rfl (fun K hK => ?_) (AllReadyH.nil)
      · go_simp
        (go_at_call 12; refine (of19_any T c4 A4 L _ (by have := HRA.out.1; omega) (HNP7.out.on (HGET.out _ (by assumption)))).mono ?_; rintro e wx ⟨A6, c6, rfl, -, -, hN6, hb2⟩; have HN6 := Lib.hid hN6; clear hN6)
        refine hK.out _ _ ?_ (fun hHeld => ?_)
        · (try dsimp only); first | exact hS0.out | assumption | exact HON.out _ _ (by assumption) (drewB _ nq) | exact HON.out _ _ (by assumption) hb2
        clear hK K
        (try simp only [List.getElem_toArray, List.getElem_cons_succ, List.getElem_cons_zero, Act.put, List.setIfInBounds_toArray, List.set_cons_zero, List.set_cons_succ])
        refine wpAnyH_ready (rs := [3]) (by kernel_rfl) (by simp) ?_
        refine AllReadyH.cons rfl (fun K hK => ?_) (AllReadyH.nil)
        · go_simp
          (go_at_call 11; refine (r19Same_self T c6 c5 A6 A5 L _ (by have := HRA.out.1; omega) HN6.out (HND7.out.on (HGET.out _ (by assumption)))).mono ?_; rintro e wx ⟨rfl, hb2⟩)
          refine hK.out _ _ ?_ (fun hHeld => ?_)
          · (try dsimp only); first | exact hS0.out | assumption | exact HON.out _ _ (by assumption) (drewB _ nq) | exact HON.out _ _ (by assumption) hb2
          clear hK K
          (try simp only [List.getElem_toArray, List.getElem_cons_succ, List.getElem_cons_zero, Act.put, List.setIfInBounds_toArray, List.set_cons_zero, List.set_cons_succ])
          refine wpAnyH_take (i := 4) (v := ?_) rfl (by kernel_rfl) (by kernel_rfl) (by kernel_rfl) (fun _ _ _ h => h) (Or.inl ⟨by rfl, ?_⟩) (by assumption) ?_
          rotate_left
          · intro w hSw; (try dsimp only at hSw); go_simp; try with_reducible rfl
          (try simp only [List.getElem_toArray, List.getElem_cons_succ, List.getElem_cons_zero, Act.put, List.setIfInBounds_toArray, List.set_cons_zero, List.set_cons_succ])
          refine wpAnyH_take (i := 5) (v := ?_) rfl (by kernel_rfl) (by kernel_rfl) (by kernel_rfl) (fun _ _ _ h => h) (Or.inl ⟨by rfl, ?_⟩) (by assumption) ?_
          rotate_left
          · intro w hSw; (try dsimp only at hSw); go_simp; try with_reducible rfl
          (try simp only [List.getElem_toArray, List.getElem_cons_succ, List.getElem_cons_zero, Act.put, List.setIfInBounds_toArray, List.set_cons_zero, List.set_cons_succ])
          refine wpAnyH_take (i := 6) (v := ?_) rfl (by kernel_rfl) (by kernel_rfl) (by kernel_rfl) (fun _ _ _ h => h) (Or.inl ⟨by rfl, ?_⟩) (by assumption) ?_
          rotate_left
          · intro w hSw; (try dsimp only at hSw); go_simp; try with_reducible rfl
          (try simp only [List.getElem_toArray, List.getElem_cons_succ, List.getElem_cons_zero, Act.put, List.setIfInBounds_toArray, List.set_cons_zero, List.set_cons_succ])
          refine wpAnyH_take (i := 8) (v := ?_) rfl (by kernel_rfl) (by kernel_rfl) (by kernel_rfl) (fun _ _ _ h => h) (Or.inl ⟨by rfl, ?_⟩) (by assumption) ?_
          rotate_left
          · intro w hSw; (try dsimp only at hSw); go_simp; try with_reducible rfl
          (try simp only [List.getElem_toArray, List.getElem_cons_succ, List.getElem_cons_zero, Act.put, List.setIfInBounds_toArray, List.set_cons_zero, List.set_cons_succ])
          refine wpAnyH_take (i := 9) (v := ?_) rfl (by kernel_rfl) (by kernel_rfl) (by kernel_rfl) (fun _ _ _ h => h) (Or.inl ⟨by rfl, ?_⟩) (by assumption) ?_
          rotate_left
          · intro w hSw; (try dsimp only at hSw); go_simp; try with_reducible rfl
          (try simp only [List.getElem_toArray, List.getElem_cons_succ, List.getElem_cons_zero, Act.put, List.setIfInBounds_toArray, List.set_cons_zero, List.set_cons_succ])
          refine wpAnyH_take (i := 10) (v := ?_) rfl (by kernel_rfl) (by kernel_rfl) (by kernel_rfl) (fun _ _ _ h => h) (Or.inl ⟨by rfl, ?_⟩) (by assumption) ?_
          rotate_left
          · intro w hSw; (try dsimp only at hSw); go_simp; try with_reducible rfl
          (try simp only [List.getElem_toArray, List.getElem_cons_succ, List.getElem_cons_zero, Act.put, List.setIfInBounds_toArray, List.set_cons_zero, List.set_cons_succ])
          refine wpAnyH_take (i := 11) (v := ?_) rfl (by kernel_rfl) (by kernel_rfl) (by kernel_rfl) (fun _ _ _ h => h) (Or.inl ⟨by rfl, ?_⟩) (by assumption) ?_
          rotate_left
          · intro w hSw; (try dsimp only at hSw); go_simp; try with_reducible rfl
          (try simp only [List.getElem_toArray, List.getElem_cons_succ, List.getElem_cons_zero, Act.put, List.setIfInBounds_toArray, List.set_cons_zero, List.set_cons_succ])
          refine wpAnyH_ready (rs := [7]) (by kernel_rfl) (by simp) ?_
          refine AllReadyH.cons rfl (fun K hK => ?_) (AllReadyH.nil)
          · go_simp
            (go_at_call 22; refine (ierr_l bi RE _ ((rdr_in bi).on HI7.out (HGET.out _ (by assumption)))).mono ?_; rintro e wx ⟨rfl, rfl⟩)
            refine hK.out _ _ ?_ (fun hHeld => ?_)
            · (try dsimp only); first | exact hS0.out | assumption | exact HON.out _ _ (by assumption) (drewB _ nq) | exact HON.out _ _ (by assumption) hb2
            clear hK K
            (try simp only [List.getElem_toArray, List.getElem_cons_succ, List.getElem_cons_zero, Act.put, List.setIfInBounds_toArray, List.set_cons_zero, List.set_cons_succ])
            refine wpAnyH_take (i := 12) (v := ?_) rfl (by kernel_rfl) (by kernel_rfl) (by kernel_rfl) (fun _ _ _ h => h) (Or.inl ⟨by rfl, ?_⟩) (by assumption) ?_
            rotate_left
            · intro w hSw; (try dsimp only at hSw); go_simp; try with_reducible rfl
            (try simp only [List.getElem_toArray, List.getElem_cons_succ, List.getElem_cons_zero, Act.put, List.setIfInBounds_toArray, List.set_cons_zero, List.set_cons_succ])
            refine wpAnyH_take (i := 13) (v := ?_) rfl (by kernel_rfl) (by kernel_rfl) (by kernel_rfl) (fun _ _ _ h => h) (Or.inl ⟨by rfl, ?_⟩) (by assumption) ?_
            rotate_left
            · intro w hSw; (try dsimp only at hSw); go_simp; try with_reducible rfl
            (try simp only [List.getElem_toArray, List.getElem_cons_succ, List.getElem_cons_zero, Act.put, List.setIfInBounds_toArray, List.set_cons_zero, List.set_cons_succ])
            refine wpAnyH_take (i := 14) (v := ?_) rfl (by kernel_rfl) (by kernel_rfl) (by kernel_rfl) (fun _ _ _ h => h) (Or.inl ⟨by rfl, ?_⟩) (by assumption) ?_
            rotate_left
            · intro w hSw; (try dsimp only at hSw); go_simp; try with_reducible rfl
            (try simp only [List.getElem_toArray, List.getElem_cons_succ, List.getElem_cons_zero, Act.put, List.setIfInBounds_toArray, List.set_cons_zero, List.set_cons_succ])
            refine wpAnyH_take (i := 15) (v := ?_) rfl (by kernel_rfl) (by kernel_rfl) (by kernel_rfl) (fun _ _ _ h => h) (Or.inl ⟨by rfl, ?_⟩) (by assumption) ?_
            rotate_left
            · intro w hSw; (try dsimp only at hSw); go_simp; try with_reducible rfl
            (try simp only [List.getElem_toArray, List.getElem_cons_succ, List.getElem_cons_zero, Act.put, List.setIfInBounds_toArray, List.set_cons_zero, List.set_cons_succ])
            refine wpAnyH_take (i := 17) (v := ?_) rfl (by kernel_rfl) (by kernel_rfl) (by kernel_rfl) (fun _ _ _ h => h) (Or.inl ⟨by rfl, ?_⟩) (by assumption) ?_
            rotate_left
            · intro w hSw; (try dsimp only at hSw); go_simp; try with_reducible rfl
            (try simp only [List.getElem_toArray, List.getElem_cons_succ, List.getElem_cons_zero, Act.put, List.setIfInBounds_toArray, List.set_cons_zero, List.set_cons_succ])
            refine wpAnyH_ready (rs := [16]) (by kernel_rfl) (by simp) ?_
            refine AllReadyH.cons rfl (fun K hK => ?_) (AllReadyH.nil)
            · go_simp
              (go_at_call 23; refine (ileft_l bi RE _ ((rdr_in bi).on HI7.out (HGET.out _ (by assumption)))).mono ?_; rintro e wx ⟨rfl, rfl⟩)
              refine hK.out _ _ ?_ (fun hHeld => ?_)
              · (try dsimp only); first | exact hS0.out | assumption | exact HON.out _ _ (by assumption) (drewB _ nq) | exact HON.out _ _ (by assumption) hb2
              clear hK K
              (try simp only [List.getElem_toArray, List.getElem_cons_succ, List.getElem_cons_zero, Act.put, List.setIfInBounds_toArray, List.set_cons_zero, List.set_cons_succ])
              refine wpAnyH_ready (rs := [18]) (by kernel_rfl) (by simp) ?_
              refine AllReadyH.cons rfl (fun K hK => ?_) (AllReadyH.nil)
              · go_simp
                (go_at_call 24; refine (rileft_l bq (ofL l) RE _ ((rdr_ref bq (ofL l)).on HR7.out (HGET.out _ (by assumption))) (by omega)).mono ?_; rintro e wx ⟨rfl, nq, rfl⟩)
                refine hK.out _ _ ?_ (fun hHeld => ?_)
                · (try dsimp only); first | exact hS0.out | assumption | exact HON.out _ _ (by assumption) (drewB _ nq) | exact HON.out _ _ (by assumption) hb2
                clear hK K
                (try simp only [List.getElem_toArray, List.getElem_cons_succ, List.getElem_cons_zero, Act.put, List.setIfInBounds_toArray, List.set_cons_zero, List.set_cons_succ])
                refine wpAnyH_take (i := 19) (v := ?_) rfl (by kernel_rfl) (by kernel_rfl) (by kernel_rfl) (fun _ _ _ h => h) (Or.inl ⟨by rfl, ?_⟩) (by assumption) ?_
                rotate_left
                · intro w hSw; (try dsimp only at hSw); go_simp; try with_reducible rfl
                (try simp only [List.getElem_toArray, List.getElem_cons_succ, List.getElem_cons_zero, Act.put, List.setIfInBounds_toArray, List.set_cons_zero, List.set_cons_succ])
                refine wpAnyH_take (i := 20) (v := ?_) rfl (by kernel_rfl) (by kernel_rfl) (by kernel_rfl) (fun _ _ _ h => h) (Or.inl ⟨by rfl, ?_⟩) (by assumption) ?_
                rotate_left
                · intro w hSw; (try dsimp only at hSw); go_simp; try with_reducible rfl
                (try simp only [List.getElem_toArray, List.getElem_cons_succ, List.getElem_cons_zero, Act.put, List.setIfInBounds_toArray, List.set_cons_zero, List.set_cons_succ])
                refine wpAnyH_done (by kernel_rfl) ?_ _
                refine NoPanic.normal ?_
                have HB9 := Lib.hid (HGET.out _ (by assumption))
                clear hHeld hS0 HON HN6 HI7 HR7 HGET
                generalize wx.drewN nq = w9 at *
                clear hb2
                have hn9 := HN7.out.on HB9.out
                have hm9 := HM7.out.on HB9.out
                have e0 := hn9.c0
                have e1 := hn9.c1
                have el := hn9.lt
                have x0 := (HB9.out.cell (p := ⟨w.heap.size, 0, none⟩) HX7.out.2.2.2).trans HX7.out.1
                have x1 := (HB9.out.cell (p := ⟨w.heap.size, 1, none⟩) HX7.out.2.2.2).trans HX7.out.2.1
                have x2 := (HB9.out.cell (p := ⟨w.heap.size, 2, none⟩) HX7.out.2.2.2).trans HX7.out.2.2.1
                have xl : w.heap.size < w9.heap.size := Nat.lt_of_lt_of_le HX7.out.2.2.2 HB9.out.size
                have HM9 := Lib.hid hm9
                have HND9 := Lib.hid (HND7.out.on HB9.out)
                have HNP9 := Lib.hid (HNP7.out.on HB9.out)
                have HBW := Lib.hid (bthen HB7.out HB9.out (Nat.le_refl _))
                have HCA := Lib.hid (fun W h => ntAdd_any T c4 A4 L x W HRA.out.1 HCC4.out.1 HCC4.out.2 HRA.out.2.2 hx63 h)
                have HCB := Lib.hid (fun W h => r19Add_any T c5 A5 L x W HRA.out.1 HCC5.out.1 HCC5.out.2 HRA.out.2.2 hx63 h)
                have hk32 := Nt.addK_le (T := T) (x := x) HRA.out.1
                have hkT := Nt.addK_T (x := x) HRA.out.2.1
                have hT1 := Nt.addT_lt (x := x) HRA.out.2.2
                unfold NtAddPost at HCA HCB
                generalize Nt.addT T x = T1 at *
                generalize Nt.addK T L x = K1 at *
                generalize Nt.addC T x = cd at *
                have HGA := Lib.hid (fun c A W h => ntGet_any T1 c A K1 k W (by omega) hkT hT1 hk h)
                have HGB := Lib.hid (fun c A W h => r19Get_any T1 c A K1 k W (by omega) hkT hT1 hk h)
                unfold GetPost at HGB
                generalize (if Nt.has T1 K1.length k then K1.getD (k - (T1 - K1.length) - 1) Nt.zero else Nt.zero) = y at *
                generalize Nt.has T1 K1.length k = bo at *
                simp only [ntV] at HGA HGB
                clear hn9 hm9 HB9 HN7 HM7 HNP7 HND7 HB7 HX7
                go_wp2_with fail
                refine (HCA.out _ HNP9.out).mono ?_
                rintro e w10 ⟨Aa, ca, rfl, -, -, hNa, -, b10⟩
                have HNa := Lib.hid hNa
                have HM10 := Lib.hid (HM9.out.on b10)
                have HND10 := Lib.hid (HND9.out.on b10)
                have HB10 := Lib.hid (bthen HBW.out b10 (Nat.le_refl _))
                have HX10 := Lib.hid (And.intro (cell_onB b10 x0) (And.intro (cell_onB b10 x1) (And.intro (cell_onB b10 x2) (Nat.lt_of_lt_of_le xl b10.size))))
                clear hNa b10 e0 e1 el x0 x1 x2 xl
                have e0 := HM10.out.c0
                have e1 := HM10.out.c1
                have el := HM10.out.lt
                obtain ⟨x0, x1, x2, xl⟩ := HX10.out
                have HA10 := Lib.hid (alloc1B w10 (.cells #[.int .u64 (T1 : Int), .slice Aa K1.length ca] 27))
                have HAB10 := Lib.hid (Du2.new w10 (.int .u64 (T1 : Int)) (.slice Aa K1.length ca) 27)
                go_wp2_with fail
                refine (HCB.out _ (HND10.out.on HA10.out)).mono ?_
                rintro e w12 ⟨Ab, cb, rfl, -, -, hNb, -, b12⟩
                have HAB12 := Lib.hid ((HAB10.out.on b12).on (alloc1B w12 (.cells #[.int .u64 (T1 : Int), .slice Ab K1.length cb] 30)))
                have HNa12 := Lib.hid (((HNa.out.on HA10.out).on b12).on (alloc1B w12 (.cells #[.int .u64 (T1 : Int), .slice Ab K1.length cb] 30)))
                have HNb12 := Lib.hid (Nts.on hNb (alloc1B w12 (.cells #[.int .u64 (T1 : Int), .slice Ab K1.length cb] 30)))
                have HBB12 := Lib.hid (Du2.new w12 (.int .u64 (T1 : Int)) (.slice Ab K1.length cb) 30)
                have HB12 := Lib.hid (bthen (bthen (bthen HB10.out HA10.out (Nat.le_refl _)) b12 (Nat.le_refl _)) (alloc1B w12 (.cells #[.int .u64 (T1 : Int), .slice Ab K1.length cb] 30)) (Nat.le_refl _))
                clear hNb b12 e0 e1 el x0 x1 x2 xl HX10 HM10 HND10 HAB10 HA10 HNa
                have e0 := HAB12.out.c0
                have e1 := HAB12.out.c1
                have el := HAB12.out.lt
                go_wp2_with fail
                refine (HGA.out _ _ _ HNa12.out).mono ?_
                rintro e w13 ⟨rfl, b13⟩
                have HA13 := Lib.hid (alloc1B w13 (.cells #[.int .u64 (y.t : Int), .int .u8 (y.k : Int), .string (ofL y.b)] 32))
                have HAB13 := Lib.hid ((HAB12.out.on b13).on HA13.out)
                have HBB13 := Lib.hid ((HBB12.out.on b13).on HA13.out)
                have HNa13 := Lib.hid ((HNa12.out.on b13).on HA13.out)
                have HNb13 := Lib.hid ((HNb12.out.on b13).on HA13.out)
                have HB13 := Lib.hid (bthen (bthen HB12.out b13 (Nat.le_refl _)) HA13.out (Nat.le_refl _))
                have HY13 := Lib.hid (show (w13.alloc (.cells #[.int .u64 (y.t : Int), .int .u8 (y.k : Int), .string (ofL y.b)] 32)).cell? ⟨w13.heap.size, 0, none⟩ = some (.int .u64 (y.t : Int)) ∧ (w13.alloc (.cells #[.int .u64 (y.t : Int), .int .u8 (y.k : Int), .string (ofL y.b)] 32)).cell? ⟨w13.heap.size, 1, none⟩ = some (.int .u8 (y.k : Int)) ∧ (w13.alloc (.cells #[.int .u64 (y.t : Int), .int .u8 (y.k : Int), .string (ofL y.b)] 32)).cell? ⟨w13.heap.size, 2, none⟩ = some (.string (ofL y.b)) from ⟨cell_new _ _ _ _ _ rfl, cell_new _ _ _ _ _ rfl, cell_new _ _ _ _ _ rfl⟩)
                clear b13 e0 e1 el HAB12 HBB12 HNa12 HNb12 HB12
                have e0 := HBB13.out.c0
                have e1 := HBB13.out.c1
                have el := HBB13.out.lt
                go_wp2_with fail
                refine (HGB.out _ _ _ HNb13.out).mono ?_
                rintro e w14 ⟨rfl, b14⟩
                have HA14 := Lib.hid (alloc1B w14 (.cells #[.int .u64 (y.t : Int), .int .u8 (y.k : Int), .string (ofL y.b)] 38))
                have hb145 := b14.trans (HA14.out.mono b14.size)
                have HAB15 := Lib.hid (HAB13.out.on hb145)
                have HBB15 := Lib.hid (HBB13.out.on hb145)
                have HNa15 := Lib.hid (HNa13.out.on hb145)
                have HNb15 := Lib.hid (HNb13.out.on hb145)
                have HY15 := Lib.hid (And.intro (cell_onB hb145 HY13.out.1) (And.intro (cell_onB hb145 HY13.out.2.1) (cell_onB hb145 HY13.out.2.2)))
                have HZ15 := Lib.hid (show (w14.alloc (.cells #[.int .u64 (y.t : Int), .int .u8 (y.k : Int), .string (ofL y.b)] 38)).cell? ⟨w14.heap.size, 0, none⟩ = some (.int .u64 (y.t : Int)) ∧ (w14.alloc (.cells #[.int .u64 (y.t : Int), .int .u8 (y.k : Int), .string (ofL y.b)] 38)).cell? ⟨w14.heap.size, 1, none⟩ = some (.int .u8 (y.k : Int)) ∧ (w14.alloc (.cells #[.int .u64 (y.t : Int), .int .u8 (y.k : Int), .string (ofL y.b)] 38)).cell? ⟨w14.heap.size, 2, none⟩ = some (.string (ofL y.b)) from ⟨cell_new _ _ _ _ _ rfl, cell_new _ _ _ _ _ rfl, cell_new _ _ _ _ _ rfl⟩)
                have HB15 := Lib.hid (bthen HB13.out hb145 (Nat.le_refl _))
                clear b14 hb145 e0 e1 el HAB13 HBB13 HNa13 HNb13 HY13 HB13 HA13 HA14
                go_wp2_with fail
                generalize w14.alloc (.cells #[.int .u64 (y.t : Int), .int .u8 (y.k : Int), .string (ofL y.b)] 38) = w15 at *
                generalize hpa : w10.heap.size = pa at *
                generalize hpb : w12.heap.size = pb at *
                generalize hpy : w13.heap.size = py at *
                generalize hpz : w14.heap.size = pz at *
                have hS0 := Lib.hid (show (fun a => a.cell? ⟨pa, 0, none⟩ = some (.int .u64 (T1 : Int)) ∧ a.cell? ⟨pa, 1, none⟩ = some (.slice Aa K1.length ca) ∧ a.cell? ⟨pb, 0, none⟩ = some (.int .u64 (T1 : Int)) ∧ a.cell? ⟨pb, 1, none⟩ = some (.slice Ab K1.length cb) ∧ a.cell? ⟨py, 0, none⟩ = some (.int .u64 (y.t : Int)) ∧ a.cell? ⟨py, 1, none⟩ = some (.int .u8 (y.k : Int)) ∧ a.cell? ⟨py, 2, none⟩ = some (.string (ofL y.b)) ∧ a.cell? ⟨pz, 0, none⟩ = some (.int .u64 (y.t : Int)) ∧ a.cell? ⟨pz, 1, none⟩ = some (.int .u8 (y.k : Int)) ∧ a.cell? ⟨pz, 2, none⟩ = some (.string (ofL y.b)) ∧ Below w15.heap.size w15 a) w15.drew from ⟨HAB15.out.c0, HAB15.out.c1, HBB15.out.c0, HBB15.out.c1, HY15.out.1, HY15.out.2.1, HY15.out.2.2, HZ15.out.1, HZ15.out.2.1, HZ15.out.2.2, (Below.refl _ _).drew⟩)
                have HON := Lib.hid (fun (W W' : World) (h : (fun a => a.cell? ⟨pa, 0, none⟩ = some (.int .u64 (T1 : Int)) ∧ a.cell? ⟨pa, 1, none⟩ = some (.slice Aa K1.length ca) ∧ a.cell? ⟨pb, 0, none⟩ = some (.int .u64 (T1 : Int)) ∧ a.cell? ⟨pb, 1, none⟩ = some (.slice Ab K1.length cb) ∧ a.cell? ⟨py, 0, none⟩ = some (.int .u64 (y.t : Int)) ∧ a.cell? ⟨py, 1, none⟩ = some (.int .u8 (y.k : Int)) ∧ a.cell? ⟨py, 2, none⟩ = some (.string (ofL y.b)) ∧ a.cell? ⟨pz, 0, none⟩ = some (.int .u64 (y.t : Int)) ∧ a.cell? ⟨pz, 1, none⟩ = some (.int .u8 (y.k : Int)) ∧ a.cell? ⟨pz, 2, none⟩ = some (.string (ofL y.b)) ∧ Below w15.heap.size w15 a) W) (hb : Below W.heap.size W W') => show (fun a => a.cell? ⟨pa, 0, none⟩ = some (.int .u64 (T1 : Int)) ∧ a.cell? ⟨pa, 1, none⟩ = some (.slice Aa K1.length ca) ∧ a.cell? ⟨pb, 0, none⟩ = some (.int .u64 (T1 : Int)) ∧ a.cell? ⟨pb, 1, none⟩ = some (.slice Ab K1.length cb) ∧ a.cell? ⟨py, 0, none⟩ = some (.int .u64 (y.t : Int)) ∧ a.cell? ⟨py, 1, none⟩ = some (.int .u8 (y.k : Int)) ∧ a.cell? ⟨py, 2, none⟩ = some (.string (ofL y.b)) ∧ a.cell? ⟨pz, 0, none⟩ = some (.int .u64 (y.t : Int)) ∧ a.cell? ⟨pz, 1, none⟩ = some (.int .u8 (y.k : Int)) ∧ a.cell? ⟨pz, 2, none⟩ = some (.string (ofL y.b)) ∧ Below w15.heap.size w15 a) W' from ⟨cell_onB hb h.1, cell_onB hb h.2.1, cell_onB hb h.2.2.1, cell_onB hb h.2.2.2.1, cell_onB hb h.2.2.2.2.1, cell_onB hb h.2.2.2.2.2.1, cell_onB hb h.2.2.2.2.2.2.1, cell_onB hb h.2.2.2.2.2.2.2.1, cell_onB hb h.2.2.2.2.2.2.2.2.1, cell_onB hb h.2.2.2.2.2.2.2.2.2.1, bthen h.2.2.2.2.2.2.2.2.2.2 hb (Nat.le_refl _)⟩)
                have HGET := Lib.hid (fun (W : World) (h : (fun a => a.cell? ⟨pa, 0, none⟩ = some (.int .u64 (T1 : Int)) ∧ a.cell? ⟨pa, 1, none⟩ = some (.slice Aa K1.length ca) ∧ a.cell? ⟨pb, 0, none⟩ = some (.int .u64 (T1 : Int)) ∧ a.cell? ⟨pb, 1, none⟩ = some (.slice Ab K1.length cb) ∧ a.cell? ⟨py, 0, none⟩ = some (.int .u64 (y.t : Int)) ∧ a.cell? ⟨py, 1, none⟩ = some (.int .u8 (y.k : Int)) ∧ a.cell? ⟨py, 2, none⟩ = some (.string (ofL y.b)) ∧ a.cell? ⟨pz, 0, none⟩ = some (.int .u64 (y.t : Int)) ∧ a.cell? ⟨pz, 1, none⟩ = some (.int .u8 (y.k : Int)) ∧ a.cell? ⟨pz, 2, none⟩ = some (.string (ofL y.b)) ∧ Below w15.heap.size w15 a) W) => h.2.2.2.2.2.2.2.2.2.2)
                refine wp_region_noPanic ?_
                refine wp_region_held_drew (S := (fun a => a.cell? ⟨pa, 0, none⟩ = some (.int .u64 (T1 : Int)) ∧ a.cell? ⟨pa, 1, none⟩ = some (.slice Aa K1.length ca) ∧ a.cell? ⟨pb, 0, none⟩ = some (.int .u64 (T1 : Int)) ∧ a.cell? ⟨pb, 1, none⟩ = some (.slice Ab K1.length cb) ∧ a.cell? ⟨py, 0, none⟩ = some (.int .u64 (y.t : Int)) ∧ a.cell? ⟨py, 1, none⟩ = some (.int .u8 (y.k : Int)) ∧ a.cell? ⟨py, 2, none⟩ = some (.string (ofL y.b)) ∧ a.cell? ⟨pz, 0, none⟩ = some (.int .u64 (y.t : Int)) ∧ a.cell? ⟨pz, 1, none⟩ = some (.int .u8 (y.k : Int)) ∧ a.cell? ⟨pz, 2, none⟩ = some (.string (ofL y.b)) ∧ Below w15.heap.size w15 a)) (by kernel_rfl) ?_ (fun hHeld => ?_)
                · (try dsimp only); first | exact hS0.out | assumption | exact HON.out _ _ (by assumption) hb2
                refine wpAnyH_take (i := 0) (v := ?_) rfl (by kernel_rfl) (by kernel_rfl) (by kernel_rfl) (fun _ _ _ h => h) (Or.inl ⟨by rfl, ?_⟩) (by assumption) ?_
                rotate_left
                · intro w hSw; (try dsimp only at hSw); go_simp; try with_reducible rfl
                (try simp only [List.getElem_toArray, List.getElem_cons_zero, Act.put, List.setIfInBounds_toArray, List.set_cons_zero, List.set_cons_succ])
                refine wpAnyH_take (i := 1) (v := ?_) rfl (by kernel_rfl) (by kernel_rfl) (by kernel_rfl) (fun _ _ _ h => h) (Or.inl ⟨by rfl, ?_⟩) (by assumption) ?_
                rotate_left
                · intro w hSw; (try dsimp only at hSw); go_simp; try with_reducible rfl
                (try simp only [List.getElem_toArray, List.getElem_cons_succ, List.getElem_cons_zero, Act.put, List.setIfInBounds_toArray, List.set_cons_zero, List.set_cons_succ])
                refine wpAnyH_take (i := 2) (v := ?_) rfl (by kernel_rfl) (by kernel_rfl) (by kernel_rfl) (fun _ _ _ h => h) (Or.inl ⟨by rfl, ?_⟩) (by assumption) ?_
                rotate_left
                · intro w hSw; (try dsimp only at hSw); go_simp; try with_reducible rfl
                (try simp only [List.getElem_toArray, List.getElem_cons_succ, List.getElem_cons_zero, Act.put, List.setIfInBounds_toArray, List.set_cons_zero, List.set_cons_succ])
                refine wpAnyH_take (i := 3) (v := ?_) rfl (by kernel_rfl) (by kernel_rfl) (by kernel_rfl) (fun _ _ _ h => h) (Or.inl ⟨by rfl, ?_⟩) (by assumption) ?_
                rotate_left
                · intro w hSw; (try dsimp only at hSw); go_simp; try with_reducible rfl
                (try simp only [List.getElem_toArray, List.getElem_cons_succ, List.getElem_cons_zero, Act.put, List.setIfInBounds_toArray, List.set_cons_zero, List.set_cons_succ])
                refine wpAnyH_take (i := 4) (v := ?_) rfl (by kernel_rfl) (by kernel_rfl) (by kernel_rfl) (fun _ _ _ h => h) (Or.inl ⟨by rfl, ?_⟩) (by assumption) ?_
                rotate_left
                · intro w hSw; (try dsimp only at hSw); go_simp; try with_reducible rfl
                (try simp only [List.getElem_toArray, List.getElem_cons_succ, List.getElem_cons_zero, Act.put, List.setIfInBounds_toArray, List.set_cons_zero, List.set_cons_succ])
                refine wpAnyH_take (i := 6) (v := ?_) rfl (by kernel_rfl) (by kernel_rfl) (by kernel_rfl) (fun _ _ _ h => h) (Or.inl ⟨by rfl, ?_⟩) (by assumption) ?_
                rotate_left
                · intro w hSw; (try dsimp only at hSw); go_simp; try with_reducible rfl
                (try simp only [List.getElem_toArray, List.getElem_cons_succ, List.getElem_cons_zero, Act.put, List.setIfInBounds_toArray, List.set_cons_zero, List.set_cons_succ])
                refine wpAnyH_ready (rs := [5]) (by kernel_rfl) (by simp) ?_
                refine AllReadyH.cons rfl (fun K hK => ?_) (AllReadyH.nil)
                · go_simp
                  (go_at_call 12; refine (of19_any T1 ca Aa K1 _ (by omega) (HNa15.out.on (HGET.out _ (by assumption)))).mono ?_; rintro e wy ⟨A6, c6, rfl, -, -, hN6, hb2⟩; have HN6 := Lib.hid hN6; clear hN6)
                  refine hK.out _ _ ?_ (fun hHeld => ?_)
                  · (try dsimp only); first | exact hS0.out | assumption | exact HON.out _ _ (by assumption) hb2
                  clear hK K
                  (try simp only [List.getElem_toArray, List.getElem_cons_succ, List.getElem_cons_zero, Act.put, List.setIfInBounds_toArray, List.set_cons_zero, List.set_cons_succ])
                  refine wpAnyH_ready (rs := [7]) (by kernel_rfl) (by simp) ?_
                  refine AllReadyH.cons rfl (fun K hK => ?_) (AllReadyH.nil)
                  · go_simp
                    (go_at_call 11; refine (r19Same_self T1 c6 cb A6 Ab K1 _ (by omega) HN6.out (HNb15.out.on (HGET.out _ (by assumption)))).mono ?_; rintro e wy ⟨rfl, hb2⟩)
                    refine hK.out _ _ ?_ (fun hHeld => ?_)
                    · (try dsimp only); first | exact hS0.out | assumption | exact HON.out _ _ (by assumption) hb2
                    clear hK K
                    (try simp only [List.getElem_toArray, List.getElem_cons_succ, List.getElem_cons_zero, Act.put, List.setIfInBounds_toArray, List.set_cons_zero, List.set_cons_succ])
                    refine wpAnyH_take (i := 8) (v := ?_) rfl (by kernel_rfl) (by kernel_rfl) (by kernel_rfl) (fun _ _ _ h => h) (Or.inl ⟨by rfl, ?_⟩) (by assumption) ?_
                    rotate_left
                    · intro w hSw; (try dsimp only at hSw); go_simp; try with_reducible rfl
                    (try simp only [List.getElem_toArray, List.getElem_cons_succ, List.getElem_cons_zero, Act.put, List.setIfInBounds_toArray, List.set_cons_zero, List.set_cons_succ])
                    refine wpAnyH_take (i := 9) (v := ?_) rfl (by kernel_rfl) (by kernel_rfl) (by kernel_rfl) (fun _ _ _ h => h) (Or.inl ⟨by rfl, ?_⟩) (by assumption) ?_
                    rotate_left
                    · intro w hSw; (try dsimp only at hSw); go_simp; try with_reducible rfl
                    (try simp only [List.getElem_toArray, List.getElem_cons_succ, List.getElem_cons_zero, Act.put, List.setIfInBounds_toArray, List.set_cons_zero, List.set_cons_succ])
                    refine wpAnyH_take (i := 10) (v := ?_) rfl (by kernel_rfl) (by kernel_rfl) (by kernel_rfl) (fun _ _ _ h => h) (Or.inl ⟨by rfl, ?_⟩) (by assumption) ?_
                    rotate_left
                    · intro w hSw; (try dsimp only at hSw); go_simp; try with_reducible rfl
                    (try simp only [List.getElem_toArray, List.getElem_cons_succ, List.getElem_cons_zero, Act.put, List.setIfInBounds_toArray, List.set_cons_zero, List.set_cons_succ])
                    refine wpAnyH_take (i := 11) (v := ?_) rfl (by kernel_rfl) (by kernel_rfl) (by kernel_rfl) (fun _ _ _ h => h) (Or.inl ⟨by rfl, ?_⟩) (by assumption) ?_
                    rotate_left
                    · intro w hSw; (try dsimp only at hSw); go_simp; try with_reducible rfl
                    (try simp only [List.getElem_toArray, List.getElem_cons_succ, List.getElem_cons_zero, Act.put, List.setIfInBounds_toArray, List.set_cons_zero, List.set_cons_succ])
                    refine wpAnyH_take (i := 12) (v := ?_) rfl (by kernel_rfl) (by kernel_rfl) (by kernel_rfl) (fun _ _ _ h => h) (Or.inl ⟨by rfl, ?_⟩) (by assumption) ?_
                    rotate_left
                    · intro w hSw; (try dsimp only at hSw); go_simp; try with_reducible rfl
                    (try simp only [List.getElem_toArray, List.getElem_cons_succ, List.getElem_cons_zero, Act.put, List.setIfInBounds_toArray, List.set_cons_zero, List.set_cons_succ])
                    refine wpAnyH_take (i := 13) (v := ?_) rfl (by kernel_rfl) (by kernel_rfl) (by kernel_rfl) (fun _ _ _ h => h) (Or.inl ⟨by rfl, ?_⟩) (by assumption) ?_
                    rotate_left
                    · intro w hSw; (try dsimp only at hSw); go_simp; try with_reducible rfl
                    (try simp only [List.getElem_toArray, List.getElem_cons_succ, List.getElem_cons_zero, Act.put, List.setIfInBounds_toArray, List.set_cons_zero, List.set_cons_succ])
                    refine wpAnyH_take (i := 14) (v := ?_) rfl (by kernel_rfl) (by kernel_rfl) (by kernel_rfl) (fun _ _ _ h => h) (Or.inl ⟨by rfl, ?_⟩) (by assumption) ?_
                    rotate_left
                    · intro w hSw; (try dsimp only at hSw); go_simp; try with_reducible rfl
                    (try simp only [List.getElem_toArray, List.getElem_cons_succ, List.getElem_cons_zero, Act.put, List.setIfInBounds_toArray, List.set_cons_zero, List.set_cons_succ])
                    refine wpAnyH_take (i := 15) (v := ?_) rfl (by kernel_rfl) (by kernel_rfl) (by kernel_rfl) (fun _ _ _ h => h) (Or.inl ⟨by rfl, ?_⟩) (by assumption) ?_
                    rotate_left
                    · intro w hSw; (try dsimp only at hSw); go_simp; try with_reducible rfl
                    (try simp only [List.getElem_toArray, List.getElem_cons_succ, List.getElem_cons_zero, Act.put, List.setIfInBounds_toArray, List.set_cons_zero, List.set_cons_succ])
                    refine wpAnyH_take (i := 16) (v := ?_) rfl (by kernel_rfl) (by kernel_rfl) (by kernel_rfl) (fun _ _ _ h => h) (Or.inl ⟨by rfl, ?_⟩) (by assumption) ?_
                    rotate_left
                    · intro w hSw; (try dsimp only at hSw); go_simp; try with_reducible rfl
                    (try simp only [List.getElem_toArray, List.getElem_cons_succ, List.getElem_cons_zero, Act.put, List.setIfInBounds_toArray, List.set_cons_zero, List.set_cons_succ])
                    refine wpAnyH_take (i := 17) (v := ?_) rfl (by kernel_rfl) (by kernel_rfl) (by kernel_rfl) (fun _ _ _ h => h) (Or.inl ⟨by rfl, ?_⟩) (by assumption) ?_
                    rotate_left
                    · intro w hSw; (try dsimp only at hSw); go_simp; try with_reducible rfl
                    (try simp only [List.getElem_toArray, List.getElem_cons_succ, List.getElem_cons_zero, Act.put, List.setIfInBounds_toArray, List.set_cons_zero, List.set_cons_succ])
                    refine wpAnyH_take (i := 18) (v := ?_) rfl (by kernel_rfl) (by kernel_rfl) (by kernel_rfl) (fun _ _ _ h => h) (Or.inl ⟨by rfl, ?_⟩) (by assumption) ?_
                    rotate_left
                    · intro w hSw; (try dsimp only at hSw); go_simp; try with_reducible rfl
                    (try simp only [List.getElem_toArray, List.getElem_cons_succ, List.getElem_cons_zero, Act.put, List.setIfInBounds_toArray, List.set_cons_zero, List.set_cons_succ])
                    refine wpAnyH_take (i := 19) (v := ?_) rfl (by kernel_rfl) (by kernel_rfl) (by kernel_rfl) (fun _ _ _ h => h) (Or.inl ⟨by rfl, ?_⟩) (by assumption) ?_
                    rotate_left
                    · intro w hSw; (try dsimp only at hSw); go_simp; try with_reducible rfl
                    (try simp only [List.getElem_toArray, List.getElem_cons_succ, List.getElem_cons_zero, Act.put, List.setIfInBounds_toArray, List.set_cons_zero, List.set_cons_succ])
                    refine wpAnyH_done (by kernel_rfl) ?_ _
                    refine NoPanic.normal ?_
                    have HBZ := Lib.hid (HGET.out _ (by assumption))
                    clear hHeld hS0 HON HN6 HGET
                    go_wp2_with fail
                    go_ret
                    exact ⟨rfl, bthen HB15.out HBZ.out (Nat.le_refl _)⟩
theorem notesReadsLaw (s : ByteArray) (x : Nt) (k : Nat) (w : World) (hs : s.size ≤ maxLen) (hx : x.Fits) (hk : k < 18446744073709551616) :
    Calls Try.prog 4 #[.string s, .agg #[.int .u64 (x.t : Int), .int .u8 (x.k : Int), .string (ofL x.b)], .int .u64 (k : Int)] w fun e w' => e = .returned (.bool true) ∧ Below w.heap.size w w' := by
  have hz := ofL_size s.data.toList
  rw [ofL_toList] at hz
  have := notesReads_walk s.data.toList x k w (by unfold maxLen at hs; omega) hx hk
  rw [ofL_toList] at this
  exact this
end Go.Proofs.Ytabnkbdbbneihaa
