/-
  A PAIR WRITTEN: walked.
-/
import Derived.Test.YtaikigponkjkgaaGreatDoorDs03
import Derived.Test.YtaikigponkjkgaaGreatDoorDs08
import Derived.Deep.RegionHeld3
import Derived.Deep.DeepCutAuto
section
namespace Go.Proofs.YtaikigponkjkgaaGreatDoor
open Go.ChangeShapes Go.WideShapes Go.ChangeAt Go.RowKit
theorem qds14a (l : List Value) (i : Nat) (v : Value) : l.toArray.setIfInBounds i v = (l.set i v).toArray := by simp
theorem qds14b (v u : Value) (l : List Value) : (v :: l).set 0 u = u :: l := rfl
theorem qds14c (v u : Value) (n : Nat) (l : List Value) : (v :: l).set (n + 1) u = v :: l.set n u := rfl
/-- the three boxes of head.write: what is written so far, the pair, the answer -/
structure WrC (w : World) (a b c : Nat) (k : List UInt8) (kd : Nat) (n : Int) (t : List UInt8) (W : World) : Prop where
  o : ∃ (s : ByteArray) (e : Int), W.cell? ⟨a, 0, none⟩ = some (.string s) ∧ W.cell? ⟨a, 1, none⟩ = some (.int .i64 e)
  so : ∀ j, W.frozen? ⟨a, j, none⟩ = false
  p : PrAt W b 0 ⟨k, kd, n, t⟩
  r0 : W.cell? ⟨c, 0, none⟩ = some (.string ⟨#[]⟩)
  r1 : W.cell? ⟨c, 1, none⟩ = some (.int .i64 0)
  sr : ∀ j, W.frozen? ⟨c, j, none⟩ = false
  la : a < W.heap.size
  lb : b < W.heap.size
  lc : c < W.heap.size
  ab : a ≠ b
  ac : a ≠ c
  bc : b ≠ c
  ge : w.heap.size ≤ a
  gc : w.heap.size ≤ c
  B : Below w.heap.size w W
theorem WrC.on {w : World} {a b c : Nat} {k : List UInt8} {kd : Nat} {n : Int} {t : List UInt8} {W W' : World} (h : WrC w a b c k kd n t W) (hb : Below W.heap.size W W') : WrC w a b c k kd n t W' := by
  obtain ⟨s, e, h0, h1⟩ := h.o
  exact ⟨⟨s, e, (hb.cell (p := ⟨a, 0, none⟩) h.la).trans h0, (hb.cell (p := ⟨a, 1, none⟩) h.la).trans h1⟩, fun j => (hb.frozen (p := ⟨a, j, none⟩) h.la).trans (h.so j), h.p.below hb h.lb,
    (hb.cell (p := ⟨c, 0, none⟩) h.lc).trans h.r0, (hb.cell (p := ⟨c, 1, none⟩) h.lc).trans h.r1, fun j => (hb.frozen (p := ⟨c, j, none⟩) h.lc).trans (h.sr j),
    Nat.lt_of_lt_of_le h.la hb.size, Nat.lt_of_lt_of_le h.lb hb.size, Nat.lt_of_lt_of_le h.lc hb.size, h.ab, h.ac, h.bc, h.ge, h.gc, bthen h.B hb (Nat.le_refl _)⟩
abbrev WrS (w : World) (a b c : Nat) (k : List UInt8) (kd : Nat) (n : Int) (t : List UInt8) (W : World) : Prop :=
  (W.cell? ⟨b, 0, none⟩ = some (.string (ofL k)) ∧ W.cell? ⟨b, 1, none⟩ = some (.int .u8 (kd : Int)) ∧ b < W.heap.size) ∧ WrC w a b c k kd n t W
theorem WrC.s {w : World} {a b c : Nat} {k : List UInt8} {kd : Nat} {n : Int} {t : List UInt8} {W : World} (h : WrC w a b c k kd n t W) : WrS w a b c k kd n t W := ⟨⟨h.p.c0, h.p.c1, h.lb⟩, h⟩
theorem WrS.on {w : World} {a b c : Nat} {k : List UInt8} {kd : Nat} {n : Int} {t : List UInt8} {W W' : World} (h : WrS w a b c k kd n t W) (hb : Below W.heap.size W W') : WrS w a b c k kd n t W' := (h.2.on hb).s
theorem ne_blk9 {a b : Nat} (h : a ≠ b) (i j : Nat) : (⟨a, i, none⟩ : Addr) ≠ ⟨b, j, none⟩ := by simp only [ne_eq, Addr.mk.injEq, not_and]; omega
/-- what is written is laid into its box -/
theorem WrC.done {w : World} {a b c : Nat} {k : List UInt8} {kd : Nat} {n : Int} {t : List UInt8} {W : World} (h : WrC w a b c k kd n t W) (s : ByteArray) :
    WrC w a b c k kd n t ((W.setCell ⟨a, 0, none⟩ (.string s)).setCell ⟨a, 1, none⟩ (.int .i64 0)) ∧ ((W.setCell ⟨a, 0, none⟩ (.string s)).setCell ⟨a, 1, none⟩ (.int .i64 0)).cell? ⟨a, 0, none⟩ = some (.string s) ∧ ((W.setCell ⟨a, 0, none⟩ (.string s)).setCell ⟨a, 1, none⟩ (.int .i64 0)).cell? ⟨a, 1, none⟩ = some (.int .i64 0) := by
  obtain ⟨s0, e0, h0, h1⟩ := h.o
  have hC : Cels W a [.string s0, .int .i64 e0] := fun j v hj => by
    match j, hj with
    | 0, hj => obtain rfl := Option.some.inj hj; exact h0
    | 1, hj => obtain rfl := Option.some.inj hj; exact h1
  have hD := (hC.put 0 (.string s) (by simp)).put 1 (.int .i64 0) (by simp)
  have f0 := hD 0 _ rfl
  have f1 := hD 1 _ rfl
  have x : ∀ (g i : Nat), a ≠ g → ((W.setCell ⟨a, 0, none⟩ (.string s)).setCell ⟨a, 1, none⟩ (.int .i64 0)).cell? ⟨g, i, none⟩ = W.cell? ⟨g, i, none⟩ := fun g i hg =>
    (World.cell?_setCell_other _ _ _ _ (ne_blk9 hg _ _)).trans (World.cell?_setCell_other _ _ _ _ (ne_blk9 hg _ _))
  exact ⟨⟨⟨s, 0, f0, f1⟩, fun j => ((Soft.put (Soft.put h.so _ _) _ _) j), ⟨(x b 0 h.ab).trans h.p.c0, (x b 1 h.ab).trans h.p.c1, (x b 2 h.ab).trans h.p.c2, (x b 3 h.ab).trans h.p.c3⟩,
    (x c 0 h.ac).trans h.r0, (x c 1 h.ac).trans h.r1, fun j => ((Soft.put (Soft.put h.sr _ _) _ _) j), by simpa [World.setCell] using h.la, by simpa [World.setCell] using h.lb, by simpa [World.setCell] using h.lc, h.ab, h.ac, h.bc, h.ge, h.gc, (h.B.setCell h.ge _).setCell h.ge _⟩, f0, f1⟩
/-- the answer is laid into its box -/
theorem WrC.last {w : World} {a b c : Nat} {k : List UInt8} {kd : Nat} {n : Int} {t : List UInt8} {W : World} (h : WrC w a b c k kd n t W) (s : ByteArray) :
    ((W.setCell ⟨c, 0, none⟩ (.string s)).setCell ⟨c, 1, none⟩ (.int .i64 0)).cell? ⟨c, 0, none⟩ = some (.string s) ∧ ((W.setCell ⟨c, 0, none⟩ (.string s)).setCell ⟨c, 1, none⟩ (.int .i64 0)).cell? ⟨c, 1, none⟩ = some (.int .i64 0) ∧ Below w.heap.size w ((W.setCell ⟨c, 0, none⟩ (.string s)).setCell ⟨c, 1, none⟩ (.int .i64 0)) := by
  have hC : Cels W c [.string ⟨#[]⟩, .int .i64 0] := fun j v hj => by
    match j, hj with
    | 0, hj => obtain rfl := Option.some.inj hj; exact h.r0
    | 1, hj => obtain rfl := Option.some.inj hj; exact h.r1
  have hD := (hC.put 0 (.string s) (by simp)).put 1 (.int .i64 0) (by simp)
  exact ⟨hD 0 _ rfl, hD 1 _ rfl, (h.B.setCell h.gc _).setCell h.gc _⟩
theorem WrC.start (w : World) (x : List UInt8) (k : List UInt8) (kd : Nat) (n : Int) (t : List UInt8) (t1 t2 t3 : TypeId) :
    WrC w w.heap.size (w.heap.size + 1) (w.heap.size + 1 + 1) k kd n t (((w.alloc (.cells #[.string (ofL x), .int .i64 0] t1)).alloc (.cells #[.string (ofL k), .int .u8 (kd : Int), .int .i64 n, .string (ofL t)] t2)).alloc (.cells #[.string ⟨#[]⟩, .int .i64 0] t3)) := by
  have e1 : (w.alloc (.cells #[.string (ofL x), .int .i64 0] t1)).heap.size = w.heap.size + 1 := by simp
  have e2 : ((w.alloc (.cells #[.string (ofL x), .int .i64 0] t1)).alloc (.cells #[.string (ofL k), .int .u8 (kd : Int), .int .i64 n, .string (ofL t)] t2)).heap.size = w.heap.size + 1 + 1 := by simp
  have B1 := (Below.refl (w.alloc (.cells #[.string (ofL x), .int .i64 0] t1)).heap.size (w.alloc (.cells #[.string (ofL x), .int .i64 0] t1))).alloc (Nat.le_refl _) (.cells #[.string (ofL k), .int .u8 (kd : Int), .int .i64 n, .string (ofL t)] t2)
  have B2 := B1.alloc B1.size (.cells #[.string ⟨#[]⟩, .int .i64 0] t3)
  have B3 := (Below.refl ((w.alloc (.cells #[.string (ofL x), .int .i64 0] t1)).alloc (.cells #[.string (ofL k), .int .u8 (kd : Int), .int .i64 n, .string (ofL t)] t2)).heap.size ((w.alloc (.cells #[.string (ofL x), .int .i64 0] t1)).alloc (.cells #[.string (ofL k), .int .u8 (kd : Int), .int .i64 n, .string (ofL t)] t2))).alloc (Nat.le_refl _) (.cells #[.string ⟨#[]⟩, .int .i64 0] t3)
  have hP : PrAt ((w.alloc (.cells #[.string (ofL x), .int .i64 0] t1)).alloc (.cells #[.string (ofL k), .int .u8 (kd : Int), .int .i64 n, .string (ofL t)] t2)) (w.heap.size + 1) 0 ⟨k, kd, n, t⟩ := by
    rw [← e1]; exact prOf (Cels.new _ _ _)
  refine ⟨⟨ofL x, 0, (B2.cell (p := ⟨w.heap.size, 0, none⟩) (by simp)).trans (cell_new _ _ _ _ _ rfl), (B2.cell (p := ⟨w.heap.size, 1, none⟩) (by simp)).trans (cell_new _ _ _ _ _ rfl)⟩, fun j => (B2.frozen (p := ⟨w.heap.size, j, none⟩) (by simp)).trans (free_new _ _ _ _ _ rfl), hP.below B3 (by simp), ?_, ?_, ?_, by simp; omega, by simp, by simp, by omega, by omega, by omega, Nat.le_refl _, by omega, (((Below.refl _ _).alloc (Nat.le_refl _) _).alloc (by simp) _).alloc (by simp; omega) _⟩
  · rw [← e2]; exact cell_new _ _ _ _ _ rfl
  · rw [← e2]; exact cell_new _ _ _ _ _ rfl
  · intro j; rw [← e2]; exact free_new _ _ _ _ _ rfl
set_option maxRecDepth 100000 in
set_option maxHeartbeats 16000000 in
theorem hwrite_one (x k : List UInt8) (kd : Nat) (n : Int) (t : List UInt8) (w : World) (hx : x.length ≤ 100000) (hk : k.length ≤ 1000) (ht : t.length ≤ 1000) (hkd : kd ≤ 2) :
    Calls Tryz.prog 105 #[.agg #[.string (ofL x), .int .i64 0], .agg #[.string (ofL k), .int .u8 (kd : Int), .int .i64 n, .string (ofL t)]] w fun e w' => e = .returned (.agg #[.string (ofL (x ++ Hd.penc ⟨k, kd, n, t⟩)), .int .i64 0]) ∧ Below w.heap.size w w' := by
  have H1 := Lib.hid (fun W => text_l x k W (by omega) (by omega))
  have H2 := Lib.hid (fun W => num_l (x ++ (Oct.be 2 k.length ++ k)) kd 1 1 W (by omega) (by omega) rfl (by simp [Oct.length_be]; omega))
  have hE : x ++ Hd.penc ⟨k, kd, n, t⟩ = x ++ (Oct.be 2 k.length ++ k) ++ Oct.be 1 kd ++ Hd.pbody ⟨k, kd, n, t⟩ := by unfold Hd.penc Oct.text; simp [List.append_assoc]
  have hz : (x ++ (Oct.be 2 k.length ++ k) ++ Oct.be 1 kd).length ≤ 110000 := by simp [Oct.length_be]; omega
  rw [hE]
  clear hE
  generalize x ++ (Oct.be 2 k.length ++ k) = E0 at *
  generalize hE1 : E0 ++ Oct.be 1 kd = E1 at *
  clear hE1
  generalize hEf : E1 ++ Hd.pbody ⟨k, kd, n, t⟩ = E2 at *
  have HEF := Lib.hid hEf
  clear hEf
  have hw1 : IntKind.u64.wrap (kd : Int) = (kd : Int) := by rw [IntKind.wrap_u64]; omega
  have hwn : IntKind.u64.wrap n = ((Hd.n64 n : Nat) : Int) := by rw [IntKind.wrap_u64]; exact (Hd.n64_cast n).symm
  have HS := Lib.hid (WrC.start w x k kd n t 70 142 70)
  have HO := Lib.hid (show (((w.alloc (.cells #[.string (ofL x), .int .i64 0] 70)).alloc (.cells #[.string (ofL k), .int .u8 (kd : Int), .int .i64 n, .string (ofL t)] 142)).alloc (.cells #[.string ⟨#[]⟩, .int .i64 0] 70)).cell? ⟨w.heap.size, 0, none⟩ = some (.string (ofL x)) ∧ (((w.alloc (.cells #[.string (ofL x), .int .i64 0] 70)).alloc (.cells #[.string (ofL k), .int .u8 (kd : Int), .int .i64 n, .string (ofL t)] 142)).alloc (.cells #[.string ⟨#[]⟩, .int .i64 0] 70)).cell? ⟨w.heap.size, 1, none⟩ = some (.int .i64 0) from
    ⟨(cell_old _ _ _ _ (by simp; omega)).trans ((cell_old _ _ _ _ (by simp)).trans (cell_new _ _ _ _ _ rfl)), (cell_old _ _ _ _ (by simp; omega)).trans ((cell_old _ _ _ _ (by simp)).trans (cell_new _ _ _ _ _ rfl))⟩)
  clear hx hk
  go_enter Tryz.func105, Tryz.ntmps105
  go_upto_region 1 with fail
  generalize hw3 : ((w.alloc (.cells #[.string (ofL x), .int .i64 0] 70)).alloc (.cells #[.string (ofL k), .int .u8 (kd : Int), .int .i64 n, .string (ofL t)] 142)).alloc (.cells #[.string ⟨#[]⟩, .int .i64 0] 70) = w3 at *
  clear hw3
  have hX0 : WrS w w.heap.size (w.heap.size + 1) (w.heap.size + 1 + 1) k kd n t w3.drew := (HS.out.on (Below.refl _ _).drew).s
  have HX := Lib.hid hX0
  clear hX0
  obtain ⟨d0, d1⟩ := HO.out
  have q3 : w.heap.size < w3.heap.size := HS.out.la
  clear HS HO
  refine wp_region_noPanic ?_
  refine wp_region_held_drew (S := WrS w w.heap.size (w.heap.size + 1) (w.heap.size + 1 + 1) k kd n t) (by kernel_rfl) ?_ (fun hHeld => ?_)
  · (try dsimp only); (first | assumption | exact HX.out | exact WrS.on (by assumption) hb2 | exact (WrC.done (by assumption) _).1.s)
  refine wpAnyH_take (i := 1) (v := ?_) rfl (by kernel_rfl) (by kernel_rfl) (by kernel_rfl) (fun _ _ _ h => h) (Or.inl ⟨by rfl, ?_⟩) (by assumption) ?_
  rotate_left
  · intro w hSw; (try dsimp only at hSw); go_simp; try with_reducible rfl
  (try simp only [List.getElem_toArray, List.getElem_cons_succ, List.getElem_cons_zero, Act.put, qds14a, qds14b, qds14c])
  refine wpAnyH_take (i := 2) (v := ?_) rfl (by kernel_rfl) (by kernel_rfl) (by kernel_rfl) (fun _ _ _ h => h) (Or.inl ⟨by rfl, ?_⟩) (by assumption) ?_
  rotate_left
  · intro w hSw; (try dsimp only at hSw); go_simp; try with_reducible rfl
  (try simp only [List.getElem_toArray, List.getElem_cons_succ, List.getElem_cons_zero, Act.put, qds14a, qds14b, qds14c])
  refine wpAnyH_take (i := 4) (v := ?_) rfl (by kernel_rfl) (by kernel_rfl) (by kernel_rfl) (fun _ _ _ h => h) (Or.inl ⟨by rfl, ?_⟩) (by assumption) ?_
  rotate_left
  · intro w hSw; (try dsimp only at hSw); go_simp; try with_reducible rfl
  (try simp only [List.getElem_toArray, List.getElem_cons_succ, List.getElem_cons_zero, Act.put, qds14a, qds14b, qds14c])
  refine wpAnyH_take (i := 5) (v := ?_) rfl (by kernel_rfl) (by kernel_rfl) (by kernel_rfl) (fun _ _ _ h => h) (Or.inl ⟨by rfl, ?_⟩) (by assumption) ?_
  rotate_left
  · intro w hSw; (try dsimp only at hSw); go_simp; try with_reducible rfl
  (try simp only [List.getElem_toArray, List.getElem_cons_succ, List.getElem_cons_zero, Act.put, qds14a, qds14b, qds14c])
  refine wpAnyH_take (i := 6) (v := ?_) rfl (by kernel_rfl) (by kernel_rfl) (by kernel_rfl) (fun _ _ _ h => h) (Or.inl ⟨by rfl, ?_⟩) (by assumption) ?_
  rotate_left
  · intro w hSw; (try dsimp only at hSw); go_simp; try with_reducible rfl
  (try simp only [List.getElem_toArray, List.getElem_cons_succ, List.getElem_cons_zero, Act.put, qds14a, qds14b, qds14c])
  refine wpAnyH_ready (rs := [0]) (by kernel_rfl) (by simp) ?_
  refine AllReadyH.cons rfl (fun K hK => ?_) (AllReadyH.nil)
  · go_simp
    refine hK.out _ _ ?_ (fun hHeld => ?_)
    · (try dsimp only); (first | assumption | exact HX.out | exact WrS.on (by assumption) hb2 | exact (WrC.done (by assumption) _).1.s)
    clear hK K
    (try simp only [List.getElem_toArray, List.getElem_cons_succ, List.getElem_cons_zero, Act.put, qds14a, qds14b, qds14c])
    refine wpAnyH_ready (rs := [3]) (by kernel_rfl) (by simp) ?_
    refine AllReadyH.cons rfl (fun K hK => ?_) (AllReadyH.nil)
    · go_simp
      (go_at_call 35; ((refine (H1.out _).mono ?_); rintro e' wz ⟨rfl, hb2⟩); clear d0 d1)
      refine hK.out _ _ ?_ (fun hHeld => ?_)
      · (try dsimp only); (first | assumption | exact HX.out | exact WrS.on (by assumption) hb2 | exact (WrC.done (by assumption) _).1.s)
      clear hK K
      (try simp only [List.getElem_toArray, List.getElem_cons_succ, List.getElem_cons_zero, Act.put, qds14a, qds14b, qds14c])
      refine wpAnyH_ready (rs := [7]) (by kernel_rfl) (by simp) ?_
      refine AllReadyH.cons rfl (fun K hK => ?_) (AllReadyH.nil)
      · go_simp
        (go_at_call 19; ((refine (H2.out _).mono ?_); rintro e' wz ⟨rfl, hb2⟩); have HZ := Lib.hid (WrS.on hHeld hb2).2; have hZ := (WrS.on hHeld hb2).2; obtain ⟨s0, e0, d0, d1⟩ := hZ.o; have q2 := hZ.so; have q3 := hZ.la; clear hZ)
        refine hK.out _ _ ?_ (fun hHeld => ?_)
        · (try dsimp only); (first | assumption | exact HX.out | exact WrS.on (by assumption) hb2 | exact (WrC.done (by assumption) _).1.s)
        clear hK K
        (try simp only [List.getElem_toArray, List.getElem_cons_succ, List.getElem_cons_zero, Act.put, qds14a, qds14b, qds14c])
        refine wpAnyH_ready (rs := [8]) (by kernel_rfl) (by simp) ?_
        refine AllReadyH.cons rfl (fun K hK => ?_) (AllReadyH.nil)
        · go_simp
          refine hK.out _ _ ?_ (fun hHeld => ?_)
          · (try dsimp only); (first | assumption | exact HX.out | exact WrS.on (by assumption) hb2 | exact (WrC.done (by assumption) _).1.s)
          clear hK K
          (try simp only [List.getElem_toArray, List.getElem_cons_succ, List.getElem_cons_zero, Act.put, qds14a, qds14b, qds14c])
          refine wpAnyH_done (by kernel_rfl) ?_ _
          refine NoPanic.normal ?_
          have HE := Lib.hid (HZ.out.done (ofL E1))
          clear hHeld HZ HX d0 d1 q2 q3
          generalize hw4 : (wz.setCell ⟨w.heap.size, 0, none⟩ (.string (ofL E1))).setCell ⟨w.heap.size, 1, none⟩ (.int .i64 0) = w4 at *
          clear hw4
          obtain ⟨hC4, d0, d1⟩ := HE.out
          have HC4 := Lib.hid hC4
          obtain ⟨c0, c1, c2, c3⟩ := hC4.p
          have q1 := hC4.lb
          have q2 := hC4.la
          simp only [Nat.zero_add] at c0 c1 c2 c3
          clear hC4 HE H1 H2 hb2
          obtain rfl | rfl | rfl : kd = 0 ∨ kd = 1 ∨ kd = 2 := by omega
          · have H3 := Lib.hid (fun W => num_l E1 (Hd.n64 n) 8 8 W (Hd.n64_lt n) (by omega) rfl (by omega))
            have hres : E1 ++ Oct.be 8 (Hd.n64 n) = E2 := by rw [← HEF.out]; rfl
            rw [hres] at H3
            clear hres hz
            go_wp2_with fail
            refine (H3.out _).mono ?_
            rintro e w5 ⟨rfl, b5⟩
            have hC5 := HC4.out.on b5
            have HC5 := Lib.hid hC5
            have HD := Lib.hid (hC5.done (ofL E2)).1
            obtain ⟨s0, e0, f0, f1⟩ := hC5.o
            have f2 := hC5.so
            have f3 := hC5.la
            clear d0 d1 c0 c1 c2 c3 q1 q2 b5 hC5
            obtain ⟨-, h0, h1⟩ := HC5.out.done (ofL E2)
            have hr0 := HD.out.r0
            have hr1 := HD.out.r1
            have hsr := HD.out.sr
            have hlc := HD.out.lc
            go_wp2_with fail
            obtain ⟨g0, g1, g2⟩ := HD.out.last (ofL E2)
            exact bodyPost_ret (v := .agg #[.string (ofL E2), .int .i64 0]) (by simp [results, Tryz.results105, go_sem, g0, g1]) rfl ⟨rfl, g2⟩
          · have H3 := Lib.hid (fun W => text_l E1 t W (by omega) (by omega))
            have hres : E1 ++ (Oct.be 2 t.length ++ t) = E2 := by rw [← HEF.out]; rfl
            rw [hres] at H3
            clear hres hz
            go_wp2_with fail
            refine (H3.out _).mono ?_
            rintro e w5 ⟨rfl, b5⟩
            have hC5 := HC4.out.on b5
            have HC5 := Lib.hid hC5
            have HD := Lib.hid (hC5.done (ofL E2)).1
            obtain ⟨s0, e0, f0, f1⟩ := hC5.o
            have f2 := hC5.so
            have f3 := hC5.la
            clear d0 d1 c0 c1 c2 c3 q1 q2 b5 hC5
            obtain ⟨-, h0, h1⟩ := HC5.out.done (ofL E2)
            have hr0 := HD.out.r0
            have hr1 := HD.out.r1
            have hsr := HD.out.sr
            have hlc := HD.out.lc
            go_wp2_with fail
            obtain ⟨g0, g1, g2⟩ := HD.out.last (ofL E2)
            exact bodyPost_ret (v := .agg #[.string (ofL E2), .int .i64 0]) (by simp [results, Tryz.results105, go_sem, g0, g1]) rfl ⟨rfl, g2⟩
          · have H3 := Lib.hid (fun W => num_l E1 (Hd.n64 n) 1 1 W (Hd.n64_lt n) (by omega) rfl (by omega))
            have hres : E1 ++ Oct.be 1 (Hd.n64 n) = E2 := by rw [← HEF.out]; rfl
            rw [hres] at H3
            clear hres hz
            go_wp2_with fail
            refine (H3.out _).mono ?_
            rintro e w5 ⟨rfl, b5⟩
            have hC5 := HC4.out.on b5
            have HC5 := Lib.hid hC5
            have HD := Lib.hid (hC5.done (ofL E2)).1
            obtain ⟨s0, e0, f0, f1⟩ := hC5.o
            have f2 := hC5.so
            have f3 := hC5.la
            clear d0 d1 c0 c1 c2 c3 q1 q2 b5 hC5
            obtain ⟨-, h0, h1⟩ := HC5.out.done (ofL E2)
            have hr0 := HD.out.r0
            have hr1 := HD.out.r1
            have hsr := HD.out.sr
            have hlc := HD.out.lc
            go_wp2_with fail
            obtain ⟨g0, g1, g2⟩ := HD.out.last (ofL E2)
            exact bodyPost_ret (v := .agg #[.string (ofL E2), .int .i64 0]) (by simp [results, Tryz.results105, go_sem, g0, g1]) rfl ⟨rfl, g2⟩
end Go.Proofs.YtaikigponkjkgaaGreatDoor
end
