/-
  THE DOCUMENT's After: walked.
-/
import Derived.Test.YtjkaljokkpabfaaGreatDoorRr40

section
namespace Go.Proofs.YtjkaljokkpabfaaGreatDoor
open Go.ChangeShapes Go.WideShapes Go.ChangeAt Go.RowKit
def RAfP (T : Nat) (l : List Mp) (k : Nat) (w : World) (e : Ending) (w' : World) : Prop := ∃ (A' : Option Addr) (c' : Nat), e = .returned (.tuple #[.int .u64 (Rs.aftN T l.length k : Int), maV (Rs.aft T (l.map Mp.x) k) A' c', .bool (decide (k < T))]) ∧ Prs w' A' (Rs.aft T (l.map Mp.x) k).head ∧ Below w.heap.size w w'
def RaSt2 (w : World) (cs : List Value) (T n k : Nat) (g : Nat) (v : Value) (wr : World) : Prop := ∃ i : Nat, i + g = n ∧ v = .int .i64 (i : Int) ∧ (i = 0 ∨ T - n + i ≤ k) ∧ BoxC w w.heap.size cs wr ∧ BoxC w (w.heap.size + 1) [.int .u64 0, .string ⟨#[]⟩, .string ⟨#[]⟩, .slice none 0 0, .string ⟨#[]⟩, .int .u64 0, .int .u8 0] wr ∧ Below w.heap.size w wr
set_option maxRecDepth 100000 in
set_option maxHeartbeats 4000000 in
theorem r20After_any (T c : Nat) (A : Option Addr) (l : List Mp) (k : Nat) (w : World) (hl : l.length ≤ 1000) (hlT : l.length ≤ T) (h0 : 0 < T → 0 < l.length) (hT : T < 18446744073709551616) (hk : k < 18446744073709551616) (h : Mas w A l) :
    Calls Tryz.prog 24 #[.agg #[.int .u64 (T : Int), .slice A l.length c], .int .u64 (k : Int)] w (RAfP T l k w) := by
  have HB0 := Lib.hid (rs_two w (.cells #[.int .u64 (T : Int), .slice A l.length c] 38) (.cells #[.int .u64 0, .string ⟨#[]⟩, .string ⟨#[]⟩, .slice none 0 0, .string ⟨#[]⟩, .int .u64 0, .int .u8 0] 25))
  have HXA := Lib.hid ((BoxC.new (w := w) (W := w) (Nat.le_refl _) #[.int .u64 (T : Int), .slice A l.length c] 38).on (alloc1B _ (.cells #[.int .u64 0, .string ⟨#[]⟩, .string ⟨#[]⟩, .slice none 0 0, .string ⟨#[]⟩, .int .u64 0, .int .u8 0] 25)))
  have HRB := Lib.hid (rs_box1 w (.cells #[.int .u64 (T : Int), .slice A l.length c] 38) #[.int .u64 0, .string ⟨#[]⟩, .string ⟨#[]⟩, .slice none 0 0, .string ⟨#[]⟩, .int .u64 0, .int .u8 0] 25)
  have H := Lib.hid h
  have H0 := Lib.hid h0
  clear h h0
  go_enter Tryz.func24, Tryz.ntmps24
  have e0 := HXA.out.cs 0 _ rfl
  have e1 := HXA.out.cs 1 _ rfl
  have el := HXA.out.lt
  go_wp2_with fail
  generalize hw1 : (w.alloc (.cells #[.int .u64 (T : Int), .slice A l.length c] 38)).alloc (.cells #[.int .u64 0, .string ⟨#[]⟩, .string ⟨#[]⟩, .slice none 0 0, .string ⟨#[]⟩, .int .u64 0, .int .u8 0] 25) = w1 at *
  clear hw1
  go_loopg [13] l.length (fun g v wr => RaSt2 w [.int .u64 (T : Int), .slice A l.length c] T l.length k g v wr)
  case atStart => exact ⟨0, by omega, rfl, .inl rfl, HXA.out, HRB.out, HB0.out⟩
  case round =>
    obtain ⟨i, hi, rfl, hno, hX, hR, hB⟩ := hrel
    have HXC := Lib.hid hX
    have HI := Lib.hid hi
    have HNO := Lib.hid hno
    have HRC := Lib.hid hR
    have HBK := Lib.hid hB
    clear hi hno hR hB hX e0 e1 el
    by_cases hlt : i < l.length
    · obtain ⟨b, off, hAe, hb, hc⟩ := (H.out.on HBK.out).get hlt
      have hok := H.out.ok hlt
      have HGX := Lib.hid (mp_getD l i)
      have e0 := HXC.out.cs 0 _ rfl
      have e1 := HXC.out.cs 1 _ rfl
      have el := HXC.out.lt
      subst hAe
      obtain ⟨p, hp⟩ : ∃ p, l.getD i Mp.zero = p := ⟨_, rfl⟩
      rw [hp] at hc hok HGX
      clear hp
      obtain ⟨x, Ax, cx⟩ := p
      dsimp only at hc hok HGX
      have q0 := hc 0 _ rfl
      have q1 := hc 1 _ rfl
      have q2 := hc 2 _ rfl
      have q3 := hc 3 _ rfl
      have q4 := hc 4 _ rfl
      have q5 := hc 5 _ rfl
      have q6 := hc 6 _ rfl
      rw [Nat.add_zero] at q0
      dsimp only at q0 q1 q2 q3 q4 q5 q6
      have HOK := Lib.hid hok.row
      have HT := Lib.hid (alloc1B wr (.cells #[.int .u64 (x.id : Int), .string (ofL x.shop), .string (ofL x.key), .slice Ax x.head.length cx, .string (ofL x.body), .int .u64 (x.due : Int), .int .u8 (x.hops : Int)] 25))
      have HZ := Lib.hid (BoxC.new (w := w) (W := wr) HBK.out.size #[.int .u64 (x.id : Int), .string (ofL x.shop), .string (ofL x.key), .slice Ax x.head.length cx, .string (ofL x.body), .int .u64 (x.due : Int), .int .u8 (x.hops : Int)] 25)
      have HRT := Lib.hid (HRC.out.on HT.out)
      have HBT := Lib.hid (bthen HBK.out HT.out (Nat.le_refl _))
      have hw1 : IntKind.i64.wrap ((l.length : Int) - 1) = (l.length : Int) - 1 := by rw [IntKind.wrap_i64]; omega
      have hw2 : IntKind.i64.wrap ((l.length : Int) - 1 - (i : Int)) = (l.length : Int) - 1 - (i : Int) := by clear hw1; rw [IntKind.wrap_i64]; omega
      have hw3 : IntKind.u64.wrap ((l.length : Int) - 1 - (i : Int)) = (l.length : Int) - 1 - (i : Int) := by clear hw1 hw2; rw [IntKind.wrap_u64]; omega
      obtain ⟨D, hD⟩ : ∃ D : Nat, T - l.length + i + 1 = D := ⟨_, rfl⟩
      have hw4 : (T : Int) - ((l.length : Int) - 1 - (i : Int)) = (D : Int) := by clear hw1 hw2 hw3; omega
      have hw5 : IntKind.u64.wrap ((T : Int) - ((l.length : Int) - 1 - (i : Int))) = (D : Int) := by rw [hw4]; clear hw1 hw2 hw3 hw4; rw [IntKind.wrap_u64]; omega
      have hn0 : (0 : Int) ≤ (l.length : Int) - 1 - (i : Int) := by clear hw1 hw2 hw3 hw4 hw5; omega
      have HD := Lib.hid hD
      clear hc hok hD
      by_cases hgt : k < D
      · have d1 : decide ((D : Int) > (k : Int)) = true := decide_eq_true (by clear hw1 hw2 hw3 hw4 hw5; omega)
        have d2 : decide (k < D) = true := decide_eq_true hgt
        have HFI := Lib.hid (show Rs.aftN T l.length k = D ∧ Rs.aft T (l.map Mp.x) k = x ∧ decide (k < T) = true from by
          have h1 := HD.out
          have h2 := HNO.out
          have h3 : k < T := by omega
          refine ⟨by unfold Rs.aftN; rw [if_neg (by omega)]; omega, ?_, decide_eq_true h3⟩
          unfold Rs.aft Rs.aftI
          rw [if_neg (by omega), List.length_map, show max k (T - l.length) - (T - l.length) = i by omega]
          exact HGX.out.symm)
        go_upto_region 6 with fail
        clear q0 q1 q2 q3 q4 q5 q6 hw1 hw2 hw3 hw4 hw5 hn0
        generalize wr.alloc (.cells #[.int .u64 (x.id : Int), .string (ofL x.shop), .string (ofL x.key), .slice Ax x.head.length cx, .string (ofL x.body), .int .u64 (x.due : Int), .int .u8 (x.hops : Int)] 25) = w6 at *
        generalize wr.heap.size = gz at *
        have z0 := HZ.out.cs 0 _ rfl
        have z1 := HZ.out.cs 1 _ rfl
        have z2 := HZ.out.cs 2 _ rfl
        have z3 := HZ.out.cs 3 _ rfl
        have z4 := HZ.out.cs 4 _ rfl
        have z5 := HZ.out.cs 5 _ rfl
        have z6 := HZ.out.cs 6 _ rfl
        refine wp_region_held_drew (S := fun a => Below (w.heap.size + 1) w6 a) (by kernel_rfl) (by (try dsimp only); exact (Below.refl _ _).drew) (fun hHeld => ?_)
        refine wpAnyH_take (i := 0) (oi := { dst := some 31, op := Go.Op.move (Go.Operand.tmp 9), type := 22, pos := "ref.go:39", after := #[], guard := none }) (v := ?_) rfl (by kernel_rfl) (by kernel_rfl) (by kernel_rfl) (fun _ _ _ h => h) (Or.inl ⟨by rfl, ?_⟩) (by assumption) ?_
        rotate_left 1
        · intro wS hSw; (try dsimp only at hSw); go_simp; try with_reducible rfl
        try simp only [Act.put, List.setIfInBounds_toArray, List.set_cons_zero, List.set_cons_succ]
        refine wpAnyH_take (i := 2) (oi := { dst := some 4, op := Go.Op.assign (Go.Operand.tmp 31), type := 22, pos := "ref.go:39", after := #[{ on := 0, ground := Go.Ground.data }, { on := 0, ground := Go.Ground.phase }, { on := 1, ground := Go.Ground.textOnly Go.Departure.lateStores }], guard := none }) (v := ?_) rfl (by kernel_rfl) (by kernel_rfl) (by kernel_rfl) (fun _ _ _ h => h) (Or.inl ⟨by rfl, ?_⟩) (by assumption) ?_
        rotate_left 1
        · intro wS hSw; (try dsimp only at hSw); go_simp; try with_reducible rfl
        try simp only [Act.put, List.setIfInBounds_toArray, List.set_cons_zero, List.set_cons_succ]
        refine wpAnyH_ready (rs := [1]) (by kernel_rfl) (by simp) ?_
        refine AllReadyH.cons (o := { dst := some 32, op := Go.Op.load 25 (Go.Operand.tmp 8), type := 25, pos := "ref.go:39", after := #[{ on := 2, ground := Go.Ground.gcOnly Go.Departure.lateStores }], guard := none }) rfl (fun K hK => ?_) (AllReadyH.nil)
        go_simp
        refine hK.out _ _ (by (try dsimp only); exact hHeld) (fun hHeld2 => ?_)
        clear hK K hHeld
        have hHeld := hHeld2
        clear hHeld2
        try simp only [Act.put, List.setIfInBounds_toArray, List.set_cons_zero, List.set_cons_succ]
        refine wpAnyH_ready (rs := [3]) (by kernel_rfl) (by simp) ?_
        refine AllReadyH.cons (o := { dst := none, op := Go.Op.store 25 (Go.Operand.tmp 5) (Go.Operand.tmp 32), type := 0, pos := "ref.go:39", after := #[{ on := 1, ground := Go.Ground.data }, { on := 2, ground := Go.Ground.chain }, { on := 0, ground := Go.Ground.phase }, { on := 1, ground := Go.Ground.phase }, { on := 2, ground := Go.Ground.phase }], guard := none }) rfl (fun K hK => ?_) (AllReadyH.nil)
        have n0 := HRT.out.cs 0 _ rfl
        have n1 := HRT.out.cs 1 _ rfl
        have n2 := HRT.out.cs 2 _ rfl
        have n3 := HRT.out.cs 3 _ rfl
        have n4 := HRT.out.cs 4 _ rfl
        have n5 := HRT.out.cs 5 _ rfl
        have n6 := HRT.out.cs 6 _ rfl
        have nf := HRT.out.s
        unfold Soft at nf
        have nl := HRT.out.lt
        go_simp
        refine hK.out _ _ (by (try dsimp only); refine Below.drew ?_; (repeat with_reducible refine below_put (Nat.le_refl _) ?_); exact Below.refl _ _) (fun hHeld2 => ?_)
        have hq := HRT.out.fill [.int .u64 (x.id : Int), .string (ofL x.shop), .string (ofL x.key), .slice Ax x.head.length cx, .string (ofL x.body), .int .u64 (x.due : Int), .int .u8 (x.hops : Int)] rfl
        simp only [putAll] at hq
        have HQ := Lib.hid (hq.on (Below.refl _ _).drew)
        clear n0 n1 n2 n3 n4 n5 n6 nf nl hq
        clear hK K hHeld
        have hHeld := hHeld2
        clear hHeld2
        try simp only [Act.put, List.setIfInBounds_toArray, List.set_cons_zero, List.set_cons_succ]
        refine wpAnyH_take (i := 4) (oi := { dst := some 6, op := Go.Op.assign (Go.Operand.const (Go.Value.bool true)), type := 4, pos := "ref.go:39", after := #[{ on := 3, ground := Go.Ground.chain }, { on := 0, ground := Go.Ground.phase }, { on := 1, ground := Go.Ground.phase }, { on := 2, ground := Go.Ground.phase }, { on := 3, ground := Go.Ground.phase }], guard := none }) (v := ?_) rfl (by kernel_rfl) (by kernel_rfl) (by kernel_rfl) (fun _ _ _ h => h) (Or.inl ⟨by rfl, ?_⟩) (by assumption) ?_
        rotate_left 1
        · intro wS hSw; (try dsimp only at hSw); go_simp; try with_reducible rfl
        try simp only [Act.put, List.setIfInBounds_toArray, List.set_cons_zero, List.set_cons_succ]
        refine wpAnyH_done (by kernel_rfl) ?_ _
        have hZ := hHeld
        clear hHeld
        have hbz := HBT.out.trans (hZ.mono (Nat.le_succ _))
        have HBZ := Lib.hid hbz
        clear hZ hbz z0 z1 z2 z3 z4 z5 z6 e0 e1 el
        go_wp2_with fail
        have g0 := HQ.out.cs 0 _ rfl
        have g1 := HQ.out.cs 1 _ rfl
        have g2 := HQ.out.cs 2 _ rfl
        have g3 := HQ.out.cs 3 _ rfl
        have g4 := HQ.out.cs 4 _ rfl
        have g5 := HQ.out.cs 5 _ rfl
        have g6 := HQ.out.cs 6 _ rfl
        refine bodyPost_ret (v := .tuple #[.int .u64 (D : Int), .agg #[.int .u64 (x.id : Int), .string (ofL x.shop), .string (ofL x.key), .slice Ax x.head.length cx, .string (ofL x.body), .int .u64 (x.due : Int), .int .u8 (x.hops : Int)], .bool true]) (by simp [results, Tryz.results24, go_sem, g0, g1, g2, g3, g4, g5, g6]) rfl ?_
        exact ⟨Ax, cx, by rw [HFI.out.1, HFI.out.2.1, HFI.out.2.2]; rfl, by rw [HFI.out.2.1]; exact HOK.out.on HBZ.out, HBZ.out⟩
      · have d1 : decide ((D : Int) > (k : Int)) = false := decide_eq_false (by clear hw1 hw2 hw3 hw4 hw5; omega)
        have d2 : decide (k < D) = false := decide_eq_false hgt
        have HNX := Lib.hid (show i + 1 = 0 ∨ T - l.length + (i + 1) ≤ k from .inr (by have := HD.out; omega))
        have HXT := Lib.hid (HXC.out.on HT.out)
        clear hw1 hw2 hw3
        go_wp2_with fail
        go_roundg (gk - 1)
        case rel => exact ⟨i + 1, by have := HI.out; omega, by go_num, HNX.out, HXT.out, HRT.out, HBT.out⟩
        case measure => have := HI.out; omega
    · have r0 := HRC.out.cs 0 _ rfl
      have r1 := HRC.out.cs 1 _ rfl
      have r2 := HRC.out.cs 2 _ rfl
      have r3 := HRC.out.cs 3 _ rfl
      have r4 := HRC.out.cs 4 _ rfl
      have r5 := HRC.out.cs 5 _ rfl
      have r6 := HRC.out.cs 6 _ rfl
      have rf : ∀ j, wr.frozen? ⟨w.heap.size + 1, j, none⟩ = false := HRC.out.s
      have rl := HRC.out.lt
      have HFI := Lib.hid (show Rs.aftN T l.length k = 0 ∧ Rs.aft T (l.map Mp.x) k = Ml.zero ∧ decide (k < T) = false from by
        have h1 := HI.out
        have h2 := HNO.out
        have h3 : T ≤ k := by
          rcases h2 with h2 | h2
          · have := H0.out; omega
          · omega
        exact ⟨by unfold Rs.aftN; rw [if_pos h3], by unfold Rs.aft; rw [if_pos h3], decide_eq_false (by omega)⟩)
      have hq := HRC.out.fill [.int .u64 0, .string ⟨#[]⟩, .string ⟨#[]⟩, .slice none 0 0, .string ⟨#[]⟩, .int .u64 0, .int .u8 0] rfl
      simp only [putAll] at hq
      have HQ := Lib.hid hq
      have hbz := below_putAll (g := w.heap.size + 1) (by omega) [.int .u64 0, .string ⟨#[]⟩, .string ⟨#[]⟩, .slice none 0 0, .string ⟨#[]⟩, .int .u64 0, .int .u8 0] 0 HBK.out
      simp only [putAll] at hbz
      have HBZ := Lib.hid hbz
      clear hq hbz
      go_wp2_with fail
      have g0 := HQ.out.cs 0 _ rfl
      have g1 := HQ.out.cs 1 _ rfl
      have g2 := HQ.out.cs 2 _ rfl
      have g3 := HQ.out.cs 3 _ rfl
      have g4 := HQ.out.cs 4 _ rfl
      have g5 := HQ.out.cs 5 _ rfl
      have g6 := HQ.out.cs 6 _ rfl
      refine bodyPost_ret (v := .tuple #[.int .u64 0, .agg #[.int .u64 0, .string ⟨#[]⟩, .string ⟨#[]⟩, .slice none 0 0, .string ⟨#[]⟩, .int .u64 0, .int .u8 0], .bool false]) (by simp [results, Tryz.results24, go_sem, g0, g1, g2, g3, g4, g5, g6]) rfl ?_
      exact ⟨none, 0, by rw [HFI.out.1, HFI.out.2.1, HFI.out.2.2]; rfl, by rw [HFI.out.2.1]; exact Prs.nil _ _, HBZ.out⟩
end Go.Proofs.YtjkaljokkpabfaaGreatDoor
end
