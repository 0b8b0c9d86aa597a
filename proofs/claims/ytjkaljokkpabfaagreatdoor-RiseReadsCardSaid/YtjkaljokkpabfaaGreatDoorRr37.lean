/-
  RISES: their sizes; held against each other: walked.
-/
import Derived.Test.YtjkaljokkpabfaaGreatDoorRr27
import Derived.Test.YtjkaljokkpabfaaGreatDoorRr34
import Derived.Test.YtjkaljokkpabfaaGreatDoorRr35
import Derived.Test.YtjkaljokkpabfaaGreatDoorRr36

section
namespace Go.Proofs.YtjkaljokkpabfaaGreatDoor
open Go.ChangeShapes Go.WideShapes Go.ChangeAt Go.RowKit
namespace Rs
def size1 (x : Ml) : Nat := if x.code = 0 then x.enc.length else 0
def size (l : List Ml) : Nat := (l.map size1).sum
theorem size_succ {l : List Ml} {k : Nat} (hk : k < l.length) : size (l.take (k + 1)) = size (l.take k) + size1 (l.getD k Ml.zero) := by
  unfold size
  rw [List.take_succ_eq_append_getElem hk, List.map_append, List.sum_append, List.getD_eq_getElem?_getD, List.getElem?_eq_getElem hk]
  simp
theorem size1_le (x : Ml) : size1 x ≤ 1400 := by
  unfold size1
  split
  · rename_i h
    obtain ⟨h1, h2, h3⟩ := Ml.enc_len_le h
    obtain ⟨-, -, h4, -, -⟩ := Ml.code_ok h
    have l3 : (Hd.henc x.head).length ≤ 1000 := by have := (hfine_of h4).pre x.head.length; rw [hpre_all (Nat.le_refl _)] at this; exact this
    unfold Ml.enc
    simp only [List.length_append, Oct.length_be]
    omega
  · omega
theorem size_le (l : List Ml) : size l ≤ l.length * 1400 := by
  induction l with
  | nil => simp [size]
  | cons x l ih =>
    have h1 := size1_le x
    have e : size (x :: l) = size1 x + size l := by unfold size; rw [List.map_cons, List.sum_cons]
    rw [e, List.length_cons, Nat.succ_mul]
    generalize l.length * 1400 = q at *
    omega
theorem size_take (l : List Ml) (k : Nat) : size (l.take k) ≤ l.length * 1400 := by
  have h1 := size_le (l.take k)
  have h3 : (l.take k).length ≤ l.length := by rw [List.length_take]; exact Nat.min_le_right _ _
  exact Nat.le_trans h1 (Nat.mul_le_mul_right _ h3)
end Rs
theorem maEq_decR (x y : Ml) : maEq x y = decide (x = y) := by
  unfold maEq
  cases x; cases y
  rw [Bool.eq_iff_iff]
  simp only [Bool.and_eq_true, beq_iff_eq, decide_eq_true_eq, Ml.mk.injEq]
  constructor
  · rintro ⟨⟨⟨⟨⟨⟨h1, h2⟩, h3⟩, h4⟩, h5⟩, h6⟩, h7⟩
    exact ⟨h1, h2, h3, h4, h5, h6, h7⟩
  · rintro ⟨h1, h2, h3, h4, h5, h6, h7⟩
    exact ⟨⟨⟨⟨⟨⟨h1, h2⟩, h3⟩, h4⟩, h5⟩, h6⟩, h7⟩
def SzSt (w : World) (L : List Ml) (n g : Nat) (v i : Value) (wr : World) : Prop := ∃ k : Nat, k + g = n ∧ v = .int .i64 (Rs.size (L.take k) : Int) ∧ i = .int .i64 (k : Int) ∧ Below w.heap.size w wr

set_option maxRecDepth 100000 in
set_option maxHeartbeats 4000000 in
theorem rsSize_any (T c : Nat) (A : Option Addr) (l : List Mp) (w : World) (hl : l.length ≤ 1000) (h : Mas w A l) (hf : ∀ p ∈ l, Ml.Fits p.x) (hL : Len w) : Calls Tryz.prog 28 #[.agg #[.int .u64 (T : Int), .slice A l.length c]] w fun e w' => e = .returned (.int .i64 (Rs.size (l.map Mp.x) : Int)) ∧ Below w.heap.size w w' := by
  have HB0 := Lib.hid (alloc1B w (.cells #[.int .u64 (T : Int), .slice A l.length c] 35))
  have HX0 := Lib.hid (BoxC.new (w := w) (W := w) (Nat.le_refl _) #[.int .u64 (T : Int), .slice A l.length c] 35)
  have HM := Lib.hid h
  have HF := Lib.hid hf
  have HL := Lib.hid hL
  have HMP := Lib.hid (show ∀ k, k < l.length → (l.map Mp.x).getD k Ml.zero = (l.getD k Mp.zero).x from fun k _ => (mp_getD l k).symm)
  obtain ⟨L, hL1⟩ : ∃ L, l.map Mp.x = L := ⟨_, rfl⟩
  have hLl : L.length = l.length := by rw [← hL1, List.length_map]
  rw [hL1] at HMP ⊢
  have HLL := Lib.hid hLl
  have hS := Rs.size_le L
  clear h hf hL1 hL
  go_enter Tryz.func28, Tryz.ntmps28
  have e0 := HX0.out.cs 0 _ rfl
  have e1 := HX0.out.cs 1 _ rfl
  have el := HX0.out.lt
  go_wp2_with fail
  go_loopg [3, 9] l.length (fun g v i wr => SzSt w L l.length g v i wr)
  case atStart => exact ⟨0, by omega, rfl, rfl, HB0.out⟩
  case round =>
    obtain ⟨k, hk, rfl, rfl, hB⟩ := hrel
    have HK := Lib.hid hk
    have HBK := Lib.hid hB
    clear hk hB e0 e1 el
    by_cases hlt : k < l.length
    · obtain ⟨b, off, hAe, hb, hc⟩ := (HM.out.on HBK.out).get hlt
      have hok := (HM.out.on HBK.out).ok hlt
      have hfi := HF.out _ (mp_mem hlt)
      have hsu := Rs.size_succ (l := L) (k := k) (by have := HLL.out; omega)
      rw [HMP.out k hlt] at hsu
      subst hAe
      generalize l.getD k Mp.zero = p at *
      obtain ⟨x, Ax, cx⟩ := p
      dsimp only at hc hok hfi hsu
      have q0 := hc 0 _ rfl
      have q1 := hc 1 _ rfl
      have q2 := hc 2 _ rfl
      have q3 := hc 3 _ rfl
      have q4 := hc 4 _ rfl
      have q5 := hc 5 _ rfl
      have q6 := hc 6 _ rfl
      rw [Nat.add_zero] at q0
      dsimp only at q0 q1 q2 q3 q4 q5 q6
      have hT := alloc1B wr (.cells #[.int .u64 (x.id : Int), .string (ofL x.shop), .string (ofL x.key), .slice Ax x.head.length cx, .string (ofL x.body), .int .u64 (x.due : Int), .int .u8 (x.hops : Int)] 25)
      have HB1 := Lib.hid (bthen HBK.out hT (Nat.le_refl _))
      have HC := Lib.hid (maSize_any x Ax cx _ (hok.on hT) hfi (HL.out.on HB1.out))
      rw [show (if x.code = 0 then (x.enc.length : Int) else 0) = ((Rs.size1 x : Nat) : Int) by unfold Rs.size1; split <;> rfl] at HC
      simp only [maV] at HC
      have hs1 := Rs.size1_le x
      have hs2 := Rs.size_take L k
      have hSb : Rs.size (L.take k) ≤ 1400000 := by have := HLL.out; omega
      clear hc hok hfi hT hs2
      generalize Rs.size (L.take k) = S at *
      generalize Rs.size1 x = s1 at *
      have HSU := Lib.hid hsu
      clear hsu
      go_wp2_with fail
      refine HC.out.mono ?_
      rintro e w5 ⟨rfl, hb5⟩
      have HB5 := Lib.hid (bthen HB1.out hb5 (Nat.le_refl _))
      clear hb5 q0 q1 q2 q3 q4 q5 q6
      go_wp2_with fail
      go_roundg (gk - 1)
      case rel => exact ⟨k + 1, by have := HK.out; omega, by rw [HSU.out]; go_num, by go_num, HB5.out⟩
      case measure => have := HK.out; omega
    · have hkE : k = l.length := by have := HK.out; omega
      have HSE := Lib.hid (show Rs.size (L.take k) = Rs.size L by rw [List.take_of_length_le (by have := HLL.out; omega)])
      go_wp2_with fail
      go_ret
      exact ⟨by rw [← HSE.out]; rfl, HBK.out⟩

set_option maxRecDepth 100000 in
set_option maxHeartbeats 4000000 in
theorem r20Size_any (T c : Nat) (A : Option Addr) (l : List Mp) (w : World) (hl : l.length ≤ 1000) (h : Mas w A l) (hf : ∀ p ∈ l, Ml.Fits p.x) : Calls Tryz.prog 29 #[.agg #[.int .u64 (T : Int), .slice A l.length c]] w fun e w' => e = .returned (.int .i64 (Rs.size (l.map Mp.x) : Int)) ∧ Below w.heap.size w w' := by
  have HB0 := Lib.hid (alloc1B w (.cells #[.int .u64 (T : Int), .slice A l.length c] 38))
  have HX0 := Lib.hid (BoxC.new (w := w) (W := w) (Nat.le_refl _) #[.int .u64 (T : Int), .slice A l.length c] 38)
  have HM := Lib.hid h
  have HF := Lib.hid hf
  have HMP := Lib.hid (show ∀ k, k < l.length → (l.map Mp.x).getD k Ml.zero = (l.getD k Mp.zero).x from fun k _ => (mp_getD l k).symm)
  obtain ⟨L, hL1⟩ : ∃ L, l.map Mp.x = L := ⟨_, rfl⟩
  have hLl : L.length = l.length := by rw [← hL1, List.length_map]
  rw [hL1] at HMP ⊢
  have HLL := Lib.hid hLl
  have hS := Rs.size_le L
  clear h hf hL1 
  go_enter Tryz.func29, Tryz.ntmps29
  have e0 := HX0.out.cs 0 _ rfl
  have e1 := HX0.out.cs 1 _ rfl
  have el := HX0.out.lt
  go_wp2_with fail
  go_loopg [3, 9] l.length (fun g v i wr => SzSt w L l.length g v i wr)
  case atStart => exact ⟨0, by omega, rfl, rfl, HB0.out⟩
  case round =>
    obtain ⟨k, hk, rfl, rfl, hB⟩ := hrel
    have HK := Lib.hid hk
    have HBK := Lib.hid hB
    clear hk hB e0 e1 el
    by_cases hlt : k < l.length
    · obtain ⟨b, off, hAe, hb, hc⟩ := (HM.out.on HBK.out).get hlt
      have hok := (HM.out.on HBK.out).ok hlt
      have hfi := HF.out _ (mp_mem hlt)
      have hsu := Rs.size_succ (l := L) (k := k) (by have := HLL.out; omega)
      rw [HMP.out k hlt] at hsu
      subst hAe
      generalize l.getD k Mp.zero = p at *
      obtain ⟨x, Ax, cx⟩ := p
      dsimp only at hc hok hfi hsu
      have q0 := hc 0 _ rfl
      have q1 := hc 1 _ rfl
      have q2 := hc 2 _ rfl
      have q3 := hc 3 _ rfl
      have q4 := hc 4 _ rfl
      have q5 := hc 5 _ rfl
      have q6 := hc 6 _ rfl
      rw [Nat.add_zero] at q0
      dsimp only at q0 q1 q2 q3 q4 q5 q6
      have hT := alloc1B wr (.cells #[.int .u64 (x.id : Int), .string (ofL x.shop), .string (ofL x.key), .slice Ax x.head.length cx, .string (ofL x.body), .int .u64 (x.due : Int), .int .u8 (x.hops : Int)] 25)
      have HB1 := Lib.hid (bthen HBK.out hT (Nat.le_refl _))
      have HC := Lib.hid (r13Size_any x Ax cx _ (hok.on hT) hfi)
      rw [show (if x.code = 0 then (x.enc.length : Int) else 0) = ((Rs.size1 x : Nat) : Int) by unfold Rs.size1; split <;> rfl] at HC
      simp only [maV] at HC
      have hs1 := Rs.size1_le x
      have hs2 := Rs.size_take L k
      have hSb : Rs.size (L.take k) ≤ 1400000 := by have := HLL.out; omega
      clear hc hok hfi hT hs2
      generalize Rs.size (L.take k) = S at *
      generalize Rs.size1 x = s1 at *
      have HSU := Lib.hid hsu
      clear hsu
      go_wp2_with fail
      refine HC.out.mono ?_
      rintro e w5 ⟨rfl, hb5⟩
      have HB5 := Lib.hid (bthen HB1.out hb5 (Nat.le_refl _))
      clear hb5 q0 q1 q2 q3 q4 q5 q6
      go_wp2_with fail
      go_roundg (gk - 1)
      case rel => exact ⟨k + 1, by have := HK.out; omega, by rw [HSU.out]; go_num, by go_num, HB5.out⟩
      case measure => have := HK.out; omega
    · have hkE : k = l.length := by have := HK.out; omega
      have HSE := Lib.hid (show Rs.size (L.take k) = Rs.size L by rw [List.take_of_length_le (by have := HLL.out; omega)])
      go_wp2_with fail
      go_ret
      exact ⟨by rw [← HSE.out]; rfl, HBK.out⟩

def SmR (w : World) (l1 l2 : List Mp) (n g : Nat) (i : Value) (wr : World) : Prop := ∃ k : Nat, k + g = n ∧ i = .int .i64 (k : Int) ∧ (∀ j, j < k → (l1.getD j Mp.zero).x = (l2.getD j Mp.zero).x) ∧ Below w.heap.size w wr
theorem mps_eq {l1 l2 : List Mp} (hl : l1.length = l2.length) (h : ∀ j, j < l1.length → (l1.getD j Mp.zero).x = (l2.getD j Mp.zero).x) : l1.map Mp.x = l2.map Mp.x := by
  apply List.ext_getElem (by simp [hl])
  intro j h1 h2
  have hj1 : j < l1.length := by simpa using h1
  have hj2 : j < l2.length := by simpa using h2
  have := h j hj1
  rw [List.getD_eq_getElem?_getD, List.getElem?_eq_getElem hj1, List.getD_eq_getElem?_getD, List.getElem?_eq_getElem hj2] at this
  rw [List.getElem_map, List.getElem_map]
  exact this
theorem mps_ne {l1 l2 : List Mp} {j : Nat} (h : (l1.getD j Mp.zero).x ≠ (l2.getD j Mp.zero).x) : ¬ l1.map Mp.x = l2.map Mp.x := fun e => h (by rw [mp_getD, mp_getD, e])
set_option maxRecDepth 100000 in
set_option maxHeartbeats 4000000 in
theorem r20Same_any (T1 T2 c1 c2 : Nat) (A1 A2 : Option Addr) (l1 l2 : List Mp) (w : World) (hl1 : l1.length ≤ 1000) (_hl2 : l2.length ≤ 1000) (h1 : Mas w A1 l1) (h2 : Mas w A2 l2) :
    Calls Tryz.prog 25 #[.agg #[.int .u64 (T1 : Int), .slice A1 l1.length c1], .agg #[.int .u64 (T2 : Int), .slice A2 l2.length c2]] w fun e w' => e = .returned (.bool (decide (T1 = T2 ∧ l1.map Mp.x = l2.map Mp.x))) ∧ Below w.heap.size w w' := by
  have HB0 := Lib.hid (rs_two w (.cells #[.int .u64 (T1 : Int), .slice A1 l1.length c1] 38) (.cells #[.int .u64 (T2 : Int), .slice A2 l2.length c2] 38))
  have HXA := Lib.hid ((BoxC.new (w := w) (W := w) (Nat.le_refl _) #[.int .u64 (T1 : Int), .slice A1 l1.length c1] 38).on (alloc1B _ (.cells #[.int .u64 (T2 : Int), .slice A2 l2.length c2] 38)))
  have HXB := Lib.hid (rs_box1 w (.cells #[.int .u64 (T1 : Int), .slice A1 l1.length c1] 38) #[.int .u64 (T2 : Int), .slice A2 l2.length c2] 38)
  have H1 := Lib.hid h1
  have H2 := Lib.hid h2
  clear h1 h2
  by_cases hT : T1 = T2
  · subst hT
    by_cases hlen : l1.length = l2.length
    · have hml : l1.length ≤ 1000 := by omega
      have HLE := Lib.hid hlen
      rw [← hlen] at HB0 HXA HXB ⊢
      clear hlen
      go_enter Tryz.func25, Tryz.ntmps25
      have a0 := HXA.out.cs 0 _ rfl
      have a1 := HXA.out.cs 1 _ rfl
      have b0 := HXB.out.cs 0 _ rfl
      have b1 := HXB.out.cs 1 _ rfl
      have al := HXA.out.lt
      have bl := HXB.out.lt
      go_wp2_with fail
      go_loopg [23] l1.length (fun g i wr => SmR ((w.alloc (.cells #[.int .u64 (T1 : Int), .slice A1 l1.length c1] 38)).alloc (.cells #[.int .u64 (T1 : Int), .slice A2 l1.length c2] 38)) l1 l2 l1.length g i wr)
      case atStart => exact ⟨0, by omega, rfl, fun j hj => absurd hj (by omega), Below.refl _ _⟩
      case round =>
        obtain ⟨k, hk, rfl, hall, hB⟩ := hrel
        have HK := Lib.hid hk
        have HALL := Lib.hid hall
        have HBK := Lib.hid hB
        have HBT := Lib.hid (bthen HB0.out hB (Nat.le_refl _))
        clear hk hall hB a0 a1 b0 b1 al bl
        by_cases hlt : k < l1.length
        · have hlt2 : k < l2.length := by have := HLE.out; omega
          obtain ⟨g1, o1, e1, hb1, ha1⟩ := (H1.out.on HBT.out).get hlt
          obtain ⟨g2, o2, e2, hb2, ha2⟩ := (H2.out.on HBT.out).get hlt2
          have hk1 := (H1.out.on HBT.out).ok hlt
          have hk2 := (H2.out.on HBT.out).ok hlt2
          subst e1
          subst e2
          have HNE := Lib.hid (fun h => mps_ne (l1 := l1) (l2 := l2) (j := k) h)
          obtain ⟨p1, hp1⟩ : ∃ p, l1.getD k Mp.zero = p := ⟨_, rfl⟩
          obtain ⟨p2, hp2⟩ : ∃ p, l2.getD k Mp.zero = p := ⟨_, rfl⟩
          have HP1 := Lib.hid hp1
          have HP2 := Lib.hid hp2
          rw [hp1] at ha1 hk1 HNE
          rw [hp2] at ha2 hk2 HNE
          clear hp1 hp2
          obtain ⟨x, Ax, cx⟩ := p1
          obtain ⟨y, Ay, cy⟩ := p2
          dsimp only at ha1 ha2 hk1 hk2
          have x0 := ha1 0 _ rfl
          have x1 := ha1 1 _ rfl
          have x2 := ha1 2 _ rfl
          have x3 := ha1 3 _ rfl
          have x4 := ha1 4 _ rfl
          have x5 := ha1 5 _ rfl
          have x6 := ha1 6 _ rfl
          have y0 := ha2 0 _ rfl
          have y1 := ha2 1 _ rfl
          have y2 := ha2 2 _ rfl
          have y3 := ha2 3 _ rfl
          have y4 := ha2 4 _ rfl
          have y5 := ha2 5 _ rfl
          have y6 := ha2 6 _ rfl
          rw [Nat.add_zero] at x0 y0
          dsimp only at x0 x1 x2 x3 x4 x5 x6 y0 y1 y2 y3 y4 y5 y6
          have a1 := (HXA.out.on HBK.out).cs 1 _ rfl
          have b1 := (HXB.out.on HBK.out).cs 1 _ rfl
          have al := (HXA.out.on HBK.out).lt
          have bl := (HXB.out.on HBK.out).lt
          have HSA := Lib.hid (fun W (hb : Below wr.heap.size wr W) => r13Same_any x y Ax cx Ay cy W hk1.len hk2.len (hk1.row.on hb) (hk2.row.on hb))
          rw [maEq_decR] at HSA
          simp only [maV] at HSA
          have hi1 : (0 : Int) ≤ (k : Int) := by omega
          have hi2 : (k : Int) < (l1.length : Int) := by omega
          have hi3 : ((k : Int)).toNat = k := by omega
          clear ha1 ha2 hk1 hk2 hb1 hb2
          by_cases hxy : x = y
          · rw [decide_eq_true hxy] at HSA
            have HXY := Lib.hid hxy
            clear hxy
            go_upto_region 6 with fail
            refine wp_region_held_drew (S := fun a => Below (wr.heap.size) wr a) (by kernel_rfl) (by (try dsimp only); exact (Below.refl _ _).drew) (fun hHeld => ?_)
            refine wpAnyH_take (i := 0) (oi := { dst := some 26, op := Go.Op.fieldAddr 38 (Go.Operand.tmp 2) 1, type := 0, pos := "ref.go:88", after := #[], guard := none }) (v := ?_) rfl (by kernel_rfl) (by kernel_rfl) (by kernel_rfl) (fun _ _ _ h => h) (Or.inl ⟨by rfl, ?_⟩) (by assumption) ?_
            rotate_left 1
            · intro wS hSw; (try dsimp only at hSw); go_simp; try with_reducible rfl
            try simp only [Act.put, List.setIfInBounds_toArray, List.set_cons_zero, List.set_cons_succ]
            refine wpAnyH_take (i := 1) (oi := { dst := some 27, op := Go.Op.load 33 (Go.Operand.tmp 26), type := 33, pos := "ref.go:88", after := #[{ on := 0, ground := Go.Ground.data }], guard := none }) (v := ?_) rfl (by kernel_rfl) (by kernel_rfl) (by kernel_rfl) (fun _ _ _ h => h) (Or.inl ⟨by rfl, ?_⟩) (by assumption) ?_
            rotate_left 1
            · intro wS hSw; (try dsimp only at hSw); have a1 := cell_on hSw a1; have b1 := cell_on hSw b1; have x0 := cell_on hSw x0; have x1 := cell_on hSw x1; have x2 := cell_on hSw x2; have x3 := cell_on hSw x3; have x4 := cell_on hSw x4; have x5 := cell_on hSw x5; have x6 := cell_on hSw x6; have y0 := cell_on hSw y0; have y1 := cell_on hSw y1; have y2 := cell_on hSw y2; have y3 := cell_on hSw y3; have y4 := cell_on hSw y4; have y5 := cell_on hSw y5; have y6 := cell_on hSw y6; go_simp; try with_reducible rfl
            try simp only [Act.put, List.setIfInBounds_toArray, List.set_cons_zero, List.set_cons_succ]
            refine wpAnyH_take (i := 2) (oi := { dst := some 28, op := Go.Op.move (Go.Operand.tmp 5), type := 3, pos := "ref.go:88", after := #[], guard := none }) (v := ?_) rfl (by kernel_rfl) (by kernel_rfl) (by kernel_rfl) (fun _ _ _ h => h) (Or.inl ⟨by rfl, ?_⟩) (by assumption) ?_
            rotate_left 1
            · intro wS hSw; (try dsimp only at hSw); go_simp; try with_reducible rfl
            try simp only [Act.put, List.setIfInBounds_toArray, List.set_cons_zero, List.set_cons_succ]
            refine wpAnyH_take (i := 3) (oi := { dst := some 29, op := Go.Op.indexAddr 33 (Go.Operand.tmp 27) (Go.Operand.tmp 28), type := 0, pos := "ref.go:88", after := #[{ on := 1, ground := Go.Ground.data }, { on := 2, ground := Go.Ground.data }], guard := none }) (v := ?_) rfl (by kernel_rfl) (by kernel_rfl) (by kernel_rfl) (fun _ _ _ h => h) (Or.inl ⟨by rfl, ?_⟩) (by assumption) ?_
            rotate_left 1
            · intro wS hSw; (try dsimp only at hSw); go_simp; try with_reducible rfl
            try simp only [Act.put, List.setIfInBounds_toArray, List.set_cons_zero, List.set_cons_succ]
            refine wpAnyH_take (i := 4) (oi := { dst := some 30, op := Go.Op.load 25 (Go.Operand.tmp 29), type := 25, pos := "ref.go:88", after := #[{ on := 3, ground := Go.Ground.data }], guard := none }) (v := ?_) rfl (by kernel_rfl) (by kernel_rfl) (by kernel_rfl) (fun _ _ _ h => h) (Or.inl ⟨by rfl, ?_⟩) (by assumption) ?_
            rotate_left 1
            · intro wS hSw; (try dsimp only at hSw); have a1 := cell_on hSw a1; have b1 := cell_on hSw b1; have x0 := cell_on hSw x0; have x1 := cell_on hSw x1; have x2 := cell_on hSw x2; have x3 := cell_on hSw x3; have x4 := cell_on hSw x4; have x5 := cell_on hSw x5; have x6 := cell_on hSw x6; have y0 := cell_on hSw y0; have y1 := cell_on hSw y1; have y2 := cell_on hSw y2; have y3 := cell_on hSw y3; have y4 := cell_on hSw y4; have y5 := cell_on hSw y5; have y6 := cell_on hSw y6; go_simp; try with_reducible rfl
            try simp only [Act.put, List.setIfInBounds_toArray, List.set_cons_zero, List.set_cons_succ]
            refine wpAnyH_take (i := 5) (oi := { dst := some 31, op := Go.Op.fieldAddr 38 (Go.Operand.tmp 3) 1, type := 0, pos := "ref.go:88", after := #[], guard := none }) (v := ?_) rfl (by kernel_rfl) (by kernel_rfl) (by kernel_rfl) (fun _ _ _ h => h) (Or.inl ⟨by rfl, ?_⟩) (by assumption) ?_
            rotate_left 1
            · intro wS hSw; (try dsimp only at hSw); go_simp; try with_reducible rfl
            try simp only [Act.put, List.setIfInBounds_toArray, List.set_cons_zero, List.set_cons_succ]
            refine wpAnyH_take (i := 6) (oi := { dst := some 32, op := Go.Op.load 33 (Go.Operand.tmp 31), type := 33, pos := "ref.go:88", after := #[{ on := 5, ground := Go.Ground.data }], guard := none }) (v := ?_) rfl (by kernel_rfl) (by kernel_rfl) (by kernel_rfl) (fun _ _ _ h => h) (Or.inl ⟨by rfl, ?_⟩) (by assumption) ?_
            rotate_left 1
            · intro wS hSw; (try dsimp only at hSw); have a1 := cell_on hSw a1; have b1 := cell_on hSw b1; have x0 := cell_on hSw x0; have x1 := cell_on hSw x1; have x2 := cell_on hSw x2; have x3 := cell_on hSw x3; have x4 := cell_on hSw x4; have x5 := cell_on hSw x5; have x6 := cell_on hSw x6; have y0 := cell_on hSw y0; have y1 := cell_on hSw y1; have y2 := cell_on hSw y2; have y3 := cell_on hSw y3; have y4 := cell_on hSw y4; have y5 := cell_on hSw y5; have y6 := cell_on hSw y6; go_simp; try with_reducible rfl
            try simp only [Act.put, List.setIfInBounds_toArray, List.set_cons_zero, List.set_cons_succ]
            refine wpAnyH_take (i := 7) (oi := { dst := some 33, op := Go.Op.move (Go.Operand.tmp 5), type := 3, pos := "ref.go:88", after := #[], guard := none }) (v := ?_) rfl (by kernel_rfl) (by kernel_rfl) (by kernel_rfl) (fun _ _ _ h => h) (Or.inl ⟨by rfl, ?_⟩) (by assumption) ?_
            rotate_left 1
            · intro wS hSw; (try dsimp only at hSw); go_simp; try with_reducible rfl
            try simp only [Act.put, List.setIfInBounds_toArray, List.set_cons_zero, List.set_cons_succ]
            refine wpAnyH_take (i := 8) (oi := { dst := some 34, op := Go.Op.indexAddr 33 (Go.Operand.tmp 32) (Go.Operand.tmp 33), type := 0, pos := "ref.go:88", after := #[{ on := 6, ground := Go.Ground.data }, { on := 7, ground := Go.Ground.data }], guard := none }) (v := ?_) rfl (by kernel_rfl) (by kernel_rfl) (by kernel_rfl) (fun _ _ _ h => h) (Or.inl ⟨by rfl, ?_⟩) (by assumption) ?_
            rotate_left 1
            · intro wS hSw; (try dsimp only at hSw); go_simp; try with_reducible rfl
            try simp only [Act.put, List.setIfInBounds_toArray, List.set_cons_zero, List.set_cons_succ]
            refine wpAnyH_take (i := 9) (oi := { dst := some 35, op := Go.Op.load 25 (Go.Operand.tmp 34), type := 25, pos := "ref.go:88", after := #[{ on := 8, ground := Go.Ground.data }], guard := none }) (v := ?_) rfl (by kernel_rfl) (by kernel_rfl) (by kernel_rfl) (fun _ _ _ h => h) (Or.inl ⟨by rfl, ?_⟩) (by assumption) ?_
            rotate_left 1
            · intro wS hSw; (try dsimp only at hSw); have a1 := cell_on hSw a1; have b1 := cell_on hSw b1; have x0 := cell_on hSw x0; have x1 := cell_on hSw x1; have x2 := cell_on hSw x2; have x3 := cell_on hSw x3; have x4 := cell_on hSw x4; have x5 := cell_on hSw x5; have x6 := cell_on hSw x6; have y0 := cell_on hSw y0; have y1 := cell_on hSw y1; have y2 := cell_on hSw y2; have y3 := cell_on hSw y3; have y4 := cell_on hSw y4; have y5 := cell_on hSw y5; have y6 := cell_on hSw y6; go_simp; try with_reducible rfl
            try simp only [Act.put, List.setIfInBounds_toArray, List.set_cons_zero, List.set_cons_succ]
            refine wpAnyH_ready (rs := [10]) (by kernel_rfl) (by simp) ?_
            refine AllReadyH.cons (o := { dst := some 36, op := Go.Op.call { callee := Go.Callee.value (Go.Operand.func 27), args := #[Go.Operand.tmp 30, Go.Operand.tmp 35], argTypes := #[25, 25] }, type := 4, pos := "ref.go:88", after := #[{ on := 4, ground := Go.Ground.data }, { on := 9, ground := Go.Ground.data }], guard := none }) rfl (fun K hK => ?_) (AllReadyH.nil)
            go_simp
            go_at_call 27
            refine (HSA.out _ hHeld).mono ?_
            rintro e wx ⟨rfl, hb2⟩
            refine hK.out _ _ (bthen hHeld hb2 (Nat.le_refl _)) (fun hHeld2 => ?_)
            clear hK K hHeld hb2
            have hHeld := hHeld2
            clear hHeld2
            try simp only [Act.put, List.setIfInBounds_toArray, List.set_cons_zero, List.set_cons_succ]
            refine wpAnyH_take (i := 11) (oi := { dst := some 37, op := Go.Op.unOp Go.UnOp.not 4 (Go.Operand.tmp 36), type := 4, pos := "ref.go:88", after := #[{ on := 10, ground := Go.Ground.data }], guard := none }) (v := ?_) rfl (by kernel_rfl) (by kernel_rfl) (by kernel_rfl) (fun _ _ _ h => h) (Or.inl ⟨by rfl, ?_⟩) (by assumption) ?_
            rotate_left 1
            · intro wS hSw; (try dsimp only at hSw); go_simp; try with_reducible rfl
            try simp only [Act.put, List.setIfInBounds_toArray, List.set_cons_zero, List.set_cons_succ]
            refine wpAnyH_done (by kernel_rfl) ?_ _
            have hZ := hHeld
            clear hHeld
            have HB5 := Lib.hid (bthen HBK.out hZ (Nat.le_refl _))
            clear hZ x0 x1 x2 x3 x4 x5 x6 y0 y1 y2 y3 y4 y5 y6 a1 b1 al bl
            go_wp2_with fail
            go_roundg (gk - 1)
            case rel => exact ⟨k + 1, by have := HK.out; omega, by go_num, fun j hj => by
              by_cases e : j = k
              · subst e; rw [HP1.out, HP2.out]; exact HXY.out
              · exact HALL.out j (by omega), HB5.out⟩
            case measure => have := HK.out; omega
          · rw [decide_eq_false hxy] at HSA
            have HXY := Lib.hid (show decide (l1.map Mp.x = l2.map Mp.x) = false from decide_eq_false (fun e => HNE.out hxy e))
            clear hxy
            go_upto_region 6 with fail
            refine wp_region_held_drew (S := fun a => Below (wr.heap.size) wr a) (by kernel_rfl) (by (try dsimp only); exact (Below.refl _ _).drew) (fun hHeld => ?_)
            refine wpAnyH_take (i := 0) (oi := { dst := some 26, op := Go.Op.fieldAddr 38 (Go.Operand.tmp 2) 1, type := 0, pos := "ref.go:88", after := #[], guard := none }) (v := ?_) rfl (by kernel_rfl) (by kernel_rfl) (by kernel_rfl) (fun _ _ _ h => h) (Or.inl ⟨by rfl, ?_⟩) (by assumption) ?_
            rotate_left 1
            · intro wS hSw; (try dsimp only at hSw); go_simp; try with_reducible rfl
            try simp only [Act.put, List.setIfInBounds_toArray, List.set_cons_zero, List.set_cons_succ]
            refine wpAnyH_take (i := 1) (oi := { dst := some 27, op := Go.Op.load 33 (Go.Operand.tmp 26), type := 33, pos := "ref.go:88", after := #[{ on := 0, ground := Go.Ground.data }], guard := none }) (v := ?_) rfl (by kernel_rfl) (by kernel_rfl) (by kernel_rfl) (fun _ _ _ h => h) (Or.inl ⟨by rfl, ?_⟩) (by assumption) ?_
            rotate_left 1
            · intro wS hSw; (try dsimp only at hSw); have a1 := cell_on hSw a1; have b1 := cell_on hSw b1; have x0 := cell_on hSw x0; have x1 := cell_on hSw x1; have x2 := cell_on hSw x2; have x3 := cell_on hSw x3; have x4 := cell_on hSw x4; have x5 := cell_on hSw x5; have x6 := cell_on hSw x6; have y0 := cell_on hSw y0; have y1 := cell_on hSw y1; have y2 := cell_on hSw y2; have y3 := cell_on hSw y3; have y4 := cell_on hSw y4; have y5 := cell_on hSw y5; have y6 := cell_on hSw y6; go_simp; try with_reducible rfl
            try simp only [Act.put, List.setIfInBounds_toArray, List.set_cons_zero, List.set_cons_succ]
            refine wpAnyH_take (i := 2) (oi := { dst := some 28, op := Go.Op.move (Go.Operand.tmp 5), type := 3, pos := "ref.go:88", after := #[], guard := none }) (v := ?_) rfl (by kernel_rfl) (by kernel_rfl) (by kernel_rfl) (fun _ _ _ h => h) (Or.inl ⟨by rfl, ?_⟩) (by assumption) ?_
            rotate_left 1
            · intro wS hSw; (try dsimp only at hSw); go_simp; try with_reducible rfl
            try simp only [Act.put, List.setIfInBounds_toArray, List.set_cons_zero, List.set_cons_succ]
            refine wpAnyH_take (i := 3) (oi := { dst := some 29, op := Go.Op.indexAddr 33 (Go.Operand.tmp 27) (Go.Operand.tmp 28), type := 0, pos := "ref.go:88", after := #[{ on := 1, ground := Go.Ground.data }, { on := 2, ground := Go.Ground.data }], guard := none }) (v := ?_) rfl (by kernel_rfl) (by kernel_rfl) (by kernel_rfl) (fun _ _ _ h => h) (Or.inl ⟨by rfl, ?_⟩) (by assumption) ?_
            rotate_left 1
            · intro wS hSw; (try dsimp only at hSw); go_simp; try with_reducible rfl
            try simp only [Act.put, List.setIfInBounds_toArray, List.set_cons_zero, List.set_cons_succ]
            refine wpAnyH_take (i := 4) (oi := { dst := some 30, op := Go.Op.load 25 (Go.Operand.tmp 29), type := 25, pos := "ref.go:88", after := #[{ on := 3, ground := Go.Ground.data }], guard := none }) (v := ?_) rfl (by kernel_rfl) (by kernel_rfl) (by kernel_rfl) (fun _ _ _ h => h) (Or.inl ⟨by rfl, ?_⟩) (by assumption) ?_
            rotate_left 1
            · intro wS hSw; (try dsimp only at hSw); have a1 := cell_on hSw a1; have b1 := cell_on hSw b1; have x0 := cell_on hSw x0; have x1 := cell_on hSw x1; have x2 := cell_on hSw x2; have x3 := cell_on hSw x3; have x4 := cell_on hSw x4; have x5 := cell_on hSw x5; have x6 := cell_on hSw x6; have y0 := cell_on hSw y0; have y1 := cell_on hSw y1; have y2 := cell_on hSw y2; have y3 := cell_on hSw y3; have y4 := cell_on hSw y4; have y5 := cell_on hSw y5; have y6 := cell_on hSw y6; go_simp; try with_reducible rfl
            try simp only [Act.put, List.setIfInBounds_toArray, List.set_cons_zero, List.set_cons_succ]
            refine wpAnyH_take (i := 5) (oi := { dst := some 31, op := Go.Op.fieldAddr 38 (Go.Operand.tmp 3) 1, type := 0, pos := "ref.go:88", after := #[], guard := none }) (v := ?_) rfl (by kernel_rfl) (by kernel_rfl) (by kernel_rfl) (fun _ _ _ h => h) (Or.inl ⟨by rfl, ?_⟩) (by assumption) ?_
            rotate_left 1
            · intro wS hSw; (try dsimp only at hSw); go_simp; try with_reducible rfl
            try simp only [Act.put, List.setIfInBounds_toArray, List.set_cons_zero, List.set_cons_succ]
            refine wpAnyH_take (i := 6) (oi := { dst := some 32, op := Go.Op.load 33 (Go.Operand.tmp 31), type := 33, pos := "ref.go:88", after := #[{ on := 5, ground := Go.Ground.data }], guard := none }) (v := ?_) rfl (by kernel_rfl) (by kernel_rfl) (by kernel_rfl) (fun _ _ _ h => h) (Or.inl ⟨by rfl, ?_⟩) (by assumption) ?_
            rotate_left 1
            · intro wS hSw; (try dsimp only at hSw); have a1 := cell_on hSw a1; have b1 := cell_on hSw b1; have x0 := cell_on hSw x0; have x1 := cell_on hSw x1; have x2 := cell_on hSw x2; have x3 := cell_on hSw x3; have x4 := cell_on hSw x4; have x5 := cell_on hSw x5; have x6 := cell_on hSw x6; have y0 := cell_on hSw y0; have y1 := cell_on hSw y1; have y2 := cell_on hSw y2; have y3 := cell_on hSw y3; have y4 := cell_on hSw y4; have y5 := cell_on hSw y5; have y6 := cell_on hSw y6; go_simp; try with_reducible rfl
            try simp only [Act.put, List.setIfInBounds_toArray, List.set_cons_zero, List.set_cons_succ]
            refine wpAnyH_take (i := 7) (oi := { dst := some 33, op := Go.Op.move (Go.Operand.tmp 5), type := 3, pos := "ref.go:88", after := #[], guard := none }) (v := ?_) rfl (by kernel_rfl) (by kernel_rfl) (by kernel_rfl) (fun _ _ _ h => h) (Or.inl ⟨by rfl, ?_⟩) (by assumption) ?_
            rotate_left 1
            · intro wS hSw; (try dsimp only at hSw); go_simp; try with_reducible rfl
            try simp only [Act.put, List.setIfInBounds_toArray, List.set_cons_zero, List.set_cons_succ]
            refine wpAnyH_take (i := 8) (oi := { dst := some 34, op := Go.Op.indexAddr 33 (Go.Operand.tmp 32) (Go.Operand.tmp 33), type := 0, pos := "ref.go:88", after := #[{ on := 6, ground := Go.Ground.data }, { on := 7, ground := Go.Ground.data }], guard := none }) (v := ?_) rfl (by kernel_rfl) (by kernel_rfl) (by kernel_rfl) (fun _ _ _ h => h) (Or.inl ⟨by rfl, ?_⟩) (by assumption) ?_
            rotate_left 1
            · intro wS hSw; (try dsimp only at hSw); go_simp; try with_reducible rfl
            try simp only [Act.put, List.setIfInBounds_toArray, List.set_cons_zero, List.set_cons_succ]
            refine wpAnyH_take (i := 9) (oi := { dst := some 35, op := Go.Op.load 25 (Go.Operand.tmp 34), type := 25, pos := "ref.go:88", after := #[{ on := 8, ground := Go.Ground.data }], guard := none }) (v := ?_) rfl (by kernel_rfl) (by kernel_rfl) (by kernel_rfl) (fun _ _ _ h => h) (Or.inl ⟨by rfl, ?_⟩) (by assumption) ?_
            rotate_left 1
            · intro wS hSw; (try dsimp only at hSw); have a1 := cell_on hSw a1; have b1 := cell_on hSw b1; have x0 := cell_on hSw x0; have x1 := cell_on hSw x1; have x2 := cell_on hSw x2; have x3 := cell_on hSw x3; have x4 := cell_on hSw x4; have x5 := cell_on hSw x5; have x6 := cell_on hSw x6; have y0 := cell_on hSw y0; have y1 := cell_on hSw y1; have y2 := cell_on hSw y2; have y3 := cell_on hSw y3; have y4 := cell_on hSw y4; have y5 := cell_on hSw y5; have y6 := cell_on hSw y6; go_simp; try with_reducible rfl
            try simp only [Act.put, List.setIfInBounds_toArray, List.set_cons_zero, List.set_cons_succ]
            refine wpAnyH_ready (rs := [10]) (by kernel_rfl) (by simp) ?_
            refine AllReadyH.cons (o := { dst := some 36, op := Go.Op.call { callee := Go.Callee.value (Go.Operand.func 27), args := #[Go.Operand.tmp 30, Go.Operand.tmp 35], argTypes := #[25, 25] }, type := 4, pos := "ref.go:88", after := #[{ on := 4, ground := Go.Ground.data }, { on := 9, ground := Go.Ground.data }], guard := none }) rfl (fun K hK => ?_) (AllReadyH.nil)
            go_simp
            go_at_call 27
            refine (HSA.out _ hHeld).mono ?_
            rintro e wx ⟨rfl, hb2⟩
            refine hK.out _ _ (bthen hHeld hb2 (Nat.le_refl _)) (fun hHeld2 => ?_)
            clear hK K hHeld hb2
            have hHeld := hHeld2
            clear hHeld2
            try simp only [Act.put, List.setIfInBounds_toArray, List.set_cons_zero, List.set_cons_succ]
            refine wpAnyH_take (i := 11) (oi := { dst := some 37, op := Go.Op.unOp Go.UnOp.not 4 (Go.Operand.tmp 36), type := 4, pos := "ref.go:88", after := #[{ on := 10, ground := Go.Ground.data }], guard := none }) (v := ?_) rfl (by kernel_rfl) (by kernel_rfl) (by kernel_rfl) (fun _ _ _ h => h) (Or.inl ⟨by rfl, ?_⟩) (by assumption) ?_
            rotate_left 1
            · intro wS hSw; (try dsimp only at hSw); go_simp; try with_reducible rfl
            try simp only [Act.put, List.setIfInBounds_toArray, List.set_cons_zero, List.set_cons_succ]
            refine wpAnyH_done (by kernel_rfl) ?_ _
            have hZ := hHeld
            clear hHeld
            have HB5 := Lib.hid (bthen HBT.out hZ (Nat.le_refl _))
            clear hZ x0 x1 x2 x3 x4 x5 x6 y0 y1 y2 y3 y4 y5 y6 a1 b1 al bl
            go_wp2_with fail
            go_ret
            exact ⟨ret_bool (by first | exact HXY.out.symm | (rw [eq_comm]; simpa using HXY.out)), HB5.out⟩
        · have HEQ := Lib.hid (show decide (l1.map Mp.x = l2.map Mp.x) = true from decide_eq_true (mps_eq HLE.out (fun j hj => HALL.out j (by have := HK.out; omega))))
          go_wp2_with fail
          go_ret
          exact ⟨ret_bool (by first | exact HEQ.out.symm | (rw [eq_comm]; simpa using HEQ.out)), HBT.out⟩
    · have hne : decide (T1 = T1 ∧ l1.map Mp.x = l2.map Mp.x) = false := decide_eq_false (fun e => hlen (by have := congrArg List.length e.2; simpa using this))
      have d1 : ((l1.length : Int) != (l2.length : Int)) = true := by rw [bne_iff_ne]; omega
      have d2 : (l1.length != l2.length) = true := by rw [bne_iff_ne]; exact hlen
      rw [hne]
      go_enter Tryz.func25, Tryz.ntmps25
      have a0 := HXA.out.cs 0 _ rfl
      have a1 := HXA.out.cs 1 _ rfl
      have b0 := HXB.out.cs 0 _ rfl
      have b1 := HXB.out.cs 1 _ rfl
      have al := HXA.out.lt
      have bl := HXB.out.lt
      go_wp2_with fail
      go_ret
      exact ⟨rfl, HB0.out⟩
  · have hne : decide (T1 = T2 ∧ l1.map Mp.x = l2.map Mp.x) = false := decide_eq_false (fun e => hT e.1)
    have d1 : ((T1 : Int) != (T2 : Int)) = true := by rw [bne_iff_ne]; omega
    have d2 : (T1 != T2) = true := by rw [bne_iff_ne]; exact hT
    rw [hne]
    go_enter Tryz.func25, Tryz.ntmps25
    have a0 := HXA.out.cs 0 _ rfl
    have b0 := HXB.out.cs 0 _ rfl
    have al := HXA.out.lt
    have bl := HXB.out.lt
    go_wp2_with fail
    go_ret
    exact ⟨rfl, HB0.out⟩
end Go.Proofs.YtjkaljokkpabfaaGreatDoor
end
