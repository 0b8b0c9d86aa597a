/-
  THE DOCUMENT's Put: walked.
-/
import Derived.Test.YtjkaljokkpabfaaGreatDoorRr38
import Derived.Test.YtjkaljokkpabfaaGreatDoorRr39

section
namespace Go.Proofs.YtjkaljokkpabfaaGreatDoor
open Go.ChangeShapes Go.WideShapes Go.ChangeAt Go.RowKit
def RPutPost (T : Nat) (l : List Mp) (x : Ml) (w : World) (e : Ending) (w' : World) : Prop := ∃ (A' : Option Addr) (c' : Nat) (l' : List Mp), e = .returned (.tuple #[.agg #[.int .u64 (Rs.addT T x : Int), .slice A' l'.length c'], .int .i64 (Rs.addC T x : Int)]) ∧ l'.map Mp.x = Rs.addK T (l.map Mp.x) x ∧ l'.length ≤ c' ∧ (A' = none → c' = 0) ∧ Mas w' A' l' ∧ Below w.heap.size w w'
theorem rs_own_some6 {w : World} {B e size n : Nat} {v : Value} {xs : List Value} (h : w.ownsRow B e size v (n + 1) xs) : ∃ R c, v = .slice (some ⟨R, 0, none⟩) (n + 1) c ∧ B ≤ R ∧ R < w.heap.size ∧ n + 1 ≤ c := by
  obtain ⟨A, c, rfl, hc, ho, hx⟩ := Rw.own_cells h
  obtain ⟨R, rfl, hR, -⟩ := hx (Nat.succ_pos n)
  exact ⟨R, c, rfl, (h.lt R rfl).1, hR, hc⟩
theorem rs_box2 (w : World) (o o2 : Obj) (c : Array Value) (t : TypeId) : BoxC w (w.heap.size + 1 + 1) c.toList (((w.alloc o).alloc o2).alloc (.cells c t)) := by
  have := BoxC.new (w := w) (W := (w.alloc o).alloc o2) (by simp; omega) c t
  rwa [show ((w.alloc o).alloc o2).heap.size = w.heap.size + 1 + 1 by simp] at this
set_option maxRecDepth 100000 in
set_option maxHeartbeats 4000000 in
theorem r20Put_any (T c : Nat) (A : Option Addr) (l : List Mp) (x : Ml) (Ax : Option Addr) (cx : Nat) (w : World) (hl : l.length ≤ 16) (hc : l.length ≤ c) (hn : A = none → c = 0) (hT : T < 18446744073709551616) (hx : MaOk w x Ax cx) (h : Mas w A l) :
    Calls Tryz.prog 14 #[.agg #[.int .u64 (T : Int), .slice A l.length c], maV x Ax cx] w (RPutPost T l x w) := by
  have hb0 : Below w.heap.size w (((w.alloc (.cells #[.int .u64 (T : Int), .slice A l.length c] 38)).alloc (.cells #[.int .u64 (x.id : Int), .string (ofL x.shop), .string (ofL x.key), .slice Ax x.head.length cx, .string (ofL x.body), .int .u64 (x.due : Int), .int .u8 (x.hops : Int)] 25)).alloc (.cells #[.int .u64 0, .slice none 0 0] 38)) := (((Below.refl _ _).alloc (Nat.le_refl _) _).alloc (by simp) _).alloc (by simp; omega) _
  have b1 := rs_two (w.alloc (.cells #[.int .u64 (T : Int), .slice A l.length c] 38)) (.cells #[.int .u64 (x.id : Int), .string (ofL x.shop), .string (ofL x.key), .slice Ax x.head.length cx, .string (ofL x.body), .int .u64 (x.due : Int), .int .u8 (x.hops : Int)] 25) (.cells #[.int .u64 0, .slice none 0 0] 38)
  have HP := Lib.hid ((BoxC.new (w := w) (Nat.le_refl _) #[.int .u64 (T : Int), .slice A l.length c] 38).on b1)
  have HQ := Lib.hid ((rs_box1 w (.cells #[.int .u64 (T : Int), .slice A l.length c] 38) #[.int .u64 (x.id : Int), .string (ofL x.shop), .string (ofL x.key), .slice Ax x.head.length cx, .string (ofL x.body), .int .u64 (x.due : Int), .int .u8 (x.hops : Int)] 25).on ((Below.refl _ _).alloc (Nat.le_refl _) (.cells #[.int .u64 0, .slice none 0 0] 38)))
  have HR := Lib.hid (rs_box2 w (.cells #[.int .u64 (T : Int), .slice A l.length c] 38) (.cells #[.int .u64 (x.id : Int), .string (ofL x.shop), .string (ofL x.key), .slice Ax x.head.length cx, .string (ofL x.body), .int .u64 (x.due : Int), .int .u8 (x.hops : Int)] 25) #[.int .u64 0, .slice none 0 0] 38)
  have HK := Lib.hid (r13Check_any x Ax cx _ (hx.on hb0))
  have HB0 := Lib.hid hb0
  have HX := Lib.hid (hx.on hb0)
  have H := Lib.hid (h.on hb0)
  have HN := Lib.hid hn
  have H00 := Lib.hid h
  have HXW := Lib.hid hx
  obtain ⟨iM, hiM, hzM0, hzM1, hzM2⟩ := info_parts infoMl
  simp only [maV] at HK ⊢
  clear hb0 hx h hn b1
  go_enter Tryz.func14, Tryz.ntmps14
  go_wp2_with fail
  generalize ((w.alloc (.cells #[.int .u64 (T : Int), .slice A l.length c] 38)).alloc (.cells #[.int .u64 (x.id : Int), .string (ofL x.shop), .string (ofL x.key), .slice Ax x.head.length cx, .string (ofL x.body), .int .u64 (x.due : Int), .int .u8 (x.hops : Int)] 25)).alloc (.cells #[.int .u64 0, .slice none 0 0] 38) = w1 at *
  refine HK.out.mono ?_
  rintro e w2 ⟨rfl, b⟩
  have HP2 := Lib.hid (HP.out.on b)
  have HQ2 := Lib.hid (HQ.out.on b)
  have HR2 := Lib.hid (HR.out.on b)
  have HB2 := Lib.hid (bthen HB0.out b (Nat.le_refl _))
  have H2 := Lib.hid (H.out.on b)
  have HX2 := Lib.hid (HX.out.on b)
  clear b
  have p0 := HP2.out.cs 0 _ rfl
  have p1 := HP2.out.cs 1 _ rfl
  have pl := HP2.out.lt
  have r0 := HR2.out.cs 0 _ rfl
  have r1 := HR2.out.cs 1 _ rfl
  have rl := HR2.out.lt
  have rf : ∀ j, w2.frozen? ⟨w.heap.size + 1 + 1, j, none⟩ = false := HR2.out.s
  by_cases h1 : x.code ≠ 0
  · have hd : ((x.code : Int) == 0) = false := by simpa using h1
    have hd2 : ((x.code : Int) != 0) = true := by simpa using h1
    have hB := below_put (j := 1) (v := .slice A l.length c) (show w.heap.size ≤ w.heap.size + 1 + 1 by omega) (below_put (j := 0) (v := .int .u64 (T : Int)) (show w.heap.size ≤ w.heap.size + 1 + 1 by omega) HB2.out)
    have HBF := Lib.hid hB
    have hR3 := HR2.out.fill [.int .u64 (T : Int), .slice A l.length c] rfl
    simp only [putAll] at hR3
    have HRF := Lib.hid hR3
    clear hB hR3
    go_wp2_with fail
    have g0 := HRF.out.cs 0 _ rfl
    have g1 := HRF.out.cs 1 _ rfl
    refine bodyPost_ret (v := .tuple #[.agg #[.int .u64 (T : Int), .slice A l.length c], .int .i64 (x.code : Int)]) (by simp [results, Tryz.results14, go_sem, g0, g1]) rfl ?_
    exact ⟨A, c, l, by simp [Rs.addT, Rs.addC, h1], by simp [Rs.addK, h1], hc, HN.out, H00.out.on HBF.out, HBF.out⟩
  have h1' : x.code = 0 := by omega
  rw [show (x.code : Int) = 0 by omega]
  by_cases h2 : T = 18446744073709551615
  · subst h2
    have hB := below_put (j := 1) (v := .slice A l.length c) (show w.heap.size ≤ w.heap.size + 1 + 1 by omega) (below_put (j := 0) (v := .int .u64 18446744073709551615) (show w.heap.size ≤ w.heap.size + 1 + 1 by omega) HB2.out)
    have HBF := Lib.hid hB
    have hR3 := HR2.out.fill [.int .u64 18446744073709551615, .slice A l.length c] rfl
    simp only [putAll] at hR3
    have HRF := Lib.hid hR3
    have H1 := Lib.hid h1
    clear hB hR3 h1 h1'
    go_wp2_with fail
    have g0 := HRF.out.cs 0 _ rfl
    have g1 := HRF.out.cs 1 _ rfl
    refine bodyPost_ret (v := .tuple #[.agg #[.int .u64 18446744073709551615, .slice A l.length c], .int .i64 18]) (by simp [results, Tryz.results14, go_sem, g0, g1]) rfl ?_
    exact ⟨A, c, l, by simp [Rs.addT, Rs.addC, H1.out], by simp [Rs.addK, H1.out], hc, HN.out, H00.out.on HBF.out, HBF.out⟩
  have hT2 : T < 18446744073709551615 := by omega
  have hwr : IntKind.u64.wrap ((T : Int) + 1) = (T : Int) + 1 := by simp [IntKind.wrap, IntKind.signed, IntKind.bits]; omega
  have hd3 : ((T : Int) == 18446744073709551615) = false := by rw [beq_eq_false_iff_ne]; omega
  have H1 := Lib.hid h1
  have H2' := Lib.hid h2
  clear h1 h1' h2
  have HO0 := Lib.hid (World.ownsRow_nil w2 w2.heap.size 25 7)
  have HRW := Lib.hid H2.out.row
  have HCC := Lib.hid hc
  by_cases h16 : l.length < 16
  · have d16 : decide ((l.length : Int) + 1 > 16) = false := decide_eq_false (by omega)
    have HC1 := Lib.hid (show ∀ c6, l.length + 1 ≤ c6 → True from fun _ _ => trivial)
    go_wp2_with (first
      | (at_builtin; refine wpList_append_rws _ rfl (Operand.tmp 21) (Operand.tmp 23) 33 rfl w2.heap.size 25 iM _ 7 96 Tryz.underlying33 hiM hzM0 hzM1 hzM2 rfl (by decide) (by decide) (by rfl) HO0.out (by rfl) HRW.out (mcs_len l) (mcs_one l) (by omega) HN.out (Nat.le_refl _) ?_; intro v5 w5 hown hgrow; rw [Nat.zero_add, List.nil_append] at hown; have HB5 := Lib.hid ((Below.refl w2.heap.size w2).grown hgrow (Nat.le_refl _) (fun k hk => by cases hk)); obtain ⟨A5, c5, rfl, -, -⟩ := Rw.own_cells hown; have HO5 := Lib.hid (Rw.own_on hown (alloc1B w5 (.cells #[.int .u64 (x.id : Int), .string (ofL x.shop), .string (ofL x.key), .slice Ax x.head.length cx, .string (ofL x.body), .int .u64 (x.due : Int), .int .u8 (x.hops : Int)] 25))); have HQ5 := HQ2.out.on HB5.out; have q0 := HQ5.cs 0 _ rfl; have q1 := HQ5.cs 1 _ rfl; have q2 := HQ5.cs 2 _ rfl; have q3 := HQ5.cs 3 _ rfl; have q4 := HQ5.cs 4 _ rfl; have q5 := HQ5.cs 5 _ rfl; have q6 := HQ5.cs 6 _ rfl; have ql := HQ5.lt; have HNW := Lib.hid (show Rws (w5.alloc (.cells #[.int .u64 (x.id : Int), .string (ofL x.shop), .string (ofL x.key), .slice Ax x.head.length cx, .string (ofL x.body), .int .u64 (x.due : Int), .int .u8 (x.hops : Int)] 25)) (some ⟨w5.heap.size, 0, none⟩) (mcs [(⟨x, Ax, cx⟩ : Mp)]) from Rws.of_news (fun j u hu => by rw [mcs_one1] at hu; rw [Nat.zero_add]; exact (World.cell?_alloc_new w5 #[.int .u64 (x.id : Int), .string (ofL x.shop), .string (ofL x.key), .slice Ax x.head.length cx, .string (ofL x.body), .int .u64 (x.due : Int), .int .u8 (x.hops : Int)] 25 j).trans (by simpa [mpL, maL] using hu))); have HS5 := Lib.hid (show w2.heap.size ≤ (w5.alloc (.cells #[.int .u64 (x.id : Int), .string (ofL x.shop), .string (ofL x.key), .slice Ax x.head.length cx, .string (ofL x.body), .int .u64 (x.due : Int), .int .u8 (x.hops : Int)] 25)).heap.size from Nat.le_trans hgrow.size (by simp)); clear hown hgrow HQ5 p0 p1 pl r0 r1 rl rf)
      | (at_builtin; refine wpList_append_rws _ rfl (Operand.tmp 25) (Operand.tmp 27) 33 rfl w2.heap.size 25 iM _ 7 96 Tryz.underlying33 hiM hzM0 hzM1 hzM2 rfl (by decide) (by decide) (by rfl) HO5.out (by rfl) HNW.out (by rfl) (mcs_one _) (by omega) (fun e => by cases e) HS5.out ?_; intro v6 w6 hown hgrow; have hb6 := (bthen HB5.out (alloc1B w5 (.cells #[.int .u64 (x.id : Int), .string (ofL x.shop), .string (ofL x.key), .slice Ax x.head.length cx, .string (ofL x.body), .int .u64 (x.due : Int), .int .u8 (x.hops : Int)] 25)) (Nat.le_refl _)).grown hgrow HS5.out (fun k hk => (HO5.out.lt k hk).1); rw [← mcs_app] at hown; have HO6 := Lib.hid hown; obtain ⟨R, c6, hR1, hR2, hR3, hR4⟩ := rs_own_some6 hown; subst hR1; have HR6 := HR2.out.on hb6; have r0 := HR6.cs 0 _ rfl; have r1 := HR6.cs 1 _ rfl; have rl := HR6.lt; have rf : ∀ j, w6.frozen? ⟨w.heap.size + 1 + 1, j, none⟩ = false := HR6.s; have HP6 := HP2.out.on hb6; have p0 := HP6.cs 0 _ rfl; have p1 := HP6.cs 1 _ rfl; have pl := HP6.lt; have HR7 := Lib.hid HR6; have HB6 := Lib.hid hb6; clear hown hgrow hb6 HR6 HP6 q0 q1 q2 q3 q4 q5 q6 ql; skip))
    have HG := Lib.hid (show w6.grownBy ((w6.setCell ⟨w.heap.size + 1 + 1, 0, none⟩ (.int .u64 ((T : Int) + 1))).setCell ⟨w.heap.size + 1 + 1, 1, none⟩ (.slice (some ⟨R, 0, none⟩) (l.length + 1) c6)) (some (w.heap.size + 1 + 1)) from only_setCell (p := ⟨w.heap.size + 1 + 1, 1, none⟩) (only_setCell (p := ⟨w.heap.size + 1 + 1, 0, none⟩) (World.grownBy.refl w6 _) rfl _) rfl _)
    have hR3 := HR7.out.fill [.int .u64 ((T : Int) + 1), (.slice (some ⟨R, 0, none⟩) (l.length + 1) c6)] rfl
    simp only [putAll] at hR3
    have g0 := hR3.cs 0 _ rfl
    have g1 := hR3.cs 1 _ rfl
    refine bodyPost_ret (v := .tuple #[.agg #[.int .u64 ((T : Int) + 1), (.slice (some ⟨R, 0, none⟩) (l.length + 1) c6)], .int .i64 0]) (by simp [results, Tryz.results14, go_sem, g0, g1]) rfl ?_
    have hbz := below_put (j := 1) (v := (.slice (some ⟨R, 0, none⟩) (l.length + 1) c6)) (show w.heap.size ≤ w.heap.size + 1 + 1 by omega) (below_put (j := 0) (v := .int .u64 ((T : Int) + 1)) (show w.heap.size ≤ w.heap.size + 1 + 1 by omega) (bthen HB2.out HB6.out (Nat.le_refl _)))
    have hlt2 := HR2.out.lt
    have ho7 := HO6.out.kept HG.out (.inr (fun e => by have := (HO6.out.lt _ e).1; omega))
    obtain ⟨A7, c7, e7, -, -, hr7, -⟩ := Rws.of_own ho7
    obtain ⟨e8, -, e9⟩ := Value.slice.inj e7
    subst e8
    subst e9
    have hhd : ∀ p ∈ l ++ [(⟨x, Ax, cx⟩ : Mp)], MaOk ((w6.setCell ⟨w.heap.size + 1 + 1, 0, none⟩ (.int .u64 ((T : Int) + 1))).setCell ⟨w.heap.size + 1 + 1, 1, none⟩ (.slice (some ⟨R, 0, none⟩) (l.length + 1) c6)) p.x p.A p.c := fun p hp => by
      rcases List.mem_append.1 hp with hp | hp
      · exact (H00.out.hd p hp).on hbz
      · obtain rfl := List.mem_singleton.1 hp
        exact HXW.out.on hbz
    refine ⟨some ⟨R, 0, none⟩, c6, l ++ [⟨x, Ax, cx⟩], ?_, ?_, ?_, (fun e => by cases e), ⟨hr7, hhd⟩, hbz⟩
    · rw [List.length_append]
      unfold Rs.addT Rs.addC
      rw [if_neg H1.out, if_neg H2'.out, if_neg H1.out, if_neg H2'.out]
      rfl
    · unfold Rs.addK
      rw [if_neg H1.out, if_neg H2'.out, List.length_map, show l.length + 1 - 16 = 0 by omega, List.drop_zero, List.map_append]
      rfl
    · rw [List.length_append]; exact hR4
  · have d16 : decide ((l.length : Int) + 1 > 16) = true := decide_eq_true (by omega)
    have HC1 := Lib.hid (show ∀ c6, l.length + 1 ≤ c6 → ¬ c6 = 1 from fun _ _ => by omega)
    go_wp2_with (first
      | (at_builtin; refine wpList_append_rws _ rfl (Operand.tmp 21) (Operand.tmp 23) 33 rfl w2.heap.size 25 iM _ 7 96 Tryz.underlying33 hiM hzM0 hzM1 hzM2 rfl (by decide) (by decide) (by rfl) HO0.out (by rfl) HRW.out (mcs_len l) (mcs_one l) (by omega) HN.out (Nat.le_refl _) ?_; intro v5 w5 hown hgrow; rw [Nat.zero_add, List.nil_append] at hown; have HB5 := Lib.hid ((Below.refl w2.heap.size w2).grown hgrow (Nat.le_refl _) (fun k hk => by cases hk)); obtain ⟨A5, c5, rfl, -, -⟩ := Rw.own_cells hown; have HO5 := Lib.hid (Rw.own_on hown (alloc1B w5 (.cells #[.int .u64 (x.id : Int), .string (ofL x.shop), .string (ofL x.key), .slice Ax x.head.length cx, .string (ofL x.body), .int .u64 (x.due : Int), .int .u8 (x.hops : Int)] 25))); have HQ5 := HQ2.out.on HB5.out; have q0 := HQ5.cs 0 _ rfl; have q1 := HQ5.cs 1 _ rfl; have q2 := HQ5.cs 2 _ rfl; have q3 := HQ5.cs 3 _ rfl; have q4 := HQ5.cs 4 _ rfl; have q5 := HQ5.cs 5 _ rfl; have q6 := HQ5.cs 6 _ rfl; have ql := HQ5.lt; have HNW := Lib.hid (show Rws (w5.alloc (.cells #[.int .u64 (x.id : Int), .string (ofL x.shop), .string (ofL x.key), .slice Ax x.head.length cx, .string (ofL x.body), .int .u64 (x.due : Int), .int .u8 (x.hops : Int)] 25)) (some ⟨w5.heap.size, 0, none⟩) (mcs [(⟨x, Ax, cx⟩ : Mp)]) from Rws.of_news (fun j u hu => by rw [mcs_one1] at hu; rw [Nat.zero_add]; exact (World.cell?_alloc_new w5 #[.int .u64 (x.id : Int), .string (ofL x.shop), .string (ofL x.key), .slice Ax x.head.length cx, .string (ofL x.body), .int .u64 (x.due : Int), .int .u8 (x.hops : Int)] 25 j).trans (by simpa [mpL, maL] using hu))); have HS5 := Lib.hid (show w2.heap.size ≤ (w5.alloc (.cells #[.int .u64 (x.id : Int), .string (ofL x.shop), .string (ofL x.key), .slice Ax x.head.length cx, .string (ofL x.body), .int .u64 (x.due : Int), .int .u8 (x.hops : Int)] 25)).heap.size from Nat.le_trans hgrow.size (by simp)); clear hown hgrow HQ5 p0 p1 pl r0 r1 rl rf)
      | (at_builtin; refine wpList_append_rws _ rfl (Operand.tmp 25) (Operand.tmp 27) 33 rfl w2.heap.size 25 iM _ 7 96 Tryz.underlying33 hiM hzM0 hzM1 hzM2 rfl (by decide) (by decide) (by rfl) HO5.out (by rfl) HNW.out (by rfl) (mcs_one _) (by omega) (fun e => by cases e) HS5.out ?_; intro v6 w6 hown hgrow; have hb6 := (bthen HB5.out (alloc1B w5 (.cells #[.int .u64 (x.id : Int), .string (ofL x.shop), .string (ofL x.key), .slice Ax x.head.length cx, .string (ofL x.body), .int .u64 (x.due : Int), .int .u8 (x.hops : Int)] 25)) (Nat.le_refl _)).grown hgrow HS5.out (fun k hk => (HO5.out.lt k hk).1); rw [← mcs_app] at hown; have HO6 := Lib.hid hown; obtain ⟨R, c6, hR1, hR2, hR3, hR4⟩ := rs_own_some6 hown; subst hR1; have HR6 := HR2.out.on hb6; have r0 := HR6.cs 0 _ rfl; have r1 := HR6.cs 1 _ rfl; have rl := HR6.lt; have rf : ∀ j, w6.frozen? ⟨w.heap.size + 1 + 1, j, none⟩ = false := HR6.s; have HP6 := HP2.out.on hb6; have p0 := HP6.cs 0 _ rfl; have p1 := HP6.cs 1 _ rfl; have pl := HP6.lt; have HR7 := Lib.hid HR6; have HB6 := Lib.hid hb6; clear hown hgrow hb6 HR6 HP6 q0 q1 q2 q3 q4 q5 q6 ql; have hc1 : ¬ c6 = 1 := HC1.out c6 hR4))
    have HG := Lib.hid (show w6.grownBy ((w6.setCell ⟨w.heap.size + 1 + 1, 0, none⟩ (.int .u64 ((T : Int) + 1))).setCell ⟨w.heap.size + 1 + 1, 1, none⟩ (.slice (some ⟨R, 7, none⟩) l.length (c6 - 1))) (some (w.heap.size + 1 + 1)) from only_setCell (p := ⟨w.heap.size + 1 + 1, 1, none⟩) (only_setCell (p := ⟨w.heap.size + 1 + 1, 0, none⟩) (World.grownBy.refl w6 _) rfl _) rfl _)
    have hR3 := HR7.out.fill [.int .u64 ((T : Int) + 1), (.slice (some ⟨R, 7, none⟩) l.length (c6 - 1))] rfl
    simp only [putAll] at hR3
    have g0 := hR3.cs 0 _ rfl
    have g1 := hR3.cs 1 _ rfl
    refine bodyPost_ret (v := .tuple #[.agg #[.int .u64 ((T : Int) + 1), (.slice (some ⟨R, 7, none⟩) l.length (c6 - 1))], .int .i64 0]) (by simp [results, Tryz.results14, go_sem, g0, g1]) rfl ?_
    have hbz := below_put (j := 1) (v := (.slice (some ⟨R, 7, none⟩) l.length (c6 - 1))) (show w.heap.size ≤ w.heap.size + 1 + 1 by omega) (below_put (j := 0) (v := .int .u64 ((T : Int) + 1)) (show w.heap.size ≤ w.heap.size + 1 + 1 by omega) (bthen HB2.out HB6.out (Nat.le_refl _)))
    have hlt2 := HR2.out.lt
    have ho7 := HO6.out.kept HG.out (.inr (fun e => by have := (HO6.out.lt _ e).1; omega))
    obtain ⟨A7, c7, e7, -, -, hr7, -⟩ := Rws.of_own ho7
    obtain ⟨e8, -, e9⟩ := Value.slice.inj e7
    subst e8
    subst e9
    have hhd : ∀ p ∈ l ++ [(⟨x, Ax, cx⟩ : Mp)], MaOk ((w6.setCell ⟨w.heap.size + 1 + 1, 0, none⟩ (.int .u64 ((T : Int) + 1))).setCell ⟨w.heap.size + 1 + 1, 1, none⟩ (.slice (some ⟨R, 7, none⟩) l.length (c6 - 1))) p.x p.A p.c := fun p hp => by
      rcases List.mem_append.1 hp with hp | hp
      · exact (H00.out.hd p hp).on hbz
      · obtain rfl := List.mem_singleton.1 hp
        exact HXW.out.on hbz
    have hd1 : (l ++ [(⟨x, Ax, cx⟩ : Mp)]).drop 1 = l.drop 1 ++ [⟨x, Ax, cx⟩] := List.drop_append_of_le_length (by omega)
    have hr8 := hr7.drop (k := 1 * 7)
    rw [mcs_drop, Nat.zero_add, hd1] at hr8
    refine ⟨some ⟨R, 7, none⟩, c6 - 1, l.drop 1 ++ [⟨x, Ax, cx⟩], ?_, ?_, ?_, (fun e => by cases e), ⟨hr8, fun p hp => hhd p (by rw [← hd1] at hp; exact List.mem_of_mem_drop hp)⟩, hbz⟩
    · rw [show (l.drop 1 ++ [(⟨x, Ax, cx⟩ : Mp)]).length = l.length by rw [List.length_append, List.length_drop]; simp; omega]
      unfold Rs.addT Rs.addC
      rw [if_neg H1.out, if_neg H2'.out, if_neg H1.out, if_neg H2'.out]
      rfl
    · unfold Rs.addK
      rw [if_neg H1.out, if_neg H2'.out, List.length_map, show l.length + 1 - 16 = 1 by omega, List.map_append, List.map_drop]
      rfl
    · rw [List.length_append, List.length_drop]; simp; omega
end Go.Proofs.YtjkaljokkpabfaaGreatDoor
end
