/-
  AN EXCHANGE MORE, the document's: walked.
-/
import Derived.Test.YtopobliajgocaaaGreatDoorZp30
import Derived.Deep.QuietTactic
section
namespace Go.Proofs.YtopobliajgocaaaGreatDoor
open Go.ChangeShapes Go.WideShapes Go.ChangeAt Go.RowKit
theorem guardRSh : Tryz.prog.eqGuardType Tryz.prog.depth 57 = false := by kernel_rfl
theorem stoodRSh : Tryz.prog.stoodInHeld 57 = false := by kernel_rfl
theorem fieldsRSh : Tryz.prog.fieldsOf 57 = #[⟨"Name", 9, 0, false, "", "", 0⟩, ⟨"Sort", 5, 1, false, "", "", 16⟩, ⟨"To", 9, 2, false, "", "", 24⟩] := by kernel_rfl
theorem rsh_eql (a : ByteArray) (b : Int) (d : ByteArray) (a' : ByteArray) (b' : Int) (d' : ByteArray) (W : World) : (Op.equalIn 10000 57 (.agg #[.string a, .int .u8 b, .string d]) (.agg #[.string a', .int .u8 b', .string d'])).run Tryz.prog W = .ok ((a.toList == a'.toList) && (b == b') && (d.toList == d'.toList)) W := by
  rw [run_equalIn_agg (ht := by kernel_rfl) (hp := stoodRSh), fieldsRSh]
  simp [Op.eqFields, go_sem, Tryz.underlying5, Tryz.underlying9]
  by_cases h1 : a.toList = a'.toList <;> by_cases h2 : b = b' <;> by_cases h4 : d.toList = d'.toList <;> simp [h1, h2, h4]
theorem rsh_eq (x y : Sh) (W : World) : (Op.equalIn 10000 57 (.agg #[.string (ofL x.name), .int .u8 (x.sort : Int), .string (ofL x.to)]) (.agg #[.string (ofL y.name), .int .u8 (y.sort : Int), .string (ofL y.to)])).run Tryz.prog W = .ok (decide (x = y)) W := by
  rw [← shEq_dec, ← sh_bool]
  exact rsh_eql _ _ _ _ _ _ W
attribute [local go_sem] guardRSh
set_option maxRecDepth 100000 in
set_option maxHeartbeats 16000000 in
theorem r14Make_any (b : Bk) (A : Option Addr) (c : Nat) (B : Option Addr) (d : Nat) (ps : List Bp) (x : Sh) (w : World) (U : Nat → Prop) (hb : b.shops.length ≤ 8) (h1 : x.name.length ≤ 90000) (h2 : x.to.length ≤ 90000) (hI : BkAt w A c B d b ps) (hU : BkU U w A B ps) :
    Calls Tryz.prog 24 #[bkV A c B d b, shV x] w (BkPost U (b.make x).1 (b.make x).2 w) := by
  have hmk : b.make x = if Bk.scode x ≠ 0 then (b, Bk.scode x) else match b.shop x.name with | some y => if y = x then (b, 0) else (b, 9) | none => if 8 ≤ b.shops.length then (b, 12) else (⟨b.shops ++ [x], b.binds⟩, 0) := rfl
  have hsc : Bk.scode x = if Wrd.nameCode x.name ≠ 0 then Wrd.nameCode x.name else if 4 < x.sort then 8 else if x.sort = 4 then Wrd.nameCode x.to else if x.to ≠ [] then 4 else 0 := rfl
  obtain ⟨shops, binds⟩ := b
  dsimp only at hb hmk
  obtain ⟨iN, hiN, hzN0, hzN1, hzN2⟩ := info_parts infoRSh
  have hb0 := rtThree w (.cells #[.slice A shops.length c, .slice B binds.length d] 32) (.cells #[.string (ofL x.name), .int .u8 (x.sort : Int), .string (ofL x.to)] 57) (.cells #[.slice none 0 0, .slice none 0 0] 32)
  have HX0 := Lib.hid (rtNext (rtNext (rtAt0 w #[.slice A shops.length c, .slice B binds.length d] 32) (.cells #[.string (ofL x.name), .int .u8 (x.sort : Int), .string (ofL x.to)] 57)) (.cells #[.slice none 0 0, .slice none 0 0] 32))
  have HS0 := Lib.hid (rtNext (rtAt1 w (.cells #[.slice A shops.length c, .slice B binds.length d] 32) #[.string (ofL x.name), .int .u8 (x.sort : Int), .string (ofL x.to)] 57) (.cells #[.slice none 0 0, .slice none 0 0] 32))
  have HR0 := Lib.hid (rtAt2 w (.cells #[.slice A shops.length c, .slice B binds.length d] 32) (.cells #[.string (ofL x.name), .int .u8 (x.sort : Int), .string (ofL x.to)] 57) #[.slice none 0 0, .slice none 0 0] 32)
  have HSZ := Lib.hid (show (((w.alloc (.cells #[.slice A shops.length c, .slice B binds.length d] 32)).alloc (.cells #[.string (ofL x.name), .int .u8 (x.sort : Int), .string (ofL x.to)] 57)).alloc (.cells #[.slice none 0 0, .slice none 0 0] 32)).heap.size = w.heap.size + 3 by simp)
  have HF := Lib.hid (r14Find_any ⟨shops, binds⟩ A c B d x.name _ (by show shops.length ≤ 100000; omega) (hI.shs.on hb0))
  have HN := Lib.hid (fun W => rname_any x.name W (by omega))
  have HT := Lib.hid (fun W => rname_any x.to W (by omega))
  have HB0 := Lib.hid hb0
  have HI0 := Lib.hid hI
  have HU := Lib.hid hU
  have HSE := Lib.hid (fun y W => rsh_eq y x W)
  have HEM : Hid (x.to = [] ↔ (ofL x.to).toList.isEmpty = true) := by
    constructor
    · intro h; rw [h, str_list]; rfl
    · intro h
      cases hx : x.to with
      | nil => rfl
      | cons a t => rw [hx, str_ne (by simp)] at h; cases h
  have hf := find_idx (fun y : Sh => y.name == x.name) shops Bk.Sh0
  clear h1 h2 hI hU hb0
  dsimp only at HF
  generalize hK : Wrd.nameCode x.name = K at *
  generalize hL : Wrd.nameCode x.to = L at *
  clear hK hL
  simp only [bkV, shV] at HF ⊢
  by_cases hk : K = 0
  · have dk1 : ((K : Int) == 0) = true := by rw [hk]; rfl
    have dk2 : ((K : Int) != 0) = false := by rw [hk]; rfl
    rw [if_neg (fun h => h hk)] at hsc
    by_cases h4 : 4 < x.sort
    · rw [if_pos h4] at hsc
      have d1 : decide ((x.sort : Int) > 4) = true := decide_eq_true (by omega)
      have d2 : ((x.sort : Int) == 4) = false := beq_eq_false_iff_ne.2 (by omega)
      have d3 : decide ((x.sort : Int) < 4) = false := decide_eq_false (by omega)
      rw [hmk, if_pos (by omega), hsc]
      dsimp only
      clear h4 hsc hmk hf HF HSE hk
      go_enter Tryz.func24, Tryz.ntmps24
      go_wp2_with fail
      generalize ((w.alloc (.cells #[.slice A shops.length c, .slice B binds.length d] 32)).alloc (.cells #[.string (ofL x.name), .int .u8 (x.sort : Int), .string (ofL x.to)] 57)).alloc (.cells #[.slice none 0 0, .slice none 0 0] 32) = w1 at *
      have x0 := HX0.out.cs 0 _ rfl
      have x1 := HX0.out.cs 1 _ rfl
      have xl := HX0.out.lt
      have s0 := HS0.out.cs 0 _ rfl
      have s1 := HS0.out.cs 1 _ rfl
      have s2 := HS0.out.cs 2 _ rfl
      have sl := HS0.out.lt
      have r0 := HR0.out.cs 0 _ rfl
      have r1 := HR0.out.cs 1 _ rfl
      have rl := HR0.out.lt
      have rf : ∀ j, w1.frozen? ⟨w.heap.size + 2, j, none⟩ = false := HR0.out.s
      have HB1 := Lib.hid HB0.out
      have HR1 := Lib.hid HR0.out
      refine (HN.out _).mono ?_
      rintro e w1 ⟨rfl, rfl⟩
      go_wp2_with fail
      have hQ := HR1.out.fill [.slice A shops.length c, .slice B binds.length d] rfl
      have hB := below_putAll (g := w.heap.size + 2) (by omega) [.slice A shops.length c, .slice B binds.length d] 0 HB1.out
      simp only [putAll] at hQ hB
      have g0 := hQ.cs 0 _ rfl
      have g1 := hQ.cs 1 _ rfl
      exact bodyPost_ret (v := .tuple #[.agg #[.slice A shops.length c, .slice B binds.length d], .int .i64 8]) (by simp [results, Tryz.results24, go_sem, g0, g1]) rfl ⟨A, c, B, d, ps, rfl, HI0.out.on hB, (HU.out.mono (fun g h => .inl h)).on hB.size, hB⟩
    · have d1 : decide ((x.sort : Int) > 4) = false := decide_eq_false (by omega)
      rw [if_neg h4] at hsc
      by_cases h5 : x.sort = 4
      · have d2 : ((x.sort : Int) == 4) = true := by rw [h5]; rfl
        have d3 : decide ((x.sort : Int) < 4) = false := decide_eq_false (by omega)
        rw [if_pos h5] at hsc
        by_cases hl : L = 0
        · have dl1 : ((L : Int) == 0) = true := by rw [hl]; rfl
          have dl2 : ((L : Int) != 0) = false := by rw [hl]; rfl
          rw [hsc, if_neg (fun h => h hl)] at hmk
          clear h4 h5 hsc hk hl
          obtain ⟨e1, e2⟩ | ⟨k, e1, hkk, e2⟩ := hf
          · have e2' : Bk.shop ⟨shops, binds⟩ x.name = none := e2
            rw [e2'] at hmk
            rw [e1] at HF
            dsimp only at hmk
            clear e1 e2 e2' HSE
            by_cases h8 : 8 ≤ shops.length
            · have d8 : decide ((shops.length : Int) ≥ 8) = true := decide_eq_true (by omega)
              rw [hmk, if_pos h8]
              dsimp only
              clear hmk
              go_enter Tryz.func24, Tryz.ntmps24
              go_wp2_with fail
              generalize ((w.alloc (.cells #[.slice A shops.length c, .slice B binds.length d] 32)).alloc (.cells #[.string (ofL x.name), .int .u8 (x.sort : Int), .string (ofL x.to)] 57)).alloc (.cells #[.slice none 0 0, .slice none 0 0] 32) = w1 at *
              have x0 := HX0.out.cs 0 _ rfl
              have x1 := HX0.out.cs 1 _ rfl
              have xl := HX0.out.lt
              have s0 := HS0.out.cs 0 _ rfl
              have s1 := HS0.out.cs 1 _ rfl
              have s2 := HS0.out.cs 2 _ rfl
              have sl := HS0.out.lt
              have r0 := HR0.out.cs 0 _ rfl
              have r1 := HR0.out.cs 1 _ rfl
              have rl := HR0.out.lt
              have rf : ∀ j, w1.frozen? ⟨w.heap.size + 2, j, none⟩ = false := HR0.out.s
              have HB1 := Lib.hid HB0.out
              have HR1 := Lib.hid HR0.out
              refine (HN.out _).mono ?_
              rintro e w1 ⟨rfl, rfl⟩
              go_wp2_with fail
              refine (HT.out _).mono ?_
              rintro e w1 ⟨rfl, rfl⟩
              go_wp2_with fail
              refine HF.out.mono ?_
              rintro e w2 ⟨rfl, b2⟩
              have HB2 := Lib.hid (bthen HB1.out b2 (Nat.le_refl _))
              have HX2 := Lib.hid (HX0.out.on b2)
              have HS2 := Lib.hid (HS0.out.on b2)
              have HR2 := Lib.hid (HR0.out.on b2)
              have HZ2 := Lib.hid (show w.heap.size + 3 ≤ w2.heap.size from by have := b2.size; have := HSZ.out; omega)
              clear b2 x0 x1 xl s0 s1 s2 sl r0 r1 rl rf
              have x0 := HX2.out.cs 0 _ rfl
              have x1 := HX2.out.cs 1 _ rfl
              have xl := HX2.out.lt
              have s0 := HS2.out.cs 0 _ rfl
              have s1 := HS2.out.cs 1 _ rfl
              have s2 := HS2.out.cs 2 _ rfl
              have sl := HS2.out.lt
              go_upto_region 11 with fail
              go_quiet (fail)
              have hdn : Below w2.heap.size w2 (w2.drewN nq) := ⟨rfl, rfl, rfl, Nat.le_refl _, fun _ _ => rfl⟩
              have HB4 := Lib.hid (bthen HB2.out hdn (Nat.le_refl _))
              have HX4 := Lib.hid (HX2.out.on hdn)
              have HS4 := Lib.hid (HS2.out.on hdn)
              have HR4 := Lib.hid (HR2.out.on hdn)
              have HZ4 := Lib.hid (show w.heap.size + 3 ≤ (w2.drewN nq).heap.size from Nat.le_trans HZ2.out hdn.size)
              clear hdn x0 x1 xl s0 s1 s2 sl
              generalize w2.drewN nq = w4 at *
              have x0 := HX4.out.cs 0 _ rfl
              have x1 := HX4.out.cs 1 _ rfl
              have xl := HX4.out.lt
              have s0 := HS4.out.cs 0 _ rfl
              have s1 := HS4.out.cs 1 _ rfl
              have s2 := HS4.out.cs 2 _ rfl
              have sl := HS4.out.lt
              have r0 := HR4.out.cs 0 _ rfl
              have r1 := HR4.out.cs 1 _ rfl
              have rl := HR4.out.lt
              have rf : ∀ j, w4.frozen? ⟨w.heap.size + 2, j, none⟩ = false := HR4.out.s
              go_wp2_with fail
              have hQ := HR4.out.fill [.slice A shops.length c, .slice B binds.length d] rfl
              have hB := below_putAll (g := w.heap.size + 2) (by omega) [.slice A shops.length c, .slice B binds.length d] 0 HB4.out
              simp only [putAll] at hQ hB
              have g0 := hQ.cs 0 _ rfl
              have g1 := hQ.cs 1 _ rfl
              exact bodyPost_ret (v := .tuple #[.agg #[.slice A shops.length c, .slice B binds.length d], .int .i64 12]) (by simp [results, Tryz.results24, go_sem, g0, g1]) rfl ⟨A, c, B, d, ps, rfl, HI0.out.on hB, (HU.out.mono (fun g h => .inl h)).on hB.size, hB⟩
            · have d8 : decide ((shops.length : Int) ≥ 8) = false := decide_eq_false (by omega)
              rw [hmk, if_neg h8]
              dsimp only
              clear hmk
              go_enter Tryz.func24, Tryz.ntmps24
              go_wp2_with fail
              generalize ((w.alloc (.cells #[.slice A shops.length c, .slice B binds.length d] 32)).alloc (.cells #[.string (ofL x.name), .int .u8 (x.sort : Int), .string (ofL x.to)] 57)).alloc (.cells #[.slice none 0 0, .slice none 0 0] 32) = w1 at *
              have x0 := HX0.out.cs 0 _ rfl
              have x1 := HX0.out.cs 1 _ rfl
              have xl := HX0.out.lt
              have s0 := HS0.out.cs 0 _ rfl
              have s1 := HS0.out.cs 1 _ rfl
              have s2 := HS0.out.cs 2 _ rfl
              have sl := HS0.out.lt
              have r0 := HR0.out.cs 0 _ rfl
              have r1 := HR0.out.cs 1 _ rfl
              have rl := HR0.out.lt
              have rf : ∀ j, w1.frozen? ⟨w.heap.size + 2, j, none⟩ = false := HR0.out.s
              have HB1 := Lib.hid HB0.out
              have HR1 := Lib.hid HR0.out
              refine (HN.out _).mono ?_
              rintro e w1 ⟨rfl, rfl⟩
              go_wp2_with fail
              refine (HT.out _).mono ?_
              rintro e w1 ⟨rfl, rfl⟩
              go_wp2_with fail
              refine HF.out.mono ?_
              rintro e w2 ⟨rfl, b2⟩
              have HB2 := Lib.hid (bthen HB1.out b2 (Nat.le_refl _))
              have HX2 := Lib.hid (HX0.out.on b2)
              have HS2 := Lib.hid (HS0.out.on b2)
              have HR2 := Lib.hid (HR0.out.on b2)
              have HZ2 := Lib.hid (show w.heap.size + 3 ≤ w2.heap.size from by have := b2.size; have := HSZ.out; omega)
              clear b2 x0 x1 xl s0 s1 s2 sl r0 r1 rl rf
              have x0 := HX2.out.cs 0 _ rfl
              have x1 := HX2.out.cs 1 _ rfl
              have xl := HX2.out.lt
              have s0 := HS2.out.cs 0 _ rfl
              have s1 := HS2.out.cs 1 _ rfl
              have s2 := HS2.out.cs 2 _ rfl
              have sl := HS2.out.lt
              go_upto_region 11 with fail
              go_quiet (fail)
              have hdn : Below w2.heap.size w2 (w2.drewN nq) := ⟨rfl, rfl, rfl, Nat.le_refl _, fun _ _ => rfl⟩
              have HB4 := Lib.hid (bthen HB2.out hdn (Nat.le_refl _))
              have HX4 := Lib.hid (HX2.out.on hdn)
              have HS4 := Lib.hid (HS2.out.on hdn)
              have HR4 := Lib.hid (HR2.out.on hdn)
              have HZ4 := Lib.hid (show w.heap.size + 3 ≤ (w2.drewN nq).heap.size from Nat.le_trans HZ2.out hdn.size)
              clear hdn x0 x1 xl s0 s1 s2 sl
              generalize w2.drewN nq = w4 at *
              have x0 := HX4.out.cs 0 _ rfl
              have x1 := HX4.out.cs 1 _ rfl
              have xl := HX4.out.lt
              have s0 := HS4.out.cs 0 _ rfl
              have s1 := HS4.out.cs 1 _ rfl
              have s2 := HS4.out.cs 2 _ rfl
              have sl := HS4.out.lt
              have r0 := HR4.out.cs 0 _ rfl
              have r1 := HR4.out.cs 1 _ rfl
              have rl := HR4.out.lt
              have rf : ∀ j, w4.frozen? ⟨w.heap.size + 2, j, none⟩ = false := HR4.out.s
              have HPX := Lib.hid (HI0.out.on HB4.out)
              have HO0 := Lib.hid (World.ownsRow_nil w4 w4.heap.size 57 3)
              have HRW := Lib.hid HPX.out.shs.row
              have HAA := Lib.hid (fun W => rtOne W (.cells #[.string (ofL x.name), .int .u8 (x.sort : Int), .string (ofL x.to)] 57))
              have HNEW := Lib.hid (fun (W : World) => Rws.of_news (w := W.alloc (.cells #[.string (ofL x.name), .int .u8 (x.sort : Int), .string (ofL x.to)] 57)) (b := W.heap.size) (off := 0) (cs := shs [x]) (fun j u hu => by
                rw [shs_one1] at hu
                rw [Nat.zero_add]
                exact (BoxC.new (w := W) (Nat.le_refl _) #[.string (ofL x.name), .int .u8 (x.sort : Int), .string (ofL x.to)] 57).cs j u hu))
              clear r0 r1 rl rf
              go_wp2_with (first
                | (at_builtin; refine wpList_append_rws _ rfl (Operand.tmp 69) (Operand.tmp 71) 29 rfl w4.heap.size 57 iN _ 3 40 Tryz.underlying29 hiN hzN0 hzN1 hzN2 rfl (by decide) (by decide) (by rfl) HO0.out (by rfl) HRW.out (shs_len shops) (shs_one shops) (by omega) HPX.out.nilA (Nat.le_refl _) ?_; intro v' w5 hown hgrow; rw [Nat.zero_add, List.nil_append] at hown; have HB5 := Lib.hid ((Below.refl w4.heap.size w4).grown hgrow (Nat.le_refl _) (fun k hk => by cases hk)); obtain ⟨A5, c5, rfl, -, -⟩ := Rw.own_cells hown; have HO5 := Lib.hid (Rw.own_on hown (HAA.out w5)); have HNW := Lib.hid (HNEW.out w5); have hs5 : w4.heap.size ≤ (w5.alloc (.cells #[.string (ofL x.name), .int .u8 (x.sort : Int), .string (ofL x.to)] 57)).heap.size := Nat.le_trans HB5.out.size (HAA.out w5).size; have HX5 := Lib.hid (HX4.out.on HB5.out); have HS5 := Lib.hid (HS4.out.on HB5.out); clear hown hgrow x0 x1 xl s0 s1 s2 sl; have x0 := HX5.out.cs 0 _ rfl; have x1 := HX5.out.cs 1 _ rfl; have xl := HX5.out.lt; have s0 := HS5.out.cs 0 _ rfl; have s1 := HS5.out.cs 1 _ rfl; have s2 := HS5.out.cs 2 _ rfl; have sl := HS5.out.lt)
                | (at_builtin; refine wpList_append_rws _ rfl (Operand.tmp 73) (Operand.tmp 75) 29 rfl w4.heap.size 57 iN _ 3 40 Tryz.underlying29 hiN hzN0 hzN1 hzN2 rfl (by decide) (by decide) (by rfl) HO5.out (by rfl) HNW.out (by rfl) (shs_one _) (by omega) (fun e => by cases e) hs5 ?_; intro v6 w6 hown hgrow; rw [← shs_app] at hown; have HB6 := Lib.hid ((bthen HB5.out (HAA.out w5) (Nat.le_refl _)).grown hgrow hs5 (fun k hk => (HO5.out.lt k hk).1)); have HO6 := Lib.hid hown; obtain ⟨A6, c6, rfl, -, -⟩ := Rw.own_cells hown; have HX6 := Lib.hid (HX4.out.on HB6.out); have HR6 := Lib.hid (HR4.out.on HB6.out); clear hown hgrow x0 x1 xl s0 s1 s2 sl; have x0 := HX6.out.cs 0 _ rfl; have x1 := HX6.out.cs 1 _ rfl; have xl := HX6.out.lt; have xf : ∀ j, w6.frozen? ⟨w.heap.size, j, none⟩ = false := HX6.out.s; have r0 := HR6.out.cs 0 _ rfl; have r1 := HR6.out.cs 1 _ rfl; have rl := HR6.out.lt; have rf : ∀ j, w6.frozen? ⟨w.heap.size + 2, j, none⟩ = false := HR6.out.s))
              have HBE := Lib.hid (bthen HB4.out HB6.out (Nat.le_refl _))
              have hQ := (HR6.out.aside (g := w.heap.size) (by omega) 0 (.slice A6 (shops.length + 1) c6)).fill [.slice A6 (shops.length + 1) c6, .slice B binds.length d] rfl
              have hB := below_putAll (g := w.heap.size + 2) (by omega) [.slice A6 (shops.length + 1) c6, .slice B binds.length d] 0 (HBE.out.setCell (p := ⟨w.heap.size, 0, none⟩) (Nat.le_refl _) (.slice A6 (shops.length + 1) c6))
              have hO := rtOwnPut (rtOwnPut (rtOwnPut HO6.out (g := w.heap.size) (by have := HZ4.out; omega) 0 (.slice A6 (shops.length + 1) c6)) (g := w.heap.size + 2) (by have := HZ4.out; omega) 0 (.slice A6 (shops.length + 1) c6)) (g := w.heap.size + 2) (by have := HZ4.out; omega) 1 (.slice B binds.length d)
              simp only [putAll] at hQ hB
              have g0 := hQ.cs 0 _ rfl
              have g1 := hQ.cs 1 _ rfl
              obtain ⟨A9, c9, e9, hc9, hn9, hr9, hb9⟩ := Rws.of_own hO
              obtain ⟨rfl, -, rfl⟩ := Value.slice.inj e9
              have h0 := HI0.out.on hB
              have hu := (HU.out.on hB.size).mono (V := fun g => U g ∨ w.heap.size ≤ g) (fun g h => .inl h)
              exact bodyPost_ret (v := .tuple #[.agg #[.slice A6 (shops.length + 1) c6, .slice B binds.length d], .int .i64 0]) (by simp [results, Tryz.results24, go_sem, g0, g1]) rfl ⟨A6, c6, B, d, ps, by simp [bkV], ⟨h0.xs, by simpa using hc9, hn9, h0.capB, h0.nilB, ⟨hr9⟩, h0.bds⟩, ⟨fun a ha => ⟨.inr (by have := (hb9 a ha).1; have := HZ4.out; omega), (hb9 a ha).2⟩, hu.b, hu.p⟩, hB⟩
          · have e2' : Bk.shop ⟨shops, binds⟩ x.name = some (shops.getD k Bk.Sh0) := e2
            rw [e2'] at hmk
            rw [e1] at HF
            dsimp only at hmk
            obtain ⟨bb, off, rfl, hbl, hat⟩ := shs_get HI0.out.shs.row hkk
            rw [sh_get hkk] at hat
            generalize shops.getD k Bk.Sh0 = y at *
            have HAT := Lib.hid hat
            have hk1 : decide ((k : Int) ≥ 0) = true := decide_eq_true (by omega)
            have hk2 : (k : Int) < (shops.length : Int) := by omega
            have hkb : bb < w.heap.size := hbl
            clear e1 e2 e2' hat hbl
            by_cases hyx : y = x
            · rw [hmk, if_pos hyx]
              dsimp only
              have hq := HSE.out y
              rw [decide_eq_true hyx] at hq
              clear hmk hyx
              go_enter Tryz.func24, Tryz.ntmps24
              go_wp2_with fail
              generalize ((w.alloc (.cells #[.slice (some ⟨bb, off, none⟩) shops.length c, .slice B binds.length d] 32)).alloc (.cells #[.string (ofL x.name), .int .u8 (x.sort : Int), .string (ofL x.to)] 57)).alloc (.cells #[.slice none 0 0, .slice none 0 0] 32) = w1 at *
              have x0 := HX0.out.cs 0 _ rfl
              have x1 := HX0.out.cs 1 _ rfl
              have xl := HX0.out.lt
              have s0 := HS0.out.cs 0 _ rfl
              have s1 := HS0.out.cs 1 _ rfl
              have s2 := HS0.out.cs 2 _ rfl
              have sl := HS0.out.lt
              have r0 := HR0.out.cs 0 _ rfl
              have r1 := HR0.out.cs 1 _ rfl
              have rl := HR0.out.lt
              have rf : ∀ j, w1.frozen? ⟨w.heap.size + 2, j, none⟩ = false := HR0.out.s
              have HB1 := Lib.hid HB0.out
              have HR1 := Lib.hid HR0.out
              refine (HN.out _).mono ?_
              rintro e w1 ⟨rfl, rfl⟩
              go_wp2_with fail
              refine (HT.out _).mono ?_
              rintro e w1 ⟨rfl, rfl⟩
              go_wp2_with fail
              refine HF.out.mono ?_
              rintro e w2 ⟨rfl, b2⟩
              have HB2 := Lib.hid (bthen HB1.out b2 (Nat.le_refl _))
              have HX2 := Lib.hid (HX0.out.on b2)
              have HS2 := Lib.hid (HS0.out.on b2)
              have HR2 := Lib.hid (HR0.out.on b2)
              have HZ2 := Lib.hid (show w.heap.size + 3 ≤ w2.heap.size from by have := b2.size; have := HSZ.out; omega)
              clear b2 x0 x1 xl s0 s1 s2 sl r0 r1 rl rf
              have x0 := HX2.out.cs 0 _ rfl
              have x1 := HX2.out.cs 1 _ rfl
              have xl := HX2.out.lt
              have s0 := HS2.out.cs 0 _ rfl
              have s1 := HS2.out.cs 1 _ rfl
              have s2 := HS2.out.cs 2 _ rfl
              have sl := HS2.out.lt
              have hb2 := HB2.out
              have q0 := rtCell hb2 (HAT.out 0 _ rfl)
              have q1 := rtCell hb2 (HAT.out 1 _ rfl)
              have q2 := rtCell hb2 (HAT.out 2 _ rfl)
              rw [Nat.add_zero] at q0
              have ql := Nat.lt_of_lt_of_le hkb hb2.size
              clear hb2
              go_upto_region 11 with fail
              go_quiet (fail)
              have hdn : Below w2.heap.size w2 (w2.drewN nq) := ⟨rfl, rfl, rfl, Nat.le_refl _, fun _ _ => rfl⟩
              have HB4 := Lib.hid (bthen HB2.out hdn (Nat.le_refl _))
              have HX4 := Lib.hid (HX2.out.on hdn)
              have HS4 := Lib.hid (HS2.out.on hdn)
              have HR4 := Lib.hid (HR2.out.on hdn)
              have HZ4 := Lib.hid (show w.heap.size + 3 ≤ (w2.drewN nq).heap.size from Nat.le_trans HZ2.out hdn.size)
              clear hdn x0 x1 xl s0 s1 s2 sl q0 q1 q2 ql
              generalize w2.drewN nq = w4 at *
              have x0 := HX4.out.cs 0 _ rfl
              have x1 := HX4.out.cs 1 _ rfl
              have xl := HX4.out.lt
              have s0 := HS4.out.cs 0 _ rfl
              have s1 := HS4.out.cs 1 _ rfl
              have s2 := HS4.out.cs 2 _ rfl
              have sl := HS4.out.lt
              have r0 := HR4.out.cs 0 _ rfl
              have r1 := HR4.out.cs 1 _ rfl
              have rl := HR4.out.lt
              have rf : ∀ j, w4.frozen? ⟨w.heap.size + 2, j, none⟩ = false := HR4.out.s
              go_wp2_with fail
              have hQ := HR4.out.fill [.slice (some ⟨bb, off, none⟩) shops.length c, .slice B binds.length d] rfl
              have hB := below_putAll (g := w.heap.size + 2) (by omega) [.slice (some ⟨bb, off, none⟩) shops.length c, .slice B binds.length d] 0 HB4.out
              simp only [putAll] at hQ hB
              have g0 := hQ.cs 0 _ rfl
              have g1 := hQ.cs 1 _ rfl
              exact bodyPost_ret (v := .tuple #[.agg #[.slice (some ⟨bb, off, none⟩) shops.length c, .slice B binds.length d], .int .i64 0]) (by simp [results, Tryz.results24, go_sem, g0, g1]) rfl ⟨some ⟨bb, off, none⟩, c, B, d, ps, rfl, HI0.out.on hB, (HU.out.mono (fun g h => .inl h)).on hB.size, hB⟩
            · rw [hmk, if_neg hyx]
              dsimp only
              have hq := HSE.out y
              rw [decide_eq_false hyx] at hq
              clear hmk hyx
              go_enter Tryz.func24, Tryz.ntmps24
              go_wp2_with fail
              generalize ((w.alloc (.cells #[.slice (some ⟨bb, off, none⟩) shops.length c, .slice B binds.length d] 32)).alloc (.cells #[.string (ofL x.name), .int .u8 (x.sort : Int), .string (ofL x.to)] 57)).alloc (.cells #[.slice none 0 0, .slice none 0 0] 32) = w1 at *
              have x0 := HX0.out.cs 0 _ rfl
              have x1 := HX0.out.cs 1 _ rfl
              have xl := HX0.out.lt
              have s0 := HS0.out.cs 0 _ rfl
              have s1 := HS0.out.cs 1 _ rfl
              have s2 := HS0.out.cs 2 _ rfl
              have sl := HS0.out.lt
              have r0 := HR0.out.cs 0 _ rfl
              have r1 := HR0.out.cs 1 _ rfl
              have rl := HR0.out.lt
              have rf : ∀ j, w1.frozen? ⟨w.heap.size + 2, j, none⟩ = false := HR0.out.s
              have HB1 := Lib.hid HB0.out
              have HR1 := Lib.hid HR0.out
              refine (HN.out _).mono ?_
              rintro e w1 ⟨rfl, rfl⟩
              go_wp2_with fail
              refine (HT.out _).mono ?_
              rintro e w1 ⟨rfl, rfl⟩
              go_wp2_with fail
              refine HF.out.mono ?_
              rintro e w2 ⟨rfl, b2⟩
              have HB2 := Lib.hid (bthen HB1.out b2 (Nat.le_refl _))
              have HX2 := Lib.hid (HX0.out.on b2)
              have HS2 := Lib.hid (HS0.out.on b2)
              have HR2 := Lib.hid (HR0.out.on b2)
              have HZ2 := Lib.hid (show w.heap.size + 3 ≤ w2.heap.size from by have := b2.size; have := HSZ.out; omega)
              clear b2 x0 x1 xl s0 s1 s2 sl r0 r1 rl rf
              have x0 := HX2.out.cs 0 _ rfl
              have x1 := HX2.out.cs 1 _ rfl
              have xl := HX2.out.lt
              have s0 := HS2.out.cs 0 _ rfl
              have s1 := HS2.out.cs 1 _ rfl
              have s2 := HS2.out.cs 2 _ rfl
              have sl := HS2.out.lt
              have hb2 := HB2.out
              have q0 := rtCell hb2 (HAT.out 0 _ rfl)
              have q1 := rtCell hb2 (HAT.out 1 _ rfl)
              have q2 := rtCell hb2 (HAT.out 2 _ rfl)
              rw [Nat.add_zero] at q0
              have ql := Nat.lt_of_lt_of_le hkb hb2.size
              clear hb2
              go_upto_region 11 with fail
              go_quiet (fail)
              have hdn : Below w2.heap.size w2 (w2.drewN nq) := ⟨rfl, rfl, rfl, Nat.le_refl _, fun _ _ => rfl⟩
              have HB4 := Lib.hid (bthen HB2.out hdn (Nat.le_refl _))
              have HX4 := Lib.hid (HX2.out.on hdn)
              have HS4 := Lib.hid (HS2.out.on hdn)
              have HR4 := Lib.hid (HR2.out.on hdn)
              have HZ4 := Lib.hid (show w.heap.size + 3 ≤ (w2.drewN nq).heap.size from Nat.le_trans HZ2.out hdn.size)
              clear hdn x0 x1 xl s0 s1 s2 sl q0 q1 q2 ql
              generalize w2.drewN nq = w4 at *
              have x0 := HX4.out.cs 0 _ rfl
              have x1 := HX4.out.cs 1 _ rfl
              have xl := HX4.out.lt
              have s0 := HS4.out.cs 0 _ rfl
              have s1 := HS4.out.cs 1 _ rfl
              have s2 := HS4.out.cs 2 _ rfl
              have sl := HS4.out.lt
              have r0 := HR4.out.cs 0 _ rfl
              have r1 := HR4.out.cs 1 _ rfl
              have rl := HR4.out.lt
              have rf : ∀ j, w4.frozen? ⟨w.heap.size + 2, j, none⟩ = false := HR4.out.s
              go_wp2_with fail
              have hQ := HR4.out.fill [.slice (some ⟨bb, off, none⟩) shops.length c, .slice B binds.length d] rfl
              have hB := below_putAll (g := w.heap.size + 2) (by omega) [.slice (some ⟨bb, off, none⟩) shops.length c, .slice B binds.length d] 0 HB4.out
              simp only [putAll] at hQ hB
              have g0 := hQ.cs 0 _ rfl
              have g1 := hQ.cs 1 _ rfl
              exact bodyPost_ret (v := .tuple #[.agg #[.slice (some ⟨bb, off, none⟩) shops.length c, .slice B binds.length d], .int .i64 9]) (by simp [results, Tryz.results24, go_sem, g0, g1]) rfl ⟨some ⟨bb, off, none⟩, c, B, d, ps, rfl, HI0.out.on hB, (HU.out.mono (fun g h => .inl h)).on hB.size, hB⟩
        · have dl1 : ((L : Int) == 0) = false := beq_eq_false_iff_ne.2 (by omega)
          have dl2 : ((L : Int) != 0) = true := by rw [bne_iff_ne]; omega
          rw [hmk, if_pos (by omega), hsc]
          dsimp only
          clear h4 h5 hsc hmk hf HF HSE hk hl
          go_enter Tryz.func24, Tryz.ntmps24
          go_wp2_with fail
          generalize ((w.alloc (.cells #[.slice A shops.length c, .slice B binds.length d] 32)).alloc (.cells #[.string (ofL x.name), .int .u8 (x.sort : Int), .string (ofL x.to)] 57)).alloc (.cells #[.slice none 0 0, .slice none 0 0] 32) = w1 at *
          have x0 := HX0.out.cs 0 _ rfl
          have x1 := HX0.out.cs 1 _ rfl
          have xl := HX0.out.lt
          have s0 := HS0.out.cs 0 _ rfl
          have s1 := HS0.out.cs 1 _ rfl
          have s2 := HS0.out.cs 2 _ rfl
          have sl := HS0.out.lt
          have r0 := HR0.out.cs 0 _ rfl
          have r1 := HR0.out.cs 1 _ rfl
          have rl := HR0.out.lt
          have rf : ∀ j, w1.frozen? ⟨w.heap.size + 2, j, none⟩ = false := HR0.out.s
          have HB1 := Lib.hid HB0.out
          have HR1 := Lib.hid HR0.out
          refine (HN.out _).mono ?_
          rintro e w1 ⟨rfl, rfl⟩
          go_wp2_with fail
          refine (HT.out _).mono ?_
          rintro e w1 ⟨rfl, rfl⟩
          go_wp2_with fail
          have hQ := HR1.out.fill [.slice A shops.length c, .slice B binds.length d] rfl
          have hB := below_putAll (g := w.heap.size + 2) (by omega) [.slice A shops.length c, .slice B binds.length d] 0 HB1.out
          simp only [putAll] at hQ hB
          have g0 := hQ.cs 0 _ rfl
          have g1 := hQ.cs 1 _ rfl
          exact bodyPost_ret (v := .tuple #[.agg #[.slice A shops.length c, .slice B binds.length d], .int .i64 (L : Int)]) (by simp [results, Tryz.results24, go_sem, g0, g1]) rfl ⟨A, c, B, d, ps, rfl, HI0.out.on hB, (HU.out.mono (fun g h => .inl h)).on hB.size, hB⟩
      · have d2 : ((x.sort : Int) == 4) = false := beq_eq_false_iff_ne.2 (by omega)
        have d3 : decide ((x.sort : Int) < 4) = true := decide_eq_true (by omega)
        rw [if_neg h5] at hsc
        by_cases h6 : x.to = []
        · have he := HEM.out.1 h6
          rw [if_neg (fun h => h h6)] at hsc
          rw [hsc, if_neg (by omega)] at hmk
          have H6 := Lib.hid h6
          clear h4 h5 h6 hsc hk
          obtain ⟨e1, e2⟩ | ⟨k, e1, hkk, e2⟩ := hf
          · have e2' : Bk.shop ⟨shops, binds⟩ x.name = none := e2
            rw [e2'] at hmk
            rw [e1] at HF
            dsimp only at hmk
            clear e1 e2 e2' HSE
            by_cases h8 : 8 ≤ shops.length
            · have d8 : decide ((shops.length : Int) ≥ 8) = true := decide_eq_true (by omega)
              rw [hmk, if_pos h8]
              dsimp only
              clear hmk
              go_enter Tryz.func24, Tryz.ntmps24
              go_wp2_with fail
              generalize ((w.alloc (.cells #[.slice A shops.length c, .slice B binds.length d] 32)).alloc (.cells #[.string (ofL x.name), .int .u8 (x.sort : Int), .string (ofL x.to)] 57)).alloc (.cells #[.slice none 0 0, .slice none 0 0] 32) = w1 at *
              have x0 := HX0.out.cs 0 _ rfl
              have x1 := HX0.out.cs 1 _ rfl
              have xl := HX0.out.lt
              have s0 := HS0.out.cs 0 _ rfl
              have s1 := HS0.out.cs 1 _ rfl
              have s2 := HS0.out.cs 2 _ rfl
              have sl := HS0.out.lt
              have r0 := HR0.out.cs 0 _ rfl
              have r1 := HR0.out.cs 1 _ rfl
              have rl := HR0.out.lt
              have rf : ∀ j, w1.frozen? ⟨w.heap.size + 2, j, none⟩ = false := HR0.out.s
              have HB1 := Lib.hid HB0.out
              have HR1 := Lib.hid HR0.out
              refine (HN.out _).mono ?_
              rintro e w1 ⟨rfl, rfl⟩
              go_wp2_with fail
              refine HF.out.mono ?_
              rintro e w2 ⟨rfl, b2⟩
              have HB2 := Lib.hid (bthen HB1.out b2 (Nat.le_refl _))
              have HX2 := Lib.hid (HX0.out.on b2)
              have HS2 := Lib.hid (HS0.out.on b2)
              have HR2 := Lib.hid (HR0.out.on b2)
              have HZ2 := Lib.hid (show w.heap.size + 3 ≤ w2.heap.size from by have := b2.size; have := HSZ.out; omega)
              clear b2 x0 x1 xl s0 s1 s2 sl r0 r1 rl rf
              have x0 := HX2.out.cs 0 _ rfl
              have x1 := HX2.out.cs 1 _ rfl
              have xl := HX2.out.lt
              have s0 := HS2.out.cs 0 _ rfl
              have s1 := HS2.out.cs 1 _ rfl
              have s2 := HS2.out.cs 2 _ rfl
              have sl := HS2.out.lt
              go_upto_region 11 with fail
              go_quiet (fail)
              have hdn : Below w2.heap.size w2 (w2.drewN nq) := ⟨rfl, rfl, rfl, Nat.le_refl _, fun _ _ => rfl⟩
              have HB4 := Lib.hid (bthen HB2.out hdn (Nat.le_refl _))
              have HX4 := Lib.hid (HX2.out.on hdn)
              have HS4 := Lib.hid (HS2.out.on hdn)
              have HR4 := Lib.hid (HR2.out.on hdn)
              have HZ4 := Lib.hid (show w.heap.size + 3 ≤ (w2.drewN nq).heap.size from Nat.le_trans HZ2.out hdn.size)
              clear hdn x0 x1 xl s0 s1 s2 sl
              generalize w2.drewN nq = w4 at *
              have x0 := HX4.out.cs 0 _ rfl
              have x1 := HX4.out.cs 1 _ rfl
              have xl := HX4.out.lt
              have s0 := HS4.out.cs 0 _ rfl
              have s1 := HS4.out.cs 1 _ rfl
              have s2 := HS4.out.cs 2 _ rfl
              have sl := HS4.out.lt
              have r0 := HR4.out.cs 0 _ rfl
              have r1 := HR4.out.cs 1 _ rfl
              have rl := HR4.out.lt
              have rf : ∀ j, w4.frozen? ⟨w.heap.size + 2, j, none⟩ = false := HR4.out.s
              go_wp2_with fail
              have hQ := HR4.out.fill [.slice A shops.length c, .slice B binds.length d] rfl
              have hB := below_putAll (g := w.heap.size + 2) (by omega) [.slice A shops.length c, .slice B binds.length d] 0 HB4.out
              simp only [putAll] at hQ hB
              have g0 := hQ.cs 0 _ rfl
              have g1 := hQ.cs 1 _ rfl
              exact bodyPost_ret (v := .tuple #[.agg #[.slice A shops.length c, .slice B binds.length d], .int .i64 12]) (by simp [results, Tryz.results24, go_sem, g0, g1]) rfl ⟨A, c, B, d, ps, rfl, HI0.out.on hB, (HU.out.mono (fun g h => .inl h)).on hB.size, hB⟩
            · have d8 : decide ((shops.length : Int) ≥ 8) = false := decide_eq_false (by omega)
              rw [hmk, if_neg h8]
              dsimp only
              clear hmk
              go_enter Tryz.func24, Tryz.ntmps24
              go_wp2_with fail
              generalize ((w.alloc (.cells #[.slice A shops.length c, .slice B binds.length d] 32)).alloc (.cells #[.string (ofL x.name), .int .u8 (x.sort : Int), .string (ofL x.to)] 57)).alloc (.cells #[.slice none 0 0, .slice none 0 0] 32) = w1 at *
              have x0 := HX0.out.cs 0 _ rfl
              have x1 := HX0.out.cs 1 _ rfl
              have xl := HX0.out.lt
              have s0 := HS0.out.cs 0 _ rfl
              have s1 := HS0.out.cs 1 _ rfl
              have s2 := HS0.out.cs 2 _ rfl
              have sl := HS0.out.lt
              have r0 := HR0.out.cs 0 _ rfl
              have r1 := HR0.out.cs 1 _ rfl
              have rl := HR0.out.lt
              have rf : ∀ j, w1.frozen? ⟨w.heap.size + 2, j, none⟩ = false := HR0.out.s
              have HB1 := Lib.hid HB0.out
              have HR1 := Lib.hid HR0.out
              refine (HN.out _).mono ?_
              rintro e w1 ⟨rfl, rfl⟩
              go_wp2_with fail
              refine HF.out.mono ?_
              rintro e w2 ⟨rfl, b2⟩
              have HB2 := Lib.hid (bthen HB1.out b2 (Nat.le_refl _))
              have HX2 := Lib.hid (HX0.out.on b2)
              have HS2 := Lib.hid (HS0.out.on b2)
              have HR2 := Lib.hid (HR0.out.on b2)
              have HZ2 := Lib.hid (show w.heap.size + 3 ≤ w2.heap.size from by have := b2.size; have := HSZ.out; omega)
              clear b2 x0 x1 xl s0 s1 s2 sl r0 r1 rl rf
              have x0 := HX2.out.cs 0 _ rfl
              have x1 := HX2.out.cs 1 _ rfl
              have xl := HX2.out.lt
              have s0 := HS2.out.cs 0 _ rfl
              have s1 := HS2.out.cs 1 _ rfl
              have s2 := HS2.out.cs 2 _ rfl
              have sl := HS2.out.lt
              go_upto_region 11 with fail
              go_quiet (fail)
              have hdn : Below w2.heap.size w2 (w2.drewN nq) := ⟨rfl, rfl, rfl, Nat.le_refl _, fun _ _ => rfl⟩
              have HB4 := Lib.hid (bthen HB2.out hdn (Nat.le_refl _))
              have HX4 := Lib.hid (HX2.out.on hdn)
              have HS4 := Lib.hid (HS2.out.on hdn)
              have HR4 := Lib.hid (HR2.out.on hdn)
              have HZ4 := Lib.hid (show w.heap.size + 3 ≤ (w2.drewN nq).heap.size from Nat.le_trans HZ2.out hdn.size)
              clear hdn x0 x1 xl s0 s1 s2 sl
              generalize w2.drewN nq = w4 at *
              have x0 := HX4.out.cs 0 _ rfl
              have x1 := HX4.out.cs 1 _ rfl
              have xl := HX4.out.lt
              have s0 := HS4.out.cs 0 _ rfl
              have s1 := HS4.out.cs 1 _ rfl
              have s2 := HS4.out.cs 2 _ rfl
              have sl := HS4.out.lt
              have r0 := HR4.out.cs 0 _ rfl
              have r1 := HR4.out.cs 1 _ rfl
              have rl := HR4.out.lt
              have rf : ∀ j, w4.frozen? ⟨w.heap.size + 2, j, none⟩ = false := HR4.out.s
              have HPX := Lib.hid (HI0.out.on HB4.out)
              have HO0 := Lib.hid (World.ownsRow_nil w4 w4.heap.size 57 3)
              have HRW := Lib.hid HPX.out.shs.row
              have HAA := Lib.hid (fun W => rtOne W (.cells #[.string (ofL x.name), .int .u8 (x.sort : Int), .string (ofL x.to)] 57))
              have HNEW := Lib.hid (fun (W : World) => Rws.of_news (w := W.alloc (.cells #[.string (ofL x.name), .int .u8 (x.sort : Int), .string (ofL x.to)] 57)) (b := W.heap.size) (off := 0) (cs := shs [x]) (fun j u hu => by
                rw [shs_one1] at hu
                rw [Nat.zero_add]
                exact (BoxC.new (w := W) (Nat.le_refl _) #[.string (ofL x.name), .int .u8 (x.sort : Int), .string (ofL x.to)] 57).cs j u hu))
              clear r0 r1 rl rf
              go_wp2_with (first
                | (at_builtin; refine wpList_append_rws _ rfl (Operand.tmp 69) (Operand.tmp 71) 29 rfl w4.heap.size 57 iN _ 3 40 Tryz.underlying29 hiN hzN0 hzN1 hzN2 rfl (by decide) (by decide) (by rfl) HO0.out (by rfl) HRW.out (shs_len shops) (shs_one shops) (by omega) HPX.out.nilA (Nat.le_refl _) ?_; intro v' w5 hown hgrow; rw [Nat.zero_add, List.nil_append] at hown; have HB5 := Lib.hid ((Below.refl w4.heap.size w4).grown hgrow (Nat.le_refl _) (fun k hk => by cases hk)); obtain ⟨A5, c5, rfl, -, -⟩ := Rw.own_cells hown; have HO5 := Lib.hid (Rw.own_on hown (HAA.out w5)); have HNW := Lib.hid (HNEW.out w5); have hs5 : w4.heap.size ≤ (w5.alloc (.cells #[.string (ofL x.name), .int .u8 (x.sort : Int), .string (ofL x.to)] 57)).heap.size := Nat.le_trans HB5.out.size (HAA.out w5).size; have HX5 := Lib.hid (HX4.out.on HB5.out); have HS5 := Lib.hid (HS4.out.on HB5.out); clear hown hgrow x0 x1 xl s0 s1 s2 sl; have x0 := HX5.out.cs 0 _ rfl; have x1 := HX5.out.cs 1 _ rfl; have xl := HX5.out.lt; have s0 := HS5.out.cs 0 _ rfl; have s1 := HS5.out.cs 1 _ rfl; have s2 := HS5.out.cs 2 _ rfl; have sl := HS5.out.lt)
                | (at_builtin; refine wpList_append_rws _ rfl (Operand.tmp 73) (Operand.tmp 75) 29 rfl w4.heap.size 57 iN _ 3 40 Tryz.underlying29 hiN hzN0 hzN1 hzN2 rfl (by decide) (by decide) (by rfl) HO5.out (by rfl) HNW.out (by rfl) (shs_one _) (by omega) (fun e => by cases e) hs5 ?_; intro v6 w6 hown hgrow; rw [← shs_app] at hown; have HB6 := Lib.hid ((bthen HB5.out (HAA.out w5) (Nat.le_refl _)).grown hgrow hs5 (fun k hk => (HO5.out.lt k hk).1)); have HO6 := Lib.hid hown; obtain ⟨A6, c6, rfl, -, -⟩ := Rw.own_cells hown; have HX6 := Lib.hid (HX4.out.on HB6.out); have HR6 := Lib.hid (HR4.out.on HB6.out); clear hown hgrow x0 x1 xl s0 s1 s2 sl; have x0 := HX6.out.cs 0 _ rfl; have x1 := HX6.out.cs 1 _ rfl; have xl := HX6.out.lt; have xf : ∀ j, w6.frozen? ⟨w.heap.size, j, none⟩ = false := HX6.out.s; have r0 := HR6.out.cs 0 _ rfl; have r1 := HR6.out.cs 1 _ rfl; have rl := HR6.out.lt; have rf : ∀ j, w6.frozen? ⟨w.heap.size + 2, j, none⟩ = false := HR6.out.s))
              have HBE := Lib.hid (bthen HB4.out HB6.out (Nat.le_refl _))
              have hQ := (HR6.out.aside (g := w.heap.size) (by omega) 0 (.slice A6 (shops.length + 1) c6)).fill [.slice A6 (shops.length + 1) c6, .slice B binds.length d] rfl
              have hB := below_putAll (g := w.heap.size + 2) (by omega) [.slice A6 (shops.length + 1) c6, .slice B binds.length d] 0 (HBE.out.setCell (p := ⟨w.heap.size, 0, none⟩) (Nat.le_refl _) (.slice A6 (shops.length + 1) c6))
              have hO := rtOwnPut (rtOwnPut (rtOwnPut HO6.out (g := w.heap.size) (by have := HZ4.out; omega) 0 (.slice A6 (shops.length + 1) c6)) (g := w.heap.size + 2) (by have := HZ4.out; omega) 0 (.slice A6 (shops.length + 1) c6)) (g := w.heap.size + 2) (by have := HZ4.out; omega) 1 (.slice B binds.length d)
              simp only [putAll] at hQ hB
              have g0 := hQ.cs 0 _ rfl
              have g1 := hQ.cs 1 _ rfl
              obtain ⟨A9, c9, e9, hc9, hn9, hr9, hb9⟩ := Rws.of_own hO
              obtain ⟨rfl, -, rfl⟩ := Value.slice.inj e9
              have h0 := HI0.out.on hB
              have hu := (HU.out.on hB.size).mono (V := fun g => U g ∨ w.heap.size ≤ g) (fun g h => .inl h)
              exact bodyPost_ret (v := .tuple #[.agg #[.slice A6 (shops.length + 1) c6, .slice B binds.length d], .int .i64 0]) (by simp [results, Tryz.results24, go_sem, g0, g1]) rfl ⟨A6, c6, B, d, ps, by simp [bkV], ⟨h0.xs, by simpa using hc9, hn9, h0.capB, h0.nilB, ⟨hr9⟩, h0.bds⟩, ⟨fun a ha => ⟨.inr (by have := (hb9 a ha).1; have := HZ4.out; omega), (hb9 a ha).2⟩, hu.b, hu.p⟩, hB⟩
          · have e2' : Bk.shop ⟨shops, binds⟩ x.name = some (shops.getD k Bk.Sh0) := e2
            rw [e2'] at hmk
            rw [e1] at HF
            dsimp only at hmk
            obtain ⟨bb, off, rfl, hbl, hat⟩ := shs_get HI0.out.shs.row hkk
            rw [sh_get hkk] at hat
            generalize shops.getD k Bk.Sh0 = y at *
            have HAT := Lib.hid hat
            have hk1 : decide ((k : Int) ≥ 0) = true := decide_eq_true (by omega)
            have hk2 : (k : Int) < (shops.length : Int) := by omega
            have hkb : bb < w.heap.size := hbl
            clear e1 e2 e2' hat hbl
            by_cases hyx : y = x
            · rw [hmk, if_pos hyx]
              dsimp only
              have hq := HSE.out y
              rw [decide_eq_true hyx] at hq
              clear hmk hyx
              go_enter Tryz.func24, Tryz.ntmps24
              go_wp2_with fail
              generalize ((w.alloc (.cells #[.slice (some ⟨bb, off, none⟩) shops.length c, .slice B binds.length d] 32)).alloc (.cells #[.string (ofL x.name), .int .u8 (x.sort : Int), .string (ofL x.to)] 57)).alloc (.cells #[.slice none 0 0, .slice none 0 0] 32) = w1 at *
              have x0 := HX0.out.cs 0 _ rfl
              have x1 := HX0.out.cs 1 _ rfl
              have xl := HX0.out.lt
              have s0 := HS0.out.cs 0 _ rfl
              have s1 := HS0.out.cs 1 _ rfl
              have s2 := HS0.out.cs 2 _ rfl
              have sl := HS0.out.lt
              have r0 := HR0.out.cs 0 _ rfl
              have r1 := HR0.out.cs 1 _ rfl
              have rl := HR0.out.lt
              have rf : ∀ j, w1.frozen? ⟨w.heap.size + 2, j, none⟩ = false := HR0.out.s
              have HB1 := Lib.hid HB0.out
              have HR1 := Lib.hid HR0.out
              refine (HN.out _).mono ?_
              rintro e w1 ⟨rfl, rfl⟩
              go_wp2_with fail
              refine HF.out.mono ?_
              rintro e w2 ⟨rfl, b2⟩
              have HB2 := Lib.hid (bthen HB1.out b2 (Nat.le_refl _))
              have HX2 := Lib.hid (HX0.out.on b2)
              have HS2 := Lib.hid (HS0.out.on b2)
              have HR2 := Lib.hid (HR0.out.on b2)
              have HZ2 := Lib.hid (show w.heap.size + 3 ≤ w2.heap.size from by have := b2.size; have := HSZ.out; omega)
              clear b2 x0 x1 xl s0 s1 s2 sl r0 r1 rl rf
              have x0 := HX2.out.cs 0 _ rfl
              have x1 := HX2.out.cs 1 _ rfl
              have xl := HX2.out.lt
              have s0 := HS2.out.cs 0 _ rfl
              have s1 := HS2.out.cs 1 _ rfl
              have s2 := HS2.out.cs 2 _ rfl
              have sl := HS2.out.lt
              have hb2 := HB2.out
              have q0 := rtCell hb2 (HAT.out 0 _ rfl)
              have q1 := rtCell hb2 (HAT.out 1 _ rfl)
              have q2 := rtCell hb2 (HAT.out 2 _ rfl)
              rw [Nat.add_zero] at q0
              have ql := Nat.lt_of_lt_of_le hkb hb2.size
              clear hb2
              go_upto_region 11 with fail
              go_quiet (fail)
              have hdn : Below w2.heap.size w2 (w2.drewN nq) := ⟨rfl, rfl, rfl, Nat.le_refl _, fun _ _ => rfl⟩
              have HB4 := Lib.hid (bthen HB2.out hdn (Nat.le_refl _))
              have HX4 := Lib.hid (HX2.out.on hdn)
              have HS4 := Lib.hid (HS2.out.on hdn)
              have HR4 := Lib.hid (HR2.out.on hdn)
              have HZ4 := Lib.hid (show w.heap.size + 3 ≤ (w2.drewN nq).heap.size from Nat.le_trans HZ2.out hdn.size)
              clear hdn x0 x1 xl s0 s1 s2 sl q0 q1 q2 ql
              generalize w2.drewN nq = w4 at *
              have x0 := HX4.out.cs 0 _ rfl
              have x1 := HX4.out.cs 1 _ rfl
              have xl := HX4.out.lt
              have s0 := HS4.out.cs 0 _ rfl
              have s1 := HS4.out.cs 1 _ rfl
              have s2 := HS4.out.cs 2 _ rfl
              have sl := HS4.out.lt
              have r0 := HR4.out.cs 0 _ rfl
              have r1 := HR4.out.cs 1 _ rfl
              have rl := HR4.out.lt
              have rf : ∀ j, w4.frozen? ⟨w.heap.size + 2, j, none⟩ = false := HR4.out.s
              go_wp2_with fail
              have hQ := HR4.out.fill [.slice (some ⟨bb, off, none⟩) shops.length c, .slice B binds.length d] rfl
              have hB := below_putAll (g := w.heap.size + 2) (by omega) [.slice (some ⟨bb, off, none⟩) shops.length c, .slice B binds.length d] 0 HB4.out
              simp only [putAll] at hQ hB
              have g0 := hQ.cs 0 _ rfl
              have g1 := hQ.cs 1 _ rfl
              exact bodyPost_ret (v := .tuple #[.agg #[.slice (some ⟨bb, off, none⟩) shops.length c, .slice B binds.length d], .int .i64 0]) (by simp [results, Tryz.results24, go_sem, g0, g1]) rfl ⟨some ⟨bb, off, none⟩, c, B, d, ps, rfl, HI0.out.on hB, (HU.out.mono (fun g h => .inl h)).on hB.size, hB⟩
            · rw [hmk, if_neg hyx]
              dsimp only
              have hq := HSE.out y
              rw [decide_eq_false hyx] at hq
              clear hmk hyx
              go_enter Tryz.func24, Tryz.ntmps24
              go_wp2_with fail
              generalize ((w.alloc (.cells #[.slice (some ⟨bb, off, none⟩) shops.length c, .slice B binds.length d] 32)).alloc (.cells #[.string (ofL x.name), .int .u8 (x.sort : Int), .string (ofL x.to)] 57)).alloc (.cells #[.slice none 0 0, .slice none 0 0] 32) = w1 at *
              have x0 := HX0.out.cs 0 _ rfl
              have x1 := HX0.out.cs 1 _ rfl
              have xl := HX0.out.lt
              have s0 := HS0.out.cs 0 _ rfl
              have s1 := HS0.out.cs 1 _ rfl
              have s2 := HS0.out.cs 2 _ rfl
              have sl := HS0.out.lt
              have r0 := HR0.out.cs 0 _ rfl
              have r1 := HR0.out.cs 1 _ rfl
              have rl := HR0.out.lt
              have rf : ∀ j, w1.frozen? ⟨w.heap.size + 2, j, none⟩ = false := HR0.out.s
              have HB1 := Lib.hid HB0.out
              have HR1 := Lib.hid HR0.out
              refine (HN.out _).mono ?_
              rintro e w1 ⟨rfl, rfl⟩
              go_wp2_with fail
              refine HF.out.mono ?_
              rintro e w2 ⟨rfl, b2⟩
              have HB2 := Lib.hid (bthen HB1.out b2 (Nat.le_refl _))
              have HX2 := Lib.hid (HX0.out.on b2)
              have HS2 := Lib.hid (HS0.out.on b2)
              have HR2 := Lib.hid (HR0.out.on b2)
              have HZ2 := Lib.hid (show w.heap.size + 3 ≤ w2.heap.size from by have := b2.size; have := HSZ.out; omega)
              clear b2 x0 x1 xl s0 s1 s2 sl r0 r1 rl rf
              have x0 := HX2.out.cs 0 _ rfl
              have x1 := HX2.out.cs 1 _ rfl
              have xl := HX2.out.lt
              have s0 := HS2.out.cs 0 _ rfl
              have s1 := HS2.out.cs 1 _ rfl
              have s2 := HS2.out.cs 2 _ rfl
              have sl := HS2.out.lt
              have hb2 := HB2.out
              have q0 := rtCell hb2 (HAT.out 0 _ rfl)
              have q1 := rtCell hb2 (HAT.out 1 _ rfl)
              have q2 := rtCell hb2 (HAT.out 2 _ rfl)
              rw [Nat.add_zero] at q0
              have ql := Nat.lt_of_lt_of_le hkb hb2.size
              clear hb2
              go_upto_region 11 with fail
              go_quiet (fail)
              have hdn : Below w2.heap.size w2 (w2.drewN nq) := ⟨rfl, rfl, rfl, Nat.le_refl _, fun _ _ => rfl⟩
              have HB4 := Lib.hid (bthen HB2.out hdn (Nat.le_refl _))
              have HX4 := Lib.hid (HX2.out.on hdn)
              have HS4 := Lib.hid (HS2.out.on hdn)
              have HR4 := Lib.hid (HR2.out.on hdn)
              have HZ4 := Lib.hid (show w.heap.size + 3 ≤ (w2.drewN nq).heap.size from Nat.le_trans HZ2.out hdn.size)
              clear hdn x0 x1 xl s0 s1 s2 sl q0 q1 q2 ql
              generalize w2.drewN nq = w4 at *
              have x0 := HX4.out.cs 0 _ rfl
              have x1 := HX4.out.cs 1 _ rfl
              have xl := HX4.out.lt
              have s0 := HS4.out.cs 0 _ rfl
              have s1 := HS4.out.cs 1 _ rfl
              have s2 := HS4.out.cs 2 _ rfl
              have sl := HS4.out.lt
              have r0 := HR4.out.cs 0 _ rfl
              have r1 := HR4.out.cs 1 _ rfl
              have rl := HR4.out.lt
              have rf : ∀ j, w4.frozen? ⟨w.heap.size + 2, j, none⟩ = false := HR4.out.s
              go_wp2_with fail
              have hQ := HR4.out.fill [.slice (some ⟨bb, off, none⟩) shops.length c, .slice B binds.length d] rfl
              have hB := below_putAll (g := w.heap.size + 2) (by omega) [.slice (some ⟨bb, off, none⟩) shops.length c, .slice B binds.length d] 0 HB4.out
              simp only [putAll] at hQ hB
              have g0 := hQ.cs 0 _ rfl
              have g1 := hQ.cs 1 _ rfl
              exact bodyPost_ret (v := .tuple #[.agg #[.slice (some ⟨bb, off, none⟩) shops.length c, .slice B binds.length d], .int .i64 9]) (by simp [results, Tryz.results24, go_sem, g0, g1]) rfl ⟨some ⟨bb, off, none⟩, c, B, d, ps, rfl, HI0.out.on hB, (HU.out.mono (fun g h => .inl h)).on hB.size, hB⟩
        · have he : (ofL x.to).toList.isEmpty = false := by
            cases hh : (ofL x.to).toList.isEmpty with
            | false => rfl
            | true => exact absurd (HEM.out.2 hh) h6
          rw [if_pos h6] at hsc
          rw [hmk, if_pos (by omega), hsc]
          dsimp only
          clear h4 h5 h6 hsc hmk hf HF HSE hk
          go_enter Tryz.func24, Tryz.ntmps24
          go_wp2_with fail
          generalize ((w.alloc (.cells #[.slice A shops.length c, .slice B binds.length d] 32)).alloc (.cells #[.string (ofL x.name), .int .u8 (x.sort : Int), .string (ofL x.to)] 57)).alloc (.cells #[.slice none 0 0, .slice none 0 0] 32) = w1 at *
          have x0 := HX0.out.cs 0 _ rfl
          have x1 := HX0.out.cs 1 _ rfl
          have xl := HX0.out.lt
          have s0 := HS0.out.cs 0 _ rfl
          have s1 := HS0.out.cs 1 _ rfl
          have s2 := HS0.out.cs 2 _ rfl
          have sl := HS0.out.lt
          have r0 := HR0.out.cs 0 _ rfl
          have r1 := HR0.out.cs 1 _ rfl
          have rl := HR0.out.lt
          have rf : ∀ j, w1.frozen? ⟨w.heap.size + 2, j, none⟩ = false := HR0.out.s
          have HB1 := Lib.hid HB0.out
          have HR1 := Lib.hid HR0.out
          refine (HN.out _).mono ?_
          rintro e w1 ⟨rfl, rfl⟩
          go_wp2_with fail
          have hQ := HR1.out.fill [.slice A shops.length c, .slice B binds.length d] rfl
          have hB := below_putAll (g := w.heap.size + 2) (by omega) [.slice A shops.length c, .slice B binds.length d] 0 HB1.out
          simp only [putAll] at hQ hB
          have g0 := hQ.cs 0 _ rfl
          have g1 := hQ.cs 1 _ rfl
          exact bodyPost_ret (v := .tuple #[.agg #[.slice A shops.length c, .slice B binds.length d], .int .i64 4]) (by simp [results, Tryz.results24, go_sem, g0, g1]) rfl ⟨A, c, B, d, ps, rfl, HI0.out.on hB, (HU.out.mono (fun g h => .inl h)).on hB.size, hB⟩
  · have dk1 : ((K : Int) == 0) = false := beq_eq_false_iff_ne.2 (by omega)
    have dk2 : ((K : Int) != 0) = true := by rw [bne_iff_ne]; omega
    rw [if_pos hk] at hsc
    rw [hmk, if_pos (by omega), hsc]
    dsimp only
    clear hsc hmk hf HF HSE hk
    go_enter Tryz.func24, Tryz.ntmps24
    go_wp2_with fail
    generalize ((w.alloc (.cells #[.slice A shops.length c, .slice B binds.length d] 32)).alloc (.cells #[.string (ofL x.name), .int .u8 (x.sort : Int), .string (ofL x.to)] 57)).alloc (.cells #[.slice none 0 0, .slice none 0 0] 32) = w1 at *
    have x0 := HX0.out.cs 0 _ rfl
    have x1 := HX0.out.cs 1 _ rfl
    have xl := HX0.out.lt
    have s0 := HS0.out.cs 0 _ rfl
    have s1 := HS0.out.cs 1 _ rfl
    have s2 := HS0.out.cs 2 _ rfl
    have sl := HS0.out.lt
    have r0 := HR0.out.cs 0 _ rfl
    have r1 := HR0.out.cs 1 _ rfl
    have rl := HR0.out.lt
    have rf : ∀ j, w1.frozen? ⟨w.heap.size + 2, j, none⟩ = false := HR0.out.s
    have HB1 := Lib.hid HB0.out
    have HR1 := Lib.hid HR0.out
    refine (HN.out _).mono ?_
    rintro e w1 ⟨rfl, rfl⟩
    go_wp2_with fail
    have hQ := HR1.out.fill [.slice A shops.length c, .slice B binds.length d] rfl
    have hB := below_putAll (g := w.heap.size + 2) (by omega) [.slice A shops.length c, .slice B binds.length d] 0 HB1.out
    simp only [putAll] at hQ hB
    have g0 := hQ.cs 0 _ rfl
    have g1 := hQ.cs 1 _ rfl
    exact bodyPost_ret (v := .tuple #[.agg #[.slice A shops.length c, .slice B binds.length d], .int .i64 (K : Int)]) (by simp [results, Tryz.results24, go_sem, g0, g1]) rfl ⟨A, c, B, d, ps, rfl, HI0.out.on hB, (HU.out.mono (fun g h => .inl h)).on hB.size, hB⟩
end Go.Proofs.YtopobliajgocaaaGreatDoor
end
