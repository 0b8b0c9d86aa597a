/-
  AN EXCHANGE DROPPED, the document's: walked.
-/
import Derived.Test.YtopobliajgocaaaGreatDoorZp22
import Derived.Test.YtopobliajgocaaaGreatDoorZp26

section
namespace Go.Proofs.YtopobliajgocaaaGreatDoor
open Go.ChangeShapes Go.WideShapes Go.ChangeAt Go.RowKit
theorem fs_yes {q : Sh → Bool} {l : List Sh} {k : Nat} (hk : k < l.length) (h : q (l.getD k Bk.Sh0) = true) : (l.take (k + 1)).filter q = (l.take k).filter q ++ [l.getD k Bk.Sh0] := by
  rw [← sh_get hk] at h ⊢
  rw [List.take_succ_eq_append_getElem hk, List.filter_append]
  simp [h]
theorem fs_no {q : Sh → Bool} {l : List Sh} {k : Nat} (hk : k < l.length) (h : q (l.getD k Bk.Sh0) = false) : (l.take (k + 1)).filter q = (l.take k).filter q := by
  rw [← sh_get hk] at h
  rw [List.take_succ_eq_append_getElem hk, List.filter_append]
  simp [h]
theorem fs_len {q : Sh → Bool} (l : List Sh) (k : Nat) : ((l.take k).filter q).length ≤ l.length := Nat.le_trans (List.length_filter_le _ _) (by rw [List.length_take]; omega)
def DrA (q : Sh → Bool) (l : List Sh) (w w2 : World) (n g : Nat) (i : Value) (wr : World) : Prop :=
  ∃ (k : Nat) (A : Option Addr) (c : Nat), k + g = n ∧ i = .int .i64 (k : Int) ∧ wr.ownsRow (w2.heap.size + 1) 57 3 (.slice A ((l.take k).filter q).length c) ((l.take k).filter q).length (shs ((l.take k).filter q)) ∧ BoxC w w2.heap.size [.slice A ((l.take k).filter q).length c, .slice none 0 0] wr ∧ Below w2.heap.size w2 wr
def DrB (q : Bd → Bool) (ps : List Bp) (ss : List Sh) (A : Option Addr) (c : Nat) (w w2 : World) (n g : Nat) (i : Value) (wr : World) : Prop :=
  ∃ (k : Nat) (B : Option Addr) (d : Nat), k + g = n ∧ i = .int .i64 (k : Int) ∧ wr.ownsRow (w2.heap.size + 1) 69 6 (.slice B ((ps.take k).filter fun p => q p.x).length d) ((ps.take k).filter fun p => q p.x).length (bps ((ps.take k).filter fun p => q p.x)) ∧ wr.ownsRow (w2.heap.size + 1) 57 3 (.slice A ss.length c) ss.length (shs ss) ∧ BoxC w w2.heap.size [.slice A ss.length c, .slice B ((ps.take k).filter fun p => q p.x).length d] wr ∧ Below w2.heap.size w2 wr
set_option maxRecDepth 100000 in
set_option maxHeartbeats 16000000 in
theorem r14Drop_any (b : Bk) (A : Option Addr) (c : Nat) (B : Option Addr) (d : Nat) (ps : List Bp) (n : List UInt8) (w : World) (U : Nat → Prop) (hl : b.shops.length ≤ 1000) (hlb : b.binds.length ≤ 1000) (hI : BkAt w A c B d b ps) (hU : BkU U w A B ps) :
    Calls Tryz.prog 26 #[bkV A c B d b, .string (ofL n)] w (BkPost U (b.drop n).1 (b.drop n).2 w) := by
  obtain ⟨shops, binds⟩ := b
  dsimp only at hl hlb
  obtain ⟨iS, hiS, hzS0, hzS1, hzS2⟩ := info_parts infoRSh
  obtain ⟨iN, hiN, hzN0, hzN1, hzN2⟩ := info_parts infoRBd
  have hf := find_idx (fun y : Sh => y.name == n) shops Bk.Sh0
  have hb0 := rtTwo w (.cells #[.slice A shops.length c, .slice B binds.length d] 32) (.cells #[.slice none 0 0, .slice none 0 0] 32)
  have HX0 := Lib.hid (rtNext (rtAt0 w #[.slice A shops.length c, .slice B binds.length d] 32) (.cells #[.slice none 0 0, .slice none 0 0] 32))
  have HR0 := Lib.hid (rtAt1 w (.cells #[.slice A shops.length c, .slice B binds.length d] 32) #[.slice none 0 0, .slice none 0 0] 32)
  have HSZ := Lib.hid (show ((w.alloc (.cells #[.slice A shops.length c, .slice B binds.length d] 32)).alloc (.cells #[.slice none 0 0, .slice none 0 0] 32)).heap.size = w.heap.size + 2 by simp)
  have hF := r14Find_any ⟨shops, binds⟩ A c B d n _ (by show shops.length ≤ 100000; omega) (hI.shs.on hb0)
  have HB0 := Lib.hid hb0
  have HI0 := Lib.hid hI
  have HU := Lib.hid hU
  have hml := hI.len
  dsimp only at hml hF
  have HML := Lib.hid hml
  clear hI hU hb0 hml
  simp only [bkV] at hF ⊢
  obtain ⟨e1, e2⟩ | ⟨k0, e1, hk0, e2⟩ := hf
  · have e2' : Bk.shop ⟨shops, binds⟩ n = none := e2
    have e3 : Bk.drop ⟨shops, binds⟩ n = (⟨shops, binds⟩, 10) := by unfold Bk.drop; rw [e2']
    rw [e1] at hF
    rw [e3]
    dsimp only
    have HF := Lib.hid hF
    clear e1 e2 e2' e3 hF
    go_enter Tryz.func26, Tryz.ntmps26
    go_wp2_with fail
    generalize (w.alloc (.cells #[.slice A shops.length c, .slice B binds.length d] 32)).alloc (.cells #[.slice none 0 0, .slice none 0 0] 32) = w1 at *
    refine HF.out.mono ?_
    rintro e w2 ⟨rfl, b2⟩
    have HB2 := Lib.hid (bthen HB0.out b2 (Nat.le_refl _))
    have HBF := Lib.hid b2
    have HX2 := Lib.hid (HX0.out.on b2)
    have HR2 := Lib.hid (HR0.out.on b2)
    clear b2
    have x0 := HX2.out.cs 0 _ rfl
    have x1 := HX2.out.cs 1 _ rfl
    have xl := HX2.out.lt
    have r0 := HR2.out.cs 0 _ rfl
    have r1 := HR2.out.cs 1 _ rfl
    have rl := HR2.out.lt
    have rf : ∀ j, w2.frozen? ⟨w.heap.size + 1, j, none⟩ = false := HR2.out.s
    go_wp2_with fail
    have hQ := HR2.out.fill [.slice A shops.length c, .slice B binds.length d] rfl
    have hB := below_putAll (g := w.heap.size + 1) (by omega) [.slice A shops.length c, .slice B binds.length d] 0 HB2.out
    simp only [putAll] at hQ hB
    have g0 := hQ.cs 0 _ rfl
    have g1 := hQ.cs 1 _ rfl
    exact bodyPost_ret (v := .tuple #[.agg #[.slice A shops.length c, .slice B binds.length d], .int .i64 10]) (by simp [results, Tryz.results26, go_sem, g0, g1]) rfl ⟨A, c, B, d, ps, rfl, HI0.out.on hB, (HU.out.mono (fun g h => .inl h)).on hB.size, hB⟩
  · have e2' : Bk.shop ⟨shops, binds⟩ n = some (shops.getD k0 Bk.Sh0) := e2
    obtain ⟨qs, hqs⟩ : ∃ q : Sh → Bool, q = fun x => !(x.name == n) := ⟨_, rfl⟩
    obtain ⟨q, hq⟩ : ∃ q : Bd → Bool, q = fun x => !(x.shop == n) := ⟨_, rfl⟩
    have e3 : Bk.drop ⟨shops, binds⟩ n = (⟨shops.filter qs, binds.filter q⟩, 0) := by unfold Bk.drop; rw [e2', hqs, hq]
    have HQS : Hid (∀ x, qs x = !(x.name == n)) := fun x => by rw [hqs]
    have HQ : Hid (∀ x, q x = !(x.shop == n)) := fun x => by rw [hq]
    rw [e1] at hF
    rw [e3]
    dsimp only
    have HF := Lib.hid hF
    have hk1 : ¬ ((k0 : Int) < 0) := by omega
    have hk2 : decide ((k0 : Int) < 0) = false := decide_eq_false (by omega)
    clear e1 e2 e2' e3 hF hk0 hq hqs
    go_enter Tryz.func26, Tryz.ntmps26
    go_wp2_with fail
    generalize (w.alloc (.cells #[.slice A shops.length c, .slice B binds.length d] 32)).alloc (.cells #[.slice none 0 0, .slice none 0 0] 32) = w1 at *
    refine HF.out.mono ?_
    rintro e w2 ⟨rfl, b2⟩
    have HB2 := Lib.hid (bthen HB0.out b2 (Nat.le_refl _))
    have HBF := Lib.hid b2
    have HX2 := Lib.hid (HX0.out.on b2)
    have HR2 := Lib.hid (HR0.out.on b2)
    clear b2
    have x0 := HX2.out.cs 0 _ rfl
    have x1 := HX2.out.cs 1 _ rfl
    have xl := HX2.out.lt
    go_wp2_with fail
    have HB6 := Lib.hid (rtOne w2 (.cells #[.slice none 0 0, .slice none 0 0] 32))
    have HN6 := Lib.hid (BoxC.new (w := w) (W := w2) (by have := HB2.out.size; omega) #[.slice none 0 0, .slice none 0 0] 32)
    have HZ2 := Lib.hid (show w.heap.size + 2 ≤ w2.heap.size from by have := HBF.out.size; have := HSZ.out; omega)
    clear x0 x1 xl
    go_loopg [19] shops.length (fun g i wr => DrA qs shops w w2 shops.length g i wr)
    case atStart => exact ⟨0, none, 0, by omega, rfl, World.ownsRow_nil _ _ _ _, HN6.out, HB6.out⟩
    case round =>
      obtain ⟨k, Av, cv, hk, rfl, hown, hbx, hB⟩ := hrel
      have HK := Lib.hid hk
      have HB := Lib.hid hB
      have HOWN := Lib.hid hown
      have HBX := Lib.hid hbx
      clear hk hB hown hbx
      have HBW := Lib.hid (bthen HB2.out HB.out (Nat.le_refl _))
      have b0 := HBX.out.cs 0 _ rfl
      have b1 := HBX.out.cs 1 _ rfl
      have bl := HBX.out.lt
      have bf : ∀ j, wr.frozen? ⟨w2.heap.size, j, none⟩ = false := HBX.out.s
      by_cases hlt : k < shops.length
      · obtain ⟨bb, off, rfl, hbl, hat⟩ := shs_get (HI0.out.shs.on HBW.out).row hlt
        rw [sh_get hlt] at hat
        have HLEN := Lib.hid (fs_len (q := qs) shops k)
        have HY := Lib.hid (fun h => fs_yes (q := qs) hlt h)
        have HNO := Lib.hid (fun h => fs_no (q := qs) hlt h)
        generalize hys : (shops.take k).filter qs = ys at *
        have hyl : ys.length ≤ 1000 := by have := HLEN.out; omega
        have hqx := HQS.out (shops.getD k Bk.Sh0)
        generalize shops.getD k Bk.Sh0 = x at *
        have c0 := hat 0 _ rfl
        have c1 := hat 1 _ rfl
        have c2 := hat 2 _ rfl
        rw [Nat.add_zero] at c0
        have HA := Lib.hid (rtOne wr (.cells #[.string (ofL x.name), .int .u8 (x.sort : Int), .string (ofL x.to)] 57))
        have HW1 := Lib.hid HB.out.size
        have e5 := str_same x.name n
        have e6 : ((ofL x.name).toList != (ofL n).toList) = !(x.name == n) := by rw [bne, e5]
        clear hat
        cases he : x.name == n with
        | false =>
          rw [he] at hqx e5 e6
          rw [Bool.not_false] at hqx e6
          have HNX := Lib.hid (HY.out hqx)
          clear hqx he
          have HA4 := Lib.hid (rtOne (wr.alloc (.cells #[.string (ofL x.name), .int .u8 (x.sort : Int), .string (ofL x.to)] 57)) (.cells #[.string (ofL x.name), .int .u8 (x.sort : Int), .string (ofL x.to)] 57))
          have HAA := Lib.hid (bthen HA.out HA4.out (Nat.le_refl _))
          have HOW := Lib.hid (Rw.own_on HOWN.out HAA.out)
          have HBX4 := Lib.hid (HBX.out.on HAA.out)
          have HNW := Lib.hid (Rws.of_news (w := (wr.alloc (.cells #[.string (ofL x.name), .int .u8 (x.sort : Int), .string (ofL x.to)] 57)).alloc (.cells #[.string (ofL x.name), .int .u8 (x.sort : Int), .string (ofL x.to)] 57)) (b := wr.heap.size + 1) (off := 0) (cs := shs [x]) (fun j u hu => by
            rw [shs_one1] at hu
            rw [Nat.zero_add]
            exact (rtAt1 wr (.cells #[.string (ofL x.name), .int .u8 (x.sort : Int), .string (ofL x.to)] 57) #[.string (ofL x.name), .int .u8 (x.sort : Int), .string (ofL x.to)] 57).cs j u hu))
          have hsz : w2.heap.size + 1 ≤ ((wr.alloc (.cells #[.string (ofL x.name), .int .u8 (x.sort : Int), .string (ofL x.to)] 57)).alloc (.cells #[.string (ofL x.name), .int .u8 (x.sort : Int), .string (ofL x.to)] 57)).heap.size := by have := HBX4.out.lt; omega
          go_wp2_with (at_builtin; refine wpList_append_rws _ rfl _ _ 29 rfl (w2.heap.size + 1) 57 iS _ 3 40 Tryz.underlying29 hiS hzS0 hzS1 hzS2 rfl (by decide) (by decide) (by rfl) HOW.out (by rfl) HNW.out (by rfl) (shs_one _) (by omega) (fun e => by cases e) hsz ?_; intro v' w4 hown hgrow; have HO4 := Lib.hid hown; have HG4 := Lib.hid hgrow; obtain ⟨A5, c5', rfl, -, -⟩ := Rw.own_cells hown; have HBX5 := Lib.hid (rtKept HBX4.out hgrow (fun e => by have := (HOW.out.lt _ e.symm).1; omega)); clear hown hgrow b0 b1 bl bf; have b0 := HBX5.out.cs 0 _ rfl; have b1 := HBX5.out.cs 1 _ rfl; have bl := HBX5.out.lt; have bf : ∀ j, w4.frozen? ⟨w2.heap.size, j, none⟩ = false := HBX5.out.s)
          have hbx := HBX5.out.put 0 (.slice A5 (ys.length + 1) c5') (by simp)
          have hown := rtOwnPut HO4.out (g := w2.heap.size) (by omega) 0 (.slice A5 (ys.length + 1) c5')
          have hbl := (((bthen HB.out HAA.out (Nat.le_refl _)).grown HG4.out (by have := hsz; omega) (fun k hk => by have := (HOW.out.lt k hk).1; omega)).setCell (p := ⟨w2.heap.size, 0, none⟩) (Nat.le_refl _) (.slice A5 (ys.length + 1) c5'))
          have HBX6 := Lib.hid hbx
          have HOW6 := Lib.hid hown
          have HBL6 := Lib.hid hbl
          clear hbx hown hbl
          go_roundg (gk - 1)
          case rel => exact ⟨k + 1, A5, c5', by have := HK.out; omega, by go_num, by rw [HNX.out, List.length_append, shs_app]; exact HOW6.out, by rw [HNX.out, List.length_append]; exact HBX6.out, HBL6.out⟩
          case measure => have := HK.out; omega
        | true =>
          rw [he] at hqx e5 e6
          rw [Bool.not_true] at hqx e6
          have HNX := Lib.hid (HNO.out hqx)
          clear hqx he
          go_wp2_with fail
          go_roundg (gk - 1)
          case rel => exact ⟨k + 1, Av, cv, by have := HK.out; omega, by go_num, by rw [HNX.out]; exact Rw.own_on HOWN.out HA.out, by rw [HNX.out]; exact HBX.out.on HA.out, bthen HB.out HA.out (Nat.le_refl _)⟩
          case measure => have := HK.out; omega
      · have hkn : k = shops.length := by have := HK.out; omega
        have hke : (shops.take k).filter qs = shops.filter qs := by rw [hkn, List.take_length]
        rw [hke] at HOWN HBX b0
        clear hke hkn
        have HX2b := Lib.hid ((HX0.out.on HBF.out).on HB.out)
        have x0 := HX2b.out.cs 0 _ rfl
        have x1 := HX2b.out.cs 1 _ rfl
        have xl := HX2b.out.lt
        have HLNB := Lib.hid HML.out
        generalize shops.filter qs = ss at *
        rw [← HML.out] at x1
        go_wp2_with fail
        obtain ⟨gkO, hgkO⟩ : ∃ g, g = gk := ⟨_, rfl⟩
        go_loopg [37] ps.length (fun g i wr => DrB q ps ss Av cv w w2 ps.length g i wr)
        case atStart => exact ⟨0, none, 0, by omega, rfl, World.ownsRow_nil _ _ _ _, HOWN.out, HBX.out, HB.out⟩
        clear hgkO HBW x0 x1 xl b0 b1 bl bf
        case round =>
          obtain ⟨kb, Bv, dv, hk, rfl, hown, hownA, hbx, hB⟩ := hrel
          have HKB := Lib.hid hk
          have HB7 := Lib.hid hB
          have HOB := Lib.hid hown
          have HOA := Lib.hid hownA
          have HBX7 := Lib.hid hbx
          clear hk hB hown hownA hbx
          have hpl : ps.length ≤ 1000 := by have := HML.out; omega
          have HBW := Lib.hid (bthen HB2.out HB7.out (Nat.le_refl _))
          have b0 := HBX7.out.cs 0 _ rfl
          have b1 := HBX7.out.cs 1 _ rfl
          have bl := HBX7.out.lt
          have bf : ∀ j, wr.frozen? ⟨w2.heap.size, j, none⟩ = false := HBX7.out.s
          by_cases hlt : kb < ps.length
          · have hbd := HI0.out.bds.on HBW.out
            obtain ⟨bb, off, rfl, hbl, hat⟩ := bps_get hbd.row hlt
            have HLEN := Lib.hid (kp_len (q := q) ps kb)
            have HY := Lib.hid (fun h => kp_yes (q := q) hlt h)
            have HNO := Lib.hid (fun h => kp_no (q := q) hlt h)
            generalize hys : (ps.take kb).filter (fun p => q p.x) = ys at *
            have hyl : ys.length ≤ 1000 := by have := HLEN.out; have := HML.out; omega
            generalize ps[kb] = p at *
            obtain ⟨x, Ax, cx⟩ := p
            unfold bpL bdL at hat
            dsimp only at hat HY HNO
            have c0 := hat 0 _ rfl
            have c1 := hat 1 _ rfl
            have c2 := hat 2 _ rfl
            have c3 := hat 3 _ rfl
            have c4 := hat 4 _ rfl
            have c5 := hat 5 _ rfl
            rw [Nat.add_zero] at c0
            have HA := Lib.hid (rtOne wr (.cells #[.string (ofL x.shop), .string (ofL x.to), .bool x.up, .string (ofL x.key), .slice Ax x.want.length cx, .bool x.all] 69))
            have hqx := HQ.out x
            have e5 := str_same x.shop n
            have e6 : ((ofL x.shop).toList != (ofL n).toList) = !(x.shop == n) := by rw [bne, e5]
            clear hat hbd
            cases he : x.shop == n with
            | false =>
              rw [he] at hqx e5 e6
              rw [Bool.not_false] at hqx e6
              have HNX := Lib.hid (HY.out hqx)
              clear hqx he
              have HA4 := Lib.hid (rtOne (wr.alloc (.cells #[.string (ofL x.shop), .string (ofL x.to), .bool x.up, .string (ofL x.key), .slice Ax x.want.length cx, .bool x.all] 69)) (.cells #[.string (ofL x.shop), .string (ofL x.to), .bool x.up, .string (ofL x.key), .slice Ax x.want.length cx, .bool x.all] 69))
              have HAA := Lib.hid (bthen HA.out HA4.out (Nat.le_refl _))
              have HOW := Lib.hid (Rw.own_on HOB.out HAA.out)
              have HOA4 := Lib.hid (Rw.own_on HOA.out HAA.out)
              have HBX4 := Lib.hid (HBX7.out.on HAA.out)
              have HNW := Lib.hid (Rws.of_news (w := (wr.alloc (.cells #[.string (ofL x.shop), .string (ofL x.to), .bool x.up, .string (ofL x.key), .slice Ax x.want.length cx, .bool x.all] 69)).alloc (.cells #[.string (ofL x.shop), .string (ofL x.to), .bool x.up, .string (ofL x.key), .slice Ax x.want.length cx, .bool x.all] 69)) (b := wr.heap.size + 1) (off := 0) (cs := bps [⟨x, Ax, cx⟩]) (fun j u hu => by
                rw [bps_one1] at hu
                rw [Nat.zero_add]
                exact (rtAt1 wr (.cells #[.string (ofL x.shop), .string (ofL x.to), .bool x.up, .string (ofL x.key), .slice Ax x.want.length cx, .bool x.all] 69) #[.string (ofL x.shop), .string (ofL x.to), .bool x.up, .string (ofL x.key), .slice Ax x.want.length cx, .bool x.all] 69).cs j u hu))
              have hsz : w2.heap.size + 1 ≤ ((wr.alloc (.cells #[.string (ofL x.shop), .string (ofL x.to), .bool x.up, .string (ofL x.key), .slice Ax x.want.length cx, .bool x.all] 69)).alloc (.cells #[.string (ofL x.shop), .string (ofL x.to), .bool x.up, .string (ofL x.key), .slice Ax x.want.length cx, .bool x.all] 69)).heap.size := by have := HBX4.out.lt; omega
              go_wp2_with (at_builtin; refine wpList_append_rws _ rfl _ _ 30 rfl (w2.heap.size + 1) 69 iN _ 6 88 Tryz.underlying30 hiN hzN0 hzN1 hzN2 rfl (by decide) (by decide) (by rfl) HOW.out (by rfl) HNW.out (by rfl) (bps_one _) (by omega) (fun e => by cases e) hsz ?_; intro v' w4 hown hgrow; have HO4 := Lib.hid hown; have HG4 := Lib.hid hgrow; have HOA5 := Lib.hid (HOA4.out.kept hgrow (Rw.own_types HOA4.out HOW.out (by decide))); obtain ⟨A5, c5', rfl, -, -⟩ := Rw.own_cells hown; have HBX5 := Lib.hid (rtKept HBX4.out hgrow (fun e => by have := (HOW.out.lt _ e.symm).1; omega)); clear hown hgrow b0 b1 bl bf; have b0 := HBX5.out.cs 0 _ rfl; have b1 := HBX5.out.cs 1 _ rfl; have bl := HBX5.out.lt; have bf : ∀ j, w4.frozen? ⟨w2.heap.size, j, none⟩ = false := HBX5.out.s)
              have hbx := HBX5.out.put 1 (.slice A5 (ys.length + 1) c5') (by simp)
              have hown := rtOwnPut HO4.out (g := w2.heap.size) (by omega) 1 (.slice A5 (ys.length + 1) c5')
              have hownA := rtOwnPut HOA5.out (g := w2.heap.size) (by omega) 1 (.slice A5 (ys.length + 1) c5')
              have hbl := (((bthen HB7.out HAA.out (Nat.le_refl _)).grown HG4.out (by have := hsz; omega) (fun k hk => by have := (HOW.out.lt k hk).1; omega)).setCell (p := ⟨w2.heap.size, 1, none⟩) (Nat.le_refl _) (.slice A5 (ys.length + 1) c5'))
              have HBX6 := Lib.hid hbx
              have HOW6 := Lib.hid hown
              have HOA6 := Lib.hid hownA
              have HBL6 := Lib.hid hbl
              clear hbx hown hbl hownA
              go_roundg (gk - 1)
              case rel => exact ⟨kb + 1, A5, c5', by have := HKB.out; omega, by go_num, by rw [HNX.out, List.length_append, bps_app]; exact HOW6.out, HOA6.out, by rw [HNX.out, List.length_append]; exact HBX6.out, HBL6.out⟩
              case measure => have := HKB.out; omega
            | true =>
              rw [he] at hqx e5 e6
              rw [Bool.not_true] at hqx e6
              have HNX := Lib.hid (HNO.out hqx)
              clear hqx he
              go_wp2_with fail
              go_roundg (gk - 1)
              case rel => exact ⟨kb + 1, Bv, dv, by have := HKB.out; omega, by go_num, by rw [HNX.out]; exact Rw.own_on HOB.out HA.out, Rw.own_on HOA.out HA.out, by rw [HNX.out]; exact HBX7.out.on HA.out, bthen HB7.out HA.out (Nat.le_refl _)⟩
              case measure => have := HKB.out; omega
          · have hkn : kb = ps.length := by have := HKB.out; omega
            have hke : (ps.take kb).filter (fun p => q p.x) = ps.filter (fun p => q p.x) := by rw [hkn, List.take_length]
            rw [hke] at HOB HBX7 b1
            clear hke hkn
            have HR7 := Lib.hid ((HR0.out.on HBF.out).on HB7.out)
            have r0 := HR7.out.cs 0 _ rfl
            have r1 := HR7.out.cs 1 _ rfl
            have rl := HR7.out.lt
            have rf : ∀ j, wr.frozen? ⟨w.heap.size + 1, j, none⟩ = false := HR7.out.s
            have hmp := kp_map (q := q) ps
            rw [HI0.out.xs] at hmp
            have HMP := Lib.hid hmp
            clear hmp
            have HMM := Lib.hid (fun p (hp : p ∈ ps.filter (fun p => q p.x)) => And.intro (HI0.out.bds.ok p (List.mem_filter.1 hp).1) (HU.out.p p (List.mem_filter.1 hp).1))
            generalize ps.filter (fun p => q p.x) = ys at *
            have HYL := Lib.hid (show (binds.filter q).length = ys.length by rw [← HMP.out, List.length_map])
            go_wp2_with fail
            have hQ := HR7.out.fill [.slice Av ss.length cv, .slice Bv ys.length dv] rfl
            have hB := below_putAll (g := w.heap.size + 1) (by omega) [.slice Av ss.length cv, .slice Bv ys.length dv] 0 HBW.out
            simp only [putAll] at hQ hB
            have g0 := hQ.cs 0 _ rfl
            have g1 := hQ.cs 1 _ rfl
            have hO := rtOwnPut (rtOwnPut HOA.out (g := w.heap.size + 1) (by have := HZ2.out; omega) 0 (.slice Av ss.length cv)) (g := w.heap.size + 1) (by have := HZ2.out; omega) 1 (.slice Bv ys.length dv)
            have hP := rtOwnPut (rtOwnPut HOB.out (g := w.heap.size + 1) (by have := HZ2.out; omega) 0 (.slice Av ss.length cv)) (g := w.heap.size + 1) (by have := HZ2.out; omega) 1 (.slice Bv ys.length dv)
            refine bodyPost_ret (v := .tuple #[.agg #[.slice Av ss.length cv, .slice Bv ys.length dv], .int .i64 0]) (by simp [results, Tryz.results26, go_sem, g0, g1]) rfl ?_
            obtain ⟨A9, c9, e9, hc9, hn9, hr9, hb9⟩ := Rws.of_own hO
            obtain ⟨rfl, -, rfl⟩ := Value.slice.inj e9
            obtain ⟨B9, d9, e9, hd9, hm9, hs9, hg9⟩ := Rws.of_own hP
            obtain ⟨rfl, -, rfl⟩ := Value.slice.inj e9
            exact ⟨Av, cv, Bv, dv, ys, by unfold bkV; rw [HYL.out]; rfl, ⟨HMP.out, hc9, hn9, hd9, hm9, ⟨hr9⟩, ⟨hs9, fun p hp => (HMM.out p hp).1.on hB⟩⟩, ⟨fun x hx => ⟨.inr (by have := (hb9 x hx).1; have := HZ2.out; omega), (hb9 x hx).2⟩, fun x hx => ⟨.inr (by have := (hg9 x hx).1; have := HZ2.out; omega), (hg9 x hx).2⟩, fun p hp hw x hx => ⟨.inl ((HMM.out p hp).2 hw x hx).1, Nat.lt_of_lt_of_le ((HMM.out p hp).2 hw x hx).2 hB.size⟩⟩, hB⟩
end Go.Proofs.YtopobliajgocaaaGreatDoor
end
