/-
 A part of the proof.
-/
import Derived.Test.YtaikigponkjkgaaGreatDoorXq26
import Derived.Laws.StructEq
import Derived.Deep.QuietTactic
section
namespace Go.Proofs.YtaikigponkjkgaaGreatDoor
open Go.ChangeShapes Go.WideShapes Go.ChangeAt Go.RowKit
open Go.Lib (hid)
theorem guardSh : Tryz.prog.eqGuardType Tryz.prog.depth 43 = false := by kernel_rfl
theorem stoodSh : Tryz.prog.stoodInHeld 43 = false := by kernel_rfl
theorem fieldsSh : Tryz.prog.fieldsOf 43 = #[⟨"Name", 9, 0, false, "", "", 0⟩, ⟨"Sort", 5, 1, false, "", "", 16⟩, ⟨"To", 9, 2, false, "", "", 24⟩] := by kernel_rfl
def shEq (x y : Sh) : Bool := (x.name == y.name) && (x.sort == y.sort) && (x.to == y.to)
theorem shEq_dec (x y : Sh) : shEq x y = decide (x = y) := by
 obtain ⟨a, b, c⟩ := x
 obtain ⟨a', b', c'⟩ := y
 rw [Bool.eq_iff_iff]
 simp [shEq, and_assoc]
theorem sh_eql (a : ByteArray) (b : Int) (d : ByteArray) (a' : ByteArray) (b' : Int) (d' : ByteArray) (W : World) : (Op.equalIn 10000 43 (.agg #[.string a, .int .u8 b, .string d]) (.agg #[.string a', .int .u8 b', .string d'])).run Tryz.prog W = .ok ((a.toList == a'.toList) && (b == b') && (d.toList == d'.toList)) W := by
 rw [run_equalIn_agg (ht := by kernel_rfl) (hp := stoodSh), fieldsSh]
 simp [Op.eqFields, go_sem, Tryz.underlying5, Tryz.underlying9]
 by_cases h1 : a.toList = a'.toList <;> by_cases h2 : b = b' <;> by_cases h4 : d.toList = d'.toList <;> simp [h1, h2, h4]
theorem sh_bool (x y : Sh) : (((ofL x.name).toList == (ofL y.name).toList) && ((x.sort : Int) == (y.sort : Int)) && ((ofL x.to).toList == (ofL y.to).toList)) = shEq x y := by
 rw [str_same, str_same, cast_beq]; rfl
theorem sh_eq (x y : Sh) (W : World) : (Op.equalIn 10000 43 (.agg #[.string (ofL x.name), .int .u8 (x.sort : Int), .string (ofL x.to)]) (.agg #[.string (ofL y.name), .int .u8 (y.sort : Int), .string (ofL y.to)])).run Tryz.prog W = .ok (decide (x = y)) W := by
 rw [← shEq_dec, ← sh_bool]
 exact sh_eql _ _ _ _ _ _ W
attribute [local go_sem] guardSh
set_option maxRecDepth 100000 in
set_option maxHeartbeats 8000000 in
theorem rtMake_any (b : Bk) (A : Option Addr) (c : Nat) (B : Option Addr) (d : Nat) (ps : List Bp) (x : Sh) (w : World) (U : Nat → Prop) (hb : Bk.Ok b) (h1 : x.name.length ≤ 90000) (h2 : x.to.length ≤ 90000) (hI : BkAt w A c B d b ps) (hU : BkU U w A B ps) :
  Calls Tryz.prog 84 #[bkV A c B d b, shV x] w (BkPost U (b.make x).1 (b.make x).2 w) := by
 have hmk := Bk.make_first hb x
 have hlen := hb.len
 obtain ⟨shops, binds⟩ := b
 dsimp only at hlen
 have hf := find_idx (fun y : Sh => y.name == x.name) shops Bk.Sh0
 have hb0 := rtThree w (.cells #[.slice A shops.length c, .slice B binds.length d] 133) (.cells #[.string (ofL x.name), .int .u8 (x.sort : Int), .string (ofL x.to)] 43) (.cells #[.slice none 0 0, .slice none 0 0] 133)
 have HX0 := hid (rtNext (rtNext (rtAt0 w #[.slice A shops.length c, .slice B binds.length d] 133) (.cells #[.string (ofL x.name), .int .u8 (x.sort : Int), .string (ofL x.to)] 43)) (.cells #[.slice none 0 0, .slice none 0 0] 133))
 have HS0 := hid (rtNext (rtAt1 w (.cells #[.slice A shops.length c, .slice B binds.length d] 133) #[.string (ofL x.name), .int .u8 (x.sort : Int), .string (ofL x.to)] 43) (.cells #[.slice none 0 0, .slice none 0 0] 133))
 have HR0 := hid (rtAt2 w (.cells #[.slice A shops.length c, .slice B binds.length d] 133) (.cells #[.string (ofL x.name), .int .u8 (x.sort : Int), .string (ofL x.to)] 43) #[.slice none 0 0, .slice none 0 0] 133)
 have HSZ := hid (show (((w.alloc (.cells #[.slice A shops.length c, .slice B binds.length d] 133)).alloc (.cells #[.string (ofL x.name), .int .u8 (x.sort : Int), .string (ofL x.to)] 43)).alloc (.cells #[.slice none 0 0, .slice none 0 0] 133)).heap.size = w.heap.size + 3 by simp)
 have hC := rtShop_any ⟨shops, binds⟩ A c B d x.name _ (by show shops.length ≤ 100000; omega) (hI.shs.on hb0)
 have HCK := hid (fun W => shCheck_any x W h1 h2)
 have HB0 := hid hb0
 have HI0 := hid hI
 have HU := hid hU
 have HSE := hid (fun y W => sh_eq y x W)
 clear h1 h2 hb hI hU hb0
 obtain ⟨e1, e2⟩ | ⟨k, e1, hk, e2⟩ := hf
 ·have e2' : Bk.shop ⟨shops, binds⟩ x.name = none := e2
  rw [e2', if_neg (by simp), Option.isSome_none] at hmk
  rw [e2', Option.getD_none, Option.isSome_none] at hC
  have HMK := hid (show Bk.make ⟨shops, binds⟩ x = if Bk.scode x ≠ 0 then (⟨shops, binds⟩, Bk.scode x) else if 8 ≤ shops.length then (⟨shops, binds⟩, 12) else (⟨shops ++ [x], binds⟩, 0) by rw [hmk]; simp)
  generalize Bk.Sh0 = y at *
  clear e1 e2 e2' hmk
  by_cases hs0 : Bk.scode x = 0
  ·have hd : ((Bk.scode x : Int) != 0) = false := by rw [hs0]; rfl
   have HE := hid (show Bk.make ⟨shops, binds⟩ x = if 8 ≤ shops.length then (⟨shops, binds⟩, 12) else (⟨shops ++ [x], binds⟩, 0) by rw [HMK.out, if_neg (by omega)])
   by_cases h8 : 8 ≤ shops.length
   ·rw [HE.out, if_pos h8]
    dsimp only
    have hd8 : decide ((shops.length : Int) ≥ 8) = true := decide_eq_true (by omega)
    generalize Bk.scode x = K at *
    clear hs0
    have HC := hid hC
    clear hC
    simp only [bkV, shV] at HC ⊢
    go_enter Tryz.func84, Tryz.ntmps84
    go_wp2_with fail
    generalize ((w.alloc (.cells #[.slice A shops.length c, .slice B binds.length d] 133)).alloc (.cells #[.string (ofL x.name), .int .u8 (x.sort : Int), .string (ofL x.to)] 43)).alloc (.cells #[.slice none 0 0, .slice none 0 0] 133) = w1 at *
    refine HC.out.mono ?_
    rintro e w2 ⟨rfl, b2⟩
    have HB2 := hid (bthen HB0.out b2 (Nat.le_refl _))
    have HX2 := hid (HX0.out.on b2)
    have HS2 := hid (HS0.out.on b2)
    have HR2 := hid (HR0.out.on b2)
    have HZ2 := hid (show w.heap.size + 3 ≤ w2.heap.size from by have := b2.size; have := HSZ.out; omega)
    clear b2
    have x0 := HX2.out.cs 0 _ rfl
    have x1 := HX2.out.cs 1 _ rfl
    have xl := HX2.out.lt
    have s0 := HS2.out.cs 0 _ rfl
    have s1 := HS2.out.cs 1 _ rfl
    have s2 := HS2.out.cs 2 _ rfl
    have sl := HS2.out.lt
    have HA3 := hid (rtOne w2 (.cells #[.string (ofL y.name), .int .u8 (y.sort : Int), .string (ofL y.to)] 43))
    have HCK3 := hid (HCK.out (w2.alloc (.cells #[.string (ofL y.name), .int .u8 (y.sort : Int), .string (ofL y.to)] 43)))
    simp only [shV] at HCK3
    go_wp2_with fail
    refine HCK3.out.mono ?_
    rintro e w4 ⟨rfl, b4⟩
    have hb4 := bthen HA3.out b4 (Nat.le_refl _)
    have HB4 := hid (bthen HB2.out hb4 (Nat.le_refl _))
    have HX4 := hid (HX2.out.on hb4)
    have HS4 := hid (HS2.out.on hb4)
    have HR4 := hid (HR2.out.on hb4)
    have HZ4 := hid (show w.heap.size + 3 ≤ w4.heap.size from Nat.le_trans HZ2.out hb4.size)
    clear b4 hb4 x0 x1 xl s0 s1 s2 sl
    have x0 := HX4.out.cs 0 _ rfl
    have x1 := HX4.out.cs 1 _ rfl
    have xl := HX4.out.lt
    have s0 := HS4.out.cs 0 _ rfl
    have s1 := HS4.out.cs 1 _ rfl
    have s2 := HS4.out.cs 2 _ rfl
    have sl := HS4.out.lt
    have r0 := HR4.out.cs 0 _ rfl
    have r1 := HR4.out.cs 1 _ rfl
    have rl := HR4.out.lt
    have rf : ∀ j, w4.frozen? ⟨w.heap.size + 2, j, none⟩ = false := HR4.out.s
    go_wp2_with fail
    have hQ := HR4.out.fill [.slice A shops.length c, .slice B binds.length d] rfl
    have hB := below_putAll (g := w.heap.size + 2) (by omega) [.slice A shops.length c, .slice B binds.length d] 0 HB4.out
    simp only [putAll] at hQ hB
    have g0 := hQ.cs 0 _ rfl
    have g1 := hQ.cs 1 _ rfl
    exact bodyPost_ret (v := .tuple #[.agg #[.slice A shops.length c, .slice B binds.length d], .int .i64 12]) (by simp [results, Tryz.results84, go_sem, g0, g1]) rfl ⟨A, c, B, d, ps, rfl, HI0.out.on hB, (HU.out.mono (fun g h => .inl h)).on hB.size, hB⟩
   ·rw [HE.out, if_neg h8]
    dsimp only
    have hd8 : decide ((shops.length : Int) ≥ 8) = false := decide_eq_false (by omega)
    generalize Bk.scode x = K at *
    clear hs0
    have HC := hid hC
    clear hC
    simp only [bkV, shV] at HC ⊢
    go_enter Tryz.func84, Tryz.ntmps84
    go_wp2_with fail
    generalize ((w.alloc (.cells #[.slice A shops.length c, .slice B binds.length d] 133)).alloc (.cells #[.string (ofL x.name), .int .u8 (x.sort : Int), .string (ofL x.to)] 43)).alloc (.cells #[.slice none 0 0, .slice none 0 0] 133) = w1 at *
    refine HC.out.mono ?_
    rintro e w2 ⟨rfl, b2⟩
    have HB2 := hid (bthen HB0.out b2 (Nat.le_refl _))
    have HX2 := hid (HX0.out.on b2)
    have HS2 := hid (HS0.out.on b2)
    have HR2 := hid (HR0.out.on b2)
    have HZ2 := hid (show w.heap.size + 3 ≤ w2.heap.size from by have := b2.size; have := HSZ.out; omega)
    clear b2
    have x0 := HX2.out.cs 0 _ rfl
    have x1 := HX2.out.cs 1 _ rfl
    have xl := HX2.out.lt
    have s0 := HS2.out.cs 0 _ rfl
    have s1 := HS2.out.cs 1 _ rfl
    have s2 := HS2.out.cs 2 _ rfl
    have sl := HS2.out.lt
    have HA3 := hid (rtOne w2 (.cells #[.string (ofL y.name), .int .u8 (y.sort : Int), .string (ofL y.to)] 43))
    have HCK3 := hid (HCK.out (w2.alloc (.cells #[.string (ofL y.name), .int .u8 (y.sort : Int), .string (ofL y.to)] 43)))
    simp only [shV] at HCK3
    go_wp2_with fail
    refine HCK3.out.mono ?_
    rintro e w4 ⟨rfl, b4⟩
    have hb4 := bthen HA3.out b4 (Nat.le_refl _)
    have HB4 := hid (bthen HB2.out hb4 (Nat.le_refl _))
    have HX4 := hid (HX2.out.on hb4)
    have HS4 := hid (HS2.out.on hb4)
    have HR4 := hid (HR2.out.on hb4)
    have HZ4 := hid (show w.heap.size + 3 ≤ w4.heap.size from Nat.le_trans HZ2.out hb4.size)
    clear b4 hb4 x0 x1 xl s0 s1 s2 sl
    have x0 := HX4.out.cs 0 _ rfl
    have x1 := HX4.out.cs 1 _ rfl
    have xl := HX4.out.lt
    have s0 := HS4.out.cs 0 _ rfl
    have s1 := HS4.out.cs 1 _ rfl
    have s2 := HS4.out.cs 2 _ rfl
    have sl := HS4.out.lt
    have r0 := HR4.out.cs 0 _ rfl
    have r1 := HR4.out.cs 1 _ rfl
    have rl := HR4.out.lt
    have rf : ∀ j, w4.frozen? ⟨w.heap.size + 2, j, none⟩ = false := HR4.out.s
    have HAD := hid (addSh_any shops.length (shs shops) A c x w4 (by omega) HI0.out.capA HI0.out.nilA (shs_len shops) (HI0.out.shs.on HB4.out).row)
    unfold AddShPost at HAD
    simp only [shV] at HAD
    clear r0 r1 rl rf
    go_wp2_with fail
    refine HAD.out.mono ?_
    rintro e w5 ⟨gg, c5, rfl, ho5, b5⟩
    have HO5 := hid ho5
    have HB5 := hid (bthen HB4.out b5 (Nat.le_refl _))
    have HX5 := hid (HX4.out.on b5)
    have HR5 := hid (HR4.out.on b5)
    clear ho5 b5 x0 x1 xl s0 s1 s2 sl
    have x0 := HX5.out.cs 0 _ rfl
    have x1 := HX5.out.cs 1 _ rfl
    have xl := HX5.out.lt
    have xf : ∀ j, w5.frozen? ⟨w.heap.size, j, none⟩ = false := HX5.out.s
    have r0 := HR5.out.cs 0 _ rfl
    have r1 := HR5.out.cs 1 _ rfl
    have rl := HR5.out.lt
    have rf : ∀ j, w5.frozen? ⟨w.heap.size + 2, j, none⟩ = false := HR5.out.s
    go_wp2_with fail
    have hQ := (HR5.out.aside (g := w.heap.size) (by omega) 0 (.slice (some ⟨gg, 0, none⟩) (shops.length + 1) c5)).fill [.slice (some ⟨gg, 0, none⟩) (shops.length + 1) c5, .slice B binds.length d] rfl
    have hB := below_putAll (g := w.heap.size + 2) (by omega) [.slice (some ⟨gg, 0, none⟩) (shops.length + 1) c5, .slice B binds.length d] 0 (HB5.out.setCell (p := ⟨w.heap.size, 0, none⟩) (Nat.le_refl _) (.slice (some ⟨gg, 0, none⟩) (shops.length + 1) c5))
    have hO := rtOwnPut (rtOwnPut (rtOwnPut HO5.out (g := w.heap.size) (by have := HZ4.out; omega) 0 (.slice (some ⟨gg, 0, none⟩) (shops.length + 1) c5)) (g := w.heap.size + 2) (by have := HZ4.out; omega) 0 (.slice (some ⟨gg, 0, none⟩) (shops.length + 1) c5)) (g := w.heap.size + 2) (by have := HZ4.out; omega) 1 (.slice B binds.length d)
    simp only [putAll] at hQ hB
    have g0 := hQ.cs 0 _ rfl
    have g1 := hQ.cs 1 _ rfl
    obtain ⟨A9, c9, e9, hc9, hn9, hr9, hb9⟩ := Rws.of_own hO
    obtain ⟨rfl, -, rfl⟩ := Value.slice.inj e9
    have h0 := HI0.out.on hB
    have hu := (HU.out.on hB.size).mono (V := fun g => U g ∨ w.heap.size ≤ g) (fun g h => .inl h)
    exact bodyPost_ret (v := .tuple #[.agg #[.slice (some ⟨gg, 0, none⟩) (shops.length + 1) c5, .slice B binds.length d], .int .i64 0]) (by simp [results, Tryz.results84, go_sem, g0, g1]) rfl ⟨some ⟨gg, 0, none⟩, c5, B, d, ps, by simp [bkV], ⟨h0.xs, by simpa using hc9, hn9, h0.capB, h0.nilB, ⟨by show Rws _ _ (shs (shops ++ [x])); rw [shs_app, shs_one1]; exact hr9⟩, h0.bds⟩, ⟨fun a ha => ⟨.inr (by have := (hb9 a ha).1; have := HZ4.out; omega), (hb9 a ha).2⟩, hu.b, hu.p⟩, hB⟩
  ·have hd : ((Bk.scode x : Int) != 0) = true := by rw [bne_iff_ne]; omega
   have HE := hid (show Bk.make ⟨shops, binds⟩ x = (⟨shops, binds⟩, Bk.scode x) by rw [HMK.out, if_pos hs0])
   rw [HE.out]
   dsimp only
   generalize Bk.scode x = K at *
   clear hs0
   have HC := hid hC
   clear hC
   simp only [bkV, shV] at HC ⊢
   go_enter Tryz.func84, Tryz.ntmps84
   go_wp2_with fail
   generalize ((w.alloc (.cells #[.slice A shops.length c, .slice B binds.length d] 133)).alloc (.cells #[.string (ofL x.name), .int .u8 (x.sort : Int), .string (ofL x.to)] 43)).alloc (.cells #[.slice none 0 0, .slice none 0 0] 133) = w1 at *
   refine HC.out.mono ?_
   rintro e w2 ⟨rfl, b2⟩
   have HB2 := hid (bthen HB0.out b2 (Nat.le_refl _))
   have HX2 := hid (HX0.out.on b2)
   have HS2 := hid (HS0.out.on b2)
   have HR2 := hid (HR0.out.on b2)
   have HZ2 := hid (show w.heap.size + 3 ≤ w2.heap.size from by have := b2.size; have := HSZ.out; omega)
   clear b2
   have x0 := HX2.out.cs 0 _ rfl
   have x1 := HX2.out.cs 1 _ rfl
   have xl := HX2.out.lt
   have s0 := HS2.out.cs 0 _ rfl
   have s1 := HS2.out.cs 1 _ rfl
   have s2 := HS2.out.cs 2 _ rfl
   have sl := HS2.out.lt
   have HA3 := hid (rtOne w2 (.cells #[.string (ofL y.name), .int .u8 (y.sort : Int), .string (ofL y.to)] 43))
   have HCK3 := hid (HCK.out (w2.alloc (.cells #[.string (ofL y.name), .int .u8 (y.sort : Int), .string (ofL y.to)] 43)))
   simp only [shV] at HCK3
   go_wp2_with fail
   refine HCK3.out.mono ?_
   rintro e w4 ⟨rfl, b4⟩
   have hb4 := bthen HA3.out b4 (Nat.le_refl _)
   have HB4 := hid (bthen HB2.out hb4 (Nat.le_refl _))
   have HX4 := hid (HX2.out.on hb4)
   have HS4 := hid (HS2.out.on hb4)
   have HR4 := hid (HR2.out.on hb4)
   have HZ4 := hid (show w.heap.size + 3 ≤ w4.heap.size from Nat.le_trans HZ2.out hb4.size)
   clear b4 hb4 x0 x1 xl s0 s1 s2 sl
   have x0 := HX4.out.cs 0 _ rfl
   have x1 := HX4.out.cs 1 _ rfl
   have xl := HX4.out.lt
   have s0 := HS4.out.cs 0 _ rfl
   have s1 := HS4.out.cs 1 _ rfl
   have s2 := HS4.out.cs 2 _ rfl
   have sl := HS4.out.lt
   have r0 := HR4.out.cs 0 _ rfl
   have r1 := HR4.out.cs 1 _ rfl
   have rl := HR4.out.lt
   have rf : ∀ j, w4.frozen? ⟨w.heap.size + 2, j, none⟩ = false := HR4.out.s
   go_wp2_with fail
   have hQ := HR4.out.fill [.slice A shops.length c, .slice B binds.length d] rfl
   have hB := below_putAll (g := w.heap.size + 2) (by omega) [.slice A shops.length c, .slice B binds.length d] 0 HB4.out
   simp only [putAll] at hQ hB
   have g0 := hQ.cs 0 _ rfl
   have g1 := hQ.cs 1 _ rfl
   exact bodyPost_ret (v := .tuple #[.agg #[.slice A shops.length c, .slice B binds.length d], .int .i64 (K : Int)]) (by simp [results, Tryz.results84, go_sem, g0, g1]) rfl ⟨A, c, B, d, ps, rfl, HI0.out.on hB, (HU.out.mono (fun g h => .inl h)).on hB.size, hB⟩
 ·have e2' : Bk.shop ⟨shops, binds⟩ x.name = some (shops.getD k Bk.Sh0) := e2
  rw [e2', Option.isSome_some] at hmk
  rw [e2', Option.getD_some, Option.isSome_some] at hC
  generalize shops.getD k Bk.Sh0 = y at *
  clear e1 e2 e2' hk
  by_cases hyx : y = x
  ·have HMK := hid (show Bk.make ⟨shops, binds⟩ x = (⟨shops, binds⟩, 0) by rw [hmk, if_pos (by rw [hyx])])
   rw [HMK.out]
   dsimp only
   have hq := HSE.out y
   rw [decide_eq_true hyx] at hq
   clear hyx hmk
   have HC := hid hC
   clear hC
   simp only [bkV, shV] at HC ⊢
   go_enter Tryz.func84, Tryz.ntmps84
   go_wp2_with fail
   generalize ((w.alloc (.cells #[.slice A shops.length c, .slice B binds.length d] 133)).alloc (.cells #[.string (ofL x.name), .int .u8 (x.sort : Int), .string (ofL x.to)] 43)).alloc (.cells #[.slice none 0 0, .slice none 0 0] 133) = w1 at *
   refine HC.out.mono ?_
   rintro e w2 ⟨rfl, b2⟩
   have HB2 := hid (bthen HB0.out b2 (Nat.le_refl _))
   have HX2 := hid (HX0.out.on b2)
   have HS2 := hid (HS0.out.on b2)
   have HR2 := hid (HR0.out.on b2)
   have HZ2 := hid (show w.heap.size + 3 ≤ w2.heap.size from by have := b2.size; have := HSZ.out; omega)
   clear b2
   have x0 := HX2.out.cs 0 _ rfl
   have x1 := HX2.out.cs 1 _ rfl
   have xl := HX2.out.lt
   have s0 := HS2.out.cs 0 _ rfl
   have s1 := HS2.out.cs 1 _ rfl
   have s2 := HS2.out.cs 2 _ rfl
   have sl := HS2.out.lt
   have HA3 := hid (rtOne w2 (.cells #[.string (ofL y.name), .int .u8 (y.sort : Int), .string (ofL y.to)] 43))
   have HR3 := hid (rtNext HR2.out (.cells #[.string (ofL y.name), .int .u8 (y.sort : Int), .string (ofL y.to)] 43))
   have r0 := HR2.out.cs 0 _ rfl
   have r1 := HR2.out.cs 1 _ rfl
   have rl := HR2.out.lt
   have rf : ∀ j, w2.frozen? ⟨w.heap.size + 2, j, none⟩ = false := HR2.out.s
   go_wp2_with fail
   have hQ := rtNext (HR2.out.fill [.slice A shops.length c, .slice B binds.length d] rfl) (.cells #[.string (ofL y.name), .int .u8 (y.sort : Int), .string (ofL y.to)] 43)
   have hB' := below_putAll (g := w.heap.size + 2) (by omega) [.slice A shops.length c, .slice B binds.length d] 0 HB2.out
   have hB := hB'.alloc hB'.size (.cells #[.string (ofL y.name), .int .u8 (y.sort : Int), .string (ofL y.to)] 43)
   simp only [putAll] at hQ hB
   have g0 := hQ.cs 0 _ rfl
   have g1 := hQ.cs 1 _ rfl
   exact bodyPost_ret (v := .tuple #[.agg #[.slice A shops.length c, .slice B binds.length d], .int .i64 0]) (by simp [results, Tryz.results84, go_sem, g0, g1]) rfl ⟨A, c, B, d, ps, rfl, HI0.out.on hB, (HU.out.mono (fun g h => .inl h)).on hB.size, hB⟩
  ·have HMK := hid (show Bk.make ⟨shops, binds⟩ x = if Bk.scode x ≠ 0 then (⟨shops, binds⟩, Bk.scode x) else (⟨shops, binds⟩, 9) by rw [hmk, if_neg (by simpa using hyx)]; simp)
   have hq := HSE.out y
   rw [decide_eq_false hyx] at hq
   clear hyx hmk
   by_cases hs0 : Bk.scode x = 0
   ·have hd : ((Bk.scode x : Int) != 0) = false := by rw [hs0]; rfl
    have HE := hid (show Bk.make ⟨shops, binds⟩ x = (⟨shops, binds⟩, 9) by rw [HMK.out, if_neg (by omega)])
    rw [HE.out]
    dsimp only
    generalize Bk.scode x = K at *
    have HC := hid hC
    clear hC
    simp only [bkV, shV] at HC ⊢
    go_enter Tryz.func84, Tryz.ntmps84
    go_wp2_with fail
    generalize ((w.alloc (.cells #[.slice A shops.length c, .slice B binds.length d] 133)).alloc (.cells #[.string (ofL x.name), .int .u8 (x.sort : Int), .string (ofL x.to)] 43)).alloc (.cells #[.slice none 0 0, .slice none 0 0] 133) = w1 at *
    refine HC.out.mono ?_
    rintro e w2 ⟨rfl, b2⟩
    have HB2 := hid (bthen HB0.out b2 (Nat.le_refl _))
    have HX2 := hid (HX0.out.on b2)
    have HS2 := hid (HS0.out.on b2)
    have HR2 := hid (HR0.out.on b2)
    have HZ2 := hid (show w.heap.size + 3 ≤ w2.heap.size from by have := b2.size; have := HSZ.out; omega)
    clear b2
    have x0 := HX2.out.cs 0 _ rfl
    have x1 := HX2.out.cs 1 _ rfl
    have xl := HX2.out.lt
    have s0 := HS2.out.cs 0 _ rfl
    have s1 := HS2.out.cs 1 _ rfl
    have s2 := HS2.out.cs 2 _ rfl
    have sl := HS2.out.lt
    have HA3 := hid (rtOne w2 (.cells #[.string (ofL y.name), .int .u8 (y.sort : Int), .string (ofL y.to)] 43))
    have HCK3 := hid (HCK.out (w2.alloc (.cells #[.string (ofL y.name), .int .u8 (y.sort : Int), .string (ofL y.to)] 43)))
    simp only [shV] at HCK3
    go_wp2_with fail
    refine HCK3.out.mono ?_
    rintro e w4 ⟨rfl, b4⟩
    have hb4 := bthen HA3.out b4 (Nat.le_refl _)
    have HB4 := hid (bthen HB2.out hb4 (Nat.le_refl _))
    have HX4 := hid (HX2.out.on hb4)
    have HS4 := hid (HS2.out.on hb4)
    have HR4 := hid (HR2.out.on hb4)
    have HZ4 := hid (show w.heap.size + 3 ≤ w4.heap.size from Nat.le_trans HZ2.out hb4.size)
    clear b4 hb4 x0 x1 xl s0 s1 s2 sl
    have x0 := HX4.out.cs 0 _ rfl
    have x1 := HX4.out.cs 1 _ rfl
    have xl := HX4.out.lt
    have s0 := HS4.out.cs 0 _ rfl
    have s1 := HS4.out.cs 1 _ rfl
    have s2 := HS4.out.cs 2 _ rfl
    have sl := HS4.out.lt
    have r0 := HR4.out.cs 0 _ rfl
    have r1 := HR4.out.cs 1 _ rfl
    have rl := HR4.out.lt
    have rf : ∀ j, w4.frozen? ⟨w.heap.size + 2, j, none⟩ = false := HR4.out.s
    go_wp2_with fail
    have hQ := HR4.out.fill [.slice A shops.length c, .slice B binds.length d] rfl
    have hB := below_putAll (g := w.heap.size + 2) (by omega) [.slice A shops.length c, .slice B binds.length d] 0 HB4.out
    simp only [putAll] at hQ hB
    have g0 := hQ.cs 0 _ rfl
    have g1 := hQ.cs 1 _ rfl
    exact bodyPost_ret (v := .tuple #[.agg #[.slice A shops.length c, .slice B binds.length d], .int .i64 9]) (by simp [results, Tryz.results84, go_sem, g0, g1]) rfl ⟨A, c, B, d, ps, rfl, HI0.out.on hB, (HU.out.mono (fun g h => .inl h)).on hB.size, hB⟩
   ·have hd : ((Bk.scode x : Int) != 0) = true := by rw [bne_iff_ne]; omega
    have HE := hid (show Bk.make ⟨shops, binds⟩ x = (⟨shops, binds⟩, Bk.scode x) by rw [HMK.out, if_pos hs0])
    rw [HE.out]
    dsimp only
    generalize Bk.scode x = K at *
    clear hs0
    have HC := hid hC
    clear hC
    simp only [bkV, shV] at HC ⊢
    go_enter Tryz.func84, Tryz.ntmps84
    go_wp2_with fail
    generalize ((w.alloc (.cells #[.slice A shops.length c, .slice B binds.length d] 133)).alloc (.cells #[.string (ofL x.name), .int .u8 (x.sort : Int), .string (ofL x.to)] 43)).alloc (.cells #[.slice none 0 0, .slice none 0 0] 133) = w1 at *
    refine HC.out.mono ?_
    rintro e w2 ⟨rfl, b2⟩
    have HB2 := hid (bthen HB0.out b2 (Nat.le_refl _))
    have HX2 := hid (HX0.out.on b2)
    have HS2 := hid (HS0.out.on b2)
    have HR2 := hid (HR0.out.on b2)
    have HZ2 := hid (show w.heap.size + 3 ≤ w2.heap.size from by have := b2.size; have := HSZ.out; omega)
    clear b2
    have x0 := HX2.out.cs 0 _ rfl
    have x1 := HX2.out.cs 1 _ rfl
    have xl := HX2.out.lt
    have s0 := HS2.out.cs 0 _ rfl
    have s1 := HS2.out.cs 1 _ rfl
    have s2 := HS2.out.cs 2 _ rfl
    have sl := HS2.out.lt
    have HA3 := hid (rtOne w2 (.cells #[.string (ofL y.name), .int .u8 (y.sort : Int), .string (ofL y.to)] 43))
    have HCK3 := hid (HCK.out (w2.alloc (.cells #[.string (ofL y.name), .int .u8 (y.sort : Int), .string (ofL y.to)] 43)))
    simp only [shV] at HCK3
    go_wp2_with fail
    refine HCK3.out.mono ?_
    rintro e w4 ⟨rfl, b4⟩
    have hb4 := bthen HA3.out b4 (Nat.le_refl _)
    have HB4 := hid (bthen HB2.out hb4 (Nat.le_refl _))
    have HX4 := hid (HX2.out.on hb4)
    have HS4 := hid (HS2.out.on hb4)
    have HR4 := hid (HR2.out.on hb4)
    have HZ4 := hid (show w.heap.size + 3 ≤ w4.heap.size from Nat.le_trans HZ2.out hb4.size)
    clear b4 hb4 x0 x1 xl s0 s1 s2 sl
    have x0 := HX4.out.cs 0 _ rfl
    have x1 := HX4.out.cs 1 _ rfl
    have xl := HX4.out.lt
    have s0 := HS4.out.cs 0 _ rfl
    have s1 := HS4.out.cs 1 _ rfl
    have s2 := HS4.out.cs 2 _ rfl
    have sl := HS4.out.lt
    have r0 := HR4.out.cs 0 _ rfl
    have r1 := HR4.out.cs 1 _ rfl
    have rl := HR4.out.lt
    have rf : ∀ j, w4.frozen? ⟨w.heap.size + 2, j, none⟩ = false := HR4.out.s
    go_wp2_with fail
    have hQ := HR4.out.fill [.slice A shops.length c, .slice B binds.length d] rfl
    have hB := below_putAll (g := w.heap.size + 2) (by omega) [.slice A shops.length c, .slice B binds.length d] 0 HB4.out
    simp only [putAll] at hQ hB
    have g0 := hQ.cs 0 _ rfl
    have g1 := hQ.cs 1 _ rfl
    exact bodyPost_ret (v := .tuple #[.agg #[.slice A shops.length c, .slice B binds.length d], .int .i64 (K : Int)]) (by simp [results, Tryz.results84, go_sem, g0, g1]) rfl ⟨A, c, B, d, ps, rfl, HI0.out.on hB, (HU.out.mono (fun g h => .inl h)).on hB.size, hB⟩
theorem guardRSh : Tryz.prog.eqGuardType Tryz.prog.depth 55 = false := by kernel_rfl
theorem stoodRSh : Tryz.prog.stoodInHeld 55 = false := by kernel_rfl
theorem fieldsRSh : Tryz.prog.fieldsOf 55 = #[⟨"Name", 9, 0, false, "", "", 0⟩, ⟨"Sort", 5, 1, false, "", "", 16⟩, ⟨"To", 9, 2, false, "", "", 24⟩] := by kernel_rfl
theorem rsh_eql (a : ByteArray) (b : Int) (d : ByteArray) (a' : ByteArray) (b' : Int) (d' : ByteArray) (W : World) : (Op.equalIn 10000 55 (.agg #[.string a, .int .u8 b, .string d]) (.agg #[.string a', .int .u8 b', .string d'])).run Tryz.prog W = .ok ((a.toList == a'.toList) && (b == b') && (d.toList == d'.toList)) W := by
 rw [run_equalIn_agg (ht := by kernel_rfl) (hp := stoodRSh), fieldsRSh]
 simp [Op.eqFields, go_sem, Tryz.underlying5, Tryz.underlying9]
 by_cases h1 : a.toList = a'.toList <;> by_cases h2 : b = b' <;> by_cases h4 : d.toList = d'.toList <;> simp [h1, h2, h4]
theorem rsh_eq (x y : Sh) (W : World) : (Op.equalIn 10000 55 (.agg #[.string (ofL x.name), .int .u8 (x.sort : Int), .string (ofL x.to)]) (.agg #[.string (ofL y.name), .int .u8 (y.sort : Int), .string (ofL y.to)])).run Tryz.prog W = .ok (decide (x = y)) W := by
 rw [← shEq_dec, ← sh_bool]
 exact rsh_eql _ _ _ _ _ _ W
attribute [local go_sem] guardRSh
end Go.Proofs.YtaikigponkjkgaaGreatDoor
end
