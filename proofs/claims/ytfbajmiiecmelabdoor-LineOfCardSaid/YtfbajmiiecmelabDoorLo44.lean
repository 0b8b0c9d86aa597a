/-
  THE EXAMPLE, walked.
-/
import Derived.Test.YtfbajmiiecmelabDoorLo43

section
namespace Go.Proofs.YtfbajmiiecmelabDoor
open Go.ChangeShapes Go.WideShapes Go.ChangeAt Go.RowKit
set_option maxRecDepth 100000 in
set_option maxHeartbeats 8000000 in
theorem awake18_any (w : World) (hL : Len w) : Calls Tryd.prog 4 #[] w fun e w' => e = .returned (.bool true) ∧ Below w.heap.size w w' := by
  have HL := Lib.hid hL
  have HC1 := Lib.hid (lnAdd_any e3 none 0 (.agg #[.slice none 0 0]) [] w (fun _ => False) (by simp) (LnU.nil _ _) (e3_go w) hL)
  rw [show maV e3 none 0 = .agg #[.int .u64 3, .string ⟨#[97]⟩, .string ⟨#[]⟩, .slice none 0 0, .string ⟨#[]⟩, .int .u64 0, .int .u8 0] from rfl, ex_add3.1, ex_add3.2] at HC1
  obtain ⟨l1, hl1⟩ : ∃ l1, l1 = [x3 false false] := ⟨_, rfl⟩
  rw [← hl1] at HC1
  have HC2 := Lib.hid (fun (U : Nat → Prop) v W h hw => lnAdd_any e5 none 0 v l1 W U (by rw [hl1]; simp) h (e5_go W) hw)
  rw [show maV e5 none 0 = .agg #[.int .u64 5, .string ⟨#[97]⟩, .string ⟨#[]⟩, .slice none 0 0, .string ⟨#[]⟩, .int .u64 0, .int .u8 0] from rfl, hl1, ex_add5.1, ex_add5.2, ← hl1] at HC2
  obtain ⟨l2, hl2⟩ : ∃ l2, l2 = [x3 false false, x5 false false] := ⟨_, rfl⟩
  rw [← hl2] at HC2
  have HC3 := Lib.hid (fun (U : Nat → Prop) v W h => lnLend_any v l2 W U (by rw [hl2]; simp) h)
  rw [hl2, ex_lend3.1, ex_lend3.2.1, ex_lend3.2.2, ← hl2] at HC3
  obtain ⟨l3, hl3⟩ : ∃ l3, l3 = [x3 true false, x5 false false] := ⟨_, rfl⟩
  rw [← hl3] at HC3
  have HC4 := Lib.hid (fun (U : Nat → Prop) v W h => lnLend_any v l3 W U (by rw [hl3]; simp) h)
  rw [hl3, ex_lend5.1, ex_lend5.2.1, ex_lend5.2.2, ← hl3] at HC4
  obtain ⟨l4, hl4⟩ : ∃ l4, l4 = [x3 true false, x5 true false] := ⟨_, rfl⟩
  rw [← hl4] at HC4
  have HC5 := Lib.hid (fun (U : Nat → Prop) v W h => lnBack_any 3 v l4 W U (by rw [hl4]; simp) h)
  rw [hl4, ex_back3.1, ex_back3.2, ← hl4] at HC5
  obtain ⟨l5, hl5⟩ : ∃ l5, l5 = [x3 false true, x5 true false] := ⟨_, rfl⟩
  rw [← hl5] at HC5
  have HC6 := Lib.hid (fun (U : Nat → Prop) v W h => lnFirst_any v l5 W U (by rw [hl5]; simp) h)
  rw [hl5, ex_first.1, ex_first.2, ← hl5] at HC6
  have HLW := Lib.hid (fun W h => law13Awake_any W h)
  unfold LentPost at HC3 HC4
  unfold MaOut at HC6
  clear hl1 hl2 hl3 hl4 hl5 hL
  go_enter Tryd.func4, Tryd.ntmps4
  go_wp2_with fail
  refine HC1.out.mono ?_
  rintro e w1 ⟨v', rfl, h1, hb⟩
  obtain ⟨A1, c1, rfl, -⟩ := h1.form
  have HB1 := Lib.hid hb
  have HX1 := Lib.hid (LnBox.new hb.size h1)
  have HB2 := Lib.hid (HB1.out.alloc HB1.out.size (.cells #[.slice A1 l1.length c1] 34))
  have HBE := Lib.hid hb.size
  clear h1 hb
  go_upto_region 2 with fail
  generalize w1.alloc (.cells #[.slice A1 l1.length c1] 34) = w2 at *
  generalize w1.heap.size = b at *
  obtain ⟨A, c, U, hx, hu, hnu⟩ := HX1.out
  have HU := Lib.hid hu
  have HNU := Lib.hid hnu
  have HX := Lib.hid hx
  have hxl := hx.lt
  have x0 := hx.cs 0 _ rfl
  clear hx hu hnu
  go_wp2_with fail
  refine (HC2.out _ _ _ HU.out (HL.out.on HB2.out)).mono ?_
  rintro e w3 ⟨v', rfl, h3, hb⟩
  obtain ⟨A3, c3, rfl, -⟩ := h3.form
  have HB3 := Lib.hid (bthen HB2.out hb (Nat.le_refl _))
  have HX3 := Lib.hid ((show LnBox w b l1 w2 from ⟨A, c, U, HX.out, HU.out, HNU.out⟩).on hb)
  have HX4 := Lib.hid (HX3.out.put h3 (fun h => h.elim HNU.out (fun h => by have := HX.out.lt; omega)))
  have HB4 := Lib.hid (HB3.out.setCell (p := ⟨b, 0, none⟩) HBE.out (.slice A3 l2.length c3))
  have HX3' := Lib.hid (HX.out.on hb)
  clear h3 hb x0 hxl
  have x0 := HX3'.out.cs 0 _ rfl
  have xl := HX3'.out.lt
  have xf := HX3'.out.s 0
  go_upto_region 3 with fail
  generalize w3.setCell ⟨b, 0, none⟩ (.slice A3 l2.length c3) = w4 at *
  clear x0 xl xf HX3' HX3 HX HU HNU HX1
  obtain ⟨A, c, U, hx, hu, hnu⟩ := HX4.out
  have HU := Lib.hid hu
  have HNU := Lib.hid hnu
  have HX := Lib.hid hx
  have hxl := hx.lt
  have x0 := hx.cs 0 _ rfl
  clear hx hu hnu
  go_wp2_with fail
  refine (HC3.out _ _ _ HU.out).mono ?_
  rintro e w5 ⟨v', Ai, ci, rfl, h5, ho, hb⟩
  obtain ⟨A5, c5, rfl, -⟩ := h5.form
  have e3v : itV (x3 true false) Ai ci = .agg #[.int .u64 3, .string ⟨#[97]⟩, .string ⟨#[]⟩, .slice Ai 0 ci, .string ⟨#[]⟩, .int .u64 0, .int .u8 0, .bool true, .bool false] := rfl
  rw [e3v]
  have HX5 := Lib.hid (HX.out.on hb)
  clear x0 hxl
  have x0 := HX5.out.cs 0 _ rfl
  have xl := HX5.out.lt
  have xf := HX5.out.s 0
  have HQ5 := Lib.hid (((show LnBox w b l2 w4 from ⟨A, c, U, HX.out, HU.out, HNU.out⟩).on hb).put h5 (fun h => h.elim HNU.out (fun h => by have := HX.out.lt; omega)))
  have HB5 := Lib.hid ((bthen HB4.out hb (Nat.le_refl _)).setCell (p := ⟨b, 0, none⟩) HBE.out (.slice A5 l3.length c5))
  have hs5 : (w5.setCell ⟨b, 0, none⟩ (.slice A5 l3.length c5)).heap.size = w5.heap.size := by simp [World.setCell]
  have HI5 := Lib.hid (BoxC.new (w := w) HB5.out.size #[.int .u64 3, .string ⟨#[97]⟩, .string ⟨#[]⟩, .slice Ai 0 ci, .string ⟨#[]⟩, .int .u64 0, .int .u8 0, .bool true, .bool false] 30)
  rw [hs5] at HI5
  have HQ6 := Lib.hid (HQ5.out.on (one_alloc _ (.cells #[.int .u64 3, .string ⟨#[97]⟩, .string ⟨#[]⟩, .slice Ai 0 ci, .string ⟨#[]⟩, .int .u64 0, .int .u8 0, .bool true, .bool false] 30)))
  have HB6 := Lib.hid (HB5.out.alloc HB5.out.size (.cells #[.int .u64 3, .string ⟨#[97]⟩, .string ⟨#[]⟩, .slice Ai 0 ci, .string ⟨#[]⟩, .int .u64 0, .int .u8 0, .bool true, .bool false] 30))
  have HNE := Lib.hid (show w5.heap.size ≠ b by omega)
  go_upto_region 4 with fail
  clear hs5 hb h5 ho e3v
  generalize (w5.setCell ⟨b, 0, none⟩ (.slice A5 l3.length c5)).alloc (.cells #[.int .u64 3, .string ⟨#[97]⟩, .string ⟨#[]⟩, .slice Ai 0 ci, .string ⟨#[]⟩, .int .u64 0, .int .u8 0, .bool true, .bool false] 30) = w6 at *
  generalize w5.heap.size = bi at *
  clear x0 xl xf HX5 HX HU HNU HX4 HQ5
  obtain ⟨A, c, U, hx, hu, hnu⟩ := HQ6.out
  have HU := Lib.hid hu
  have HNU := Lib.hid hnu
  have HX := Lib.hid hx
  have hxl := hx.lt
  have x0 := hx.cs 0 _ rfl
  clear hx hu hnu
  go_wp2_with fail
  refine (HC4.out _ _ _ HU.out).mono ?_
  rintro e w7 ⟨v', Aj, cj, rfl, h7, ho, hb⟩
  obtain ⟨A7, c7, rfl, -⟩ := h7.form
  have e5v : itV (x5 true false) Aj cj = .agg #[.int .u64 5, .string ⟨#[97]⟩, .string ⟨#[]⟩, .slice Aj 0 cj, .string ⟨#[]⟩, .int .u64 0, .int .u8 0, .bool true, .bool false] := rfl
  rw [e5v]
  have HX7 := Lib.hid (HX.out.on hb)
  clear x0 hxl
  have x0 := HX7.out.cs 0 _ rfl
  have xl := HX7.out.lt
  have xf := HX7.out.s 0
  have HQ7 := Lib.hid (((show LnBox w b l3 w6 from ⟨A, c, U, HX.out, HU.out, HNU.out⟩).on hb).put h7 (fun h => h.elim HNU.out (fun h => by have := HX.out.lt; omega)))
  have HB7 := Lib.hid ((bthen HB6.out hb (Nat.le_refl _)).setCell (p := ⟨b, 0, none⟩) HBE.out (.slice A7 l4.length c7))
  have HI7 := Lib.hid ((HI5.out.on hb).aside (g := b) (fun e => HNE.out e.symm) 0 (.slice A7 l4.length c7))
  have hs7 : (w7.setCell ⟨b, 0, none⟩ (.slice A7 l4.length c7)).heap.size = w7.heap.size := by simp [World.setCell]
  have HJ7 := Lib.hid (BoxC.new (w := w) HB7.out.size #[.int .u64 5, .string ⟨#[97]⟩, .string ⟨#[]⟩, .slice Aj 0 cj, .string ⟨#[]⟩, .int .u64 0, .int .u8 0, .bool true, .bool false] 30)
  rw [hs7] at HJ7
  have HQ8 := Lib.hid (HQ7.out.on (one_alloc _ (.cells #[.int .u64 5, .string ⟨#[97]⟩, .string ⟨#[]⟩, .slice Aj 0 cj, .string ⟨#[]⟩, .int .u64 0, .int .u8 0, .bool true, .bool false] 30)))
  have HI8 := Lib.hid (HI7.out.on (one_alloc _ (.cells #[.int .u64 5, .string ⟨#[97]⟩, .string ⟨#[]⟩, .slice Aj 0 cj, .string ⟨#[]⟩, .int .u64 0, .int .u8 0, .bool true, .bool false] 30)))
  have HB8 := Lib.hid (HB7.out.alloc HB7.out.size (.cells #[.int .u64 5, .string ⟨#[97]⟩, .string ⟨#[]⟩, .slice Aj 0 cj, .string ⟨#[]⟩, .int .u64 0, .int .u8 0, .bool true, .bool false] 30))
  have HNF := Lib.hid (show w7.heap.size ≠ b by omega)
  go_upto_region 5 with fail
  clear hs7 hb h7 ho e5v
  generalize (w7.setCell ⟨b, 0, none⟩ (.slice A7 l4.length c7)).alloc (.cells #[.int .u64 5, .string ⟨#[97]⟩, .string ⟨#[]⟩, .slice Aj 0 cj, .string ⟨#[]⟩, .int .u64 0, .int .u8 0, .bool true, .bool false] 30) = w8 at *
  generalize w7.heap.size = bj at *
  clear x0 xl xf HX7 HX HU HNU HQ6 HQ7
  obtain ⟨A, c, U, hx, hu, hnu⟩ := HQ8.out
  have HU := Lib.hid hu
  have HNU := Lib.hid hnu
  have HX := Lib.hid hx
  have hxl := hx.lt
  have x0 := hx.cs 0 _ rfl
  clear hx hu hnu
  go_wp2_with fail
  refine (HC5.out _ _ _ HU.out).mono ?_
  rintro e w9 ⟨v', rfl, h9, hb⟩
  obtain ⟨A9, c9, rfl, -⟩ := h9.form
  have HX9 := Lib.hid (HX.out.on hb)
  clear x0 hxl
  have x0 := HX9.out.cs 0 _ rfl
  have xl := HX9.out.lt
  have xf := HX9.out.s 0
  have HQ9 := Lib.hid (((show LnBox w b l4 w8 from ⟨A, c, U, HX.out, HU.out, HNU.out⟩).on hb).put h9 (fun h => h.elim HNU.out (fun h => by have := HX.out.lt; omega)))
  have HB9 := Lib.hid ((bthen HB8.out hb (Nat.le_refl _)).setCell (p := ⟨b, 0, none⟩) HBE.out (.slice A9 l5.length c9))
  have HI9 := Lib.hid ((HI8.out.on hb).aside (g := b) (fun e => HNE.out e.symm) 0 (.slice A9 l5.length c9))
  have HJ9 := Lib.hid ((HJ7.out.on hb).aside (g := b) (fun e => HNF.out e.symm) 0 (.slice A9 l5.length c9))
  go_upto_region 6 with fail
  clear hb h9
  generalize w9.setCell ⟨b, 0, none⟩ (.slice A9 l5.length c9) = wa at *
  clear x0 xl xf HX9 HX HU HNU HQ8
  obtain ⟨A, c, U, hx, hu, hnu⟩ := HQ9.out
  have HU := Lib.hid hu
  have HNU := Lib.hid hnu
  have HX := Lib.hid hx
  have hxl := hx.lt
  have x0 := hx.cs 0 _ rfl
  clear hx hu hnu
  go_wp2_with fail
  refine (HC6.out _ _ _ HU.out).mono ?_
  rintro e wb ⟨Am, cm, rfl, ho, hb⟩
  have e6v : maV e3 Am cm = .agg #[.int .u64 3, .string ⟨#[97]⟩, .string ⟨#[]⟩, .slice Am 0 cm, .string ⟨#[]⟩, .int .u64 0, .int .u8 0] := rfl
  rw [e6v]
  have HBb := Lib.hid (bthen HB9.out hb (Nat.le_refl _))
  have HIc := Lib.hid ((HI9.out.on hb).on (one_alloc wb (.cells #[.int .u64 3, .string ⟨#[97]⟩, .string ⟨#[]⟩, .slice Am 0 cm, .string ⟨#[]⟩, .int .u64 0, .int .u8 0] 28)))
  have HJc := Lib.hid ((HJ9.out.on hb).on (one_alloc wb (.cells #[.int .u64 3, .string ⟨#[97]⟩, .string ⟨#[]⟩, .slice Am 0 cm, .string ⟨#[]⟩, .int .u64 0, .int .u8 0] 28)))
  have HMc := Lib.hid (BoxC.new (w := w) HBb.out.size #[.int .u64 3, .string ⟨#[97]⟩, .string ⟨#[]⟩, .slice Am 0 cm, .string ⟨#[]⟩, .int .u64 0, .int .u8 0] 28)
  have HBc := Lib.hid (HBb.out.alloc HBb.out.size (.cells #[.int .u64 3, .string ⟨#[97]⟩, .string ⟨#[]⟩, .slice Am 0 cm, .string ⟨#[]⟩, .int .u64 0, .int .u8 0] 28))
  clear hb ho x0 hxl e6v
  go_upto_region 7 with fail
  generalize wb.alloc (.cells #[.int .u64 3, .string ⟨#[97]⟩, .string ⟨#[]⟩, .slice Am 0 cm, .string ⟨#[]⟩, .int .u64 0, .int .u8 0] 28) = wc at *
  generalize wb.heap.size = bm at *
  go_wp2_with fail
  refine (HLW.out _ (HL.out.on HBc.out)).mono ?_
  rintro e wd ⟨rfl, hb⟩
  have HId := Lib.hid (HIc.out.on hb)
  have HJd := Lib.hid (HJc.out.on hb)
  have HMd := Lib.hid (HMc.out.on hb)
  have HBd := Lib.hid (bthen HBc.out hb (Nat.le_refl _))
  clear hb
  have i0 := HId.out.cs 0 _ rfl
  have il := HId.out.lt
  have j0 := HJd.out.cs 0 _ rfl
  have jl := HJd.out.lt
  have m0 := HMd.out.cs 0 _ rfl
  have ml := HMd.out.lt
  go_wp2_with fail
  go_ret
  exact ⟨rfl, HBd.out⟩
end Go.Proofs.YtfbajmiiecmelabDoor
end
