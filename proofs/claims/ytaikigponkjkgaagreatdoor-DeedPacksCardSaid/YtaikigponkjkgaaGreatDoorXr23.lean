/-
 A part of the proof.
-/
import Derived.Test.YtaikigponkjkgaaGreatDoorXr22
import Derived.Great.BuildSlice
import Derived.Deep.RegionHeld3
import Derived.Deep.DeepCutAuto
section
namespace Go.Proofs.YtaikigponkjkgaaGreatDoor
open Go.ChangeShapes Go.WideShapes Go.ChangeAt Go.RowKit
open Go.Lib (hid)
theorem qxr23a (l : List Value) (i : Nat) (v : Value) : l.toArray.setIfInBounds i v = (l.set i v).toArray := by simp
theorem qxr23b (v u : Value) (l : List Value) : (v :: l).set 0 u = u :: l := rfl
theorem qxr23c (v u : Value) (n : Nat) (l : List Value) : (v :: l).set (n + 1) u = v :: l.set n u := rfl
theorem below_dr {B : Nat} {w W : World} (h : Below B w W) : Below B w W.drew := h.drew
theorem below_putW {B : Nat} {w W : World} {p : Addr} (h : Below B w W) (hp : B ≤ p.block) (v : Value) : Below B w (W.setCell p v) := h.setCell hp v
theorem below_told10 (W : World) (B : Nat) (v18 v20 v21 v22 v23 v24 v25 v26 v27 : Value) : Below B W (((((((((W.setCell ⟨B, 18, none⟩ v18).setCell ⟨B, 20, none⟩ v20).setCell ⟨B, 21, none⟩ v21).setCell ⟨B, 22, none⟩ v22).setCell ⟨B, 23, none⟩ v23).setCell ⟨B, 24, none⟩ v24).setCell ⟨B, 25, none⟩ v25).setCell ⟨B, 26, none⟩ v26).setCell ⟨B, 27, none⟩ v27).drew := below_dr (below_putW (p := ⟨B, 27, none⟩) (below_putW (p := ⟨B, 26, none⟩) (below_putW (p := ⟨B, 25, none⟩) (below_putW (p := ⟨B, 24, none⟩) (below_putW (p := ⟨B, 23, none⟩) (below_putW (p := ⟨B, 22, none⟩) (below_putW (p := ⟨B, 21, none⟩) (below_putW (p := ⟨B, 20, none⟩) (below_putW (p := ⟨B, 18, none⟩) (Below.refl B W) (Nat.le_refl _) v18) (Nat.le_refl _) v20) (Nat.le_refl _) v21) (Nat.le_refl _) v22) (Nat.le_refl _) v23) (Nat.le_refl _) v24) (Nat.le_refl _) v25) (Nat.le_refl _) v26) (Nat.le_refl _) v27)
theorem at_world {Q F : World → Prop} {W : World} (hF : F W) (h : ∀ W, F W → Q W) : Q W := h _ hF
theorem told_in (x : De) (A : Option Addr) (c : Nat) (B : Option Addr) (d : Nat) (w : World) : Below w.heap.size w ((w.alloc (.cells #[.int .u8 (x.kd : Int), .int .u64 (x.tick : Int), .string (ofL x.shop.name), .int .u8 (x.shop.sort : Int), .string (ofL x.shop.to), .string (ofL x.q.name), .int .u64 (x.q.most : Int), .int .u64 (x.q.life : Int), .string (ofL x.q.dead), .string (ofL x.bind.shop), .string (ofL x.bind.to), .bool x.bind.up, .string (ofL x.bind.key), .slice A x.bind.want.length c, .bool x.bind.all, .string (ofL x.name), .int .u64 (x.id : Int), .int .u8 (x.how : Int), .int .u8 (x.frm : Int), .int .u8 (x.cd : Int), .int .u64 (x.num : Int), .int .u64 (x.mail.id : Int), .string (ofL x.mail.shop), .string (ofL x.mail.key), .slice B x.mail.head.length d, .string (ofL x.mail.body), .int .u64 (x.mail.due : Int), .int .u8 (x.mail.hops : Int), .string (ofL x.text)] 52)).alloc (.cells #[.int .u8 0, .int .u64 0, .string ⟨#[]⟩, .int .u8 0, .string ⟨#[]⟩, .string ⟨#[]⟩, .int .u64 0, .int .u64 0, .string ⟨#[]⟩, .string ⟨#[]⟩, .string ⟨#[]⟩, .bool false, .string ⟨#[]⟩, .slice none 0 0, .bool false, .string ⟨#[]⟩, .int .u64 0, .int .u8 0, .int .u8 0, .int .u8 0, .int .u64 0, .int .u64 0, .string ⟨#[]⟩, .string ⟨#[]⟩, .slice none 0 0, .string ⟨#[]⟩, .int .u64 0, .int .u8 0, .string ⟨#[]⟩] 52)) ∧ BoxC w w.heap.size (deL x A c B d) ((w.alloc (.cells #[.int .u8 (x.kd : Int), .int .u64 (x.tick : Int), .string (ofL x.shop.name), .int .u8 (x.shop.sort : Int), .string (ofL x.shop.to), .string (ofL x.q.name), .int .u64 (x.q.most : Int), .int .u64 (x.q.life : Int), .string (ofL x.q.dead), .string (ofL x.bind.shop), .string (ofL x.bind.to), .bool x.bind.up, .string (ofL x.bind.key), .slice A x.bind.want.length c, .bool x.bind.all, .string (ofL x.name), .int .u64 (x.id : Int), .int .u8 (x.how : Int), .int .u8 (x.frm : Int), .int .u8 (x.cd : Int), .int .u64 (x.num : Int), .int .u64 (x.mail.id : Int), .string (ofL x.mail.shop), .string (ofL x.mail.key), .slice B x.mail.head.length d, .string (ofL x.mail.body), .int .u64 (x.mail.due : Int), .int .u8 (x.mail.hops : Int), .string (ofL x.text)] 52)).alloc (.cells #[.int .u8 0, .int .u64 0, .string ⟨#[]⟩, .int .u8 0, .string ⟨#[]⟩, .string ⟨#[]⟩, .int .u64 0, .int .u64 0, .string ⟨#[]⟩, .string ⟨#[]⟩, .string ⟨#[]⟩, .bool false, .string ⟨#[]⟩, .slice none 0 0, .bool false, .string ⟨#[]⟩, .int .u64 0, .int .u8 0, .int .u8 0, .int .u8 0, .int .u64 0, .int .u64 0, .string ⟨#[]⟩, .string ⟨#[]⟩, .slice none 0 0, .string ⟨#[]⟩, .int .u64 0, .int .u8 0, .string ⟨#[]⟩] 52)) ∧ BoxC w (w.heap.size + 1) (deL (De.of 0 0) none 0 none 0) ((w.alloc (.cells #[.int .u8 (x.kd : Int), .int .u64 (x.tick : Int), .string (ofL x.shop.name), .int .u8 (x.shop.sort : Int), .string (ofL x.shop.to), .string (ofL x.q.name), .int .u64 (x.q.most : Int), .int .u64 (x.q.life : Int), .string (ofL x.q.dead), .string (ofL x.bind.shop), .string (ofL x.bind.to), .bool x.bind.up, .string (ofL x.bind.key), .slice A x.bind.want.length c, .bool x.bind.all, .string (ofL x.name), .int .u64 (x.id : Int), .int .u8 (x.how : Int), .int .u8 (x.frm : Int), .int .u8 (x.cd : Int), .int .u64 (x.num : Int), .int .u64 (x.mail.id : Int), .string (ofL x.mail.shop), .string (ofL x.mail.key), .slice B x.mail.head.length d, .string (ofL x.mail.body), .int .u64 (x.mail.due : Int), .int .u8 (x.mail.hops : Int), .string (ofL x.text)] 52)).alloc (.cells #[.int .u8 0, .int .u64 0, .string ⟨#[]⟩, .int .u8 0, .string ⟨#[]⟩, .string ⟨#[]⟩, .int .u64 0, .int .u64 0, .string ⟨#[]⟩, .string ⟨#[]⟩, .string ⟨#[]⟩, .bool false, .string ⟨#[]⟩, .slice none 0 0, .bool false, .string ⟨#[]⟩, .int .u64 0, .int .u8 0, .int .u8 0, .int .u8 0, .int .u64 0, .int .u64 0, .string ⟨#[]⟩, .string ⟨#[]⟩, .slice none 0 0, .string ⟨#[]⟩, .int .u64 0, .int .u8 0, .string ⟨#[]⟩] 52)) ∧ ((w.alloc (.cells #[.int .u8 (x.kd : Int), .int .u64 (x.tick : Int), .string (ofL x.shop.name), .int .u8 (x.shop.sort : Int), .string (ofL x.shop.to), .string (ofL x.q.name), .int .u64 (x.q.most : Int), .int .u64 (x.q.life : Int), .string (ofL x.q.dead), .string (ofL x.bind.shop), .string (ofL x.bind.to), .bool x.bind.up, .string (ofL x.bind.key), .slice A x.bind.want.length c, .bool x.bind.all, .string (ofL x.name), .int .u64 (x.id : Int), .int .u8 (x.how : Int), .int .u8 (x.frm : Int), .int .u8 (x.cd : Int), .int .u64 (x.num : Int), .int .u64 (x.mail.id : Int), .string (ofL x.mail.shop), .string (ofL x.mail.key), .slice B x.mail.head.length d, .string (ofL x.mail.body), .int .u64 (x.mail.due : Int), .int .u8 (x.mail.hops : Int), .string (ofL x.text)] 52)).alloc (.cells #[.int .u8 0, .int .u64 0, .string ⟨#[]⟩, .int .u8 0, .string ⟨#[]⟩, .string ⟨#[]⟩, .int .u64 0, .int .u64 0, .string ⟨#[]⟩, .string ⟨#[]⟩, .string ⟨#[]⟩, .bool false, .string ⟨#[]⟩, .slice none 0 0, .bool false, .string ⟨#[]⟩, .int .u64 0, .int .u8 0, .int .u8 0, .int .u8 0, .int .u64 0, .int .u64 0, .string ⟨#[]⟩, .string ⟨#[]⟩, .slice none 0 0, .string ⟨#[]⟩, .int .u64 0, .int .u8 0, .string ⟨#[]⟩] 52)).heap.size = w.heap.size + 2 :=
 ⟨rtTwo w _ _, rtNext (rtAt0 w _ 52) _, rtAt1 w _ _ 52, by simp⟩
theorem De.told_0 {x : De} (hk : x.kd = 0) : x.told = { De.of 0 x.tick with shop := x.shop } := by unfold De.told; simp [hk]
set_option maxRecDepth 100000 in
set_option maxHeartbeats 8000000 in
theorem ddTold_0 (x : De) (A : Option Addr) (c : Nat) (B : Option Addr) (d : Nat) (w : World) (hk : x.kd = 0) : Calls Tryz.prog 72 #[deV x A c B d] w fun e w' => e = .returned (deV x.told none 0 none 0) ∧ Below w.heap.size w w' := by
 rw [De.told_0 hk]
 obtain ⟨kd, tick, shop, q, bind, name, id, how, frm, cd, num, mail, text⟩ := x
 simp only at hk
 subst hk
 simp only [deV]
 go_enter Tryz.func72, Tryz.ntmps72
 go_upto_region 1 with fail
 refine at_world (F := fun W => Below w.heap.size w W ∧ BoxC w w.heap.size (deL ⟨0, tick, shop, q, bind, name, id, how, frm, cd, num, mail, text⟩ A c B d) W ∧ BoxC w (w.heap.size + 1) (deL (De.of 0 0) none 0 none 0) W ∧ W.heap.size = w.heap.size + 2) (told_in ⟨0, tick, shop, q, bind, name, id, how, frm, cd, num, mail, text⟩ A c B d w) (fun W2 h2 => ?_)
 obtain ⟨hb2, hx2, hz2, hs2⟩ := h2
 have HB2 := hid hb2
 have HX2 := hid hx2
 have HZ2 := hid hz2
 have HSZ := hid hs2
 clear hb2 hx2 hz2 hs2
 have c0 : W2.cell? ⟨w.heap.size, 0, none⟩ = some (.int .u8 0) := HX2.out.cs 0 _ rfl
 have c1 : W2.cell? ⟨w.heap.size, 1, none⟩ = some (.int .u64 (tick : Int)) := HX2.out.cs 1 _ rfl
 have cl := HX2.out.lt
 go_upto_region 2 with (first
  | (refine wpList_buildTo (by rfl) 52 _ (by rfl) _ (by rfl) (deL (De.of 0 tick) none 0 none 0).toArray (by kernel_rfl) ?_)
  | (refine wpList_store_new2 (by rfl) 52 _ _ (by rfl) _ (deL (De.of 0 tick) none 0 none 0).toArray (by rfl) (by rfl) (by rw [de_size]; rfl) (by rfl) (de_all _ _ _ _ _) ?_))
 have hz := HSZ.out
 have HX3 := hid (rtNext HX2.out (.cells (deL (De.of 0 tick) none 0 none 0).toArray 52))
 have HZ3 := hid (rtNext HZ2.out (.cells (deL (De.of 0 tick) none 0 none 0).toArray 52))
 have HO3 := hid (BoxC.new (w := w) (W := W2) (by omega) (deL (De.of 0 tick) none 0 none 0).toArray 52)
 have HB3 := hid (bthen HB2.out (rtOne W2 (.cells (deL (De.of 0 tick) none 0 none 0).toArray 52)) (Nat.le_refl _))
 rw [hz] at HO3
 rw [hz]
 clear hz c0 c1 cl
 generalize W2.alloc (.cells (deL (De.of 0 tick) none 0 none 0).toArray 52) = W3 at *
 have c0 : W3.cell? ⟨w.heap.size, 0, none⟩ = some (.int .u8 0) := HX3.out.cs 0 _ rfl
 have c1 : W3.cell? ⟨w.heap.size, 1, none⟩ = some (.int .u64 (tick : Int)) := HX3.out.cs 1 _ rfl
 have c2 : W3.cell? ⟨w.heap.size, 2, none⟩ = some (.string (ofL shop.name)) := HX3.out.cs 2 _ rfl
 have c3 : W3.cell? ⟨w.heap.size, 3, none⟩ = some (.int .u8 (shop.sort : Int)) := HX3.out.cs 3 _ rfl
 have c4 : W3.cell? ⟨w.heap.size, 4, none⟩ = some (.string (ofL shop.to)) := HX3.out.cs 4 _ rfl
 have cl := HX3.out.lt
 have q2 := HO3.out.cs 2 _ rfl
 have q3 := HO3.out.cs 3 _ rfl
 have q4 := HO3.out.cs 4 _ rfl
 have ql := HO3.out.lt
 have qf := HO3.out.s
 unfold Soft at qf
 go_upto_region 22 with fail
 have HO4 := hid (show BoxC w (w.heap.size + 2) (deL ({ De.of 0 tick with shop := shop } : De) none 0 none 0) (((W3.setCell ⟨w.heap.size + 2, 2, none⟩ (.string (ofL shop.name))).setCell ⟨w.heap.size + 2, 3, none⟩ (.int .u8 (shop.sort : Int))).setCell ⟨w.heap.size + 2, 4, none⟩ (.string (ofL shop.to))) from (((HO3.out.put 2 (.string (ofL shop.name)) (by show _ < 29; omega)).put 3 (.int .u8 (shop.sort : Int)) (by show _ < 29; omega)).put 4 (.string (ofL shop.to)) (by show _ < 29; omega)))
 have HZ4 := hid (((HZ3.out.aside (g := w.heap.size + 2) (by omega) 2 (.string (ofL shop.name))).aside (g := w.heap.size + 2) (by omega) 3 (.int .u8 (shop.sort : Int))).aside (g := w.heap.size + 2) (by omega) 4 (.string (ofL shop.to)))
 have HB4 := hid (((HB3.out.setCell (p := ⟨w.heap.size + 2, 2, none⟩) (by show w.heap.size ≤ w.heap.size + 2; omega) (.string (ofL shop.name))).setCell (p := ⟨w.heap.size + 2, 3, none⟩) (by show w.heap.size ≤ w.heap.size + 2; omega) (.int .u8 (shop.sort : Int))).setCell (p := ⟨w.heap.size + 2, 4, none⟩) (by show w.heap.size ≤ w.heap.size + 2; omega) (.string (ofL shop.to)))
 clear c0 c1 c2 c3 c4 cl q2 q3 q4 ql qf
 generalize (((W3.setCell ⟨w.heap.size + 2, 2, none⟩ (.string (ofL shop.name))).setCell ⟨w.heap.size + 2, 3, none⟩ (.int .u8 (shop.sort : Int))).setCell ⟨w.heap.size + 2, 4, none⟩ (.string (ofL shop.to))) = W4 at *
 go_wp2_with (first
  | (refine wpList_load_mid (by rfl) 52 _ (by rfl) (w.heap.size + 2) 0 (by rfl) (deL ({ De.of 0 tick with shop := shop } : De) none 0 none 0) _ HO4.out.cs.range Tryz.underlying52 rfl (by rw [de_size, deL_len]) ?_)
  | (refine wpList_store_mid (by rfl) 52 _ _ (by rfl) (w.heap.size + 1) 0 (deL ({ De.of 0 tick with shop := shop } : De) none 0 none 0).toArray (by rfl) (by rfl) HZ4.out.there (by rw [de_size]; rfl) (de_all _ _ _ _ _) ?_))
 have HR := HZ4.out.over (deL ({ De.of 0 tick with shop := shop } : De) none 0 none 0) rfl
 exact bodyPost_ret (v := deV ({ De.of 0 tick with shop := shop } : De) none 0 none 0) (by simp [results, Tryz.results72, asAddr]; exact de_res _ _ _ _ _ _ _ HR.cs) rfl ⟨rfl, below_setCells (by omega) _ _ HB4.out⟩
theorem De.told_1 {x : De} (hk : x.kd = 1) : x.told = { De.of 1 x.tick with name := x.name } := by unfold De.told; simp [hk]
set_option maxRecDepth 100000 in
set_option maxHeartbeats 8000000 in
theorem ddTold_1 (x : De) (A : Option Addr) (c : Nat) (B : Option Addr) (d : Nat) (w : World) (hk : x.kd = 1) : Calls Tryz.prog 72 #[deV x A c B d] w fun e w' => e = .returned (deV x.told none 0 none 0) ∧ Below w.heap.size w w' := by
 rw [De.told_1 hk]
 obtain ⟨kd, tick, shop, q, bind, name, id, how, frm, cd, num, mail, text⟩ := x
 simp only at hk
 subst hk
 simp only [deV]
 go_enter Tryz.func72, Tryz.ntmps72
 go_upto_region 1 with fail
 refine at_world (F := fun W => Below w.heap.size w W ∧ BoxC w w.heap.size (deL ⟨1, tick, shop, q, bind, name, id, how, frm, cd, num, mail, text⟩ A c B d) W ∧ BoxC w (w.heap.size + 1) (deL (De.of 0 0) none 0 none 0) W ∧ W.heap.size = w.heap.size + 2) (told_in ⟨1, tick, shop, q, bind, name, id, how, frm, cd, num, mail, text⟩ A c B d w) (fun W2 h2 => ?_)
 obtain ⟨hb2, hx2, hz2, hs2⟩ := h2
 have HB2 := hid hb2
 have HX2 := hid hx2
 have HZ2 := hid hz2
 have HSZ := hid hs2
 clear hb2 hx2 hz2 hs2
 have c0 : W2.cell? ⟨w.heap.size, 0, none⟩ = some (.int .u8 1) := HX2.out.cs 0 _ rfl
 have c1 : W2.cell? ⟨w.heap.size, 1, none⟩ = some (.int .u64 (tick : Int)) := HX2.out.cs 1 _ rfl
 have cl := HX2.out.lt
 go_upto_region 2 with (first
  | (refine wpList_buildTo (by rfl) 52 _ (by rfl) _ (by rfl) (deL (De.of 1 tick) none 0 none 0).toArray (by kernel_rfl) ?_)
  | (refine wpList_store_new2 (by rfl) 52 _ _ (by rfl) _ (deL (De.of 1 tick) none 0 none 0).toArray (by rfl) (by rfl) (by rw [de_size]; rfl) (by rfl) (de_all _ _ _ _ _) ?_))
 have hz := HSZ.out
 have HX3 := hid (rtNext HX2.out (.cells (deL (De.of 1 tick) none 0 none 0).toArray 52))
 have HZ3 := hid (rtNext HZ2.out (.cells (deL (De.of 1 tick) none 0 none 0).toArray 52))
 have HO3 := hid (BoxC.new (w := w) (W := W2) (by omega) (deL (De.of 1 tick) none 0 none 0).toArray 52)
 have HB3 := hid (bthen HB2.out (rtOne W2 (.cells (deL (De.of 1 tick) none 0 none 0).toArray 52)) (Nat.le_refl _))
 rw [hz] at HO3
 rw [hz]
 clear hz c0 c1 cl
 generalize W2.alloc (.cells (deL (De.of 1 tick) none 0 none 0).toArray 52) = W3 at *
 have c0 : W3.cell? ⟨w.heap.size, 0, none⟩ = some (.int .u8 1) := HX3.out.cs 0 _ rfl
 have c1 : W3.cell? ⟨w.heap.size, 1, none⟩ = some (.int .u64 (tick : Int)) := HX3.out.cs 1 _ rfl
 have c15 : W3.cell? ⟨w.heap.size, 15, none⟩ = some (.string (ofL name)) := HX3.out.cs 15 _ rfl
 have cl := HX3.out.lt
 have q15 := HO3.out.cs 15 _ rfl
 have ql := HO3.out.lt
 have qf := HO3.out.s
 unfold Soft at qf
 go_upto_region 22 with fail
 have HO4 := hid (show BoxC w (w.heap.size + 2) (deL ({ De.of 1 tick with name := name } : De) none 0 none 0) (W3.setCell ⟨w.heap.size + 2, 15, none⟩ (.string (ofL name))) from (HO3.out.put 15 (.string (ofL name)) (by show _ < 29; omega)))
 have HZ4 := hid (HZ3.out.aside (g := w.heap.size + 2) (by omega) 15 (.string (ofL name)))
 have HB4 := hid (HB3.out.setCell (p := ⟨w.heap.size + 2, 15, none⟩) (by show w.heap.size ≤ w.heap.size + 2; omega) (.string (ofL name)))
 clear c0 c1 c15 cl q15 ql qf
 generalize (W3.setCell ⟨w.heap.size + 2, 15, none⟩ (.string (ofL name))) = W4 at *
 go_wp2_with (first
  | (refine wpList_load_mid (by rfl) 52 _ (by rfl) (w.heap.size + 2) 0 (by rfl) (deL ({ De.of 1 tick with name := name } : De) none 0 none 0) _ HO4.out.cs.range Tryz.underlying52 rfl (by rw [de_size, deL_len]) ?_)
  | (refine wpList_store_mid (by rfl) 52 _ _ (by rfl) (w.heap.size + 1) 0 (deL ({ De.of 1 tick with name := name } : De) none 0 none 0).toArray (by rfl) (by rfl) HZ4.out.there (by rw [de_size]; rfl) (de_all _ _ _ _ _) ?_))
 have HR := HZ4.out.over (deL ({ De.of 1 tick with name := name } : De) none 0 none 0) rfl
 exact bodyPost_ret (v := deV ({ De.of 1 tick with name := name } : De) none 0 none 0) (by simp [results, Tryz.results72, asAddr]; exact de_res _ _ _ _ _ _ _ HR.cs) rfl ⟨rfl, below_setCells (by omega) _ _ HB4.out⟩
theorem De.told_2 {x : De} (hk : x.kd = 2) : x.told = { De.of 2 x.tick with q := x.q } := by unfold De.told; simp [hk]
set_option maxRecDepth 100000 in
set_option maxHeartbeats 8000000 in
theorem ddTold_2 (x : De) (A : Option Addr) (c : Nat) (B : Option Addr) (d : Nat) (w : World) (hk : x.kd = 2) : Calls Tryz.prog 72 #[deV x A c B d] w fun e w' => e = .returned (deV x.told none 0 none 0) ∧ Below w.heap.size w w' := by
 rw [De.told_2 hk]
 obtain ⟨kd, tick, shop, q, bind, name, id, how, frm, cd, num, mail, text⟩ := x
 simp only at hk
 subst hk
 simp only [deV]
 go_enter Tryz.func72, Tryz.ntmps72
 go_upto_region 1 with fail
 refine at_world (F := fun W => Below w.heap.size w W ∧ BoxC w w.heap.size (deL ⟨2, tick, shop, q, bind, name, id, how, frm, cd, num, mail, text⟩ A c B d) W ∧ BoxC w (w.heap.size + 1) (deL (De.of 0 0) none 0 none 0) W ∧ W.heap.size = w.heap.size + 2) (told_in ⟨2, tick, shop, q, bind, name, id, how, frm, cd, num, mail, text⟩ A c B d w) (fun W2 h2 => ?_)
 obtain ⟨hb2, hx2, hz2, hs2⟩ := h2
 have HB2 := hid hb2
 have HX2 := hid hx2
 have HZ2 := hid hz2
 have HSZ := hid hs2
 clear hb2 hx2 hz2 hs2
 have c0 : W2.cell? ⟨w.heap.size, 0, none⟩ = some (.int .u8 2) := HX2.out.cs 0 _ rfl
 have c1 : W2.cell? ⟨w.heap.size, 1, none⟩ = some (.int .u64 (tick : Int)) := HX2.out.cs 1 _ rfl
 have cl := HX2.out.lt
 go_upto_region 2 with (first
  | (refine wpList_buildTo (by rfl) 52 _ (by rfl) _ (by rfl) (deL (De.of 2 tick) none 0 none 0).toArray (by kernel_rfl) ?_)
  | (refine wpList_store_new2 (by rfl) 52 _ _ (by rfl) _ (deL (De.of 2 tick) none 0 none 0).toArray (by rfl) (by rfl) (by rw [de_size]; rfl) (by rfl) (de_all _ _ _ _ _) ?_))
 have hz := HSZ.out
 have HX3 := hid (rtNext HX2.out (.cells (deL (De.of 2 tick) none 0 none 0).toArray 52))
 have HZ3 := hid (rtNext HZ2.out (.cells (deL (De.of 2 tick) none 0 none 0).toArray 52))
 have HO3 := hid (BoxC.new (w := w) (W := W2) (by omega) (deL (De.of 2 tick) none 0 none 0).toArray 52)
 have HB3 := hid (bthen HB2.out (rtOne W2 (.cells (deL (De.of 2 tick) none 0 none 0).toArray 52)) (Nat.le_refl _))
 rw [hz] at HO3
 rw [hz]
 clear hz c0 c1 cl
 generalize W2.alloc (.cells (deL (De.of 2 tick) none 0 none 0).toArray 52) = W3 at *
 have c0 : W3.cell? ⟨w.heap.size, 0, none⟩ = some (.int .u8 2) := HX3.out.cs 0 _ rfl
 have c1 : W3.cell? ⟨w.heap.size, 1, none⟩ = some (.int .u64 (tick : Int)) := HX3.out.cs 1 _ rfl
 have c5 : W3.cell? ⟨w.heap.size, 5, none⟩ = some (.string (ofL q.name)) := HX3.out.cs 5 _ rfl
 have c6 : W3.cell? ⟨w.heap.size, 6, none⟩ = some (.int .u64 (q.most : Int)) := HX3.out.cs 6 _ rfl
 have c7 : W3.cell? ⟨w.heap.size, 7, none⟩ = some (.int .u64 (q.life : Int)) := HX3.out.cs 7 _ rfl
 have c8 : W3.cell? ⟨w.heap.size, 8, none⟩ = some (.string (ofL q.dead)) := HX3.out.cs 8 _ rfl
 have cl := HX3.out.lt
 have q5 := HO3.out.cs 5 _ rfl
 have q6 := HO3.out.cs 6 _ rfl
 have q7 := HO3.out.cs 7 _ rfl
 have q8 := HO3.out.cs 8 _ rfl
 have ql := HO3.out.lt
 have qf := HO3.out.s
 unfold Soft at qf
 go_upto_region 22 with fail
 have HO4 := hid (show BoxC w (w.heap.size + 2) (deL ({ De.of 2 tick with q := q } : De) none 0 none 0) ((((W3.setCell ⟨w.heap.size + 2, 5, none⟩ (.string (ofL q.name))).setCell ⟨w.heap.size + 2, 6, none⟩ (.int .u64 (q.most : Int))).setCell ⟨w.heap.size + 2, 7, none⟩ (.int .u64 (q.life : Int))).setCell ⟨w.heap.size + 2, 8, none⟩ (.string (ofL q.dead))) from ((((HO3.out.put 5 (.string (ofL q.name)) (by show _ < 29; omega)).put 6 (.int .u64 (q.most : Int)) (by show _ < 29; omega)).put 7 (.int .u64 (q.life : Int)) (by show _ < 29; omega)).put 8 (.string (ofL q.dead)) (by show _ < 29; omega)))
 have HZ4 := hid ((((HZ3.out.aside (g := w.heap.size + 2) (by omega) 5 (.string (ofL q.name))).aside (g := w.heap.size + 2) (by omega) 6 (.int .u64 (q.most : Int))).aside (g := w.heap.size + 2) (by omega) 7 (.int .u64 (q.life : Int))).aside (g := w.heap.size + 2) (by omega) 8 (.string (ofL q.dead)))
 have HB4 := hid ((((HB3.out.setCell (p := ⟨w.heap.size + 2, 5, none⟩) (by show w.heap.size ≤ w.heap.size + 2; omega) (.string (ofL q.name))).setCell (p := ⟨w.heap.size + 2, 6, none⟩) (by show w.heap.size ≤ w.heap.size + 2; omega) (.int .u64 (q.most : Int))).setCell (p := ⟨w.heap.size + 2, 7, none⟩) (by show w.heap.size ≤ w.heap.size + 2; omega) (.int .u64 (q.life : Int))).setCell (p := ⟨w.heap.size + 2, 8, none⟩) (by show w.heap.size ≤ w.heap.size + 2; omega) (.string (ofL q.dead)))
 clear c0 c1 c5 c6 c7 c8 cl q5 q6 q7 q8 ql qf
 generalize ((((W3.setCell ⟨w.heap.size + 2, 5, none⟩ (.string (ofL q.name))).setCell ⟨w.heap.size + 2, 6, none⟩ (.int .u64 (q.most : Int))).setCell ⟨w.heap.size + 2, 7, none⟩ (.int .u64 (q.life : Int))).setCell ⟨w.heap.size + 2, 8, none⟩ (.string (ofL q.dead))) = W4 at *
 go_wp2_with (first
  | (refine wpList_load_mid (by rfl) 52 _ (by rfl) (w.heap.size + 2) 0 (by rfl) (deL ({ De.of 2 tick with q := q } : De) none 0 none 0) _ HO4.out.cs.range Tryz.underlying52 rfl (by rw [de_size, deL_len]) ?_)
  | (refine wpList_store_mid (by rfl) 52 _ _ (by rfl) (w.heap.size + 1) 0 (deL ({ De.of 2 tick with q := q } : De) none 0 none 0).toArray (by rfl) (by rfl) HZ4.out.there (by rw [de_size]; rfl) (de_all _ _ _ _ _) ?_))
 have HR := HZ4.out.over (deL ({ De.of 2 tick with q := q } : De) none 0 none 0) rfl
 exact bodyPost_ret (v := deV ({ De.of 2 tick with q := q } : De) none 0 none 0) (by simp [results, Tryz.results72, asAddr]; exact de_res _ _ _ _ _ _ _ HR.cs) rfl ⟨rfl, below_setCells (by omega) _ _ HB4.out⟩
theorem De.told_3 {x : De} (hk : x.kd = 3) : x.told = { De.of 3 x.tick with name := x.name } := by unfold De.told; simp [hk]
set_option maxRecDepth 100000 in
set_option maxHeartbeats 8000000 in
theorem ddTold_3 (x : De) (A : Option Addr) (c : Nat) (B : Option Addr) (d : Nat) (w : World) (hk : x.kd = 3) : Calls Tryz.prog 72 #[deV x A c B d] w fun e w' => e = .returned (deV x.told none 0 none 0) ∧ Below w.heap.size w w' := by
 rw [De.told_3 hk]
 obtain ⟨kd, tick, shop, q, bind, name, id, how, frm, cd, num, mail, text⟩ := x
 simp only at hk
 subst hk
 simp only [deV]
 go_enter Tryz.func72, Tryz.ntmps72
 go_upto_region 1 with fail
 refine at_world (F := fun W => Below w.heap.size w W ∧ BoxC w w.heap.size (deL ⟨3, tick, shop, q, bind, name, id, how, frm, cd, num, mail, text⟩ A c B d) W ∧ BoxC w (w.heap.size + 1) (deL (De.of 0 0) none 0 none 0) W ∧ W.heap.size = w.heap.size + 2) (told_in ⟨3, tick, shop, q, bind, name, id, how, frm, cd, num, mail, text⟩ A c B d w) (fun W2 h2 => ?_)
 obtain ⟨hb2, hx2, hz2, hs2⟩ := h2
 have HB2 := hid hb2
 have HX2 := hid hx2
 have HZ2 := hid hz2
 have HSZ := hid hs2
 clear hb2 hx2 hz2 hs2
 have c0 : W2.cell? ⟨w.heap.size, 0, none⟩ = some (.int .u8 3) := HX2.out.cs 0 _ rfl
 have c1 : W2.cell? ⟨w.heap.size, 1, none⟩ = some (.int .u64 (tick : Int)) := HX2.out.cs 1 _ rfl
 have cl := HX2.out.lt
 go_upto_region 2 with (first
  | (refine wpList_buildTo (by rfl) 52 _ (by rfl) _ (by rfl) (deL (De.of 3 tick) none 0 none 0).toArray (by kernel_rfl) ?_)
  | (refine wpList_store_new2 (by rfl) 52 _ _ (by rfl) _ (deL (De.of 3 tick) none 0 none 0).toArray (by rfl) (by rfl) (by rw [de_size]; rfl) (by rfl) (de_all _ _ _ _ _) ?_))
 have hz := HSZ.out
 have HX3 := hid (rtNext HX2.out (.cells (deL (De.of 3 tick) none 0 none 0).toArray 52))
 have HZ3 := hid (rtNext HZ2.out (.cells (deL (De.of 3 tick) none 0 none 0).toArray 52))
 have HO3 := hid (BoxC.new (w := w) (W := W2) (by omega) (deL (De.of 3 tick) none 0 none 0).toArray 52)
 have HB3 := hid (bthen HB2.out (rtOne W2 (.cells (deL (De.of 3 tick) none 0 none 0).toArray 52)) (Nat.le_refl _))
 rw [hz] at HO3
 rw [hz]
 clear hz c0 c1 cl
 generalize W2.alloc (.cells (deL (De.of 3 tick) none 0 none 0).toArray 52) = W3 at *
 have c0 : W3.cell? ⟨w.heap.size, 0, none⟩ = some (.int .u8 3) := HX3.out.cs 0 _ rfl
 have c1 : W3.cell? ⟨w.heap.size, 1, none⟩ = some (.int .u64 (tick : Int)) := HX3.out.cs 1 _ rfl
 have c15 : W3.cell? ⟨w.heap.size, 15, none⟩ = some (.string (ofL name)) := HX3.out.cs 15 _ rfl
 have cl := HX3.out.lt
 have q15 := HO3.out.cs 15 _ rfl
 have ql := HO3.out.lt
 have qf := HO3.out.s
 unfold Soft at qf
 go_upto_region 22 with fail
 have HO4 := hid (show BoxC w (w.heap.size + 2) (deL ({ De.of 3 tick with name := name } : De) none 0 none 0) (W3.setCell ⟨w.heap.size + 2, 15, none⟩ (.string (ofL name))) from (HO3.out.put 15 (.string (ofL name)) (by show _ < 29; omega)))
 have HZ4 := hid (HZ3.out.aside (g := w.heap.size + 2) (by omega) 15 (.string (ofL name)))
 have HB4 := hid (HB3.out.setCell (p := ⟨w.heap.size + 2, 15, none⟩) (by show w.heap.size ≤ w.heap.size + 2; omega) (.string (ofL name)))
 clear c0 c1 c15 cl q15 ql qf
 generalize (W3.setCell ⟨w.heap.size + 2, 15, none⟩ (.string (ofL name))) = W4 at *
 go_wp2_with (first
  | (refine wpList_load_mid (by rfl) 52 _ (by rfl) (w.heap.size + 2) 0 (by rfl) (deL ({ De.of 3 tick with name := name } : De) none 0 none 0) _ HO4.out.cs.range Tryz.underlying52 rfl (by rw [de_size, deL_len]) ?_)
  | (refine wpList_store_mid (by rfl) 52 _ _ (by rfl) (w.heap.size + 1) 0 (deL ({ De.of 3 tick with name := name } : De) none 0 none 0).toArray (by rfl) (by rfl) HZ4.out.there (by rw [de_size]; rfl) (de_all _ _ _ _ _) ?_))
 have HR := HZ4.out.over (deL ({ De.of 3 tick with name := name } : De) none 0 none 0) rfl
 exact bodyPost_ret (v := deV ({ De.of 3 tick with name := name } : De) none 0 none 0) (by simp [results, Tryz.results72, asAddr]; exact de_res _ _ _ _ _ _ _ HR.cs) rfl ⟨rfl, below_setCells (by omega) _ _ HB4.out⟩
theorem De.told_4 {x : De} (hk : x.kd = 4) : x.told = { De.of 4 x.tick with bind := x.bind } := by unfold De.told; simp [hk]
set_option maxRecDepth 100000 in
set_option maxHeartbeats 8000000 in
theorem ddTold_4 (x : De) (A : Option Addr) (c : Nat) (B : Option Addr) (d : Nat) (w : World) (hk : x.kd = 4) : Calls Tryz.prog 72 #[deV x A c B d] w fun e w' => e = .returned (deV x.told A c none 0) ∧ Below w.heap.size w w' := by
 rw [De.told_4 hk]
 obtain ⟨kd, tick, shop, q, bind, name, id, how, frm, cd, num, mail, text⟩ := x
 simp only at hk
 subst hk
 simp only [deV]
 go_enter Tryz.func72, Tryz.ntmps72
 go_upto_region 1 with fail
 refine at_world (F := fun W => Below w.heap.size w W ∧ BoxC w w.heap.size (deL ⟨4, tick, shop, q, bind, name, id, how, frm, cd, num, mail, text⟩ A c B d) W ∧ BoxC w (w.heap.size + 1) (deL (De.of 0 0) none 0 none 0) W ∧ W.heap.size = w.heap.size + 2) (told_in ⟨4, tick, shop, q, bind, name, id, how, frm, cd, num, mail, text⟩ A c B d w) (fun W2 h2 => ?_)
 obtain ⟨hb2, hx2, hz2, hs2⟩ := h2
 have HB2 := hid hb2
 have HX2 := hid hx2
 have HZ2 := hid hz2
 have HSZ := hid hs2
 clear hb2 hx2 hz2 hs2
 have c0 : W2.cell? ⟨w.heap.size, 0, none⟩ = some (.int .u8 4) := HX2.out.cs 0 _ rfl
 have c1 : W2.cell? ⟨w.heap.size, 1, none⟩ = some (.int .u64 (tick : Int)) := HX2.out.cs 1 _ rfl
 have cl := HX2.out.lt
 go_upto_region 2 with (first
  | (refine wpList_buildTo (by rfl) 52 _ (by rfl) _ (by rfl) (deL (De.of 4 tick) none 0 none 0).toArray (by kernel_rfl) ?_)
  | (refine wpList_store_new2 (by rfl) 52 _ _ (by rfl) _ (deL (De.of 4 tick) none 0 none 0).toArray (by rfl) (by rfl) (by rw [de_size]; rfl) (by rfl) (de_all _ _ _ _ _) ?_))
 have hz := HSZ.out
 have HX3 := hid (rtNext HX2.out (.cells (deL (De.of 4 tick) none 0 none 0).toArray 52))
 have HZ3 := hid (rtNext HZ2.out (.cells (deL (De.of 4 tick) none 0 none 0).toArray 52))
 have HO3 := hid (BoxC.new (w := w) (W := W2) (by omega) (deL (De.of 4 tick) none 0 none 0).toArray 52)
 have HB3 := hid (bthen HB2.out (rtOne W2 (.cells (deL (De.of 4 tick) none 0 none 0).toArray 52)) (Nat.le_refl _))
 rw [hz] at HO3
 rw [hz]
 clear hz c0 c1 cl
 generalize W2.alloc (.cells (deL (De.of 4 tick) none 0 none 0).toArray 52) = W3 at *
 have c0 : W3.cell? ⟨w.heap.size, 0, none⟩ = some (.int .u8 4) := HX3.out.cs 0 _ rfl
 have c1 : W3.cell? ⟨w.heap.size, 1, none⟩ = some (.int .u64 (tick : Int)) := HX3.out.cs 1 _ rfl
 have c9 : W3.cell? ⟨w.heap.size, 9, none⟩ = some (.string (ofL bind.shop)) := HX3.out.cs 9 _ rfl
 have c10 : W3.cell? ⟨w.heap.size, 10, none⟩ = some (.string (ofL bind.to)) := HX3.out.cs 10 _ rfl
 have c11 : W3.cell? ⟨w.heap.size, 11, none⟩ = some (.bool bind.up) := HX3.out.cs 11 _ rfl
 have c12 : W3.cell? ⟨w.heap.size, 12, none⟩ = some (.string (ofL bind.key)) := HX3.out.cs 12 _ rfl
 have c13 : W3.cell? ⟨w.heap.size, 13, none⟩ = some (.slice A bind.want.length c) := HX3.out.cs 13 _ rfl
 have c14 : W3.cell? ⟨w.heap.size, 14, none⟩ = some (.bool bind.all) := HX3.out.cs 14 _ rfl
 have cl := HX3.out.lt
 have q9 := HO3.out.cs 9 _ rfl
 have q10 := HO3.out.cs 10 _ rfl
 have q11 := HO3.out.cs 11 _ rfl
 have q12 := HO3.out.cs 12 _ rfl
 have q13 := HO3.out.cs 13 _ rfl
 have q14 := HO3.out.cs 14 _ rfl
 have ql := HO3.out.lt
 have qf := HO3.out.s
 unfold Soft at qf
 go_upto_region 22 with fail
 have HO4 := hid (show BoxC w (w.heap.size + 2) (deL ({ De.of 4 tick with bind := bind } : De) A c none 0) ((((((W3.setCell ⟨w.heap.size + 2, 9, none⟩ (.string (ofL bind.shop))).setCell ⟨w.heap.size + 2, 10, none⟩ (.string (ofL bind.to))).setCell ⟨w.heap.size + 2, 11, none⟩ (.bool bind.up)).setCell ⟨w.heap.size + 2, 12, none⟩ (.string (ofL bind.key))).setCell ⟨w.heap.size + 2, 13, none⟩ (.slice A bind.want.length c)).setCell ⟨w.heap.size + 2, 14, none⟩ (.bool bind.all)) from ((((((HO3.out.put 9 (.string (ofL bind.shop)) (by show _ < 29; omega)).put 10 (.string (ofL bind.to)) (by show _ < 29; omega)).put 11 (.bool bind.up) (by show _ < 29; omega)).put 12 (.string (ofL bind.key)) (by show _ < 29; omega)).put 13 (.slice A bind.want.length c) (by show _ < 29; omega)).put 14 (.bool bind.all) (by show _ < 29; omega)))
 have HZ4 := hid ((((((HZ3.out.aside (g := w.heap.size + 2) (by omega) 9 (.string (ofL bind.shop))).aside (g := w.heap.size + 2) (by omega) 10 (.string (ofL bind.to))).aside (g := w.heap.size + 2) (by omega) 11 (.bool bind.up)).aside (g := w.heap.size + 2) (by omega) 12 (.string (ofL bind.key))).aside (g := w.heap.size + 2) (by omega) 13 (.slice A bind.want.length c)).aside (g := w.heap.size + 2) (by omega) 14 (.bool bind.all))
 have HB4 := hid ((((((HB3.out.setCell (p := ⟨w.heap.size + 2, 9, none⟩) (by show w.heap.size ≤ w.heap.size + 2; omega) (.string (ofL bind.shop))).setCell (p := ⟨w.heap.size + 2, 10, none⟩) (by show w.heap.size ≤ w.heap.size + 2; omega) (.string (ofL bind.to))).setCell (p := ⟨w.heap.size + 2, 11, none⟩) (by show w.heap.size ≤ w.heap.size + 2; omega) (.bool bind.up)).setCell (p := ⟨w.heap.size + 2, 12, none⟩) (by show w.heap.size ≤ w.heap.size + 2; omega) (.string (ofL bind.key))).setCell (p := ⟨w.heap.size + 2, 13, none⟩) (by show w.heap.size ≤ w.heap.size + 2; omega) (.slice A bind.want.length c)).setCell (p := ⟨w.heap.size + 2, 14, none⟩) (by show w.heap.size ≤ w.heap.size + 2; omega) (.bool bind.all))
 clear c0 c1 c9 c10 c11 c12 c13 c14 cl q9 q10 q11 q12 q13 q14 ql qf
 generalize ((((((W3.setCell ⟨w.heap.size + 2, 9, none⟩ (.string (ofL bind.shop))).setCell ⟨w.heap.size + 2, 10, none⟩ (.string (ofL bind.to))).setCell ⟨w.heap.size + 2, 11, none⟩ (.bool bind.up)).setCell ⟨w.heap.size + 2, 12, none⟩ (.string (ofL bind.key))).setCell ⟨w.heap.size + 2, 13, none⟩ (.slice A bind.want.length c)).setCell ⟨w.heap.size + 2, 14, none⟩ (.bool bind.all)) = W4 at *
 go_wp2_with (first
  | (refine wpList_load_mid (by rfl) 52 _ (by rfl) (w.heap.size + 2) 0 (by rfl) (deL ({ De.of 4 tick with bind := bind } : De) A c none 0) _ HO4.out.cs.range Tryz.underlying52 rfl (by rw [de_size, deL_len]) ?_)
  | (refine wpList_store_mid (by rfl) 52 _ _ (by rfl) (w.heap.size + 1) 0 (deL ({ De.of 4 tick with bind := bind } : De) A c none 0).toArray (by rfl) (by rfl) HZ4.out.there (by rw [de_size]; rfl) (de_all _ _ _ _ _) ?_))
 have HR := HZ4.out.over (deL ({ De.of 4 tick with bind := bind } : De) A c none 0) rfl
 exact bodyPost_ret (v := deV ({ De.of 4 tick with bind := bind } : De) A c none 0) (by simp [results, Tryz.results72, asAddr]; exact de_res _ _ _ _ _ _ _ HR.cs) rfl ⟨rfl, below_setCells (by omega) _ _ HB4.out⟩
theorem De.told_5 {x : De} (hk : x.kd = 5) : x.told = { De.of 5 x.tick with bind := x.bind } := by unfold De.told; simp [hk]
set_option maxRecDepth 100000 in
set_option maxHeartbeats 8000000 in
theorem ddTold_5 (x : De) (A : Option Addr) (c : Nat) (B : Option Addr) (d : Nat) (w : World) (hk : x.kd = 5) : Calls Tryz.prog 72 #[deV x A c B d] w fun e w' => e = .returned (deV x.told A c none 0) ∧ Below w.heap.size w w' := by
 rw [De.told_5 hk]
 obtain ⟨kd, tick, shop, q, bind, name, id, how, frm, cd, num, mail, text⟩ := x
 simp only at hk
 subst hk
 simp only [deV]
 go_enter Tryz.func72, Tryz.ntmps72
 go_upto_region 1 with fail
 refine at_world (F := fun W => Below w.heap.size w W ∧ BoxC w w.heap.size (deL ⟨5, tick, shop, q, bind, name, id, how, frm, cd, num, mail, text⟩ A c B d) W ∧ BoxC w (w.heap.size + 1) (deL (De.of 0 0) none 0 none 0) W ∧ W.heap.size = w.heap.size + 2) (told_in ⟨5, tick, shop, q, bind, name, id, how, frm, cd, num, mail, text⟩ A c B d w) (fun W2 h2 => ?_)
 obtain ⟨hb2, hx2, hz2, hs2⟩ := h2
 have HB2 := hid hb2
 have HX2 := hid hx2
 have HZ2 := hid hz2
 have HSZ := hid hs2
 clear hb2 hx2 hz2 hs2
 have c0 : W2.cell? ⟨w.heap.size, 0, none⟩ = some (.int .u8 5) := HX2.out.cs 0 _ rfl
 have c1 : W2.cell? ⟨w.heap.size, 1, none⟩ = some (.int .u64 (tick : Int)) := HX2.out.cs 1 _ rfl
 have cl := HX2.out.lt
 go_upto_region 2 with (first
  | (refine wpList_buildTo (by rfl) 52 _ (by rfl) _ (by rfl) (deL (De.of 5 tick) none 0 none 0).toArray (by kernel_rfl) ?_)
  | (refine wpList_store_new2 (by rfl) 52 _ _ (by rfl) _ (deL (De.of 5 tick) none 0 none 0).toArray (by rfl) (by rfl) (by rw [de_size]; rfl) (by rfl) (de_all _ _ _ _ _) ?_))
 have hz := HSZ.out
 have HX3 := hid (rtNext HX2.out (.cells (deL (De.of 5 tick) none 0 none 0).toArray 52))
 have HZ3 := hid (rtNext HZ2.out (.cells (deL (De.of 5 tick) none 0 none 0).toArray 52))
 have HO3 := hid (BoxC.new (w := w) (W := W2) (by omega) (deL (De.of 5 tick) none 0 none 0).toArray 52)
 have HB3 := hid (bthen HB2.out (rtOne W2 (.cells (deL (De.of 5 tick) none 0 none 0).toArray 52)) (Nat.le_refl _))
 rw [hz] at HO3
 rw [hz]
 clear hz c0 c1 cl
 generalize W2.alloc (.cells (deL (De.of 5 tick) none 0 none 0).toArray 52) = W3 at *
 have c0 : W3.cell? ⟨w.heap.size, 0, none⟩ = some (.int .u8 5) := HX3.out.cs 0 _ rfl
 have c1 : W3.cell? ⟨w.heap.size, 1, none⟩ = some (.int .u64 (tick : Int)) := HX3.out.cs 1 _ rfl
 have c9 : W3.cell? ⟨w.heap.size, 9, none⟩ = some (.string (ofL bind.shop)) := HX3.out.cs 9 _ rfl
 have c10 : W3.cell? ⟨w.heap.size, 10, none⟩ = some (.string (ofL bind.to)) := HX3.out.cs 10 _ rfl
 have c11 : W3.cell? ⟨w.heap.size, 11, none⟩ = some (.bool bind.up) := HX3.out.cs 11 _ rfl
 have c12 : W3.cell? ⟨w.heap.size, 12, none⟩ = some (.string (ofL bind.key)) := HX3.out.cs 12 _ rfl
 have c13 : W3.cell? ⟨w.heap.size, 13, none⟩ = some (.slice A bind.want.length c) := HX3.out.cs 13 _ rfl
 have c14 : W3.cell? ⟨w.heap.size, 14, none⟩ = some (.bool bind.all) := HX3.out.cs 14 _ rfl
 have cl := HX3.out.lt
 have q9 := HO3.out.cs 9 _ rfl
 have q10 := HO3.out.cs 10 _ rfl
 have q11 := HO3.out.cs 11 _ rfl
 have q12 := HO3.out.cs 12 _ rfl
 have q13 := HO3.out.cs 13 _ rfl
 have q14 := HO3.out.cs 14 _ rfl
 have ql := HO3.out.lt
 have qf := HO3.out.s
 unfold Soft at qf
 go_upto_region 22 with fail
 have HO4 := hid (show BoxC w (w.heap.size + 2) (deL ({ De.of 5 tick with bind := bind } : De) A c none 0) ((((((W3.setCell ⟨w.heap.size + 2, 9, none⟩ (.string (ofL bind.shop))).setCell ⟨w.heap.size + 2, 10, none⟩ (.string (ofL bind.to))).setCell ⟨w.heap.size + 2, 11, none⟩ (.bool bind.up)).setCell ⟨w.heap.size + 2, 12, none⟩ (.string (ofL bind.key))).setCell ⟨w.heap.size + 2, 13, none⟩ (.slice A bind.want.length c)).setCell ⟨w.heap.size + 2, 14, none⟩ (.bool bind.all)) from ((((((HO3.out.put 9 (.string (ofL bind.shop)) (by show _ < 29; omega)).put 10 (.string (ofL bind.to)) (by show _ < 29; omega)).put 11 (.bool bind.up) (by show _ < 29; omega)).put 12 (.string (ofL bind.key)) (by show _ < 29; omega)).put 13 (.slice A bind.want.length c) (by show _ < 29; omega)).put 14 (.bool bind.all) (by show _ < 29; omega)))
 have HZ4 := hid ((((((HZ3.out.aside (g := w.heap.size + 2) (by omega) 9 (.string (ofL bind.shop))).aside (g := w.heap.size + 2) (by omega) 10 (.string (ofL bind.to))).aside (g := w.heap.size + 2) (by omega) 11 (.bool bind.up)).aside (g := w.heap.size + 2) (by omega) 12 (.string (ofL bind.key))).aside (g := w.heap.size + 2) (by omega) 13 (.slice A bind.want.length c)).aside (g := w.heap.size + 2) (by omega) 14 (.bool bind.all))
 have HB4 := hid ((((((HB3.out.setCell (p := ⟨w.heap.size + 2, 9, none⟩) (by show w.heap.size ≤ w.heap.size + 2; omega) (.string (ofL bind.shop))).setCell (p := ⟨w.heap.size + 2, 10, none⟩) (by show w.heap.size ≤ w.heap.size + 2; omega) (.string (ofL bind.to))).setCell (p := ⟨w.heap.size + 2, 11, none⟩) (by show w.heap.size ≤ w.heap.size + 2; omega) (.bool bind.up)).setCell (p := ⟨w.heap.size + 2, 12, none⟩) (by show w.heap.size ≤ w.heap.size + 2; omega) (.string (ofL bind.key))).setCell (p := ⟨w.heap.size + 2, 13, none⟩) (by show w.heap.size ≤ w.heap.size + 2; omega) (.slice A bind.want.length c)).setCell (p := ⟨w.heap.size + 2, 14, none⟩) (by show w.heap.size ≤ w.heap.size + 2; omega) (.bool bind.all))
 clear c0 c1 c9 c10 c11 c12 c13 c14 cl q9 q10 q11 q12 q13 q14 ql qf
 generalize ((((((W3.setCell ⟨w.heap.size + 2, 9, none⟩ (.string (ofL bind.shop))).setCell ⟨w.heap.size + 2, 10, none⟩ (.string (ofL bind.to))).setCell ⟨w.heap.size + 2, 11, none⟩ (.bool bind.up)).setCell ⟨w.heap.size + 2, 12, none⟩ (.string (ofL bind.key))).setCell ⟨w.heap.size + 2, 13, none⟩ (.slice A bind.want.length c)).setCell ⟨w.heap.size + 2, 14, none⟩ (.bool bind.all)) = W4 at *
 go_wp2_with (first
  | (refine wpList_load_mid (by rfl) 52 _ (by rfl) (w.heap.size + 2) 0 (by rfl) (deL ({ De.of 5 tick with bind := bind } : De) A c none 0) _ HO4.out.cs.range Tryz.underlying52 rfl (by rw [de_size, deL_len]) ?_)
  | (refine wpList_store_mid (by rfl) 52 _ _ (by rfl) (w.heap.size + 1) 0 (deL ({ De.of 5 tick with bind := bind } : De) A c none 0).toArray (by rfl) (by rfl) HZ4.out.there (by rw [de_size]; rfl) (de_all _ _ _ _ _) ?_))
 have HR := HZ4.out.over (deL ({ De.of 5 tick with bind := bind } : De) A c none 0) rfl
 exact bodyPost_ret (v := deV ({ De.of 5 tick with bind := bind } : De) A c none 0) (by simp [results, Tryz.results72, asAddr]; exact de_res _ _ _ _ _ _ _ HR.cs) rfl ⟨rfl, below_setCells (by omega) _ _ HB4.out⟩
theorem De.told_6 {x : De} (hk : x.kd = 6) : x.told = { De.of 6 x.tick with mail := x.mail } := by unfold De.told; simp [hk]
set_option maxRecDepth 100000 in
set_option maxHeartbeats 8000000 in
theorem ddTold_6 (x : De) (A : Option Addr) (c : Nat) (B : Option Addr) (d : Nat) (w : World) (hk : x.kd = 6) : Calls Tryz.prog 72 #[deV x A c B d] w fun e w' => e = .returned (deV x.told none 0 B d) ∧ Below w.heap.size w w' := by
 rw [De.told_6 hk]
 obtain ⟨kd, tick, shop, q, bind, name, id, how, frm, cd, num, mail, text⟩ := x
 simp only at hk
 subst hk
 simp only [deV]
 go_enter Tryz.func72, Tryz.ntmps72
 go_upto_region 1 with fail
 refine at_world (F := fun W => Below w.heap.size w W ∧ BoxC w w.heap.size (deL ⟨6, tick, shop, q, bind, name, id, how, frm, cd, num, mail, text⟩ A c B d) W ∧ BoxC w (w.heap.size + 1) (deL (De.of 0 0) none 0 none 0) W ∧ W.heap.size = w.heap.size + 2) (told_in ⟨6, tick, shop, q, bind, name, id, how, frm, cd, num, mail, text⟩ A c B d w) (fun W2 h2 => ?_)
 obtain ⟨hb2, hx2, hz2, hs2⟩ := h2
 have HB2 := hid hb2
 have HX2 := hid hx2
 have HZ2 := hid hz2
 have HSZ := hid hs2
 clear hb2 hx2 hz2 hs2
 have c0 : W2.cell? ⟨w.heap.size, 0, none⟩ = some (.int .u8 6) := HX2.out.cs 0 _ rfl
 have c1 : W2.cell? ⟨w.heap.size, 1, none⟩ = some (.int .u64 (tick : Int)) := HX2.out.cs 1 _ rfl
 have cl := HX2.out.lt
 go_upto_region 2 with (first
  | (refine wpList_buildTo (by rfl) 52 _ (by rfl) _ (by rfl) (deL (De.of 6 tick) none 0 none 0).toArray (by kernel_rfl) ?_)
  | (refine wpList_store_new2 (by rfl) 52 _ _ (by rfl) _ (deL (De.of 6 tick) none 0 none 0).toArray (by rfl) (by rfl) (by rw [de_size]; rfl) (by rfl) (de_all _ _ _ _ _) ?_))
 have hz := HSZ.out
 have HX3 := hid (rtNext HX2.out (.cells (deL (De.of 6 tick) none 0 none 0).toArray 52))
 have HZ3 := hid (rtNext HZ2.out (.cells (deL (De.of 6 tick) none 0 none 0).toArray 52))
 have HO3 := hid (BoxC.new (w := w) (W := W2) (by omega) (deL (De.of 6 tick) none 0 none 0).toArray 52)
 have HB3 := hid (bthen HB2.out (rtOne W2 (.cells (deL (De.of 6 tick) none 0 none 0).toArray 52)) (Nat.le_refl _))
 rw [hz] at HO3
 rw [hz]
 clear hz c0 c1 cl
 generalize W2.alloc (.cells (deL (De.of 6 tick) none 0 none 0).toArray 52) = W3 at *
 have c0 : W3.cell? ⟨w.heap.size, 0, none⟩ = some (.int .u8 6) := HX3.out.cs 0 _ rfl
 have c1 : W3.cell? ⟨w.heap.size, 1, none⟩ = some (.int .u64 (tick : Int)) := HX3.out.cs 1 _ rfl
 have c21 : W3.cell? ⟨w.heap.size, 21, none⟩ = some (.int .u64 (mail.id : Int)) := HX3.out.cs 21 _ rfl
 have c22 : W3.cell? ⟨w.heap.size, 22, none⟩ = some (.string (ofL mail.shop)) := HX3.out.cs 22 _ rfl
 have c23 : W3.cell? ⟨w.heap.size, 23, none⟩ = some (.string (ofL mail.key)) := HX3.out.cs 23 _ rfl
 have c24 : W3.cell? ⟨w.heap.size, 24, none⟩ = some (.slice B mail.head.length d) := HX3.out.cs 24 _ rfl
 have c25 : W3.cell? ⟨w.heap.size, 25, none⟩ = some (.string (ofL mail.body)) := HX3.out.cs 25 _ rfl
 have c26 : W3.cell? ⟨w.heap.size, 26, none⟩ = some (.int .u64 (mail.due : Int)) := HX3.out.cs 26 _ rfl
 have c27 : W3.cell? ⟨w.heap.size, 27, none⟩ = some (.int .u8 (mail.hops : Int)) := HX3.out.cs 27 _ rfl
 have cl := HX3.out.lt
 have q21 := HO3.out.cs 21 _ rfl
 have q22 := HO3.out.cs 22 _ rfl
 have q23 := HO3.out.cs 23 _ rfl
 have q24 := HO3.out.cs 24 _ rfl
 have q25 := HO3.out.cs 25 _ rfl
 have q26 := HO3.out.cs 26 _ rfl
 have q27 := HO3.out.cs 27 _ rfl
 have ql := HO3.out.lt
 have qf := HO3.out.s
 unfold Soft at qf
 go_upto_region 22 with fail
 have HO4 := hid (show BoxC w (w.heap.size + 2) (deL ({ De.of 6 tick with mail := mail } : De) none 0 B d) (((((((W3.setCell ⟨w.heap.size + 2, 21, none⟩ (.int .u64 (mail.id : Int))).setCell ⟨w.heap.size + 2, 22, none⟩ (.string (ofL mail.shop))).setCell ⟨w.heap.size + 2, 23, none⟩ (.string (ofL mail.key))).setCell ⟨w.heap.size + 2, 24, none⟩ (.slice B mail.head.length d)).setCell ⟨w.heap.size + 2, 25, none⟩ (.string (ofL mail.body))).setCell ⟨w.heap.size + 2, 26, none⟩ (.int .u64 (mail.due : Int))).setCell ⟨w.heap.size + 2, 27, none⟩ (.int .u8 (mail.hops : Int))) from (((((((HO3.out.put 21 (.int .u64 (mail.id : Int)) (by show _ < 29; omega)).put 22 (.string (ofL mail.shop)) (by show _ < 29; omega)).put 23 (.string (ofL mail.key)) (by show _ < 29; omega)).put 24 (.slice B mail.head.length d) (by show _ < 29; omega)).put 25 (.string (ofL mail.body)) (by show _ < 29; omega)).put 26 (.int .u64 (mail.due : Int)) (by show _ < 29; omega)).put 27 (.int .u8 (mail.hops : Int)) (by show _ < 29; omega)))
 have HZ4 := hid (((((((HZ3.out.aside (g := w.heap.size + 2) (by omega) 21 (.int .u64 (mail.id : Int))).aside (g := w.heap.size + 2) (by omega) 22 (.string (ofL mail.shop))).aside (g := w.heap.size + 2) (by omega) 23 (.string (ofL mail.key))).aside (g := w.heap.size + 2) (by omega) 24 (.slice B mail.head.length d)).aside (g := w.heap.size + 2) (by omega) 25 (.string (ofL mail.body))).aside (g := w.heap.size + 2) (by omega) 26 (.int .u64 (mail.due : Int))).aside (g := w.heap.size + 2) (by omega) 27 (.int .u8 (mail.hops : Int)))
 have HB4 := hid (((((((HB3.out.setCell (p := ⟨w.heap.size + 2, 21, none⟩) (by show w.heap.size ≤ w.heap.size + 2; omega) (.int .u64 (mail.id : Int))).setCell (p := ⟨w.heap.size + 2, 22, none⟩) (by show w.heap.size ≤ w.heap.size + 2; omega) (.string (ofL mail.shop))).setCell (p := ⟨w.heap.size + 2, 23, none⟩) (by show w.heap.size ≤ w.heap.size + 2; omega) (.string (ofL mail.key))).setCell (p := ⟨w.heap.size + 2, 24, none⟩) (by show w.heap.size ≤ w.heap.size + 2; omega) (.slice B mail.head.length d)).setCell (p := ⟨w.heap.size + 2, 25, none⟩) (by show w.heap.size ≤ w.heap.size + 2; omega) (.string (ofL mail.body))).setCell (p := ⟨w.heap.size + 2, 26, none⟩) (by show w.heap.size ≤ w.heap.size + 2; omega) (.int .u64 (mail.due : Int))).setCell (p := ⟨w.heap.size + 2, 27, none⟩) (by show w.heap.size ≤ w.heap.size + 2; omega) (.int .u8 (mail.hops : Int)))
 clear c0 c1 c21 c22 c23 c24 c25 c26 c27 cl q21 q22 q23 q24 q25 q26 q27 ql qf
 generalize (((((((W3.setCell ⟨w.heap.size + 2, 21, none⟩ (.int .u64 (mail.id : Int))).setCell ⟨w.heap.size + 2, 22, none⟩ (.string (ofL mail.shop))).setCell ⟨w.heap.size + 2, 23, none⟩ (.string (ofL mail.key))).setCell ⟨w.heap.size + 2, 24, none⟩ (.slice B mail.head.length d)).setCell ⟨w.heap.size + 2, 25, none⟩ (.string (ofL mail.body))).setCell ⟨w.heap.size + 2, 26, none⟩ (.int .u64 (mail.due : Int))).setCell ⟨w.heap.size + 2, 27, none⟩ (.int .u8 (mail.hops : Int))) = W4 at *
 go_wp2_with (first
  | (refine wpList_load_mid (by rfl) 52 _ (by rfl) (w.heap.size + 2) 0 (by rfl) (deL ({ De.of 6 tick with mail := mail } : De) none 0 B d) _ HO4.out.cs.range Tryz.underlying52 rfl (by rw [de_size, deL_len]) ?_)
  | (refine wpList_store_mid (by rfl) 52 _ _ (by rfl) (w.heap.size + 1) 0 (deL ({ De.of 6 tick with mail := mail } : De) none 0 B d).toArray (by rfl) (by rfl) HZ4.out.there (by rw [de_size]; rfl) (de_all _ _ _ _ _) ?_))
 have HR := HZ4.out.over (deL ({ De.of 6 tick with mail := mail } : De) none 0 B d) rfl
 exact bodyPost_ret (v := deV ({ De.of 6 tick with mail := mail } : De) none 0 B d) (by simp [results, Tryz.results72, asAddr]; exact de_res _ _ _ _ _ _ _ HR.cs) rfl ⟨rfl, below_setCells (by omega) _ _ HB4.out⟩
theorem De.told_7 {x : De} (hk : x.kd = 7) : x.told = { De.of 7 x.tick with name := x.name } := by unfold De.told; simp [hk]
set_option maxRecDepth 100000 in
set_option maxHeartbeats 8000000 in
theorem ddTold_7 (x : De) (A : Option Addr) (c : Nat) (B : Option Addr) (d : Nat) (w : World) (hk : x.kd = 7) : Calls Tryz.prog 72 #[deV x A c B d] w fun e w' => e = .returned (deV x.told none 0 none 0) ∧ Below w.heap.size w w' := by
 rw [De.told_7 hk]
 obtain ⟨kd, tick, shop, q, bind, name, id, how, frm, cd, num, mail, text⟩ := x
 simp only at hk
 subst hk
 simp only [deV]
 go_enter Tryz.func72, Tryz.ntmps72
 go_upto_region 1 with fail
 refine at_world (F := fun W => Below w.heap.size w W ∧ BoxC w w.heap.size (deL ⟨7, tick, shop, q, bind, name, id, how, frm, cd, num, mail, text⟩ A c B d) W ∧ BoxC w (w.heap.size + 1) (deL (De.of 0 0) none 0 none 0) W ∧ W.heap.size = w.heap.size + 2) (told_in ⟨7, tick, shop, q, bind, name, id, how, frm, cd, num, mail, text⟩ A c B d w) (fun W2 h2 => ?_)
 obtain ⟨hb2, hx2, hz2, hs2⟩ := h2
 have HB2 := hid hb2
 have HX2 := hid hx2
 have HZ2 := hid hz2
 have HSZ := hid hs2
 clear hb2 hx2 hz2 hs2
 have c0 : W2.cell? ⟨w.heap.size, 0, none⟩ = some (.int .u8 7) := HX2.out.cs 0 _ rfl
 have c1 : W2.cell? ⟨w.heap.size, 1, none⟩ = some (.int .u64 (tick : Int)) := HX2.out.cs 1 _ rfl
 have cl := HX2.out.lt
 go_upto_region 2 with (first
  | (refine wpList_buildTo (by rfl) 52 _ (by rfl) _ (by rfl) (deL (De.of 7 tick) none 0 none 0).toArray (by kernel_rfl) ?_)
  | (refine wpList_store_new2 (by rfl) 52 _ _ (by rfl) _ (deL (De.of 7 tick) none 0 none 0).toArray (by rfl) (by rfl) (by rw [de_size]; rfl) (by rfl) (de_all _ _ _ _ _) ?_))
 have hz := HSZ.out
 have HX3 := hid (rtNext HX2.out (.cells (deL (De.of 7 tick) none 0 none 0).toArray 52))
 have HZ3 := hid (rtNext HZ2.out (.cells (deL (De.of 7 tick) none 0 none 0).toArray 52))
 have HO3 := hid (BoxC.new (w := w) (W := W2) (by omega) (deL (De.of 7 tick) none 0 none 0).toArray 52)
 have HB3 := hid (bthen HB2.out (rtOne W2 (.cells (deL (De.of 7 tick) none 0 none 0).toArray 52)) (Nat.le_refl _))
 rw [hz] at HO3
 rw [hz]
 clear hz c0 c1 cl
 generalize W2.alloc (.cells (deL (De.of 7 tick) none 0 none 0).toArray 52) = W3 at *
 have c0 : W3.cell? ⟨w.heap.size, 0, none⟩ = some (.int .u8 7) := HX3.out.cs 0 _ rfl
 have c1 : W3.cell? ⟨w.heap.size, 1, none⟩ = some (.int .u64 (tick : Int)) := HX3.out.cs 1 _ rfl
 have c15 : W3.cell? ⟨w.heap.size, 15, none⟩ = some (.string (ofL name)) := HX3.out.cs 15 _ rfl
 have cl := HX3.out.lt
 have q15 := HO3.out.cs 15 _ rfl
 have ql := HO3.out.lt
 have qf := HO3.out.s
 unfold Soft at qf
 go_upto_region 22 with fail
 have HO4 := hid (show BoxC w (w.heap.size + 2) (deL ({ De.of 7 tick with name := name } : De) none 0 none 0) (W3.setCell ⟨w.heap.size + 2, 15, none⟩ (.string (ofL name))) from (HO3.out.put 15 (.string (ofL name)) (by show _ < 29; omega)))
 have HZ4 := hid (HZ3.out.aside (g := w.heap.size + 2) (by omega) 15 (.string (ofL name)))
 have HB4 := hid (HB3.out.setCell (p := ⟨w.heap.size + 2, 15, none⟩) (by show w.heap.size ≤ w.heap.size + 2; omega) (.string (ofL name)))
 clear c0 c1 c15 cl q15 ql qf
 generalize (W3.setCell ⟨w.heap.size + 2, 15, none⟩ (.string (ofL name))) = W4 at *
 go_wp2_with (first
  | (refine wpList_load_mid (by rfl) 52 _ (by rfl) (w.heap.size + 2) 0 (by rfl) (deL ({ De.of 7 tick with name := name } : De) none 0 none 0) _ HO4.out.cs.range Tryz.underlying52 rfl (by rw [de_size, deL_len]) ?_)
  | (refine wpList_store_mid (by rfl) 52 _ _ (by rfl) (w.heap.size + 1) 0 (deL ({ De.of 7 tick with name := name } : De) none 0 none 0).toArray (by rfl) (by rfl) HZ4.out.there (by rw [de_size]; rfl) (de_all _ _ _ _ _) ?_))
 have HR := HZ4.out.over (deL ({ De.of 7 tick with name := name } : De) none 0 none 0) rfl
 exact bodyPost_ret (v := deV ({ De.of 7 tick with name := name } : De) none 0 none 0) (by simp [results, Tryz.results72, asAddr]; exact de_res _ _ _ _ _ _ _ HR.cs) rfl ⟨rfl, below_setCells (by omega) _ _ HB4.out⟩
theorem De.told_8 {x : De} (hk : x.kd = 8) : x.told = { De.of 8 x.tick with name := x.name, id := x.id, how := x.how } := by unfold De.told; simp [hk]
set_option maxRecDepth 100000 in
set_option maxHeartbeats 8000000 in
theorem ddTold_8 (x : De) (A : Option Addr) (c : Nat) (B : Option Addr) (d : Nat) (w : World) (hk : x.kd = 8) : Calls Tryz.prog 72 #[deV x A c B d] w fun e w' => e = .returned (deV x.told none 0 none 0) ∧ Below w.heap.size w w' := by
 rw [De.told_8 hk]
 obtain ⟨kd, tick, shop, q, bind, name, id, how, frm, cd, num, mail, text⟩ := x
 simp only at hk
 subst hk
 simp only [deV]
 go_enter Tryz.func72, Tryz.ntmps72
 go_upto_region 1 with fail
 refine at_world (F := fun W => Below w.heap.size w W ∧ BoxC w w.heap.size (deL ⟨8, tick, shop, q, bind, name, id, how, frm, cd, num, mail, text⟩ A c B d) W ∧ BoxC w (w.heap.size + 1) (deL (De.of 0 0) none 0 none 0) W ∧ W.heap.size = w.heap.size + 2) (told_in ⟨8, tick, shop, q, bind, name, id, how, frm, cd, num, mail, text⟩ A c B d w) (fun W2 h2 => ?_)
 obtain ⟨hb2, hx2, hz2, hs2⟩ := h2
 have HB2 := hid hb2
 have HX2 := hid hx2
 have HZ2 := hid hz2
 have HSZ := hid hs2
 clear hb2 hx2 hz2 hs2
 have c0 : W2.cell? ⟨w.heap.size, 0, none⟩ = some (.int .u8 8) := HX2.out.cs 0 _ rfl
 have c1 : W2.cell? ⟨w.heap.size, 1, none⟩ = some (.int .u64 (tick : Int)) := HX2.out.cs 1 _ rfl
 have cl := HX2.out.lt
 go_upto_region 2 with (first
  | (refine wpList_buildTo (by rfl) 52 _ (by rfl) _ (by rfl) (deL (De.of 8 tick) none 0 none 0).toArray (by kernel_rfl) ?_)
  | (refine wpList_store_new2 (by rfl) 52 _ _ (by rfl) _ (deL (De.of 8 tick) none 0 none 0).toArray (by rfl) (by rfl) (by rw [de_size]; rfl) (by rfl) (de_all _ _ _ _ _) ?_))
 have hz := HSZ.out
 have HX3 := hid (rtNext HX2.out (.cells (deL (De.of 8 tick) none 0 none 0).toArray 52))
 have HZ3 := hid (rtNext HZ2.out (.cells (deL (De.of 8 tick) none 0 none 0).toArray 52))
 have HO3 := hid (BoxC.new (w := w) (W := W2) (by omega) (deL (De.of 8 tick) none 0 none 0).toArray 52)
 have HB3 := hid (bthen HB2.out (rtOne W2 (.cells (deL (De.of 8 tick) none 0 none 0).toArray 52)) (Nat.le_refl _))
 rw [hz] at HO3
 rw [hz]
 clear hz c0 c1 cl
 generalize W2.alloc (.cells (deL (De.of 8 tick) none 0 none 0).toArray 52) = W3 at *
 have c0 : W3.cell? ⟨w.heap.size, 0, none⟩ = some (.int .u8 8) := HX3.out.cs 0 _ rfl
 have c1 : W3.cell? ⟨w.heap.size, 1, none⟩ = some (.int .u64 (tick : Int)) := HX3.out.cs 1 _ rfl
 have c15 : W3.cell? ⟨w.heap.size, 15, none⟩ = some (.string (ofL name)) := HX3.out.cs 15 _ rfl
 have c16 : W3.cell? ⟨w.heap.size, 16, none⟩ = some (.int .u64 (id : Int)) := HX3.out.cs 16 _ rfl
 have c17 : W3.cell? ⟨w.heap.size, 17, none⟩ = some (.int .u8 (how : Int)) := HX3.out.cs 17 _ rfl
 have cl := HX3.out.lt
 have q15 := HO3.out.cs 15 _ rfl
 have q16 := HO3.out.cs 16 _ rfl
 have q17 := HO3.out.cs 17 _ rfl
 have ql := HO3.out.lt
 have qf := HO3.out.s
 unfold Soft at qf
 go_upto_region 17 with fail
 have HBW := hid (show w.heap.size + 2 ≤ W3.heap.size by have := HO3.out.lt; omega)
 refine wp_region_held_drew (S := fun a => Below ((w.heap.size + 2)) W3 a) (by kernel_rfl) (by (try dsimp only); exact (Below.refl _ _).drew) (fun hHeld => ?_)
 refine wpAnyH_take (i := 0) (oi := ⟨some 41, _, _, _, _, _⟩) (v := ?_) rfl (by kernel_rfl) (by kernel_rfl) (by kernel_rfl) (fun _ _ _ h => h) (Or.inl ⟨by rfl, ?_⟩) (by assumption) ?_
 rotate_left 1
 ·intro wS hSw; (try dsimp only at hSw); go_simp; try with_reducible rfl
 try simp only [Act.put, qxr23a, qxr23b, qxr23c]
 refine wpAnyH_take (i := 1) (oi := ⟨some 42, _, _, _, _, _⟩) (v := ?_) rfl (by kernel_rfl) (by kernel_rfl) (by kernel_rfl) (fun _ _ _ h => h) (Or.inl ⟨by rfl, ?_⟩) (by assumption) ?_
 rotate_left 1
 ·intro wS hSw; (try dsimp only at hSw); have c0 := (hSw.cell (p := ⟨w.heap.size, 0, none⟩) (by show _ < _; simp)).trans c0; have c1 := (hSw.cell (p := ⟨w.heap.size, 1, none⟩) (by show _ < _; simp)).trans c1; have c15 := (hSw.cell (p := ⟨w.heap.size, 15, none⟩) (by show _ < _; simp)).trans c15; have c16 := (hSw.cell (p := ⟨w.heap.size, 16, none⟩) (by show _ < _; simp)).trans c16; have c17 := (hSw.cell (p := ⟨w.heap.size, 17, none⟩) (by show _ < _; simp)).trans c17; go_simp; try with_reducible rfl
 try simp only [Act.put, qxr23a, qxr23b, qxr23c]
 refine wpAnyH_take (i := 2) (oi := ⟨some 43, _, _, _, _, _⟩) (v := ?_) rfl (by kernel_rfl) (by kernel_rfl) (by kernel_rfl) (fun _ _ _ h => h) (Or.inl ⟨by rfl, ?_⟩) (by assumption) ?_
 rotate_left 1
 ·intro wS hSw; (try dsimp only at hSw); go_simp; try with_reducible rfl
 try simp only [Act.put, qxr23a, qxr23b, qxr23c]
 refine wpAnyH_take (i := 3) (oi := ⟨some 44, _, _, _, _, _⟩) (v := ?_) rfl (by kernel_rfl) (by kernel_rfl) (by kernel_rfl) (fun _ _ _ h => h) (Or.inl ⟨by rfl, ?_⟩) (by assumption) ?_
 rotate_left 1
 ·intro wS hSw; (try dsimp only at hSw); have c0 := (hSw.cell (p := ⟨w.heap.size, 0, none⟩) (by show _ < _; simp)).trans c0; have c1 := (hSw.cell (p := ⟨w.heap.size, 1, none⟩) (by show _ < _; simp)).trans c1; have c15 := (hSw.cell (p := ⟨w.heap.size, 15, none⟩) (by show _ < _; simp)).trans c15; have c16 := (hSw.cell (p := ⟨w.heap.size, 16, none⟩) (by show _ < _; simp)).trans c16; have c17 := (hSw.cell (p := ⟨w.heap.size, 17, none⟩) (by show _ < _; simp)).trans c17; go_simp; try with_reducible rfl
 try simp only [Act.put, qxr23a, qxr23b, qxr23c]
 refine wpAnyH_take (i := 4) (oi := ⟨some 45, _, _, _, _, _⟩) (v := ?_) rfl (by kernel_rfl) (by kernel_rfl) (by kernel_rfl) (fun _ _ _ h => h) (Or.inl ⟨by rfl, ?_⟩) (by assumption) ?_
 rotate_left 1
 ·intro wS hSw; (try dsimp only at hSw); go_simp; try with_reducible rfl
 try simp only [Act.put, qxr23a, qxr23b, qxr23c]
 refine wpAnyH_take (i := 5) (oi := ⟨some 46, _, _, _, _, _⟩) (v := ?_) rfl (by kernel_rfl) (by kernel_rfl) (by kernel_rfl) (fun _ _ _ h => h) (Or.inl ⟨by rfl, ?_⟩) (by assumption) ?_
 rotate_left 1
 ·intro wS hSw; (try dsimp only at hSw); have c0 := (hSw.cell (p := ⟨w.heap.size, 0, none⟩) (by show _ < _; simp)).trans c0; have c1 := (hSw.cell (p := ⟨w.heap.size, 1, none⟩) (by show _ < _; simp)).trans c1; have c15 := (hSw.cell (p := ⟨w.heap.size, 15, none⟩) (by show _ < _; simp)).trans c15; have c16 := (hSw.cell (p := ⟨w.heap.size, 16, none⟩) (by show _ < _; simp)).trans c16; have c17 := (hSw.cell (p := ⟨w.heap.size, 17, none⟩) (by show _ < _; simp)).trans c17; go_simp; try with_reducible rfl
 try simp only [Act.put, qxr23a, qxr23b, qxr23c]
 refine wpAnyH_take (i := 6) (oi := ⟨some 47, _, _, _, _, _⟩) (v := ?_) rfl (by kernel_rfl) (by kernel_rfl) (by kernel_rfl) (fun _ _ _ h => h) (Or.inl ⟨by rfl, ?_⟩) (by assumption) ?_
 rotate_left 1
 ·intro wS hSw; (try dsimp only at hSw); go_simp; try with_reducible rfl
 try simp only [Act.put, qxr23a, qxr23b, qxr23c]
 refine wpAnyH_ready (rs := [7]) (by kernel_rfl) (by simp) ?_
 refine AllReadyH.cons (o := ⟨none, _, _, _, _, _⟩) rfl (fun K hK => ?_) (AllReadyH.nil)
 go_simp
 refine hK.out _ _ ?_ (fun hHeld2 => ?_)
 ·(try dsimp only); exact below_putW hHeld (by show w.heap.size + 2 ≤ w.heap.size + 2; omega) _
 clear hK K hHeld
 have hHeld := hHeld2
 clear hHeld2
 try simp only [Act.put, qxr23a, qxr23b, qxr23c]
 refine wpAnyH_take (i := 8) (oi := ⟨some 48, _, _, _, _, _⟩) (v := ?_) rfl (by kernel_rfl) (by kernel_rfl) (by kernel_rfl) (fun _ _ _ h => h) (Or.inl ⟨by rfl, ?_⟩) (by assumption) ?_
 rotate_left 1
 ·intro wS hSw; (try dsimp only at hSw); go_simp; try with_reducible rfl
 try simp only [Act.put, qxr23a, qxr23b, qxr23c]
 refine wpAnyH_ready (rs := [9]) (by kernel_rfl) (by simp) ?_
 refine AllReadyH.cons (o := ⟨none, _, _, _, _, _⟩) rfl (fun K hK => ?_) (AllReadyH.nil)
 go_simp
 refine hK.out _ _ ?_ (fun hHeld2 => ?_)
 ·(try dsimp only); exact below_putW hHeld (by show w.heap.size + 2 ≤ w.heap.size + 2; omega) _
 clear hK K hHeld
 have hHeld := hHeld2
 clear hHeld2
 try simp only [Act.put, qxr23a, qxr23b, qxr23c]
 refine wpAnyH_take (i := 10) (oi := ⟨some 49, _, _, _, _, _⟩) (v := ?_) rfl (by kernel_rfl) (by kernel_rfl) (by kernel_rfl) (fun _ _ _ h => h) (Or.inl ⟨by rfl, ?_⟩) (by assumption) ?_
 rotate_left 1
 ·intro wS hSw; (try dsimp only at hSw); go_simp; try with_reducible rfl
 try simp only [Act.put, qxr23a, qxr23b, qxr23c]
 refine wpAnyH_ready (rs := [11]) (by kernel_rfl) (by simp) ?_
 refine AllReadyH.cons (o := ⟨none, _, _, _, _, _⟩) rfl (fun K hK => ?_) (AllReadyH.nil)
 go_simp
 refine hK.out _ _ ?_ (fun hHeld2 => ?_)
 ·(try dsimp only); exact below_putW hHeld (by show w.heap.size + 2 ≤ w.heap.size + 2; omega) _
 clear hK K hHeld
 have hHeld := hHeld2
 clear hHeld2
 try simp only [Act.put, qxr23a, qxr23b, qxr23c]
 refine wpAnyH_done (by kernel_rfl) ?_ _
 have hZ := hHeld
 clear hHeld
 clear hZ
 go_upto_region 22 with fail
 have HO4 := hid (show BoxC w (w.heap.size + 2) (deL ({ De.of 8 tick with name := name, id := id, how := how } : De) none 0 none 0) (((W3.setCell ⟨w.heap.size + 2, 15, none⟩ (.string (ofL name))).setCell ⟨w.heap.size + 2, 16, none⟩ (.int .u64 (id : Int))).setCell ⟨w.heap.size + 2, 17, none⟩ (.int .u8 (how : Int))).drew from (rtDrew (((HO3.out.put 15 (.string (ofL name)) (by show _ < 29; omega)).put 16 (.int .u64 (id : Int)) (by show _ < 29; omega)).put 17 (.int .u8 (how : Int)) (by show _ < 29; omega))))
 have HZ4 := hid (rtDrew (((HZ3.out.aside (g := w.heap.size + 2) (by omega) 15 (.string (ofL name))).aside (g := w.heap.size + 2) (by omega) 16 (.int .u64 (id : Int))).aside (g := w.heap.size + 2) (by omega) 17 (.int .u8 (how : Int))))
 have HB4 := hid (((HB3.out.setCell (p := ⟨w.heap.size + 2, 15, none⟩) (by show w.heap.size ≤ w.heap.size + 2; omega) (.string (ofL name))).setCell (p := ⟨w.heap.size + 2, 16, none⟩) (by show w.heap.size ≤ w.heap.size + 2; omega) (.int .u64 (id : Int))).setCell (p := ⟨w.heap.size + 2, 17, none⟩) (by show w.heap.size ≤ w.heap.size + 2; omega) (.int .u8 (how : Int))).drew
 clear c0 c1 c15 c16 c17 cl q15 q16 q17 ql qf
 generalize (((W3.setCell ⟨w.heap.size + 2, 15, none⟩ (.string (ofL name))).setCell ⟨w.heap.size + 2, 16, none⟩ (.int .u64 (id : Int))).setCell ⟨w.heap.size + 2, 17, none⟩ (.int .u8 (how : Int))).drew = W4 at *
 go_wp2_with (first
  | (refine wpList_load_mid (by rfl) 52 _ (by rfl) (w.heap.size + 2) 0 (by rfl) (deL ({ De.of 8 tick with name := name, id := id, how := how } : De) none 0 none 0) _ HO4.out.cs.range Tryz.underlying52 rfl (by rw [de_size, deL_len]) ?_)
  | (refine wpList_store_mid (by rfl) 52 _ _ (by rfl) (w.heap.size + 1) 0 (deL ({ De.of 8 tick with name := name, id := id, how := how } : De) none 0 none 0).toArray (by rfl) (by rfl) HZ4.out.there (by rw [de_size]; rfl) (de_all _ _ _ _ _) ?_))
 have HR := HZ4.out.over (deL ({ De.of 8 tick with name := name, id := id, how := how } : De) none 0 none 0) rfl
 exact bodyPost_ret (v := deV ({ De.of 8 tick with name := name, id := id, how := how } : De) none 0 none 0) (by simp [results, Tryz.results72, asAddr]; exact de_res _ _ _ _ _ _ _ HR.cs) rfl ⟨rfl, below_setCells (by omega) _ _ HB4.out⟩
theorem De.told_9 {x : De} (hk : x.kd = 9) : x.told = De.of 9 x.tick := by unfold De.told; simp [hk]
set_option maxRecDepth 100000 in
set_option maxHeartbeats 8000000 in
theorem ddTold_9 (x : De) (A : Option Addr) (c : Nat) (B : Option Addr) (d : Nat) (w : World) (hk : x.kd = 9) : Calls Tryz.prog 72 #[deV x A c B d] w fun e w' => e = .returned (deV x.told none 0 none 0) ∧ Below w.heap.size w w' := by
 rw [De.told_9 hk]
 obtain ⟨kd, tick, shop, q, bind, name, id, how, frm, cd, num, mail, text⟩ := x
 simp only at hk
 subst hk
 simp only [deV]
 go_enter Tryz.func72, Tryz.ntmps72
 go_upto_region 1 with fail
 refine at_world (F := fun W => Below w.heap.size w W ∧ BoxC w w.heap.size (deL ⟨9, tick, shop, q, bind, name, id, how, frm, cd, num, mail, text⟩ A c B d) W ∧ BoxC w (w.heap.size + 1) (deL (De.of 0 0) none 0 none 0) W ∧ W.heap.size = w.heap.size + 2) (told_in ⟨9, tick, shop, q, bind, name, id, how, frm, cd, num, mail, text⟩ A c B d w) (fun W2 h2 => ?_)
 obtain ⟨hb2, hx2, hz2, hs2⟩ := h2
 have HB2 := hid hb2
 have HX2 := hid hx2
 have HZ2 := hid hz2
 have HSZ := hid hs2
 clear hb2 hx2 hz2 hs2
 have c0 : W2.cell? ⟨w.heap.size, 0, none⟩ = some (.int .u8 9) := HX2.out.cs 0 _ rfl
 have c1 : W2.cell? ⟨w.heap.size, 1, none⟩ = some (.int .u64 (tick : Int)) := HX2.out.cs 1 _ rfl
 have cl := HX2.out.lt
 go_upto_region 2 with (first
  | (refine wpList_buildTo (by rfl) 52 _ (by rfl) _ (by rfl) (deL (De.of 9 tick) none 0 none 0).toArray (by kernel_rfl) ?_)
  | (refine wpList_store_new2 (by rfl) 52 _ _ (by rfl) _ (deL (De.of 9 tick) none 0 none 0).toArray (by rfl) (by rfl) (by rw [de_size]; rfl) (by rfl) (de_all _ _ _ _ _) ?_))
 have hz := HSZ.out
 have HX3 := hid (rtNext HX2.out (.cells (deL (De.of 9 tick) none 0 none 0).toArray 52))
 have HZ3 := hid (rtNext HZ2.out (.cells (deL (De.of 9 tick) none 0 none 0).toArray 52))
 have HO3 := hid (BoxC.new (w := w) (W := W2) (by omega) (deL (De.of 9 tick) none 0 none 0).toArray 52)
 have HB3 := hid (bthen HB2.out (rtOne W2 (.cells (deL (De.of 9 tick) none 0 none 0).toArray 52)) (Nat.le_refl _))
 rw [hz] at HO3
 rw [hz]
 clear hz c0 c1 cl
 generalize W2.alloc (.cells (deL (De.of 9 tick) none 0 none 0).toArray 52) = W3 at *
 have c0 : W3.cell? ⟨w.heap.size, 0, none⟩ = some (.int .u8 9) := HX3.out.cs 0 _ rfl
 have c1 : W3.cell? ⟨w.heap.size, 1, none⟩ = some (.int .u64 (tick : Int)) := HX3.out.cs 1 _ rfl
 have cl := HX3.out.lt
 go_upto_region 22 with fail
 have HO4 := hid (show BoxC w (w.heap.size + 2) (deL (De.of 9 tick : De) none 0 none 0) W3 from HO3.out)
 have HZ4 := hid HZ3.out
 have HB4 := hid HB3.out
 clear c0 c1 cl 
 generalize W3 = W4 at *
 go_wp2_with (first
  | (refine wpList_load_mid (by rfl) 52 _ (by rfl) (w.heap.size + 2) 0 (by rfl) (deL (De.of 9 tick : De) none 0 none 0) _ HO4.out.cs.range Tryz.underlying52 rfl (by rw [de_size, deL_len]) ?_)
  | (refine wpList_store_mid (by rfl) 52 _ _ (by rfl) (w.heap.size + 1) 0 (deL (De.of 9 tick : De) none 0 none 0).toArray (by rfl) (by rfl) HZ4.out.there (by rw [de_size]; rfl) (de_all _ _ _ _ _) ?_))
 have HR := HZ4.out.over (deL (De.of 9 tick : De) none 0 none 0) rfl
 exact bodyPost_ret (v := deV (De.of 9 tick : De) none 0 none 0) (by simp [results, Tryz.results72, asAddr]; exact de_res _ _ _ _ _ _ _ HR.cs) rfl ⟨rfl, below_setCells (by omega) _ _ HB4.out⟩
theorem De.told_10 {x : De} (hk : x.kd = 10) : x.told = { De.of 10 x.tick with frm := x.frm, num := x.num, mail := x.mail } := by unfold De.told; simp [hk]
set_option maxRecDepth 100000 in
set_option maxHeartbeats 8000000 in
theorem ddTold_10 (x : De) (A : Option Addr) (c : Nat) (B : Option Addr) (d : Nat) (w : World) (hk : x.kd = 10) : Calls Tryz.prog 72 #[deV x A c B d] w fun e w' => e = .returned (deV x.told none 0 B d) ∧ Below w.heap.size w w' := by
 rw [De.told_10 hk]
 obtain ⟨kd, tick, shop, q, bind, name, id, how, frm, cd, num, mail, text⟩ := x
 simp only at hk
 subst hk
 simp only [deV]
 go_enter Tryz.func72, Tryz.ntmps72
 go_upto_region 1 with fail
 refine at_world (F := fun W => Below w.heap.size w W ∧ BoxC w w.heap.size (deL ⟨10, tick, shop, q, bind, name, id, how, frm, cd, num, mail, text⟩ A c B d) W ∧ BoxC w (w.heap.size + 1) (deL (De.of 0 0) none 0 none 0) W ∧ W.heap.size = w.heap.size + 2) (told_in ⟨10, tick, shop, q, bind, name, id, how, frm, cd, num, mail, text⟩ A c B d w) (fun W2 h2 => ?_)
 obtain ⟨hb2, hx2, hz2, hs2⟩ := h2
 have HB2 := hid hb2
 have HX2 := hid hx2
 have HZ2 := hid hz2
 have HSZ := hid hs2
 clear hb2 hx2 hz2 hs2
 have c0 : W2.cell? ⟨w.heap.size, 0, none⟩ = some (.int .u8 10) := HX2.out.cs 0 _ rfl
 have c1 : W2.cell? ⟨w.heap.size, 1, none⟩ = some (.int .u64 (tick : Int)) := HX2.out.cs 1 _ rfl
 have cl := HX2.out.lt
 go_upto_region 2 with (first
  | (refine wpList_buildTo (by rfl) 52 _ (by rfl) _ (by rfl) (deL (De.of 10 tick) none 0 none 0).toArray (by kernel_rfl) ?_)
  | (refine wpList_store_new2 (by rfl) 52 _ _ (by rfl) _ (deL (De.of 10 tick) none 0 none 0).toArray (by rfl) (by rfl) (by rw [de_size]; rfl) (by rfl) (de_all _ _ _ _ _) ?_))
 have hz := HSZ.out
 have HX3 := hid (rtNext HX2.out (.cells (deL (De.of 10 tick) none 0 none 0).toArray 52))
 have HZ3 := hid (rtNext HZ2.out (.cells (deL (De.of 10 tick) none 0 none 0).toArray 52))
 have HO3 := hid (BoxC.new (w := w) (W := W2) (by omega) (deL (De.of 10 tick) none 0 none 0).toArray 52)
 have HB3 := hid (bthen HB2.out (rtOne W2 (.cells (deL (De.of 10 tick) none 0 none 0).toArray 52)) (Nat.le_refl _))
 rw [hz] at HO3
 rw [hz]
 clear hz c0 c1 cl
 generalize W2.alloc (.cells (deL (De.of 10 tick) none 0 none 0).toArray 52) = W3 at *
 have c0 : W3.cell? ⟨w.heap.size, 0, none⟩ = some (.int .u8 10) := HX3.out.cs 0 _ rfl
 have c1 : W3.cell? ⟨w.heap.size, 1, none⟩ = some (.int .u64 (tick : Int)) := HX3.out.cs 1 _ rfl
 have c18 : W3.cell? ⟨w.heap.size, 18, none⟩ = some (.int .u8 (frm : Int)) := HX3.out.cs 18 _ rfl
 have c20 : W3.cell? ⟨w.heap.size, 20, none⟩ = some (.int .u64 (num : Int)) := HX3.out.cs 20 _ rfl
 have c21 : W3.cell? ⟨w.heap.size, 21, none⟩ = some (.int .u64 (mail.id : Int)) := HX3.out.cs 21 _ rfl
 have c22 : W3.cell? ⟨w.heap.size, 22, none⟩ = some (.string (ofL mail.shop)) := HX3.out.cs 22 _ rfl
 have c23 : W3.cell? ⟨w.heap.size, 23, none⟩ = some (.string (ofL mail.key)) := HX3.out.cs 23 _ rfl
 have c24 : W3.cell? ⟨w.heap.size, 24, none⟩ = some (.slice B mail.head.length d) := HX3.out.cs 24 _ rfl
 have c25 : W3.cell? ⟨w.heap.size, 25, none⟩ = some (.string (ofL mail.body)) := HX3.out.cs 25 _ rfl
 have c26 : W3.cell? ⟨w.heap.size, 26, none⟩ = some (.int .u64 (mail.due : Int)) := HX3.out.cs 26 _ rfl
 have c27 : W3.cell? ⟨w.heap.size, 27, none⟩ = some (.int .u8 (mail.hops : Int)) := HX3.out.cs 27 _ rfl
 have cl := HX3.out.lt
 have q18 := HO3.out.cs 18 _ rfl
 have q20 := HO3.out.cs 20 _ rfl
 have q21 := HO3.out.cs 21 _ rfl
 have q22 := HO3.out.cs 22 _ rfl
 have q23 := HO3.out.cs 23 _ rfl
 have q24 := HO3.out.cs 24 _ rfl
 have q25 := HO3.out.cs 25 _ rfl
 have q26 := HO3.out.cs 26 _ rfl
 have q27 := HO3.out.cs 27 _ rfl
 have ql := HO3.out.lt
 have qf := HO3.out.s
 unfold Soft at qf
 go_upto_region 19 with fail
 have HBW := hid (show w.heap.size + 2 ≤ W3.heap.size by have := HO3.out.lt; omega)
 refine wp_region_held_drew (S := fun a => Below ((w.heap.size + 2)) W3 a) (by kernel_rfl) (by (try dsimp only); exact (Below.refl _ _).drew) (fun hHeld => ?_)
 refine wpAnyH_take (i := 0) (oi := ⟨some 52, _, _, _, _, _⟩) (v := ?_) rfl (by kernel_rfl) (by kernel_rfl) (by kernel_rfl) (fun _ _ _ h => h) (Or.inl ⟨by rfl, ?_⟩) (by assumption) ?_
 rotate_left 1
 ·intro wS hSw; (try dsimp only at hSw); go_simp; try with_reducible rfl
 try simp only [Act.put, qxr23a, qxr23b, qxr23c]
 refine wpAnyH_take (i := 1) (oi := ⟨some 53, _, _, _, _, _⟩) (v := ?_) rfl (by kernel_rfl) (by kernel_rfl) (by kernel_rfl) (fun _ _ _ h => h) (Or.inl ⟨by rfl, ?_⟩) (by assumption) ?_
 rotate_left 1
 ·intro wS hSw; (try dsimp only at hSw); have c0 := (hSw.cell (p := ⟨w.heap.size, 0, none⟩) (by show _ < _; simp)).trans c0; have c1 := (hSw.cell (p := ⟨w.heap.size, 1, none⟩) (by show _ < _; simp)).trans c1; have c18 := (hSw.cell (p := ⟨w.heap.size, 18, none⟩) (by show _ < _; simp)).trans c18; have c20 := (hSw.cell (p := ⟨w.heap.size, 20, none⟩) (by show _ < _; simp)).trans c20; have c21 := (hSw.cell (p := ⟨w.heap.size, 21, none⟩) (by show _ < _; simp)).trans c21; have c22 := (hSw.cell (p := ⟨w.heap.size, 22, none⟩) (by show _ < _; simp)).trans c22; have c23 := (hSw.cell (p := ⟨w.heap.size, 23, none⟩) (by show _ < _; simp)).trans c23; have c24 := (hSw.cell (p := ⟨w.heap.size, 24, none⟩) (by show _ < _; simp)).trans c24; have c25 := (hSw.cell (p := ⟨w.heap.size, 25, none⟩) (by show _ < _; simp)).trans c25; have c26 := (hSw.cell (p := ⟨w.heap.size, 26, none⟩) (by show _ < _; simp)).trans c26; have c27 := (hSw.cell (p := ⟨w.heap.size, 27, none⟩) (by show _ < _; simp)).trans c27; go_simp; try with_reducible rfl
 try simp only [Act.put, qxr23a, qxr23b, qxr23c]
 refine wpAnyH_take (i := 2) (oi := ⟨some 54, _, _, _, _, _⟩) (v := ?_) rfl (by kernel_rfl) (by kernel_rfl) (by kernel_rfl) (fun _ _ _ h => h) (Or.inl ⟨by rfl, ?_⟩) (by assumption) ?_
 rotate_left 1
 ·intro wS hSw; (try dsimp only at hSw); go_simp; try with_reducible rfl
 try simp only [Act.put, qxr23a, qxr23b, qxr23c]
 refine wpAnyH_take (i := 3) (oi := ⟨some 55, _, _, _, _, _⟩) (v := ?_) rfl (by kernel_rfl) (by kernel_rfl) (by kernel_rfl) (fun _ _ _ h => h) (Or.inl ⟨by rfl, ?_⟩) (by assumption) ?_
 rotate_left 1
 ·intro wS hSw; (try dsimp only at hSw); have c0 := (hSw.cell (p := ⟨w.heap.size, 0, none⟩) (by show _ < _; simp)).trans c0; have c1 := (hSw.cell (p := ⟨w.heap.size, 1, none⟩) (by show _ < _; simp)).trans c1; have c18 := (hSw.cell (p := ⟨w.heap.size, 18, none⟩) (by show _ < _; simp)).trans c18; have c20 := (hSw.cell (p := ⟨w.heap.size, 20, none⟩) (by show _ < _; simp)).trans c20; have c21 := (hSw.cell (p := ⟨w.heap.size, 21, none⟩) (by show _ < _; simp)).trans c21; have c22 := (hSw.cell (p := ⟨w.heap.size, 22, none⟩) (by show _ < _; simp)).trans c22; have c23 := (hSw.cell (p := ⟨w.heap.size, 23, none⟩) (by show _ < _; simp)).trans c23; have c24 := (hSw.cell (p := ⟨w.heap.size, 24, none⟩) (by show _ < _; simp)).trans c24; have c25 := (hSw.cell (p := ⟨w.heap.size, 25, none⟩) (by show _ < _; simp)).trans c25; have c26 := (hSw.cell (p := ⟨w.heap.size, 26, none⟩) (by show _ < _; simp)).trans c26; have c27 := (hSw.cell (p := ⟨w.heap.size, 27, none⟩) (by show _ < _; simp)).trans c27; go_simp; try with_reducible rfl
 try simp only [Act.put, qxr23a, qxr23b, qxr23c]
 refine wpAnyH_take (i := 4) (oi := ⟨some 56, _, _, _, _, _⟩) (v := ?_) rfl (by kernel_rfl) (by kernel_rfl) (by kernel_rfl) (fun _ _ _ h => h) (Or.inl ⟨by rfl, ?_⟩) (by assumption) ?_
 rotate_left 1
 ·intro wS hSw; (try dsimp only at hSw); go_simp; try with_reducible rfl
 try simp only [Act.put, qxr23a, qxr23b, qxr23c]
 refine wpAnyH_take (i := 5) (oi := ⟨some 57, _, _, _, _, _⟩) (v := ?_) rfl (by kernel_rfl) (by kernel_rfl) (by kernel_rfl) (fun _ _ _ h => h) (Or.inl ⟨by rfl, ?_⟩) (by assumption) ?_
 rotate_left 1
 ·intro wS hSw; (try dsimp only at hSw); have c0 := (hSw.cell (p := ⟨w.heap.size, 0, none⟩) (by show _ < _; simp)).trans c0; have c1 := (hSw.cell (p := ⟨w.heap.size, 1, none⟩) (by show _ < _; simp)).trans c1; have c18 := (hSw.cell (p := ⟨w.heap.size, 18, none⟩) (by show _ < _; simp)).trans c18; have c20 := (hSw.cell (p := ⟨w.heap.size, 20, none⟩) (by show _ < _; simp)).trans c20; have c21 := (hSw.cell (p := ⟨w.heap.size, 21, none⟩) (by show _ < _; simp)).trans c21; have c22 := (hSw.cell (p := ⟨w.heap.size, 22, none⟩) (by show _ < _; simp)).trans c22; have c23 := (hSw.cell (p := ⟨w.heap.size, 23, none⟩) (by show _ < _; simp)).trans c23; have c24 := (hSw.cell (p := ⟨w.heap.size, 24, none⟩) (by show _ < _; simp)).trans c24; have c25 := (hSw.cell (p := ⟨w.heap.size, 25, none⟩) (by show _ < _; simp)).trans c25; have c26 := (hSw.cell (p := ⟨w.heap.size, 26, none⟩) (by show _ < _; simp)).trans c26; have c27 := (hSw.cell (p := ⟨w.heap.size, 27, none⟩) (by show _ < _; simp)).trans c27; go_simp; try with_reducible rfl
 try simp only [Act.put, qxr23a, qxr23b, qxr23c]
 refine wpAnyH_take (i := 6) (oi := ⟨some 58, _, _, _, _, _⟩) (v := ?_) rfl (by kernel_rfl) (by kernel_rfl) (by kernel_rfl) (fun _ _ _ h => h) (Or.inl ⟨by rfl, ?_⟩) (by assumption) ?_
 rotate_left 1
 ·intro wS hSw; (try dsimp only at hSw); go_simp; try with_reducible rfl
 try simp only [Act.put, qxr23a, qxr23b, qxr23c]
 refine wpAnyH_ready (rs := [7]) (by kernel_rfl) (by simp) ?_
 refine AllReadyH.cons (o := ⟨none, _, _, _, _, _⟩) rfl (fun K hK => ?_) (AllReadyH.nil)
 go_simp
 refine hK.out _ _ ?_ (fun hHeld2 => ?_)
 ·(try dsimp only); exact below_putW hHeld (by show w.heap.size + 2 ≤ w.heap.size + 2; omega) _
 clear hK K hHeld
 have hHeld := hHeld2
 clear hHeld2
 try simp only [Act.put, qxr23a, qxr23b, qxr23c]
 refine wpAnyH_take (i := 8) (oi := ⟨some 59, _, _, _, _, _⟩) (v := ?_) rfl (by kernel_rfl) (by kernel_rfl) (by kernel_rfl) (fun _ _ _ h => h) (Or.inl ⟨by rfl, ?_⟩) (by assumption) ?_
 rotate_left 1
 ·intro wS hSw; (try dsimp only at hSw); go_simp; try with_reducible rfl
 try simp only [Act.put, qxr23a, qxr23b, qxr23c]
 refine wpAnyH_ready (rs := [9]) (by kernel_rfl) (by simp) ?_
 refine AllReadyH.cons (o := ⟨none, _, _, _, _, _⟩) rfl (fun K hK => ?_) (AllReadyH.nil)
 go_simp
 refine hK.out _ _ ?_ (fun hHeld2 => ?_)
 ·(try dsimp only); exact below_putW hHeld (by show w.heap.size + 2 ≤ w.heap.size + 2; omega) _
 clear hK K hHeld
 have hHeld := hHeld2
 clear hHeld2
 try simp only [Act.put, qxr23a, qxr23b, qxr23c]
 refine wpAnyH_take (i := 10) (oi := ⟨some 60, _, _, _, _, _⟩) (v := ?_) rfl (by kernel_rfl) (by kernel_rfl) (by kernel_rfl) (fun _ _ _ h => h) (Or.inl ⟨by rfl, ?_⟩) (by assumption) ?_
 rotate_left 1
 ·intro wS hSw; (try dsimp only at hSw); go_simp; try with_reducible rfl
 try simp only [Act.put, qxr23a, qxr23b, qxr23c]
 refine wpAnyH_ready (rs := [11]) (by kernel_rfl) (by simp) ?_
 refine AllReadyH.cons (o := ⟨none, _, _, _, _, _⟩) rfl (fun K hK => ?_) (AllReadyH.nil)
 go_simp
 refine hK.out _ _ (below_told10 W3 (w.heap.size + 2) _ _ _ _ _ _ _ _ _) (fun hHeld2 => ?_)
 clear hK K hHeld
 have hHeld := hHeld2
 clear hHeld2
 try simp only [Act.put, qxr23a, qxr23b, qxr23c]
 refine wpAnyH_done (by kernel_rfl) ?_ _
 have hZ := hHeld
 clear hHeld
 clear hZ
 go_upto_region 22 with fail
 have HO4 := hid (show BoxC w (w.heap.size + 2) (deL ({ De.of 10 tick with frm := frm, num := num, mail := mail } : De) none 0 B d) (((((((((W3.setCell ⟨w.heap.size + 2, 18, none⟩ (.int .u8 (frm : Int))).setCell ⟨w.heap.size + 2, 20, none⟩ (.int .u64 (num : Int))).setCell ⟨w.heap.size + 2, 21, none⟩ (.int .u64 (mail.id : Int))).setCell ⟨w.heap.size + 2, 22, none⟩ (.string (ofL mail.shop))).setCell ⟨w.heap.size + 2, 23, none⟩ (.string (ofL mail.key))).setCell ⟨w.heap.size + 2, 24, none⟩ (.slice B mail.head.length d)).setCell ⟨w.heap.size + 2, 25, none⟩ (.string (ofL mail.body))).setCell ⟨w.heap.size + 2, 26, none⟩ (.int .u64 (mail.due : Int))).setCell ⟨w.heap.size + 2, 27, none⟩ (.int .u8 (mail.hops : Int))).drew from (rtDrew (((((((((HO3.out.put 18 (.int .u8 (frm : Int)) (by show _ < 29; omega)).put 20 (.int .u64 (num : Int)) (by show _ < 29; omega)).put 21 (.int .u64 (mail.id : Int)) (by show _ < 29; omega)).put 22 (.string (ofL mail.shop)) (by show _ < 29; omega)).put 23 (.string (ofL mail.key)) (by show _ < 29; omega)).put 24 (.slice B mail.head.length d) (by show _ < 29; omega)).put 25 (.string (ofL mail.body)) (by show _ < 29; omega)).put 26 (.int .u64 (mail.due : Int)) (by show _ < 29; omega)).put 27 (.int .u8 (mail.hops : Int)) (by show _ < 29; omega))))
 have HZ4 := hid (rtDrew (((((((((HZ3.out.aside (g := w.heap.size + 2) (by omega) 18 (.int .u8 (frm : Int))).aside (g := w.heap.size + 2) (by omega) 20 (.int .u64 (num : Int))).aside (g := w.heap.size + 2) (by omega) 21 (.int .u64 (mail.id : Int))).aside (g := w.heap.size + 2) (by omega) 22 (.string (ofL mail.shop))).aside (g := w.heap.size + 2) (by omega) 23 (.string (ofL mail.key))).aside (g := w.heap.size + 2) (by omega) 24 (.slice B mail.head.length d)).aside (g := w.heap.size + 2) (by omega) 25 (.string (ofL mail.body))).aside (g := w.heap.size + 2) (by omega) 26 (.int .u64 (mail.due : Int))).aside (g := w.heap.size + 2) (by omega) 27 (.int .u8 (mail.hops : Int))))
 have HB4 := hid (((((((((HB3.out.setCell (p := ⟨w.heap.size + 2, 18, none⟩) (by show w.heap.size ≤ w.heap.size + 2; omega) (.int .u8 (frm : Int))).setCell (p := ⟨w.heap.size + 2, 20, none⟩) (by show w.heap.size ≤ w.heap.size + 2; omega) (.int .u64 (num : Int))).setCell (p := ⟨w.heap.size + 2, 21, none⟩) (by show w.heap.size ≤ w.heap.size + 2; omega) (.int .u64 (mail.id : Int))).setCell (p := ⟨w.heap.size + 2, 22, none⟩) (by show w.heap.size ≤ w.heap.size + 2; omega) (.string (ofL mail.shop))).setCell (p := ⟨w.heap.size + 2, 23, none⟩) (by show w.heap.size ≤ w.heap.size + 2; omega) (.string (ofL mail.key))).setCell (p := ⟨w.heap.size + 2, 24, none⟩) (by show w.heap.size ≤ w.heap.size + 2; omega) (.slice B mail.head.length d)).setCell (p := ⟨w.heap.size + 2, 25, none⟩) (by show w.heap.size ≤ w.heap.size + 2; omega) (.string (ofL mail.body))).setCell (p := ⟨w.heap.size + 2, 26, none⟩) (by show w.heap.size ≤ w.heap.size + 2; omega) (.int .u64 (mail.due : Int))).setCell (p := ⟨w.heap.size + 2, 27, none⟩) (by show w.heap.size ≤ w.heap.size + 2; omega) (.int .u8 (mail.hops : Int))).drew
 clear c0 c1 c18 c20 c21 c22 c23 c24 c25 c26 c27 cl q18 q20 q21 q22 q23 q24 q25 q26 q27 ql qf
 generalize (((((((((W3.setCell ⟨w.heap.size + 2, 18, none⟩ (.int .u8 (frm : Int))).setCell ⟨w.heap.size + 2, 20, none⟩ (.int .u64 (num : Int))).setCell ⟨w.heap.size + 2, 21, none⟩ (.int .u64 (mail.id : Int))).setCell ⟨w.heap.size + 2, 22, none⟩ (.string (ofL mail.shop))).setCell ⟨w.heap.size + 2, 23, none⟩ (.string (ofL mail.key))).setCell ⟨w.heap.size + 2, 24, none⟩ (.slice B mail.head.length d)).setCell ⟨w.heap.size + 2, 25, none⟩ (.string (ofL mail.body))).setCell ⟨w.heap.size + 2, 26, none⟩ (.int .u64 (mail.due : Int))).setCell ⟨w.heap.size + 2, 27, none⟩ (.int .u8 (mail.hops : Int))).drew = W4 at *
 go_wp2_with (first
  | (refine wpList_load_mid (by rfl) 52 _ (by rfl) (w.heap.size + 2) 0 (by rfl) (deL ({ De.of 10 tick with frm := frm, num := num, mail := mail } : De) none 0 B d) _ HO4.out.cs.range Tryz.underlying52 rfl (by rw [de_size, deL_len]) ?_)
  | (refine wpList_store_mid (by rfl) 52 _ _ (by rfl) (w.heap.size + 1) 0 (deL ({ De.of 10 tick with frm := frm, num := num, mail := mail } : De) none 0 B d).toArray (by rfl) (by rfl) HZ4.out.there (by rw [de_size]; rfl) (de_all _ _ _ _ _) ?_))
 have HR := HZ4.out.over (deL ({ De.of 10 tick with frm := frm, num := num, mail := mail } : De) none 0 B d) rfl
 exact bodyPost_ret (v := deV ({ De.of 10 tick with frm := frm, num := num, mail := mail } : De) none 0 B d) (by simp [results, Tryz.results72, asAddr]; exact de_res _ _ _ _ _ _ _ HR.cs) rfl ⟨rfl, below_setCells (by omega) _ _ HB4.out⟩
theorem De.told_11 {x : De} (hk : x.kd = 11) : x.told = De.of 11 x.tick := by unfold De.told; simp [hk]
set_option maxRecDepth 100000 in
set_option maxHeartbeats 8000000 in
theorem ddTold_11 (x : De) (A : Option Addr) (c : Nat) (B : Option Addr) (d : Nat) (w : World) (hk : x.kd = 11) : Calls Tryz.prog 72 #[deV x A c B d] w fun e w' => e = .returned (deV x.told none 0 none 0) ∧ Below w.heap.size w w' := by
 rw [De.told_11 hk]
 obtain ⟨kd, tick, shop, q, bind, name, id, how, frm, cd, num, mail, text⟩ := x
 simp only at hk
 subst hk
 simp only [deV]
 go_enter Tryz.func72, Tryz.ntmps72
 go_upto_region 1 with fail
 refine at_world (F := fun W => Below w.heap.size w W ∧ BoxC w w.heap.size (deL ⟨11, tick, shop, q, bind, name, id, how, frm, cd, num, mail, text⟩ A c B d) W ∧ BoxC w (w.heap.size + 1) (deL (De.of 0 0) none 0 none 0) W ∧ W.heap.size = w.heap.size + 2) (told_in ⟨11, tick, shop, q, bind, name, id, how, frm, cd, num, mail, text⟩ A c B d w) (fun W2 h2 => ?_)
 obtain ⟨hb2, hx2, hz2, hs2⟩ := h2
 have HB2 := hid hb2
 have HX2 := hid hx2
 have HZ2 := hid hz2
 have HSZ := hid hs2
 clear hb2 hx2 hz2 hs2
 have c0 : W2.cell? ⟨w.heap.size, 0, none⟩ = some (.int .u8 11) := HX2.out.cs 0 _ rfl
 have c1 : W2.cell? ⟨w.heap.size, 1, none⟩ = some (.int .u64 (tick : Int)) := HX2.out.cs 1 _ rfl
 have cl := HX2.out.lt
 go_upto_region 2 with (first
  | (refine wpList_buildTo (by rfl) 52 _ (by rfl) _ (by rfl) (deL (De.of 11 tick) none 0 none 0).toArray (by kernel_rfl) ?_)
  | (refine wpList_store_new2 (by rfl) 52 _ _ (by rfl) _ (deL (De.of 11 tick) none 0 none 0).toArray (by rfl) (by rfl) (by rw [de_size]; rfl) (by rfl) (de_all _ _ _ _ _) ?_))
 have hz := HSZ.out
 have HX3 := hid (rtNext HX2.out (.cells (deL (De.of 11 tick) none 0 none 0).toArray 52))
 have HZ3 := hid (rtNext HZ2.out (.cells (deL (De.of 11 tick) none 0 none 0).toArray 52))
 have HO3 := hid (BoxC.new (w := w) (W := W2) (by omega) (deL (De.of 11 tick) none 0 none 0).toArray 52)
 have HB3 := hid (bthen HB2.out (rtOne W2 (.cells (deL (De.of 11 tick) none 0 none 0).toArray 52)) (Nat.le_refl _))
 rw [hz] at HO3
 rw [hz]
 clear hz c0 c1 cl
 generalize W2.alloc (.cells (deL (De.of 11 tick) none 0 none 0).toArray 52) = W3 at *
 have c0 : W3.cell? ⟨w.heap.size, 0, none⟩ = some (.int .u8 11) := HX3.out.cs 0 _ rfl
 have c1 : W3.cell? ⟨w.heap.size, 1, none⟩ = some (.int .u64 (tick : Int)) := HX3.out.cs 1 _ rfl
 have cl := HX3.out.lt
 go_upto_region 22 with fail
 have HO4 := hid (show BoxC w (w.heap.size + 2) (deL (De.of 11 tick : De) none 0 none 0) W3 from HO3.out)
 have HZ4 := hid HZ3.out
 have HB4 := hid HB3.out
 clear c0 c1 cl 
 generalize W3 = W4 at *
 go_wp2_with (first
  | (refine wpList_load_mid (by rfl) 52 _ (by rfl) (w.heap.size + 2) 0 (by rfl) (deL (De.of 11 tick : De) none 0 none 0) _ HO4.out.cs.range Tryz.underlying52 rfl (by rw [de_size, deL_len]) ?_)
  | (refine wpList_store_mid (by rfl) 52 _ _ (by rfl) (w.heap.size + 1) 0 (deL (De.of 11 tick : De) none 0 none 0).toArray (by rfl) (by rfl) HZ4.out.there (by rw [de_size]; rfl) (de_all _ _ _ _ _) ?_))
 have HR := HZ4.out.over (deL (De.of 11 tick : De) none 0 none 0) rfl
 exact bodyPost_ret (v := deV (De.of 11 tick : De) none 0 none 0) (by simp [results, Tryz.results72, asAddr]; exact de_res _ _ _ _ _ _ _ HR.cs) rfl ⟨rfl, below_setCells (by omega) _ _ HB4.out⟩
theorem De.told_12 {x : De} (hk : x.kd = 12) : x.told = { De.of 12 x.tick with cd := x.cd, text := x.text } := by unfold De.told; simp [hk]
set_option maxRecDepth 100000 in
set_option maxHeartbeats 8000000 in
theorem ddTold_12 (x : De) (A : Option Addr) (c : Nat) (B : Option Addr) (d : Nat) (w : World) (hk : x.kd = 12) : Calls Tryz.prog 72 #[deV x A c B d] w fun e w' => e = .returned (deV x.told none 0 none 0) ∧ Below w.heap.size w w' := by
 rw [De.told_12 hk]
 obtain ⟨kd, tick, shop, q, bind, name, id, how, frm, cd, num, mail, text⟩ := x
 simp only at hk
 subst hk
 simp only [deV]
 go_enter Tryz.func72, Tryz.ntmps72
 go_upto_region 1 with fail
 refine at_world (F := fun W => Below w.heap.size w W ∧ BoxC w w.heap.size (deL ⟨12, tick, shop, q, bind, name, id, how, frm, cd, num, mail, text⟩ A c B d) W ∧ BoxC w (w.heap.size + 1) (deL (De.of 0 0) none 0 none 0) W ∧ W.heap.size = w.heap.size + 2) (told_in ⟨12, tick, shop, q, bind, name, id, how, frm, cd, num, mail, text⟩ A c B d w) (fun W2 h2 => ?_)
 obtain ⟨hb2, hx2, hz2, hs2⟩ := h2
 have HB2 := hid hb2
 have HX2 := hid hx2
 have HZ2 := hid hz2
 have HSZ := hid hs2
 clear hb2 hx2 hz2 hs2
 have c0 : W2.cell? ⟨w.heap.size, 0, none⟩ = some (.int .u8 12) := HX2.out.cs 0 _ rfl
 have c1 : W2.cell? ⟨w.heap.size, 1, none⟩ = some (.int .u64 (tick : Int)) := HX2.out.cs 1 _ rfl
 have cl := HX2.out.lt
 go_upto_region 2 with (first
  | (refine wpList_buildTo (by rfl) 52 _ (by rfl) _ (by rfl) (deL (De.of 12 tick) none 0 none 0).toArray (by kernel_rfl) ?_)
  | (refine wpList_store_new2 (by rfl) 52 _ _ (by rfl) _ (deL (De.of 12 tick) none 0 none 0).toArray (by rfl) (by rfl) (by rw [de_size]; rfl) (by rfl) (de_all _ _ _ _ _) ?_))
 have hz := HSZ.out
 have HX3 := hid (rtNext HX2.out (.cells (deL (De.of 12 tick) none 0 none 0).toArray 52))
 have HZ3 := hid (rtNext HZ2.out (.cells (deL (De.of 12 tick) none 0 none 0).toArray 52))
 have HO3 := hid (BoxC.new (w := w) (W := W2) (by omega) (deL (De.of 12 tick) none 0 none 0).toArray 52)
 have HB3 := hid (bthen HB2.out (rtOne W2 (.cells (deL (De.of 12 tick) none 0 none 0).toArray 52)) (Nat.le_refl _))
 rw [hz] at HO3
 rw [hz]
 clear hz c0 c1 cl
 generalize W2.alloc (.cells (deL (De.of 12 tick) none 0 none 0).toArray 52) = W3 at *
 have c0 : W3.cell? ⟨w.heap.size, 0, none⟩ = some (.int .u8 12) := HX3.out.cs 0 _ rfl
 have c1 : W3.cell? ⟨w.heap.size, 1, none⟩ = some (.int .u64 (tick : Int)) := HX3.out.cs 1 _ rfl
 have c19 : W3.cell? ⟨w.heap.size, 19, none⟩ = some (.int .u8 (cd : Int)) := HX3.out.cs 19 _ rfl
 have c28 : W3.cell? ⟨w.heap.size, 28, none⟩ = some (.string (ofL text)) := HX3.out.cs 28 _ rfl
 have cl := HX3.out.lt
 have q19 := HO3.out.cs 19 _ rfl
 have q28 := HO3.out.cs 28 _ rfl
 have ql := HO3.out.lt
 have qf := HO3.out.s
 unfold Soft at qf
 go_upto_region 21 with fail
 have HBW := hid (show w.heap.size + 2 ≤ W3.heap.size by have := HO3.out.lt; omega)
 refine wp_region_held_drew (S := fun a => Below ((w.heap.size + 2)) W3 a) (by kernel_rfl) (by (try dsimp only); exact (Below.refl _ _).drew) (fun hHeld => ?_)
 refine wpAnyH_take (i := 0) (oi := ⟨some 63, _, _, _, _, _⟩) (v := ?_) rfl (by kernel_rfl) (by kernel_rfl) (by kernel_rfl) (fun _ _ _ h => h) (Or.inl ⟨by rfl, ?_⟩) (by assumption) ?_
 rotate_left 1
 ·intro wS hSw; (try dsimp only at hSw); go_simp; try with_reducible rfl
 try simp only [Act.put, qxr23a, qxr23b, qxr23c]
 refine wpAnyH_take (i := 1) (oi := ⟨some 64, _, _, _, _, _⟩) (v := ?_) rfl (by kernel_rfl) (by kernel_rfl) (by kernel_rfl) (fun _ _ _ h => h) (Or.inl ⟨by rfl, ?_⟩) (by assumption) ?_
 rotate_left 1
 ·intro wS hSw; (try dsimp only at hSw); have c0 := (hSw.cell (p := ⟨w.heap.size, 0, none⟩) (by show _ < _; simp)).trans c0; have c1 := (hSw.cell (p := ⟨w.heap.size, 1, none⟩) (by show _ < _; simp)).trans c1; have c19 := (hSw.cell (p := ⟨w.heap.size, 19, none⟩) (by show _ < _; simp)).trans c19; have c28 := (hSw.cell (p := ⟨w.heap.size, 28, none⟩) (by show _ < _; simp)).trans c28; go_simp; try with_reducible rfl
 try simp only [Act.put, qxr23a, qxr23b, qxr23c]
 refine wpAnyH_take (i := 2) (oi := ⟨some 65, _, _, _, _, _⟩) (v := ?_) rfl (by kernel_rfl) (by kernel_rfl) (by kernel_rfl) (fun _ _ _ h => h) (Or.inl ⟨by rfl, ?_⟩) (by assumption) ?_
 rotate_left 1
 ·intro wS hSw; (try dsimp only at hSw); go_simp; try with_reducible rfl
 try simp only [Act.put, qxr23a, qxr23b, qxr23c]
 refine wpAnyH_take (i := 3) (oi := ⟨some 66, _, _, _, _, _⟩) (v := ?_) rfl (by kernel_rfl) (by kernel_rfl) (by kernel_rfl) (fun _ _ _ h => h) (Or.inl ⟨by rfl, ?_⟩) (by assumption) ?_
 rotate_left 1
 ·intro wS hSw; (try dsimp only at hSw); have c0 := (hSw.cell (p := ⟨w.heap.size, 0, none⟩) (by show _ < _; simp)).trans c0; have c1 := (hSw.cell (p := ⟨w.heap.size, 1, none⟩) (by show _ < _; simp)).trans c1; have c19 := (hSw.cell (p := ⟨w.heap.size, 19, none⟩) (by show _ < _; simp)).trans c19; have c28 := (hSw.cell (p := ⟨w.heap.size, 28, none⟩) (by show _ < _; simp)).trans c28; go_simp; try with_reducible rfl
 try simp only [Act.put, qxr23a, qxr23b, qxr23c]
 refine wpAnyH_take (i := 4) (oi := ⟨some 67, _, _, _, _, _⟩) (v := ?_) rfl (by kernel_rfl) (by kernel_rfl) (by kernel_rfl) (fun _ _ _ h => h) (Or.inl ⟨by rfl, ?_⟩) (by assumption) ?_
 rotate_left 1
 ·intro wS hSw; (try dsimp only at hSw); go_simp; try with_reducible rfl
 try simp only [Act.put, qxr23a, qxr23b, qxr23c]
 refine wpAnyH_ready (rs := [5]) (by kernel_rfl) (by simp) ?_
 refine AllReadyH.cons (o := ⟨none, _, _, _, _, _⟩) rfl (fun K hK => ?_) (AllReadyH.nil)
 go_simp
 refine hK.out _ _ ?_ (fun hHeld2 => ?_)
 ·(try dsimp only); exact below_putW hHeld (by show w.heap.size + 2 ≤ w.heap.size + 2; omega) _
 clear hK K hHeld
 have hHeld := hHeld2
 clear hHeld2
 try simp only [Act.put, qxr23a, qxr23b, qxr23c]
 refine wpAnyH_take (i := 6) (oi := ⟨some 68, _, _, _, _, _⟩) (v := ?_) rfl (by kernel_rfl) (by kernel_rfl) (by kernel_rfl) (fun _ _ _ h => h) (Or.inl ⟨by rfl, ?_⟩) (by assumption) ?_
 rotate_left 1
 ·intro wS hSw; (try dsimp only at hSw); go_simp; try with_reducible rfl
 try simp only [Act.put, qxr23a, qxr23b, qxr23c]
 refine wpAnyH_ready (rs := [7]) (by kernel_rfl) (by simp) ?_
 refine AllReadyH.cons (o := ⟨none, _, _, _, _, _⟩) rfl (fun K hK => ?_) (AllReadyH.nil)
 go_simp
 refine hK.out _ _ ?_ (fun hHeld2 => ?_)
 ·(try dsimp only); exact below_putW hHeld (by show w.heap.size + 2 ≤ w.heap.size + 2; omega) _
 clear hK K hHeld
 have hHeld := hHeld2
 clear hHeld2
 try simp only [Act.put, qxr23a, qxr23b, qxr23c]
 refine wpAnyH_done (by kernel_rfl) ?_ _
 have hZ := hHeld
 clear hHeld
 clear hZ
 go_upto_region 22 with fail
 have HO4 := hid (show BoxC w (w.heap.size + 2) (deL ({ De.of 12 tick with cd := cd, text := text } : De) none 0 none 0) ((W3.setCell ⟨w.heap.size + 2, 19, none⟩ (.int .u8 (cd : Int))).setCell ⟨w.heap.size + 2, 28, none⟩ (.string (ofL text))).drew from (rtDrew ((HO3.out.put 19 (.int .u8 (cd : Int)) (by show _ < 29; omega)).put 28 (.string (ofL text)) (by show _ < 29; omega))))
 have HZ4 := hid (rtDrew ((HZ3.out.aside (g := w.heap.size + 2) (by omega) 19 (.int .u8 (cd : Int))).aside (g := w.heap.size + 2) (by omega) 28 (.string (ofL text))))
 have HB4 := hid ((HB3.out.setCell (p := ⟨w.heap.size + 2, 19, none⟩) (by show w.heap.size ≤ w.heap.size + 2; omega) (.int .u8 (cd : Int))).setCell (p := ⟨w.heap.size + 2, 28, none⟩) (by show w.heap.size ≤ w.heap.size + 2; omega) (.string (ofL text))).drew
 clear c0 c1 c19 c28 cl q19 q28 ql qf
 generalize ((W3.setCell ⟨w.heap.size + 2, 19, none⟩ (.int .u8 (cd : Int))).setCell ⟨w.heap.size + 2, 28, none⟩ (.string (ofL text))).drew = W4 at *
 go_wp2_with (first
  | (refine wpList_load_mid (by rfl) 52 _ (by rfl) (w.heap.size + 2) 0 (by rfl) (deL ({ De.of 12 tick with cd := cd, text := text } : De) none 0 none 0) _ HO4.out.cs.range Tryz.underlying52 rfl (by rw [de_size, deL_len]) ?_)
  | (refine wpList_store_mid (by rfl) 52 _ _ (by rfl) (w.heap.size + 1) 0 (deL ({ De.of 12 tick with cd := cd, text := text } : De) none 0 none 0).toArray (by rfl) (by rfl) HZ4.out.there (by rw [de_size]; rfl) (de_all _ _ _ _ _) ?_))
 have HR := HZ4.out.over (deL ({ De.of 12 tick with cd := cd, text := text } : De) none 0 none 0) rfl
 exact bodyPost_ret (v := deV ({ De.of 12 tick with cd := cd, text := text } : De) none 0 none 0) (by simp [results, Tryz.results72, asAddr]; exact de_res _ _ _ _ _ _ _ HR.cs) rfl ⟨rfl, below_setCells (by omega) _ _ HB4.out⟩
end Go.Proofs.YtaikigponkjkgaaGreatDoor
end
