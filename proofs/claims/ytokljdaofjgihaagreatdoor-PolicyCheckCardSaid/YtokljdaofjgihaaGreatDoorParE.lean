/-
  WHAT A LINE TELLS, walked: the program's: a slot.
-/
import Derived.Test.YtokljdaofjgihaaGreatDoorParD
import Derived.Deep.RegionLaw
namespace Go.Proofs.YtokljdaofjgihaaGreatDoor
open Go.ChangeShapes Go.WideShapes Go.ChangeAt Go.RowKit

theorem own_types {W : World} {B e e' size size' n n' : Nat} {v v' : Value} {xs xs' : List Value} (h : W.ownsRow B e size v n xs) (h' : W.ownsRow B e' size' v' n' xs') (he : e ≠ e') : v.ownBlock = none ∨ v.ownBlock ≠ v'.ownBlock := by
  rcases h.2 with ⟨rfl, _⟩ | ⟨g, cap, cur, rfl, _, hb, _⟩
  · left; rfl
  · right
    intro hk
    rcases h'.2 with ⟨rfl, _⟩ | ⟨g', cap', cur', rfl, _, hb', _⟩
    · cases hk
    · have e1 : g = g' := by simpa [Value.ownBlock] using hk
      subst e1
      rw [hb] at hb'
      simp only [Option.some.injEq, Obj.cells.injEq] at hb'
      exact he hb'.2.1
theorem own_slots {W w1 : World} {B b : Nat} {p : Pl.Pol} {pv sv gv v' : Value} {x : Int} (h : PolOwn W B b p pv sv gv) (hg : W.grownBy w1 sv.ownBlock) (ho : w1.ownsRow B 3 1 v' (p.slots.length + 1) (ics p.slots ++ [.int .i64 x])) :
    PolOwn (w1.setCell ⟨b, 3, none⟩ v') B b { p with slots := p.slots ++ [x] } pv v' gv := by
  have c := h.box
  have hne : some b ≠ sv.ownBlock := by
    rcases own_ne h.os h.bB with e | e
    · rw [e]; simp
    · exact fun q => e q.symm
  have g2 := only_set w1 b 3 v'
  have hb : b < B := h.bB
  have ho' : w1.ownsRow B 3 1 v' (p.slots ++ [x]).length (ics (p.slots ++ [x])) := by rw [List.length_append, ics_snoc]; exact ho
  have op1 := h.op.kept hg (own_types h.op h.os (by decide))
  have og1 := h.og.kept hg (own_types h.og h.os (by decide))
  refine ⟨⟨(World.cell?_setCell_other w1 ⟨b, 3, none⟩ ⟨b, 0, none⟩ _ (ne_at b 3 0 (by decide))).trans (hg.cell c.c0 hne), (World.cell?_setCell_other w1 ⟨b, 3, none⟩ ⟨b, 1, none⟩ _ (ne_at b 3 1 (by decide))).trans (hg.cell c.c1 hne), (World.cell?_setCell_other w1 ⟨b, 3, none⟩ ⟨b, 2, none⟩ _ (ne_at b 3 2 (by decide))).trans (hg.cell c.c2 hne), World.cell?_setCell_same w1 ⟨b, 3, none⟩ _ (hg.cell c.c3 hne), (World.cell?_setCell_other w1 ⟨b, 3, none⟩ ⟨b, 4, none⟩ _ (ne_at b 3 4 (by decide))).trans (hg.cell c.c4 hne)⟩, fun j => ?_, op1.kept g2 (own_ne op1 hb), ho'.kept g2 (own_ne ho' hb), og1.kept g2 (own_ne og1 hb), hb, Nat.le_trans h.BW (Nat.le_trans hg.size g2.size), h.fits⟩
  rw [World.frozen?_setCell]
  exact (World.frozen?_of_block (a := ⟨b, j, none⟩) (hg.block b c.lt hne)).trans (h.fz j)
theorem info3 : (Tryz.prog.info? 3).map (fun i => (i.zero, i.size, i.bytes)) = some (some (.int .i64 0), 1, 8) := by kernel_rfl
theorem tell_s (p : Pl.Pol) (x : List UInt8) (xs : List (List UInt8)) : Pl.tell p Pl.wSlot (x :: xs) = (Pl.none10 (Pl.find p.places x), { p with slots := p.slots ++ [Pl.find p.places x] }) := by
  unfold Pl.tell; rw [if_neg (by decide), if_neg (by decide), if_neg (by decide), if_pos rfl]; rfl
theorem own_below {W w1 : World} {B b : Nat} {row : Option Nat} (h : W.grownBy w1 row) (hb : b < B) (hW : b ≤ W.heap.size) (hr : ∀ k, row = some k → B ≤ k) : Below b W w1 :=
  ⟨h.os, h.tape, h.output, h.size, fun k hk => h.block k (by omega) (fun e => by have := hr k e.symm; omega)⟩
theorem app_facts {W1 w1 : World} {B b r : Nat} {p : Pl.Pol} {pv sv gv : Value} {ws : List (List UInt8)} {code : Nat} (h : TSt W1 B b r p pv sv gv ws code) (o : Obj) {row : Option Nat} (hg : (W1.alloc o).grownBy w1 row) (h1 : row ≠ some b) (h2 : row ≠ some r) :
    Cell5 w1 b (.int .i64 p.work) (.int .i64 p.give) pv sv gv ∧ (∀ j, w1.frozen? ⟨b, j, none⟩ = false) ∧ w1.cell? ⟨r, 1, none⟩ = some (.int .i64 (code : Int)) := by
  have hs : Below W1.heap.size W1 (W1.alloc o) := (Below.refl _ _).alloc (Nat.le_refl _) _
  have k := h.on hs
  have c := k.own.box
  have n1 : some b ≠ row := fun e => h1 e.symm
  have n2 : some r ≠ row := fun e => h2 e.symm
  refine ⟨⟨hg.cell c.c0 n1, hg.cell c.c1 n1, hg.cell c.c2 n1, hg.cell c.c3 n1, hg.cell c.c4 n1⟩, fun j => ?_, hg.cell k.rd.cd n2⟩
  exact (World.frozen?_of_block (a := ⟨b, j, none⟩) (hg.block b c.lt n1)).trans (k.own.fz j)
theorem own_row {W : World} {B e size n k : Nat} {v : Value} {xs : List Value} (h : W.ownsRow B e size v n xs) (hk : k < B) : v.ownBlock ≠ some k := by
  intro e
  have := (h.lt k e).1
  omega
set_option maxRecDepth 100000 in
set_option maxHeartbeats 4000000 in
theorem tell_slot (B b r : Nat) (p : Pl.Pol) (pv sv gv : Value) (x : List UInt8) (xs : List (List UInt8)) (W : World) (h : TSt W B b r p pv sv gv (x :: xs) 0) :
    Calls Tryz.prog 80 #[.pointer (some ⟨b, 0, none⟩), .string ⟨#[115, 108, 111, 116]⟩, .pointer (some ⟨r, 0, none⟩)] W (TellPost B b (Pl.tell p Pl.wSlot (x :: xs)) W) := by
  have HS := Lib.hid h
  obtain ⟨pa, pc, rfl, hpc, hpb, hpl⟩ := own_plcs h.own.op h.own.fits
  obtain ⟨sa, sc, rfl, -, -, -⟩ := own_ints h.own.os
  obtain ⟨ga, gc, rfl, -, -, -⟩ := own_grns h.own.og
  have hpr : ∀ a, pa = some a → a.block ≠ r := fun a ha e => h.l1 (by rw [hpb a ha, e])
  have hsz := h.sz
  unfold Pl.Pol.size at hsz
  have HPL := Lib.hid (fun W' (hg : Below W.heap.size W W') => rPlace_any p pa pc sa sc ga gc r x xs 0 W' (h.rd.on hg) (by omega) (hpl.on hg) hpr)
  rw [fst_0] at HPL
  have HQ := Lib.hid (tell_s p x xs)
  have hbr := h.br
  have hbl := h.own.box.lt
  obtain ⟨c0, c1, c2, c3, c4⟩ := h.own.box
  obtain ⟨i0, hi0, hz0, hz1, hz2⟩ := info_parts info3
  simp only [polV] at HPL
  clear hpl hpb h
  generalize Pl.tell p Pl.wSlot (x :: xs) = Q at *
  generalize Pl.find p.places x = F at *
  go_enter Tryz.func80, Tryz.ntmps80
  go_wp2_with fail
  go_region_law (first
    | (go_simp; go_at_call 109; with_reducible refine (HPL.out _ ((Below.refl _ _).drew)).mono ?_; rintro e' W1 ⟨rfl, hR1, hg1⟩; have hs1 := HS.out.step (gtrans (gb ((Below.refl _ _).drew) (some r)) hg1) hR1; have hos := hs1.own.os; have hBW := hs1.own.BW; have mbl := hs1.own.box.lt; obtain ⟨m0, m1, m2, m3, m4⟩ := hs1.own.box; have HS1 := Lib.hid hs1; clear hs1)
    | (refine step_append_lies _ (by rfl) _ _ _ (by rfl) B 3 i0 _ 1 8 Tryz.underlying23 hi0 hz0 hz1 hz2 rfl (by omega) (.slice sa p.slots.length sc) p.slots.length (ics p.slots) (by rfl) (hos.alloc _) ⟨W1.heap.size, 0, none⟩ 1 1 [.int .i64 F] (by rfl) (by rfl) (World.news_of_block (cs := #[.int .i64 F]) (t := 3) (fr := (0, 0)) (heap_alloc_new W1 _)) (by simp [Value.oneCell']) (by omega) (by unfold maxLen; omega) (by omega) (by simp; omega) (W1.heap.size + 1) (by simp) ?_; intro gg cap w1 hown1 hgrow hat hlt; obtain ⟨⟨k0, k1, k2, k3, k4⟩, kf, kr⟩ := app_facts HS1.out _ hgrow (own_row HS1.out.own.os HS1.out.own.bB) HS1.out.l2; have kf3 := kf 3; have kl := World.block_lt_of_cell? w1 _ k3; have krl := World.block_lt_of_cell? w1 _ kr; simp only at kl krl; have HG := Lib.hid hgrow; have HO := Lib.hid hown1; clear hgrow hown1 kf))
  all_goals
    have HGO := Lib.hid hg1
    clear hR1 hg1 hos hBW mbl m0 m1 m2 m3 m4 hat hlt k0 k1 k2 k4 c0 c1 c2 c3 c4
    have hcd := (World.cell?_setCell_other w1 ⟨b, 3, none⟩ ⟨r, 1, none⟩ (.slice (some ⟨gg, 0, none⟩) (p.slots.length + 1) cap) (fun e => absurd (congrArg Addr.block e) (by simp only; omega))).trans kr
    go_wp2_with fail
    go_ret
    have hs : Below W1.heap.size W1 (W1.alloc (.cells #[.int .i64 F] 3)) := (Below.refl _ _).alloc (Nat.le_refl _) _
    have k := HS1.out.on hs
    refine ⟨by rw [HQ.out]; rfl, fun _ => ⟨_, _, _, by rw [HQ.out]; exact own_slots k.own HG.out HO.out⟩, ?_⟩
    have b1 : Below b W W1 := g_below (gtrans (gb ((Below.refl _ _).drew) (some r)) HGO.out) (by omega) (by omega)
    have b2 : Below b W1 w1 := (hs.mono (by have := HS1.out.own.box.lt; omega)).trans (own_below HG.out HS1.out.own.bB (by have := k.own.box.lt; omega) (fun q hq => (k.own.os.lt q hq).1))
    exact (b1.trans b2).setCell (Nat.le_refl _) _
end Go.Proofs.YtokljdaofjgihaaGreatDoor
