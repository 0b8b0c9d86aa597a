/-
  A POLICY AS THE DOCUMENT'S: the law's own copy, walked.
-/
import Derived.Test.YtokljdaofjgihaaGreatDoorLawB
import Derived.Laws.AppendOwnNone
namespace Go.Proofs.YtokljdaofjgihaaGreatDoor
open Go.ChangeShapes Go.WideShapes Go.ChangeAt Go.RowKit

theorem cell_plc_two (w : World) (o : Obj) (x0 x1 x2 x3 x4 : Value) (t : TypeId) : ∀ j u, [x0, x1, x2, x3, x4][j]? = some u → ((w.alloc o).alloc (.cells #[x0, x1, x2, x3, x4] t)).cell? ((⟨w.heap.size + 1, 0, none⟩ : Addr).add j) = some u := by
  have e : (w.alloc o).heap.size = w.heap.size + 1 := by simp
  have h := World.news_of_block (w := (w.alloc o).alloc (.cells #[x0, x1, x2, x3, x4] t)) (B := w.heap.size + 1) (cs := #[x0, x1, x2, x3, x4]) (t := t) (fr := (0, 0)) (by rw [← e]; exact heap_alloc_new _ _)
  exact h
theorem cell_grn_two (w : World) (o : Obj) (x0 x1 x2 : Value) (t : TypeId) : ∀ j u, [x0, x1, x2][j]? = some u → ((w.alloc o).alloc (.cells #[x0, x1, x2] t)).cell? ((⟨w.heap.size + 1, 0, none⟩ : Addr).add j) = some u := by
  have e : (w.alloc o).heap.size = w.heap.size + 1 := by simp
  have h := World.news_of_block (w := (w.alloc o).alloc (.cells #[x0, x1, x2] t)) (B := w.heap.size + 1) (cs := #[x0, x1, x2]) (t := t) (fr := (0, 0)) (by rw [← e]; exact heap_alloc_new _ _)
  exact h
theorem ints_news {W : World} {A : Addr} {l : List Int} (h : Ints W (some A) l) : ∀ j u, (ics l)[j]? = some u → W.cell? (A.add j) = some u := by
  intro j u hu
  unfold ics at hu
  rw [List.getElem?_map] at hu
  cases hj : l[j]? with
  | none => rw [hj] at hu; cases hu
  | some z =>
    rw [hj] at hu
    obtain ⟨hlt, hz⟩ := List.getElem?_eq_some_iff.1 hj
    obtain ⟨b, off, e, -, hc⟩ := h.at_ j hlt
    cases e
    rw [List.getD_eq_getElem?_getD, hj] at hc
    have e2 : (⟨b, off, none⟩ : Addr).add j = ⟨b, off + j, none⟩ := by
      unfold Addr.add
      split
      · rename_i h0
        have : j = 0 := by simpa using h0
        rw [this]; rfl
      · rfl
    rw [e2, hc]
    exact hu
theorem ints_none {W : World} {l : List Int} (h : Ints W none l) : l = [] := by
  cases l with
  | nil => rfl
  | cons a t => obtain ⟨b, off, e, _⟩ := h.at_ 0 (by simp); cases e
theorem rown_box {W w1 : World} {B b : Nat} {p : Pl.Pol} {pv sv gv : Value} (h : ROwn W B b p pv sv gv) {row : Option Nat} (hg : W.grownBy w1 row) (hr : ∀ k, row = some k → B ≤ k) : Box5 w1 b (.int .i64 p.work) (.int .i64 p.give) pv sv gv := by
  have c := h.box
  have n1 : some b ≠ row := fun e => by have := hr b e.symm; have := h.bB; omega
  exact ⟨⟨hg.cell c.c0 n1, hg.cell c.c1 n1, hg.cell c.c2 n1, hg.cell c.c3 n1, hg.cell c.c4 n1⟩, fun j => (World.frozen?_of_block (a := ⟨b, j, none⟩) (hg.block b c.lt n1)).trans (h.fz j)⟩
theorem wpList_append_own_any {P : Program} (w : World) {ops : Array Oper} {rest : List Oper} {o : Oper} {a : Act} {Q : Exit → Act → World → Prop} (hgd : o.guard = none) (s x : Operand) (t : TypeId)
    (ho : o.op = .call { callee := .builtin .append, args := #[s, x], argTypes := #[t, t] })
    (base : Nat) (i : TypeInfo) (ht : P.underlying t = some (.slice 3)) (hi : P.info? 3 = some i) (hz : i.zero = some (.int .i64 0))
    (hsize : i.size = 1) (hby : i.bytes = 8) (hs : a.eval s = .slice none 0 0) {A : Option Addr} {l : List Int} {c : Nat} (hx : a.eval x = .slice A l.length c) (hl : Ints w A l) (hn : l.length ≤ 100) (hnil : A = none → c = 0) (hbase : base ≤ w.heap.size)
    (h : ∀ v' w', w'.ownsRow base 3 1 v' l.length (ics l) → w.grownBy w' (Value.slice none 0 0).ownBlock → wpList P ops Q rest (a.put o.dst v') w') : wpList P ops Q (o :: rest) a w := by
  cases A with
  | none =>
    have e := ints_none hl
    subst e
    have ec := hnil rfl
    subst ec
    exact wpList_append_own_none hgd s x t ho base 3 i 1 ht hi (.slice none 0 0) 0 [] hs (World.ownsRow_nil _ _ _ _) hx (h _ _ (World.ownsRow_nil _ _ _ _) (World.grownBy.refl _ _))
  | some ad =>
    refine wpList_append_own w hgd s x t ho base 3 i _ 1 8 ht hi hz hsize hby rfl (by decide) (.slice none 0 0) 0 [] hs (World.ownsRow_nil _ _ _ _) ad l.length c (ics l) hx (by unfold ics; simp) (ints_news hl) (fun u hu => by unfold ics at hu; obtain ⟨z, _, rfl⟩ := List.mem_map.1 hu; rfl) (by unfold maxLen; omega) (by omega) hbase ?_
    intro v' w' h1 h2 _
    rw [Nat.zero_add, List.nil_append] at h1
    exact h v' w' h1 h2
set_option maxRecDepth 100000 in
set_option maxHeartbeats 8000000 in
theorem to_any (p : Pl.Pol) (pa : Option Addr) (pc : Nat) (sa : Option Addr) (sc : Nat) (ga : Option Addr) (gc : Nat) (w : World) (hp : PolIs w p pa pc sa sc ga gc) (h1 : p.places.length ≤ 100) (h2 : p.slots.length ≤ 100) (h3 : p.grants.length ≤ 100) (hnil : sa = none → sc = 0) :
    Calls Tryz.prog 11 #[polV p pa pc sa sc ga gc] w (PolPost p w) := by
  have HP := Lib.hid hp
  clear hp
  have hs1 : Below w.heap.size w (w.alloc (.cells #[.int .i64 p.work, .int .i64 p.give, .slice pa p.places.length pc, .slice sa p.slots.length sc, .slice ga p.grants.length gc] 26)) := (Below.refl _ _).alloc (Nat.le_refl _) _
  have HST := Lib.hid (show Cp1 w p pa pc sa sc ga gc p.places.length (.int .i64 0) (((w.alloc (.cells #[.int .i64 p.work, .int .i64 p.give, .slice pa p.places.length pc, .slice sa p.slots.length sc, .slice ga p.grants.length gc] 26)).alloc (.cells #[.int .i64 0, .int .i64 0, zs, zs, zs] 32)).alloc (.cells #[.int .i64 p.work, .int .i64 p.give, zs, zs, zs] 32)) from by
    obtain ⟨wA, hA⟩ : ∃ wA, wA = w.alloc (.cells #[.int .i64 p.work, .int .i64 p.give, .slice pa p.places.length pc, .slice sa p.slots.length sc, .slice ga p.grants.length gc] 26) := ⟨_, rfl⟩
    have cA := Cell5.new w (.int .i64 p.work) (.int .i64 p.give) (.slice pa p.places.length pc) (.slice sa p.slots.length sc) (.slice ga p.grants.length gc) 26
    have eA : wA.heap.size = w.heap.size + 1 := by rw [hA]; simp
    rw [← hA] at hs1 cA ⊢
    obtain ⟨wB, hB⟩ : ∃ wB, wB = wA.alloc (.cells #[.int .i64 0, .int .i64 0, zs, zs, zs] 32) := ⟨_, rfl⟩
    have cB := Box5.new wA (.int .i64 0) (.int .i64 0) zs zs zs 32
    have bB : Below wA.heap.size wA wB := by rw [hB]; exact (Below.refl _ _).alloc (Nat.le_refl _) _
    have eB : wB.heap.size = w.heap.size + 1 + 1 := by rw [hB]; simp [eA]
    rw [← hB] at cB ⊢
    obtain ⟨wC, hC⟩ : ∃ wC, wC = wB.alloc (.cells #[.int .i64 p.work, .int .i64 p.give, zs, zs, zs] 32) := ⟨_, rfl⟩
    have cC := Box5.new wB (.int .i64 p.work) (.int .i64 p.give) zs zs zs 32
    have bC : Below wB.heap.size wB wC := by rw [hC]; exact (Below.refl _ _).alloc (Nat.le_refl _) _
    have eC : wC.heap.size = w.heap.size + 3 := by rw [hC]; simp [eB]
    rw [← hC] at cC ⊢
    rw [eA] at cB
    rw [eB] at cC
    refine ⟨0, zs, by omega, rfl, ⟨⟨cC.c, cC.f, World.ownsRow_nil _ _ _ _, World.ownsRow_nil _ _ _ _, World.ownsRow_nil _ _ _ _, by omega, by omega, fun i hi => absurd hi (by simp)⟩, (cA.on bB).on bC, cB.below bC (by omega), bthen (bthen hs1 bB (Nat.le_refl _)) bC (Nat.le_refl _)⟩⟩)
  obtain ⟨i1, hi1, hz0, hz1, hz2⟩ := info_parts info73
  obtain ⟨i3, hi3, hy0, hy1, hy2⟩ := info_parts info3
  obtain ⟨i6, hi6, hx0, hx1, hx2⟩ := info_parts info76
  unfold zs at HST
  go_enter Tryz.func11, Tryz.ntmps11
  simp only [polV]
  go_wp2_with fail
  go_loopg [16] p.places.length (fun g i wr => Cp1 w p pa pc sa sc ga gc g i wr)
  case atStart => exact HST.out
  case round =>
    obtain ⟨k, pv, hk, rfl, hS⟩ := hrel
    have HS := Lib.hid hS
    have HK := Lib.hid hk
    clear hS hk
    by_cases hlt : k < p.places.length
    · obtain ⟨b, off, rfl, hbl, hft, hat⟩ := (HP.out.on HS.out.bel).pl.at_ k hlt
      have HFT := Lib.hid hft
      have hget := plc_get p.places k hlt
      have HGET := Lib.hid hget
      clear hget hft
      obtain ⟨c0, c1, c2, c3, c4⟩ := hat
      have HTS := Lib.hid (take_snoc' p.places k hlt)
      have hos := HS.out.own.op
      rw [show (List.take k p.places).length = k by rw [List.length_take]; omega] at hos
      have HOS := Lib.hid hos
      have hBW := HS.out.own.BW
      obtain ⟨o0, o1, o2, o3, o4⟩ := HS.out.own.box
      have of2 := HS.out.own.fz 2
      have obl := HS.out.own.box.lt
      have HA := Lib.hid (fun o1 o2 => HS.out.two o1 o2)
      clear hos
      generalize Pl.plc p.places k = x at *
      obtain ⟨xn, xl, xs, xb, xa⟩ := x
      simp only at c0 c1 c2 c3 c4
      go_wp2_with (first
        | (at_builtin; refine wpList_append_lies _ rfl _ _ 29 rfl (w.heap.size + 3) 73 i1 _ 5 40 Tryz.underlying29 hi1 hz0 hz1 hz2 rfl (by omega) pv k (pcs (p.places.take k)) (by rfl) ((HOS.out.alloc _).alloc _) ⟨wr.heap.size + 1, 0, none⟩ 1 1 [.string (ofL xn), .int .u8 (xl : Int), .int .u32 (xs : Int), .int .i64 xb, .int .u64 (xa : Int)] (by rfl) (by rfl) (cell_plc_two wr _ _ _ _ _ _ _) (by simp [Value.oneCell']) (by omega) (by unfold maxLen; omega) (by omega) (by simp; omega) _ rfl ?_; intro gg cap w1 hown1 hgrow hat hlt'; obtain ⟨⟨k0, k1, k2, k3, k4⟩, kf⟩ := rown_box (HS.out.two _ _).own hgrow (fun q hq => (HS.out.own.op.lt q hq).1); have kf2 := kf 2; have kl := World.block_lt_of_cell? w1 _ k2; simp only at kl; have HC := Lib.hid ((HS.out.two _ _).place (x := ⟨xn, xl, xs, xb, xa⟩) HFT.out hgrow (by rw [show (List.take k p.places).length = k by rw [List.length_take]; omega]; exact hown1)); clear hgrow hown1 kf))
      go_roundg (gk - 1)
      case rel => exact ⟨k + 1, _, by have := HK.out; omega, by go_num, by have := HC.out; rw [HTS.out, ← HGET.out]; exact this⟩
      case measure => have := HK.out; omega
    · have hkn : k = p.places.length := by have := HK.out; omega
      have HS0 := Lib.hid (show CpSt w wr ⟨p.work, p.give, p.places, [], []⟩ (.int .i64 p.work) (.int .i64 p.give) (.slice pa p.places.length pc) (.slice sa p.slots.length sc) (.slice ga p.grants.length gc) pv zs zs from by have := HS.out; rw [hkn, List.take_length] at this; exact this)
      clear hkn
      obtain ⟨b0, b1, b2, b3, b4⟩ := HS0.out.box
      obtain ⟨o0, o1, o2, o3, o4⟩ := HS0.out.own.box
      have of3 := HS0.out.own.fz 3
      have obl := HS0.out.own.box.lt
      have hBW := HS0.out.own.BW
      unfold zs at o3 o4
      go_wp2_with (first
        | (at_builtin; refine wpList_append_own_any _ rfl _ _ 23 rfl (w.heap.size + 3) i3 Tryz.underlying23 hi3 hy0 hy1 hy2 (by rfl) (by rfl) (HP.out.on HS0.out.bel).sl (by omega) hnil (by omega) ?_; intro v' w1 hown1 hgrow; obtain ⟨A', c', rfl, -⟩ := own_cells hown1; obtain ⟨⟨k0, k1, k2, k3, k4⟩, kf⟩ := rown_box HS0.out.own hgrow (fun q hq => by cases hq); have kf3 := kf 3; have kl := World.block_lt_of_cell? w1 _ k3; simp only at kl; have q4 := hgrow.cell HS0.out.box.c4 (by simp [Value.ownBlock]); have HC := Lib.hid (HS0.out.slot rfl hgrow hown1); clear hgrow hown1 kf))
      clear b0 b1 b2 b3 b4 o0 o1 o2 o3 o4 of3 hBW k0 k1 k2 k3 k4 kf3 kl q4
      go_loopg [36] p.grants.length (fun g i wr => Cp2 w p pa pc sa sc ga gc g i wr)
      case atStart => exact ⟨0, _, _, _, by omega, rfl, HC.out⟩
      case round =>
        obtain ⟨j, pv2, sv2, gv2, hj, rfl, hS2⟩ := hrel
        have HS2 := Lib.hid hS2
        have HJ := Lib.hid hj
        clear hS2 hj
        by_cases hlt2 : j < p.grants.length
        · obtain ⟨b, off, rfl, hbl, hat⟩ := (HP.out.on HS2.out.bel).gr.at_ j hlt2
          have hget := grn_get p.grants j hlt2
          have HGET := Lib.hid hget
          clear hget
          obtain ⟨c0, c1, c2⟩ := hat
          have HTS := Lib.hid (take_snoc' p.grants j hlt2)
          have hos := HS2.out.own.og
          rw [show (List.take j p.grants).length = j by rw [List.length_take]; omega] at hos
          have HOS := Lib.hid hos
          have hBW := HS2.out.own.BW
          obtain ⟨o0, o1, o2, o3, o4⟩ := HS2.out.own.box
          have of4 := HS2.out.own.fz 4
          have obl := HS2.out.own.box.lt
          clear hos
          generalize Pl.grn p.grants j = x at *
          obtain ⟨xf, xt, xb⟩ := x
          simp only at c0 c1 c2
          go_wp2_with (first
            | (at_builtin; refine wpList_append_lies _ rfl _ _ 30 rfl (w.heap.size + 3) 76 i6 _ 3 24 Tryz.underlying30 hi6 hx0 hx1 hx2 rfl (by omega) gv2 j (gcs (p.grants.take j)) (by rfl) ((HOS.out.alloc _).alloc _) ⟨wr.heap.size + 1, 0, none⟩ 1 1 [.int .i64 xf, .int .i64 xt, .int .i64 xb] (by rfl) (by rfl) (cell_grn_two wr _ _ _ _ _) (by simp [Value.oneCell']) (by omega) (by unfold maxLen; omega) (by omega) (by simp; omega) _ rfl ?_; intro gg cap w2 hown1 hgrow hat hlt'; obtain ⟨⟨k0, k1, k2, k3, k4⟩, kf⟩ := rown_box (HS2.out.two _ _).own hgrow (fun q hq => (HS2.out.own.og.lt q hq).1); have kf4 := kf 4; have kl := World.block_lt_of_cell? w2 _ k2; simp only at kl; have HC2 := Lib.hid ((HS2.out.two _ _).grnt (x := ⟨xf, xt, xb⟩) hgrow (by rw [show (List.take j p.grants).length = j by rw [List.length_take]; omega]; exact hown1)); clear hgrow hown1 kf))
          go_roundg (gk - 1)
          case rel => exact ⟨j + 1, _, _, _, by have := HJ.out; omega, by go_num, by have := HC2.out; rw [HTS.out, ← HGET.out]; exact this⟩
          case measure => have := HJ.out; omega
        · have hjn : j = p.grants.length := by have := HJ.out; omega
          have HS3 := Lib.hid (show CpSt w wr ⟨p.work, p.give, p.places, p.slots, p.grants⟩ (.int .i64 p.work) (.int .i64 p.give) (.slice pa p.places.length pc) (.slice sa p.slots.length sc) (.slice ga p.grants.length gc) pv2 sv2 gv2 from by have := HS2.out; rw [hjn, List.take_length] at this; exact this)
          clear hjn
          have hsz : p.size ≤ 99999 := by unfold Pl.Pol.size; omega
          obtain ⟨pa', pc', sa', sc', ga', gc', rfl, rfl, rfl, -⟩ := rown_pol HS3.out.own hsz
          obtain ⟨o0, o1, o2, o3, o4⟩ := HS3.out.own.box
          obtain ⟨⟨b0, b1, b2, b3, b4⟩, bf⟩ := HS3.out.res
          have bf0 := bf 0
          have bf1 := bf 1
          have bf2 := bf 2
          have bf3 := bf 3
          have bf4 := bf 4
          have hlt0 := HS3.out.res.c.lt
          clear bf
          simp only at o0 o1 o2 o3 o4
          go_wp2_with fail
          refine bodyPost_ret (v := .agg #[.int .i64 p.work, .int .i64 p.give, .slice pa' p.places.length pc', .slice sa' p.slots.length sc', .slice ga' p.grants.length gc']) (by simp [results, Tryz.results11, go_sem, b0, b1, b2, b3, b4]) rfl ?_
          have hg5 := only_setCell (only_setCell (only_setCell (only_setCell (only_set wr (w.heap.size + 1) 0 (.int .i64 p.work)) (p := ⟨w.heap.size + 1, 1, none⟩) rfl (.int .i64 p.give)) (p := ⟨w.heap.size + 1, 2, none⟩) rfl (.slice pa' p.places.length pc')) (p := ⟨w.heap.size + 1, 3, none⟩) rfl (.slice sa' p.slots.length sc')) (p := ⟨w.heap.size + 1, 4, none⟩) rfl (.slice ga' p.grants.length gc')
          have o5 := HS3.out.own.kept hg5 (by omega) (own_row HS3.out.own.op (by omega)) (own_row HS3.out.own.os (by omega)) (own_row HS3.out.own.og (by omega))
          obtain ⟨pa2, pc2, sa2, sc2, ga2, gc2, e1, e2, e3, hpi⟩ := rown_pol o5 hsz
          cases e1; cases e2; cases e3
          refine ⟨pa', pc', sa', sc', ga', gc', rfl, hpi, ?_⟩
          exact HS3.out.bel.trans (own_below (b := w.heap.size) hg5 (B := w.heap.size + 1) (by omega) (by omega) (fun k hk => by cases hk; omega))
end Go.Proofs.YtokljdaofjgihaaGreatDoor
