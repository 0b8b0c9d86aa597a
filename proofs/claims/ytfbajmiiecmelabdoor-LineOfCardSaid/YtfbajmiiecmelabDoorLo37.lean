/-
  ONE MORE: walked.
-/
import Derived.Test.YtfbajmiiecmelabDoorLo36
import Derived.BigQuiet
section
namespace Go.Proofs.YtfbajmiiecmelabDoor
open Go.ChangeShapes Go.WideShapes Go.ChangeAt Go.RowKit
theorem appendIt_run {W : World} {m : List ItP} {A : Option Addr} {x : It} {Aq : Option Addr} {cq b : Nat} (hl : m.length ≤ 100000) (hp : Its W A m) (hx : ∀ j u, (itL x Aq cq)[j]? = some u → W.cell? ((⟨b, 0, none⟩ : Addr).add j) = some u) :
    ∃ g c' w', (Builtin.append_ #[22, 22] 22 #[.slice A m.length m.length, .slice (some ⟨b, 0, none⟩) 1 1]).run Tryd.prog W = .ok (.slice (some ⟨g, 0, none⟩) (m.length + 1) c') w' ∧ w'.ownsRow W.heap.size 30 9 (.slice (some ⟨g, 0, none⟩) (m.length + 1) c') (m.length + 1) (its (m ++ [⟨x, Aq, cq⟩])) ∧ W.grownBy w' none := by
  obtain ⟨i1, hi1, hz0, hz1, hz2⟩ := info_parts infoIt
  have e1 : its (m ++ [⟨x, Aq, cq⟩]) = its m ++ itL x Aq cq := by simp [its]
  rw [e1]
  cases A with
  | none =>
    have h0 : m = [] := by
      cases m with
      | nil => rfl
      | cons x t => obtain ⟨b, off, e, _⟩ := hp.at_ 0 (by simp); cases e
    subst h0
    obtain ⟨gg, cap, w', hr, h2, h3, h4, h5⟩ := run_append_lies (P := Tryd.prog) W 22 22 W.heap.size 30 i1 _ 9 104 Tryd.underlying22 hi1 hz0 hz1 hz2 rfl (by omega) (.slice none 0 0) 0 [] (World.ownsRow_nil _ _ _ _) ⟨b, 0, none⟩ 1 1 (itL x Aq cq) rfl hx (by simp [Value.oneCell', itL]) (by omega) (by unfold maxLen; omega) (by omega) (Nat.le_refl _) W.heap.size rfl
    exact ⟨gg, cap, w', hr, h2, h3⟩
  | some ad =>
    have hcell : ∀ j u, (its m)[j]? = some u → W.cell? (ad.add j) = some u := by
      cases hm : m with
      | nil => intro j u hj; simp [its] at hj
      | cons y t =>
        rw [← hm]
        obtain ⟨b', off, e, _⟩ := hp.at_ 0 (by rw [hm]; simp)
        obtain rfl := Option.some.inj e
        exact hp.cells
    obtain ⟨v', w', hr, h2, h3⟩ := run_append_arg_grows (P := Tryd.prog) W 22 22 30 i1 _ 9 104 Tryd.underlying22 hi1 hz0 hz1 hz2 rfl (by omega) ad m.length m.length (its m) (its_len m) hcell ⟨b, 0, none⟩ 1 1 (itL x Aq cq) rfl hx (by omega) (by unfold maxLen; omega) (by omega)
    obtain ⟨g, cap, rfl, _, hlt⟩ := h2.form (by omega)
    exact ⟨g, cap, w', hr, h2, h3⟩
theorem add_facts {W w5 : World} {U : Nat → Prop} {A Ax Aq : Option Addr} {c cx cq : Nat} {l : List It} {x : It} (hl : l.length ≤ 10000) (hU : LnU U W (.agg #[.slice A l.length c]) l) (hok : MaOk W x.m Ax cx) (hf : Ml.Fits x.m) (hb : Below W.heap.size W w5) (ho : OwnPrs W.heap.size w5 Aq cq x.m.head) :
    ∃ g c' w7, (Builtin.append_ #[22, 22] 22 #[.slice A l.length l.length, .slice (some ⟨w5.heap.size, 0, none⟩) 1 1]).run Tryd.prog (w5.alloc (.cells #[.int .u64 (x.m.id : Int), .string (ofL x.m.shop), .string (ofL x.m.key), .slice Aq x.m.head.length cq, .string (ofL x.m.body), .int .u64 (x.m.due : Int), .int .u8 (x.m.hops : Int), .bool x.lent, .bool x.again] 30)) = .ok (.slice (some ⟨g, 0, none⟩) (l.length + 1) c') w7 ∧ Below W.heap.size W w7 ∧ LnU (fun g => U g ∨ W.heap.size ≤ g) w7 (.agg #[.slice (some ⟨g, 0, none⟩) (l.length + 1) c']) (l ++ [x]) := by
  obtain ⟨A', c', m, e, hm, -, hI, hUs⟩ := hU
  obtain ⟨rfl, rfl⟩ : A = A' ∧ c = c' := by simpa using e
  have hml := xs_len hm
  have hs6 : Below w5.heap.size w5 (w5.alloc (.cells #[.int .u64 (x.m.id : Int), .string (ofL x.m.shop), .string (ofL x.m.key), .slice Aq x.m.head.length cq, .string (ofL x.m.body), .int .u64 (x.m.due : Int), .int .u8 (x.m.hops : Int), .bool x.lent, .bool x.again] 30)) := one_alloc w5 _
  have hb6 := bthen hb hs6 (Nat.le_refl _)
  obtain ⟨g, cc, w7, hr, hO, hG⟩ := appendIt_run (x := x) (Aq := Aq) (cq := cq) (b := w5.heap.size) (by omega) (hI.on hb6) (fun j u hj => by
    rw [addr_at1, Nat.zero_add]
    exact dnew1 w5 #[.int .u64 (x.m.id : Int), .string (ofL x.m.shop), .string (ofL x.m.key), .slice Aq x.m.head.length cq, .string (ofL x.m.body), .int .u64 (x.m.due : Int), .int .u8 (x.m.hops : Int), .bool x.lent, .bool x.again] 30 j u (by simpa [itL] using hj))
  have hb7 : Below (w5.alloc (.cells #[.int .u64 (x.m.id : Int), .string (ofL x.m.shop), .string (ofL x.m.key), .slice Aq x.m.head.length cq, .string (ofL x.m.body), .int .u64 (x.m.due : Int), .int .u8 (x.m.hops : Int), .bool x.lent, .bool x.again] 30)).heap.size (w5.alloc (.cells #[.int .u64 (x.m.id : Int), .string (ofL x.m.shop), .string (ofL x.m.key), .slice Aq x.m.head.length cq, .string (ofL x.m.body), .int .u64 (x.m.due : Int), .int .u8 (x.m.hops : Int), .bool x.lent, .bool x.again] 30)) w7 := ⟨hG.os, hG.tape, hG.output, hG.size, fun k hk => hG.block k hk (by simp)⟩
  have hB := bthen hb6 hb7 (Nat.le_refl _)
  have hge := (hO.lt g rfl).1
  have hrow := ho.row
  rw [hml] at hr hO
  refine ⟨g, cc, w7, hr, hB, some ⟨g, 0, none⟩, cc, m ++ [⟨x, Aq, cq⟩], by simp, by simp [hm], ?_, Its.of_own (by rw [List.length_append, List.length_singleton, hml]; exact hO) (fun p hp => ?_), fun k hk => ?_⟩
  · obtain ⟨A2, c2, e2, hc2, _⟩ := Rw.own_cells hO
    obtain ⟨-, -, rfl⟩ := Value.slice.inj e2
    simpa using hc2
  · rcases List.mem_append.1 hp with hp | hp
    · exact (hI.ok p hp).on hB
    · obtain rfl := List.mem_singleton.1 hp
      exact ⟨⟨hok.shop, hok.key, hok.body, hok.len, hrow.2.1, hok.lite, (hrow.1.on hs6).on hb7⟩, hf⟩
  · have hs := hb6.size
    rcases hk with ⟨_, a, ha, rfl⟩ | ⟨p, hp, hh, a, ha, rfl⟩
    · obtain rfl := Option.some.inj ha
      exact .inr (by show W.heap.size ≤ g; omega)
    · rcases List.mem_append.1 hp with hp | hp
      · exact .inl (hUs _ (.inr ⟨p, hp, hh, a, ha, rfl⟩))
      · obtain rfl := List.mem_singleton.1 hp
        exact .inr (hrow.2.2 a ha).1
set_option maxRecDepth 100000 in
set_option maxHeartbeats 8000000 in
theorem lnadd_any (x : It) (Ax : Option Addr) (cx : Nat) (v : Value) (l : List It) (w : World) (U : Nat → Prop) (hl : l.length ≤ 10000) (h : LnU U w v l) (hg : MaGo w x.m Ax cx) (hL : Len w) : Calls Tryd.prog 18 #[v, itV x Ax cx] w (LnCode U (Ln.add l x) (Ln.acode l x) w) := by
  have hc := h.cut
  obtain ⟨A, c, rfl, hlc⟩ := h.form
  have hb0 := three_allocs w (.cells #[.slice A l.length c] 34) (.cells #[.int .u64 (x.m.id : Int), .string (ofL x.m.shop), .string (ofL x.m.key), .slice Ax x.m.head.length cx, .string (ofL x.m.body), .int .u64 (x.m.due : Int), .int .u8 (x.m.hops : Int), .bool x.lent, .bool x.again] 30) (.cells #[.slice none 0 0] 34)
  have HX0 := Lib.hid (box_next (box_next (box_at0 w #[.slice A l.length c] 34) (.cells #[.int .u64 (x.m.id : Int), .string (ofL x.m.shop), .string (ofL x.m.key), .slice Ax x.m.head.length cx, .string (ofL x.m.body), .int .u64 (x.m.due : Int), .int .u8 (x.m.hops : Int), .bool x.lent, .bool x.again] 30)) (.cells #[.slice none 0 0] 34))
  have HI0 := Lib.hid (box_next (box_at1 w (.cells #[.slice A l.length c] 34) #[.int .u64 (x.m.id : Int), .string (ofL x.m.shop), .string (ofL x.m.key), .slice Ax x.m.head.length cx, .string (ofL x.m.body), .int .u64 (x.m.due : Int), .int .u8 (x.m.hops : Int), .bool x.lent, .bool x.again] 30) (.cells #[.slice none 0 0] 34))
  have HR0 := Lib.hid (box_at2 w (.cells #[.slice A l.length c] 34) (.cells #[.int .u64 (x.m.id : Int), .string (ofL x.m.shop), .string (ofL x.m.key), .slice Ax x.m.head.length cx, .string (ofL x.m.body), .int .u64 (x.m.due : Int), .int .u8 (x.m.hops : Int), .bool x.lent, .bool x.again] 30) #[.slice none 0 0] 34)
  have HB0 := Lib.hid hb0
  have HU0 := Lib.hid (hc.on hb0)
  have HG0 := Lib.hid (hg.on hb0)
  have HCK := Lib.hid (ml_Check_any x.m Ax cx _ (hg.on hb0).ok (hL.on hb0))
  have HSZ := Lib.hid (show (((w.alloc (.cells #[.slice A l.length c] 34)).alloc (.cells #[.int .u64 (x.m.id : Int), .string (ofL x.m.shop), .string (ofL x.m.key), .slice Ax x.m.head.length cx, .string (ofL x.m.body), .int .u64 (x.m.due : Int), .int .u8 (x.m.hops : Int), .bool x.lent, .bool x.again] 30)).alloc (.cells #[.slice none 0 0] 34)).heap.size = w.heap.size + 3 by simp)
  simp only [itV]
  simp only [maV] at HCK
  clear hc hb0 h hg hL
  by_cases h1 : x.m.code = 0
  · rw [h1] at HCK
    by_cases h2 : 0 < l.length ∧ x.m.id ≤ Ln.lastId l
    · have e1 : Ln.acode l x = 13 := by unfold Ln.acode; rw [if_neg (by omega), if_pos h2]
      have e2 : Ln.add l x = l := by unfold Ln.add; rw [if_neg (by omega)]
      rw [e1, e2]
      have hb1 : decide ((l.length : Int) > 0) = true := decide_eq_true (by omega)
      have hb1n : decide (0 < l.length) = true := decide_eq_true (by omega)
      have hpos : 0 < l.length := h2.1
      have hb2n : decide (x.m.id ≤ Ln.lastId l) = true := decide_eq_true h2.2
      have hb2 : decide ((Ln.lastId l : Int) ≥ (x.m.id : Int)) = true := decide_eq_true (by omega)
      have hsub : IntKind.i64.wrap ((l.length : Int) - 1) = ((l.length - 1 : Nat) : Int) := by rw [IntKind.wrap_i64]; omega
      have hlx : l.length - 1 < l.length := by omega
      obtain ⟨b, off, Ay, cy, rfl, hbl, hat, -⟩ := HU0.out.get hlx
      have c0 := hat 0 _ rfl
      rw [Nat.add_zero, show (l.getD (l.length - 1) it0).m.id = Ln.lastId l from rfl] at c0
      generalize Ln.lastId l = li at *
      generalize l.length - 1 = n1 at *
      clear hat e1 e2 h2 h1 HG0
      go_enter Tryd.func18, Tryd.ntmps18
      go_wp2_with fail
      generalize (((w.alloc (.cells #[.slice (some ⟨b, off, none⟩) l.length c] 34)).alloc (.cells #[.int .u64 (x.m.id : Int), .string (ofL x.m.shop), .string (ofL x.m.key), .slice Ax x.m.head.length cx, .string (ofL x.m.body), .int .u64 (x.m.due : Int), .int .u8 (x.m.hops : Int), .bool x.lent, .bool x.again] 30)).alloc (.cells #[.slice none 0 0] 34)) = w2 at *
      refine HCK.out.mono ?_
      rintro e w3 ⟨rfl, hb⟩
      have HL3 := Lib.hid (HU0.out.on hb)
      have HX3 := Lib.hid (HX0.out.on hb)
      have HI3 := Lib.hid (HI0.out.on hb)
      have HR3 := Lib.hid (HR0.out.on hb)
      have HB3 := Lib.hid (bthen HB0.out hb (Nat.le_refl _))
      have HS3 := Lib.hid (show w.heap.size + 3 ≤ w3.heap.size from by have := hb.size; have := HSZ.out; omega)
      have k0 := (hb.cell (p := ⟨b, off + n1 * 9, none⟩) hbl).trans c0
      have hbl3 := Nat.lt_of_lt_of_le hbl hb.size
      clear c0 hbl
      clear hb
      have x0 := HX3.out.cs 0 _ rfl
      have xl := HX3.out.lt
      have i0 := HI3.out.cs 0 _ rfl
      have il := HI3.out.lt
      go_upto_region 5 with fail
      go_quiet (fail)
      have hdn : Below w3.heap.size w3 (w3.drewN nq) := ⟨rfl, rfl, rfl, Nat.le_refl _, fun _ _ => rfl⟩
      have HL4 := Lib.hid (HL3.out.on hdn)
      have HX4 := Lib.hid (HX3.out.on hdn)
      have HI4 := Lib.hid (HI3.out.on hdn)
      have HR4 := Lib.hid (HR3.out.on hdn)
      have HB4 := Lib.hid (bthen HB3.out hdn (Nat.le_refl _))
      have HS4 := Lib.hid (show w.heap.size + 3 ≤ (w3.drewN nq).heap.size from Nat.le_trans HS3.out hdn.size)
      clear x0 xl i0 il k0 hbl3 hdn
      generalize w3.drewN nq = w4 at *
      have x0 := HX4.out.cs 0 _ rfl
      have xl := HX4.out.lt
      have r0 := HR4.out.cs 0 _ rfl
      have rl := HR4.out.lt
      have rf := HR4.out.s 0
      go_wp2_with fail
      have hR5 := HR4.out.put 0 (.slice (some ⟨b, off, none⟩) l.length c) (by simp)
      have g0 := hR5.cs 0 _ rfl
      have hB5 := HB4.out.setCell (p := ⟨w.heap.size + 2, 0, none⟩) (by simp) (.slice (some ⟨b, off, none⟩) l.length c)
      have hL5 := HL4.out.aside (g := w.heap.size + 2) (by omega) 0 (.slice (some ⟨b, off, none⟩) l.length c)
      exact bodyPost_ret (v := .tuple #[.agg #[.slice (some ⟨b, off, none⟩) l.length c], .int .i64 13]) (by simp [results, Tryd.results18, go_sem, g0]) rfl ⟨_, rfl, hL5.mono (fun g hg => .inl hg.1), hB5⟩
    · by_cases h3 : 64 ≤ l.length
      · have e1 : Ln.acode l x = 12 := by unfold Ln.acode; rw [if_neg (by omega), if_neg h2, if_pos h3]
        have e2 : Ln.add l x = l := by unfold Ln.add; rw [if_neg (by omega)]
        rw [e1, e2]
        have hb1 : decide ((l.length : Int) > 0) = true := decide_eq_true (by omega)
        have hb1n : decide (0 < l.length) = true := decide_eq_true (by omega)
        have hpos : 0 < l.length := by omega
        have hb2n : decide (x.m.id ≤ Ln.lastId l) = false := decide_eq_false (by omega)
        have hb2 : decide ((Ln.lastId l : Int) ≥ (x.m.id : Int)) = false := decide_eq_false (by omega)
        have hb3 : decide ((l.length : Int) ≥ 64) = true := decide_eq_true (by omega)
        have hsub : IntKind.i64.wrap ((l.length : Int) - 1) = ((l.length - 1 : Nat) : Int) := by rw [IntKind.wrap_i64]; omega
        have hlx : l.length - 1 < l.length := by omega
        obtain ⟨b, off, Ay, cy, rfl, hbl, hat, -⟩ := HU0.out.get hlx
        have c0 := hat 0 _ rfl
        rw [Nat.add_zero, show (l.getD (l.length - 1) it0).m.id = Ln.lastId l from rfl] at c0
        generalize Ln.lastId l = li at *
        generalize l.length - 1 = n1 at *
        clear hat e1 e2 h2 h1 h3 HG0
        go_enter Tryd.func18, Tryd.ntmps18
        go_wp2_with fail
        generalize (((w.alloc (.cells #[.slice (some ⟨b, off, none⟩) l.length c] 34)).alloc (.cells #[.int .u64 (x.m.id : Int), .string (ofL x.m.shop), .string (ofL x.m.key), .slice Ax x.m.head.length cx, .string (ofL x.m.body), .int .u64 (x.m.due : Int), .int .u8 (x.m.hops : Int), .bool x.lent, .bool x.again] 30)).alloc (.cells #[.slice none 0 0] 34)) = w2 at *
        refine HCK.out.mono ?_
        rintro e w3 ⟨rfl, hb⟩
        have HL3 := Lib.hid (HU0.out.on hb)
        have HX3 := Lib.hid (HX0.out.on hb)
        have HI3 := Lib.hid (HI0.out.on hb)
        have HR3 := Lib.hid (HR0.out.on hb)
        have HB3 := Lib.hid (bthen HB0.out hb (Nat.le_refl _))
        have HS3 := Lib.hid (show w.heap.size + 3 ≤ w3.heap.size from by have := hb.size; have := HSZ.out; omega)
        have k0 := (hb.cell (p := ⟨b, off + n1 * 9, none⟩) hbl).trans c0
        have hbl3 := Nat.lt_of_lt_of_le hbl hb.size
        clear c0 hbl
        clear hb
        have x0 := HX3.out.cs 0 _ rfl
        have xl := HX3.out.lt
        have i0 := HI3.out.cs 0 _ rfl
        have il := HI3.out.lt
        go_upto_region 5 with fail
        go_quiet (fail)
        have hdn : Below w3.heap.size w3 (w3.drewN nq) := ⟨rfl, rfl, rfl, Nat.le_refl _, fun _ _ => rfl⟩
        have HL4 := Lib.hid (HL3.out.on hdn)
        have HX4 := Lib.hid (HX3.out.on hdn)
        have HI4 := Lib.hid (HI3.out.on hdn)
        have HR4 := Lib.hid (HR3.out.on hdn)
        have HB4 := Lib.hid (bthen HB3.out hdn (Nat.le_refl _))
        have HS4 := Lib.hid (show w.heap.size + 3 ≤ (w3.drewN nq).heap.size from Nat.le_trans HS3.out hdn.size)
        clear x0 xl i0 il k0 hbl3 hdn
        generalize w3.drewN nq = w4 at *
        have x0 := HX4.out.cs 0 _ rfl
        have xl := HX4.out.lt
        have r0 := HR4.out.cs 0 _ rfl
        have rl := HR4.out.lt
        have rf := HR4.out.s 0
        go_wp2_with fail
        have hR5 := HR4.out.put 0 (.slice (some ⟨b, off, none⟩) l.length c) (by simp)
        have g0 := hR5.cs 0 _ rfl
        have hB5 := HB4.out.setCell (p := ⟨w.heap.size + 2, 0, none⟩) (by simp) (.slice (some ⟨b, off, none⟩) l.length c)
        have hL5 := HL4.out.aside (g := w.heap.size + 2) (by omega) 0 (.slice (some ⟨b, off, none⟩) l.length c)
        exact bodyPost_ret (v := .tuple #[.agg #[.slice (some ⟨b, off, none⟩) l.length c], .int .i64 12]) (by simp [results, Tryd.results18, go_sem, g0]) rfl ⟨_, rfl, hL5.mono (fun g hg => .inl hg.1), hB5⟩
      · have e1 : Ln.acode l x = 0 := by unfold Ln.acode; rw [if_neg (by omega), if_neg h2, if_neg h3]
        have e2 : Ln.add l x = l ++ [x] := by unfold Ln.add; rw [if_pos e1]
        rw [e1, e2]
        have hb3 : decide ((l.length : Int) ≥ 64) = false := decide_eq_false (by omega)
        by_cases h0 : l.length = 0
        · have hb1 : decide ((l.length : Int) > 0) = false := decide_eq_false (by omega)
          have hb1n : decide (0 < l.length) = false := decide_eq_false (by omega)
          have hpos : ¬ 0 < l.length := by omega
          clear e1 e2 h1 h2 h3 h0
          go_enter Tryd.func18, Tryd.ntmps18
          go_wp2_with fail
          generalize (((w.alloc (.cells #[.slice A l.length c] 34)).alloc (.cells #[.int .u64 (x.m.id : Int), .string (ofL x.m.shop), .string (ofL x.m.key), .slice Ax x.m.head.length cx, .string (ofL x.m.body), .int .u64 (x.m.due : Int), .int .u8 (x.m.hops : Int), .bool x.lent, .bool x.again] 30)).alloc (.cells #[.slice none 0 0] 34)) = w2 at *
          refine HCK.out.mono ?_
          rintro e w3 ⟨rfl, hb⟩
          have HL3 := Lib.hid (HU0.out.on hb)
          have HX3 := Lib.hid (HX0.out.on hb)
          have HI3 := Lib.hid (HI0.out.on hb)
          have HR3 := Lib.hid (HR0.out.on hb)
          have HB3 := Lib.hid (bthen HB0.out hb (Nat.le_refl _))
          have HS3 := Lib.hid (show w.heap.size + 3 ≤ w3.heap.size from by have := hb.size; have := HSZ.out; omega)
          have HG3 := Lib.hid (HG0.out.on hb)
          clear hb
          have x0 := HX3.out.cs 0 _ rfl
          have xl := HX3.out.lt
          have i0 := HI3.out.cs 0 _ rfl
          have il := HI3.out.lt
          go_upto_region 5 with fail
          go_quiet (fail)
          have hdn : Below w3.heap.size w3 (w3.drewN nq) := ⟨rfl, rfl, rfl, Nat.le_refl _, fun _ _ => rfl⟩
          have HL4 := Lib.hid (HL3.out.on hdn)
          have HX4 := Lib.hid (HX3.out.on hdn)
          have HI4 := Lib.hid (HI3.out.on hdn)
          have HR4 := Lib.hid (HR3.out.on hdn)
          have HB4 := Lib.hid (bthen HB3.out hdn (Nat.le_refl _))
          have HS4 := Lib.hid (show w.heap.size + 3 ≤ (w3.drewN nq).heap.size from Nat.le_trans HS3.out hdn.size)
          have HG4 := Lib.hid (HG3.out.on hdn)
          clear x0 xl i0 il hdn
          generalize w3.drewN nq = w4 at *
          have x0 := HX4.out.cs 0 _ rfl
          have xl := HX4.out.lt
          have HMG4 := Lib.hid (HG4.out)
          have i0 := HI4.out.cs 0 _ rfl
          have i1 := HI4.out.cs 1 _ rfl
          have i2 := HI4.out.cs 2 _ rfl
          have i3 := HI4.out.cs 3 _ rfl
          have i4 := HI4.out.cs 4 _ rfl
          have i5 := HI4.out.cs 5 _ rfl
          have i6 := HI4.out.cs 6 _ rfl
          have i7 := HI4.out.cs 7 _ rfl
          have i8 := HI4.out.cs 8 _ rfl
          have il := HI4.out.lt
          have HCL := Lib.hid (fun W => clipIt_any A l.length c W hlc)
          have HOW := Lib.hid (fun W hp => itOwn_any x Ax cx W HMG4.out.ok.len HMG4.out.ok.cap hp)
          unfold ItOwnPost at HOW
          simp only [itV] at HOW
          have HDR := Lib.hid (show Below w4.heap.size w4 w4.drew from (Below.refl _ _).drew)
          go_upto_region 9 with fail
          go_region_law (first
            | (go_simp; go_at_call 35; refine (HCL.out _).mono ?_; rintro e w5 ⟨rfl, rfl⟩)
            | (go_simp; go_at_call 22; refine (HOW.out _ (HMG4.out.ok.row.on HDR.out)).mono ?_; rintro e w5 ⟨Aq, cq, rfl, ho, hb⟩; obtain ⟨gg, cc, w7, hrun, hb7, hu7⟩ := add_facts hl (HL4.out.on HDR.out) (HMG4.out.ok.on HDR.out) HMG4.out.fits hb ho; have HRUN := Lib.hid hrun; have HB7 := Lib.hid (bthen (bthen HB4.out HDR.out (Nat.le_refl _)) hb7 (Nat.le_refl _)); have HU7 := Lib.hid hu7; have HX7 := Lib.hid ((HX4.out.on HDR.out).on hb7); have HR7 := Lib.hid ((HR4.out.on HDR.out).on hb7); have y0 := HX7.out.cs 0 _ rfl; have yl := HX7.out.lt; have yf := HX7.out.s 0; have z0 := (HX4.out.on HDR.out).on hb |>.cs 0 _ rfl; have zl := (HX4.out.on HDR.out).on hb |>.lt; clear hrun hb7 hu7 ho hb)
            | (refine step_append_run (by rfl) _ _ 22 (by rfl) _ _ (by rfl) (by rfl) HRUN.out ?_))
          all_goals
            have r0 := HR7.out.cs 0 _ rfl
            have rl := HR7.out.lt
            have rf := HR7.out.s 0
            go_wp2_with fail
            have hL8 := (HU7.out.aside (g := w.heap.size) (by have := HS4.out; have := HDR.out.size; omega) 0 (.slice (some ⟨gg, 0, none⟩) (l.length + 1) cc)).aside (g := w.heap.size + 2) (by have := HS4.out; have := HDR.out.size; omega) 0 (.slice (some ⟨gg, 0, none⟩) (l.length + 1) cc)
            have hR8 := (HR7.out.aside (g := w.heap.size) (by omega) 0 (.slice (some ⟨gg, 0, none⟩) (l.length + 1) cc)).put 0 (.slice (some ⟨gg, 0, none⟩) (l.length + 1) cc) (by simp)
            have hB8 := (HB7.out.setCell (p := ⟨w.heap.size, 0, none⟩) (Nat.le_refl _) (.slice (some ⟨gg, 0, none⟩) (l.length + 1) cc)).setCell (p := ⟨w.heap.size + 2, 0, none⟩) (by simp) (.slice (some ⟨gg, 0, none⟩) (l.length + 1) cc)
            have g0 := hR8.cs 0 _ rfl
            exact bodyPost_ret (v := .tuple #[.agg #[.slice (some ⟨gg, 0, none⟩) (l.length + 1) cc], .int .i64 0]) (by simp [results, Tryd.results18, go_sem, g0]) rfl ⟨_, rfl, hL8.mono (fun g hg => hg.elim (fun a => .inl a.1) (fun a => .inr (by have := HS4.out; have := HDR.out.size; omega))), hB8⟩
        · have hb1 : decide ((l.length : Int) > 0) = true := decide_eq_true (by omega)
          have hb1n : decide (0 < l.length) = true := decide_eq_true (by omega)
          have hpos : 0 < l.length := by omega
          have hb2n : decide (x.m.id ≤ Ln.lastId l) = false := decide_eq_false (by omega)
          have hb2 : decide ((Ln.lastId l : Int) ≥ (x.m.id : Int)) = false := decide_eq_false (by omega)
          have hsub : IntKind.i64.wrap ((l.length : Int) - 1) = ((l.length - 1 : Nat) : Int) := by rw [IntKind.wrap_i64]; omega
          have hlx : l.length - 1 < l.length := by omega
          obtain ⟨b, off, Ay, cy, rfl, hbl, hat, -⟩ := HU0.out.get hlx
          have c0 := hat 0 _ rfl
          rw [Nat.add_zero, show (l.getD (l.length - 1) it0).m.id = Ln.lastId l from rfl] at c0
          generalize Ln.lastId l = li at *
          generalize l.length - 1 = n1 at *
          clear hat e1 e2 h1 h2 h3 h0
          go_enter Tryd.func18, Tryd.ntmps18
          go_wp2_with fail
          generalize (((w.alloc (.cells #[.slice (some ⟨b, off, none⟩) l.length c] 34)).alloc (.cells #[.int .u64 (x.m.id : Int), .string (ofL x.m.shop), .string (ofL x.m.key), .slice Ax x.m.head.length cx, .string (ofL x.m.body), .int .u64 (x.m.due : Int), .int .u8 (x.m.hops : Int), .bool x.lent, .bool x.again] 30)).alloc (.cells #[.slice none 0 0] 34)) = w2 at *
          refine HCK.out.mono ?_
          rintro e w3 ⟨rfl, hb⟩
          have HL3 := Lib.hid (HU0.out.on hb)
          have HX3 := Lib.hid (HX0.out.on hb)
          have HI3 := Lib.hid (HI0.out.on hb)
          have HR3 := Lib.hid (HR0.out.on hb)
          have HB3 := Lib.hid (bthen HB0.out hb (Nat.le_refl _))
          have HS3 := Lib.hid (show w.heap.size + 3 ≤ w3.heap.size from by have := hb.size; have := HSZ.out; omega)
          have HG3 := Lib.hid (HG0.out.on hb)
          have k0 := (hb.cell (p := ⟨b, off + n1 * 9, none⟩) hbl).trans c0
          have hbl3 := Nat.lt_of_lt_of_le hbl hb.size
          clear c0 hbl
          clear hb
          have x0 := HX3.out.cs 0 _ rfl
          have xl := HX3.out.lt
          have i0 := HI3.out.cs 0 _ rfl
          have il := HI3.out.lt
          go_upto_region 5 with fail
          go_quiet (fail)
          have hdn : Below w3.heap.size w3 (w3.drewN nq) := ⟨rfl, rfl, rfl, Nat.le_refl _, fun _ _ => rfl⟩
          have HL4 := Lib.hid (HL3.out.on hdn)
          have HX4 := Lib.hid (HX3.out.on hdn)
          have HI4 := Lib.hid (HI3.out.on hdn)
          have HR4 := Lib.hid (HR3.out.on hdn)
          have HB4 := Lib.hid (bthen HB3.out hdn (Nat.le_refl _))
          have HS4 := Lib.hid (show w.heap.size + 3 ≤ (w3.drewN nq).heap.size from Nat.le_trans HS3.out hdn.size)
          have HG4 := Lib.hid (HG3.out.on hdn)
          clear x0 xl i0 il k0 hbl3 hdn
          generalize w3.drewN nq = w4 at *
          have x0 := HX4.out.cs 0 _ rfl
          have xl := HX4.out.lt
          have HMG4 := Lib.hid (HG4.out)
          have i0 := HI4.out.cs 0 _ rfl
          have i1 := HI4.out.cs 1 _ rfl
          have i2 := HI4.out.cs 2 _ rfl
          have i3 := HI4.out.cs 3 _ rfl
          have i4 := HI4.out.cs 4 _ rfl
          have i5 := HI4.out.cs 5 _ rfl
          have i6 := HI4.out.cs 6 _ rfl
          have i7 := HI4.out.cs 7 _ rfl
          have i8 := HI4.out.cs 8 _ rfl
          have il := HI4.out.lt
          have HCL := Lib.hid (fun W => clipIt_any (some ⟨b, off, none⟩) l.length c W hlc)
          have HOW := Lib.hid (fun W hp => itOwn_any x Ax cx W HMG4.out.ok.len HMG4.out.ok.cap hp)
          unfold ItOwnPost at HOW
          simp only [itV] at HOW
          have HDR := Lib.hid (show Below w4.heap.size w4 w4.drew from (Below.refl _ _).drew)
          go_upto_region 9 with fail
          go_region_law (first
            | (go_simp; go_at_call 35; refine (HCL.out _).mono ?_; rintro e w5 ⟨rfl, rfl⟩)
            | (go_simp; go_at_call 22; refine (HOW.out _ (HMG4.out.ok.row.on HDR.out)).mono ?_; rintro e w5 ⟨Aq, cq, rfl, ho, hb⟩; obtain ⟨gg, cc, w7, hrun, hb7, hu7⟩ := add_facts hl (HL4.out.on HDR.out) (HMG4.out.ok.on HDR.out) HMG4.out.fits hb ho; have HRUN := Lib.hid hrun; have HB7 := Lib.hid (bthen (bthen HB4.out HDR.out (Nat.le_refl _)) hb7 (Nat.le_refl _)); have HU7 := Lib.hid hu7; have HX7 := Lib.hid ((HX4.out.on HDR.out).on hb7); have HR7 := Lib.hid ((HR4.out.on HDR.out).on hb7); have y0 := HX7.out.cs 0 _ rfl; have yl := HX7.out.lt; have yf := HX7.out.s 0; have z0 := (HX4.out.on HDR.out).on hb |>.cs 0 _ rfl; have zl := (HX4.out.on HDR.out).on hb |>.lt; clear hrun hb7 hu7 ho hb)
            | (refine step_append_run (by rfl) _ _ 22 (by rfl) _ _ (by rfl) (by rfl) HRUN.out ?_))
          all_goals
            have r0 := HR7.out.cs 0 _ rfl
            have rl := HR7.out.lt
            have rf := HR7.out.s 0
            go_wp2_with fail
            have hL8 := (HU7.out.aside (g := w.heap.size) (by have := HS4.out; have := HDR.out.size; omega) 0 (.slice (some ⟨gg, 0, none⟩) (l.length + 1) cc)).aside (g := w.heap.size + 2) (by have := HS4.out; have := HDR.out.size; omega) 0 (.slice (some ⟨gg, 0, none⟩) (l.length + 1) cc)
            have hR8 := (HR7.out.aside (g := w.heap.size) (by omega) 0 (.slice (some ⟨gg, 0, none⟩) (l.length + 1) cc)).put 0 (.slice (some ⟨gg, 0, none⟩) (l.length + 1) cc) (by simp)
            have hB8 := (HB7.out.setCell (p := ⟨w.heap.size, 0, none⟩) (Nat.le_refl _) (.slice (some ⟨gg, 0, none⟩) (l.length + 1) cc)).setCell (p := ⟨w.heap.size + 2, 0, none⟩) (by simp) (.slice (some ⟨gg, 0, none⟩) (l.length + 1) cc)
            have g0 := hR8.cs 0 _ rfl
            exact bodyPost_ret (v := .tuple #[.agg #[.slice (some ⟨gg, 0, none⟩) (l.length + 1) cc], .int .i64 0]) (by simp [results, Tryd.results18, go_sem, g0]) rfl ⟨_, rfl, hL8.mono (fun g hg => hg.elim (fun a => .inl a.1) (fun a => .inr (by have := HS4.out; have := HDR.out.size; omega))), hB8⟩
  · have e1 : Ln.acode l x = x.m.code := by unfold Ln.acode; rw [if_pos h1]
    have e2 : Ln.add l x = l := by unfold Ln.add; rw [if_neg (by rw [e1]; exact h1)]
    have hb1 : ((x.m.code : Int) != 0) = true := by simpa using h1
    rw [e1, e2]
    generalize x.m.code = cd at *
    clear e1 e2 h1 HG0
    go_enter Tryd.func18, Tryd.ntmps18
    go_wp2_with fail
    generalize (((w.alloc (.cells #[.slice A l.length c] 34)).alloc (.cells #[.int .u64 (x.m.id : Int), .string (ofL x.m.shop), .string (ofL x.m.key), .slice Ax x.m.head.length cx, .string (ofL x.m.body), .int .u64 (x.m.due : Int), .int .u8 (x.m.hops : Int), .bool x.lent, .bool x.again] 30)).alloc (.cells #[.slice none 0 0] 34)) = w2 at *
    refine HCK.out.mono ?_
    rintro e w3 ⟨rfl, hb⟩
    have HL3 := Lib.hid (HU0.out.on hb)
    have HX3 := Lib.hid (HX0.out.on hb)
    have HI3 := Lib.hid (HI0.out.on hb)
    have HR3 := Lib.hid (HR0.out.on hb)
    have HB3 := Lib.hid (bthen HB0.out hb (Nat.le_refl _))
    have HS3 := Lib.hid (show w.heap.size + 3 ≤ w3.heap.size from by have := hb.size; have := HSZ.out; omega)
    clear hb
    have x0 := HX3.out.cs 0 _ rfl
    have xl := HX3.out.lt
    have i0 := HI3.out.cs 0 _ rfl
    have il := HI3.out.lt
    have r0 := HR3.out.cs 0 _ rfl
    have rl := HR3.out.lt
    have rf := HR3.out.s 0
    go_wp2_with fail
    have hR5 := HR3.out.put 0 (.slice A l.length c) (by simp)
    have g0 := hR5.cs 0 _ rfl
    have hB5 := HB3.out.setCell (p := ⟨w.heap.size + 2, 0, none⟩) (by simp) (.slice A l.length c)
    have hL5 := HL3.out.aside (g := w.heap.size + 2) (by omega) 0 (.slice A l.length c)
    exact bodyPost_ret (v := .tuple #[.agg #[.slice A l.length c], .int .i64 (cd : Int)]) (by simp [results, Tryd.results18, go_sem, g0]) rfl ⟨_, rfl, hL5.mono (fun g hg => .inl hg.1), hB5⟩
end Go.Proofs.YtfbajmiiecmelabDoor
end
