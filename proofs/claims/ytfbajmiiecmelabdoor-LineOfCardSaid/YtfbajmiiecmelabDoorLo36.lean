/-
  ONE LENT: walked.
-/
import Derived.Test.YtfbajmiiecmelabDoorLo35

section
namespace Go.Proofs.YtfbajmiiecmelabDoor
open Go.ChangeShapes Go.WideShapes Go.ChangeAt Go.RowKit
def LentPost (U : Nat → Prop) (l' : List It) (x : It) (ok : Bool) (w : World) (e : Ending) (w' : World) : Prop := ∃ v A c, e = .returned (.tuple #[v, itV x A c, .bool ok]) ∧ LnU (fun g => U g ∨ w.heap.size ≤ g) w' v l' ∧ OwnPrs w.heap.size w' A c x.m.head ∧ Below w.heap.size w w'
theorem LnU.putAll {U : Nat → Prop} {v : Value} {l : List It} {g : Nat} (hg : ¬ U g) : ∀ (vs : List Value) (j : Nat) {w : World}, LnU U w v l → LnU U (Go.Proofs.YtfbajmiiecmelabDoor.putAll g j vs w) v l
  | [], _, _, h => h
  | x :: vs, j, _, h => LnU.putAll hg vs (j + 1) (h.aside hg j x)
theorem OwnPrs.nil (B : Nat) (w : World) : OwnPrs B w none 0 [] := World.ownsRow_nil _ _ _ _
theorem BoxC.drew {w W : World} {c : Nat} {xs : List Value} (h : BoxC w c xs W) : BoxC w c xs W.drew := h.on (Below.refl _ _).drew
theorem LnU.drew {U : Nat → Prop} {w : World} {v : Value} {l : List It} (h : LnU U w v l) : LnU U w.drew v l := h.on (Below.refl _ _).drew
set_option maxHeartbeats 8000000 in
theorem lnLend_any (v : Value) (l : List It) (w : World) (U : Nat → Prop) (hl : l.length ≤ 100000) (h : LnU U w v l) : Calls Tryd.prog 13 #[v] w (LentPost U (Ln.lend l) (Ln.lentIt l) (decide (0 ≤ Ln.next l)) w) := by
  have hc := h.cut
  obtain ⟨A, c, rfl, -⟩ := h.form
  have hb0 := three_allocs w (.cells #[.slice A l.length c] 34) (.cells #[.slice none 0 0] 34) (.cells #[.int .u64 0, .string ⟨#[]⟩, .string ⟨#[]⟩, .slice none 0 0, .string ⟨#[]⟩, .int .u64 0, .int .u8 0, .bool false, .bool false] 30)
  have HX0 := Lib.hid (box_next (box_next (box_at0 w #[.slice A l.length c] 34) (.cells #[.slice none 0 0] 34)) (.cells #[.int .u64 0, .string ⟨#[]⟩, .string ⟨#[]⟩, .slice none 0 0, .string ⟨#[]⟩, .int .u64 0, .int .u8 0, .bool false, .bool false] 30))
  have HR0 := Lib.hid (box_next (box_at1 w (.cells #[.slice A l.length c] 34) #[.slice none 0 0] 34) (.cells #[.int .u64 0, .string ⟨#[]⟩, .string ⟨#[]⟩, .slice none 0 0, .string ⟨#[]⟩, .int .u64 0, .int .u8 0, .bool false, .bool false] 30))
  have HQ0 := Lib.hid (box_at2 w (.cells #[.slice A l.length c] 34) (.cells #[.slice none 0 0] 34) #[.int .u64 0, .string ⟨#[]⟩, .string ⟨#[]⟩, .slice none 0 0, .string ⟨#[]⟩, .int .u64 0, .int .u8 0, .bool false, .bool false] 30)
  have HB0 := Lib.hid hb0
  have HU0 := Lib.hid (hc.on hb0)
  have HN := Lib.hid (lnNext_any _ l _ hl (h.in.on hb0))
  have HSZ := Lib.hid (show (((w.alloc (.cells #[.slice A l.length c] 34)).alloc (.cells #[.slice none 0 0] 34)).alloc (.cells #[.int .u64 0, .string ⟨#[]⟩, .string ⟨#[]⟩, .slice none 0 0, .string ⟨#[]⟩, .int .u64 0, .int .u8 0, .bool false, .bool false] 30)).heap.size = w.heap.size + 3 by simp)
  have HG := Lib.hid (fun h => Ln.idx_ge (q := Ln.rdy) (l := l) it0 h)
  clear hc hb0 h
  by_cases hn : Ln.next l < 0
  · have e1 : Ln.lend l = l := by unfold Ln.lend; rw [if_pos hn]
    have e2 : Ln.lentIt l = it0 := by unfold Ln.lentIt; rw [if_pos hn]
    rw [e1, e2, decide_eq_false (show ¬ 0 ≤ Ln.next l by omega)]
    have hd : decide (Ln.next l < 0) = true := decide_eq_true hn
    generalize Ln.next l = M at *
    clear e1 e2 hn HG hl
    go_enter Tryd.func13, Tryd.ntmps13
    go_wp2_with fail
    generalize (((w.alloc (.cells #[.slice A l.length c] 34)).alloc (.cells #[.slice none 0 0] 34)).alloc (.cells #[.int .u64 0, .string ⟨#[]⟩, .string ⟨#[]⟩, .slice none 0 0, .string ⟨#[]⟩, .int .u64 0, .int .u8 0, .bool false, .bool false] 30)) = w2 at *
    refine HN.out.mono ?_
    rintro e w3 ⟨rfl, hb⟩
    have HL3 := Lib.hid (HU0.out.on hb)
    have HX3 := Lib.hid (HX0.out.on hb)
    have HR3 := Lib.hid (HR0.out.on hb)
    have HQ3 := Lib.hid (HQ0.out.on hb)
    have HB3 := Lib.hid (bthen HB0.out hb (Nat.le_refl _))
    clear hb
    have x0 := HX3.out.cs 0 _ rfl
    have xl := HX3.out.lt
    have r0 := HR3.out.cs 0 _ rfl
    have rl := HR3.out.lt
    have rf := HR3.out.s 0
    have q0 := HQ3.out.cs 0 _ rfl
    have q1 := HQ3.out.cs 1 _ rfl
    have q2 := HQ3.out.cs 2 _ rfl
    have q3 := HQ3.out.cs 3 _ rfl
    have q4 := HQ3.out.cs 4 _ rfl
    have q5 := HQ3.out.cs 5 _ rfl
    have q6 := HQ3.out.cs 6 _ rfl
    have q7 := HQ3.out.cs 7 _ rfl
    have q8 := HQ3.out.cs 8 _ rfl
    have ql := HQ3.out.lt
    have qf : ∀ j, w3.frozen? ⟨w.heap.size + 2, j, none⟩ = false := HQ3.out.s
    go_wp2_with fail
    have hR4 := (HR3.out.put 0 (.slice A l.length c) (by simp)).putAll_aside (g := w.heap.size + 2) (by omega) [.int .u64 0, .string ⟨#[]⟩, .string ⟨#[]⟩, .slice none 0 0, .string ⟨#[]⟩, .int .u64 0, .int .u8 0, .bool false, .bool false] 0
    have hQ4 := (HQ3.out.aside (g := w.heap.size + 1) (by omega) 0 (.slice A l.length c)).fill [.int .u64 0, .string ⟨#[]⟩, .string ⟨#[]⟩, .slice none 0 0, .string ⟨#[]⟩, .int .u64 0, .int .u8 0, .bool false, .bool false] rfl
    have hB4 := below_putAll (g := w.heap.size + 2) (by omega) [.int .u64 0, .string ⟨#[]⟩, .string ⟨#[]⟩, .slice none 0 0, .string ⟨#[]⟩, .int .u64 0, .int .u8 0, .bool false, .bool false] 0 (HB3.out.setCell (p := ⟨w.heap.size + 1, 0, none⟩) (by simp) (.slice A l.length c))
    have hL4 := (HL3.out.aside (g := w.heap.size + 1) (by omega) 0 (.slice A l.length c)).putAll (g := w.heap.size + 2) (by omega) [.int .u64 0, .string ⟨#[]⟩, .string ⟨#[]⟩, .slice none 0 0, .string ⟨#[]⟩, .int .u64 0, .int .u8 0, .bool false, .bool false] 0
    simp only [putAll] at hR4 hQ4 hB4 hL4
    have r0' := hR4.cs 0 _ rfl
    have g0 := hQ4.cs 0 _ rfl
    have g1 := hQ4.cs 1 _ rfl
    have g2 := hQ4.cs 2 _ rfl
    have g3 := hQ4.cs 3 _ rfl
    have g4 := hQ4.cs 4 _ rfl
    have g5 := hQ4.cs 5 _ rfl
    have g6 := hQ4.cs 6 _ rfl
    have g7 := hQ4.cs 7 _ rfl
    have g8 := hQ4.cs 8 _ rfl
    exact bodyPost_ret (v := .tuple #[.agg #[.slice A l.length c], .agg #[.int .u64 0, .string ⟨#[]⟩, .string ⟨#[]⟩, .slice none 0 0, .string ⟨#[]⟩, .int .u64 0, .int .u8 0, .bool false, .bool false], .bool false]) (by simp [results, Tryd.results13, go_sem, r0', g0, g1, g2, g3, g4, g5, g6, g7, g8]) rfl ⟨_, none, 0, rfl, hL4.mono (fun g hg => .inl hg.1), OwnPrs.nil _ _, hB4⟩
  · obtain ⟨k, hk, hkl, hq, -⟩ := HG.out hn
    have hk' : Ln.next l = (k : Int) := hk
    have e1 : Ln.lend l = Ln.lendAll l (l.getD k it0).m.id := by unfold Ln.lend; rw [if_neg hn, hk', Int.toNat_natCast]
    have e2 : Ln.lentIt l = (Ln.lendAll l (l.getD k it0).m.id).getD k it0 := by unfold Ln.lentIt; rw [if_neg hn, hk', Int.toNat_natCast, e1]
    rw [e1, e2, decide_eq_true (show 0 ≤ Ln.next l by omega)]
    have hd : decide ((k : Int) < 0) = false := decide_eq_false (by omega)
    rw [hk'] at HN
    obtain ⟨b, off, Ax, cx, rfl, hbl, hat, -⟩ := HU0.out.get hkl
    have c0 := hat 0 _ rfl
    rw [Nat.add_zero] at c0
    clear hat e1 e2
    generalize (l.getD k it0).m.id = id at *
    have HKL := Lib.hid (show k < (Ln.lendAll l id).length by unfold Ln.lendAll; rw [List.length_map]; exact hkl)
    have HLN := Lib.hid (show (Ln.lendAll l id).length = l.length by simp [Ln.lendAll])
    have HTN := Lib.hid (fun (W : World) (hY : BoxC w (W.heap.size) [.int .u64 (id : Int)] (W.alloc (.cells #[.int .u64 (id : Int)] 25))) hW => lnTurn_any 28 #[.pointer (some ⟨W.heap.size, 0, none⟩)] (.inr ⟨.inl rfl, _, rfl⟩) (fun y => ⟨y.m, y.lent || y.m.id == id, y.again⟩) (fun y => rfl) (.agg #[.slice (some ⟨b, off, none⟩) l.length c]) l (W.alloc (.cells #[.int .u64 (id : Int)] 25)) (fun g => U g ∧ g < w.heap.size) hl hW (fun W' x A k hb => lnLend1_any x A k _ id W' ((hb.cell (p := ⟨W.heap.size, 0, none⟩) hY.lt).trans (hY.cs 0 _ rfl))))
    rw [show l.map (fun y => (⟨y.m, y.lent || y.m.id == id, y.again⟩ : It)) = Ln.lendAll l id from rfl] at HTN
    have hll := hl
    clear hn HG hk hk' hq hl
    go_enter Tryd.func13, Tryd.ntmps13
    go_wp2_with fail
    generalize (((w.alloc (.cells #[.slice (some ⟨b, off, none⟩) l.length c] 34)).alloc (.cells #[.slice none 0 0] 34)).alloc (.cells #[.int .u64 0, .string ⟨#[]⟩, .string ⟨#[]⟩, .slice none 0 0, .string ⟨#[]⟩, .int .u64 0, .int .u8 0, .bool false, .bool false] 30)) = w2 at *
    refine HN.out.mono ?_
    rintro e w3 ⟨rfl, hb⟩
    have HL3 := Lib.hid (HU0.out.on hb)
    have HX3 := Lib.hid (HX0.out.on hb)
    have HR3 := Lib.hid (HR0.out.on hb)
    have HQ3 := Lib.hid (HQ0.out.on hb)
    have HB3 := Lib.hid (bthen HB0.out hb (Nat.le_refl _))
    have d0 := (hb.cell (p := ⟨b, off + k * 9, none⟩) hbl).trans c0
    have hbl3 := Nat.lt_of_lt_of_le hbl hb.size
    have HS3 := Lib.hid (show w.heap.size + 3 ≤ w3.heap.size from by have := hb.size; have := HSZ.out; omega)
    clear hb c0 hbl
    have x0 := HX3.out.cs 0 _ rfl
    have xl := HX3.out.lt
    have HY4 := Lib.hid (BoxC.new (w := w) (W := w3) HB3.out.size #[.int .u64 (id : Int)] 25)
    have HL4 := Lib.hid (HL3.out.on (one_alloc w3 (.cells #[.int .u64 (id : Int)] 25)))
    have HX4 := Lib.hid (HX3.out.on (one_alloc w3 (.cells #[.int .u64 (id : Int)] 25)))
    have HR4 := Lib.hid (HR3.out.on (one_alloc w3 (.cells #[.int .u64 (id : Int)] 25)))
    have HQ4 := Lib.hid (HQ3.out.on (one_alloc w3 (.cells #[.int .u64 (id : Int)] 25)))
    have HB4 := Lib.hid (HB3.out.alloc HB3.out.size (.cells #[.int .u64 (id : Int)] 25))
    have HS4 := Lib.hid (show (w3.alloc (.cells #[.int .u64 (id : Int)] 25)).heap.size = w3.heap.size + 1 by simp)
    go_wp2_with fail
    refine (HTN.out w3 HY4.out HL4.out).mono ?_
    rintro e w5 ⟨v', rfl, h5, hb⟩
    obtain ⟨A', c', rfl, -⟩ := h5.form
    rw [HLN.out] at h5 ⊢
    have HL5 := Lib.hid h5
    have HX5 := Lib.hid (HX4.out.on hb)
    have HR5 := Lib.hid (HR4.out.on hb)
    have HQ5 := Lib.hid (HQ4.out.on hb)
    have HB5 := Lib.hid (bthen HB4.out hb (Nat.le_refl _))
    have HS5 := Lib.hid (show w3.heap.size + 1 ≤ w5.heap.size from by have := hb.size; have := HS4.out; omega)
    clear hb h5 x0 xl d0 hbl3
    have x0 := HX5.out.cs 0 _ rfl
    have xl := HX5.out.lt
    have xf := HX5.out.s 0
    have HL6 := Lib.hid (HL5.out.aside (g := w.heap.size) (by have := HS3.out; have := HS4.out; omega) 0 (.slice A' l.length c'))
    have HX6 := Lib.hid (HX5.out.put 0 (.slice A' l.length c') (by simp))
    have HR6 := Lib.hid (HR5.out.aside (g := w.heap.size) (by omega) 0 (.slice A' l.length c'))
    have HQ6 := Lib.hid (HQ5.out.aside (g := w.heap.size) (by omega) 0 (.slice A' l.length c'))
    have HB6 := Lib.hid (HB5.out.setCell (p := ⟨w.heap.size, 0, none⟩) (Nat.le_refl _) (.slice A' l.length c'))
    have HS6 := Lib.hid (show w3.heap.size + 1 ≤ (w5.setCell ⟨w.heap.size, 0, none⟩ (.slice A' l.length c')).heap.size from by simpa [World.setCell] using HS5.out)
    go_upto_region 6 with fail
    generalize w5.setCell ⟨w.heap.size, 0, none⟩ (.slice A' l.length c') = w6 at *
    obtain ⟨b', off', Ay, cy, rfl, hbl, hat, hgo⟩ := HL6.out.get HKL.out
    have HOW := Lib.hid (fun W hp => itOwn_any ((Ln.lendAll l id).getD k it0) Ay cy W hgo.ok.len hgo.ok.cap hp)
    have HPR := Lib.hid hgo.ok.row
    generalize (Ln.lendAll l id).getD k it0 = y at *
    unfold ItOwnPost at HOW
    simp only [itV] at HOW
    have c0 := hat 0 _ rfl
    have c1 := hat 1 _ rfl
    have c2 := hat 2 _ rfl
    have c3 := hat 3 _ rfl
    have c4 := hat 4 _ rfl
    have c5 := hat 5 _ rfl
    have c6 := hat 6 _ rfl
    have c7 := hat 7 _ rfl
    have c8 := hat 8 _ rfl
    rw [Nat.add_zero] at c0
    clear hat hgo x0 xl xf
    have x0 := HX6.out.cs 0 _ rfl
    have xl := HX6.out.lt
    go_region_with (first
      | (go_at_call 22; refine (HOW.out _ (HPR.out.on (Below.refl _ _).drew)).mono ?_; rintro e w7 ⟨Aq, cq, rfl, ho, hb⟩; have HL7 := Lib.hid (HL6.out.drew.on hb); have HX7 := Lib.hid (HX6.out.drew.on hb); have HR7 := Lib.hid (HR6.out.drew.on hb); have HQ7 := Lib.hid (HQ6.out.drew.on hb); have HB7 := Lib.hid (bthen HB6.out.drew hb (Nat.le_refl _)); have HO7 := Lib.hid ho; have HA7 := Lib.hid (show ∀ a, Aq = some a → w.heap.size + 4 ≤ a.block from fun a ha => by have := (ho.row.2.2 a ha).1; have := HS6.out; have := HS3.out; simp only [World.drew] at *; omega); have z0 := HX7.out.cs 0 _ rfl; have zl := HX7.out.lt; have r0 := HR7.out.cs 0 _ rfl; have rl := HR7.out.lt; have rf := HR7.out.s 0; have q0 := HQ7.out.cs 0 _ rfl; have q1 := HQ7.out.cs 1 _ rfl; have q2 := HQ7.out.cs 2 _ rfl; have q3 := HQ7.out.cs 3 _ rfl; have q4 := HQ7.out.cs 4 _ rfl; have q5 := HQ7.out.cs 5 _ rfl; have q6 := HQ7.out.cs 6 _ rfl; have q7 := HQ7.out.cs 7 _ rfl; have q8 := HQ7.out.cs 8 _ rfl; have ql := HQ7.out.lt; have qf : ∀ j, w7.frozen? ⟨w.heap.size + 2, j, none⟩ = false := HQ7.out.s; clear ho hb))
    all_goals
      go_wp2_with fail
      have hR8 := (HR7.out.put 0 (.slice (some ⟨b', off', none⟩) l.length c') (by simp)).putAll_aside (g := w.heap.size + 2) (by omega) [.int .u64 (y.m.id : Int), .string (ofL y.m.shop), .string (ofL y.m.key), .slice Aq y.m.head.length cq, .string (ofL y.m.body), .int .u64 (y.m.due : Int), .int .u8 (y.m.hops : Int), .bool y.lent, .bool y.again] 0
      have hQ8 := (HQ7.out.aside (g := w.heap.size + 1) (by omega) 0 (.slice (some ⟨b', off', none⟩) l.length c')).fill [.int .u64 (y.m.id : Int), .string (ofL y.m.shop), .string (ofL y.m.key), .slice Aq y.m.head.length cq, .string (ofL y.m.body), .int .u64 (y.m.due : Int), .int .u8 (y.m.hops : Int), .bool y.lent, .bool y.again] rfl
      have hB8 := below_putAll (g := w.heap.size + 2) (by omega) [.int .u64 (y.m.id : Int), .string (ofL y.m.shop), .string (ofL y.m.key), .slice Aq y.m.head.length cq, .string (ofL y.m.body), .int .u64 (y.m.due : Int), .int .u8 (y.m.hops : Int), .bool y.lent, .bool y.again] 0 (HB7.out.setCell (p := ⟨w.heap.size + 1, 0, none⟩) (by simp) (.slice (some ⟨b', off', none⟩) l.length c'))
      have hL8 := (HL7.out.aside (g := w.heap.size + 1) (by have := HS3.out; have := HS4.out; omega) 0 (.slice (some ⟨b', off', none⟩) l.length c')).putAll (g := w.heap.size + 2) (by have := HS3.out; have := HS4.out; omega) [.int .u64 (y.m.id : Int), .string (ofL y.m.shop), .string (ofL y.m.key), .slice Aq y.m.head.length cq, .string (ofL y.m.body), .int .u64 (y.m.due : Int), .int .u8 (y.m.hops : Int), .bool y.lent, .bool y.again] 0
      have hO8 := (HO7.out.aside (g := w.heap.size + 1) (fun a ha => by have := HA7.out a ha; omega) 0 (.slice (some ⟨b', off', none⟩) l.length c')).putAll (g := w.heap.size + 2) (fun a ha => by have := HA7.out a ha; omega) [.int .u64 (y.m.id : Int), .string (ofL y.m.shop), .string (ofL y.m.key), .slice Aq y.m.head.length cq, .string (ofL y.m.body), .int .u64 (y.m.due : Int), .int .u8 (y.m.hops : Int), .bool y.lent, .bool y.again] 0
      simp only [putAll] at hR8 hQ8 hB8 hL8 hO8
      have r0' := hR8.cs 0 _ rfl
      have g0 := hQ8.cs 0 _ rfl
      have g1 := hQ8.cs 1 _ rfl
      have g2 := hQ8.cs 2 _ rfl
      have g3 := hQ8.cs 3 _ rfl
      have g4 := hQ8.cs 4 _ rfl
      have g5 := hQ8.cs 5 _ rfl
      have g6 := hQ8.cs 6 _ rfl
      have g7 := hQ8.cs 7 _ rfl
      have g8 := hQ8.cs 8 _ rfl
      exact bodyPost_ret (v := .tuple #[.agg #[.slice (some ⟨b', off', none⟩) l.length c'], .agg #[.int .u64 (y.m.id : Int), .string (ofL y.m.shop), .string (ofL y.m.key), .slice Aq y.m.head.length cq, .string (ofL y.m.body), .int .u64 (y.m.due : Int), .int .u8 (y.m.hops : Int), .bool y.lent, .bool y.again], .bool true]) (by simp [results, Tryd.results13, go_sem, r0', g0, g1, g2, g3, g4, g5, g6, g7, g8]) rfl ⟨_, Aq, cq, rfl, hL8.mono (fun g hg => hg.elim (fun a => .inl a.1) (fun a => .inr (by have := HS3.out; have := HS4.out; omega))), World.ownsRow.mono hO8 (by have := HS6.out; have := HS3.out; simp only [World.drew] at *; omega), hB8⟩
end Go.Proofs.YtfbajmiiecmelabDoor
end
