/-
  THE LAW LineWakes.
-/
import Derived.Test.YtgpnhccekpiijaaGreatDoorLw48
import Derived.BigQuiet
import Derived.Deep.RegionHeld3
section
namespace Go.Proofs.YtgpnhccekpiijaaGreatDoor
open Go.ChangeShapes Go.WideShapes Go.ChangeAt Go.RowKit
theorem wk_it {q : List It} (hr : Ln.Rises (Ln.wake q)) {k : Nat} (hk : k < q.length) : Ln.lentIt (Ln.lentTo (Ln.wake q) k) = ⟨(q.getD k it0).m, true, (q.getD k it0).again || (q.getD k it0).lent⟩ := by
  have hl : (Ln.wake q).length = q.length := by simp [Ln.wake]
  unfold Ln.lentIt
  rw [Ln.lentTo_next (Ln.wake_free q) (by omega), if_neg (by omega), Ln.lentTo_lend hr (Ln.wake_free q) (by omega), Int.toNat_natCast]
  rw [Ln.getD_lt (by rw [Ln.lentTo_len]; omega), Ln.getD_lt hk]
  unfold Ln.lentTo
  rw [List.getElem_append_left (by simp; omega)]
  simp [Ln.wake, Ln.lent1, Ln.back1]
theorem wake_len (q : List It) : (Ln.wake q).length = q.length := by simp [Ln.wake]
theorem wk_lend {q : List It} (hr : Ln.Rises (Ln.wake q)) {k : Nat} (hk : k < q.length) (hq : q.length ≤ 100000) (v : Value) (w : World) (U : Nat → Prop) (h : LnU U w v (Ln.lentTo (Ln.wake q) k)) : Calls Tryz.prog 35 #[v] w (LentPost U (Ln.lentTo (Ln.wake q) (k + 1)) ⟨(q.getD k it0).m, true, (q.getD k it0).again || (q.getD k it0).lent⟩ true w) := by
  have := lnLend_any v (Ln.lentTo (Ln.wake q) k) w U (by rw [Ln.lentTo_len, wake_len]; exact hq) h
  rw [wk_it hr hk, Ln.lentTo_lend hr (Ln.wake_free q) (by rw [wake_len]; exact hk), Ln.lentTo_next (Ln.wake_free q) (by rw [wake_len]; exact hk)] at this
  rw [show decide (0 ≤ (k : Int)) = true from decide_eq_true (by omega)] at this
  exact this
theorem wk_end {q : List It} (hq : q.length ≤ 100000) (v : Value) (w : World) (U : Nat → Prop) (h : LnU U w v (Ln.lentTo (Ln.wake q) q.length)) : Calls Tryz.prog 35 #[v] w (LentPost U (Ln.lentTo (Ln.wake q) q.length) it0 false w) := by
  have hn : Ln.next (Ln.lentTo (Ln.wake q) q.length) < 0 := by
    have := @Ln.lentTo_all (Ln.wake q)
    rwa [wake_len] at this
  have := lnLend_any v (Ln.lentTo (Ln.wake q) q.length) w U (by rw [Ln.lentTo_len, wake_len]; exact hq) h
  rw [show Ln.lend (Ln.lentTo (Ln.wake q) q.length) = Ln.lentTo (Ln.wake q) q.length from by unfold Ln.lend; rw [if_pos hn], show Ln.lentIt (Ln.lentTo (Ln.wake q) q.length) = it0 from by unfold Ln.lentIt; rw [if_pos hn]] at this
  rw [show decide (0 ≤ Ln.next (Ln.lentTo (Ln.wake q) q.length)) = false from decide_eq_false (by omega)] at this
  exact this
theorem cell_on {a a' : World} (hb : Below a.heap.size a a') {p : Addr} {v : Value} (h : a.cell? p = some v) : a'.cell? p = some v := (hb.cell (World.block_lt_of_cell? a _ h)).trans h
theorem LnBox.putN {w W : World} {b n : Nat} {l' : List It} {A : Option Addr} {c : Nat} {U : Nat → Prop} {x : Value} (hn : l'.length = n) (h : BoxC w b [x] W) (hu : LnU U W (.agg #[.slice A n c]) l') (hb : ¬ U b) : LnBox w b l' (W.setCell ⟨b, 0, none⟩ (.slice A n c)) := by
  subst hn
  exact ⟨A, c, U, h.put 0 _ (by simp), hu.aside hb 0 _, hb⟩
def WkSt (w : World) (b b1 : Nat) (q : List It) (A : Option Addr) (c : Nat) (U : Nat → Prop) (A6 : Option Addr) (c6 : Nat) (UA : Nat → Prop) (n g : Nat) (i : Value) (wr : World) : Prop :=
  ∃ k : Nat, k + g = n ∧ i = .int .i64 (k : Int) ∧ BoxC w b [.slice A q.length c] wr ∧ LnU U wr (.agg #[.slice A q.length c]) q ∧ LnU UA wr (.agg #[.slice A6 q.length c6]) q ∧ LnBox w b1 (Ln.lentTo (Ln.wake q) k) wr ∧ Below w.heap.size w wr
set_option maxRecDepth 100000 in
set_option maxHeartbeats 16000000 in
theorem lineWakes_walk (A0 : Option Addr) (ca : Nat) (l : List AcP) (w : World) (hl : l.length ≤ 9223372036854775807) (hA : Acs w A0 l) (hL : Len w) : Calls Tryz.prog 6 #[.slice A0 l.length ca] w fun e w' => e = .returned (.bool true) ∧ Below w.heap.size w w' := by
  have HAW := Lib.hid (fun W h => awake18_any W h)
  have HLI := Lib.hid (fun W h => light18_any A0 ca l W hl h)
  have HA := Lib.hid hA
  have HL := Lib.hid hL
  clear hA hL
  go_enter Tryz.func6, Tryz.ntmps6
  go_wp2_with fail
  refine (HAW.out _ HL.out).mono ?_
  rintro e w1 ⟨rfl, b1⟩
  have B1 := Lib.hid b1
  clear b1
  go_wp2_with fail
  refine (HLI.out _ (HA.out.on B1.out)).mono ?_
  rintro e w2 ⟨h2, b2⟩
  have B2 := Lib.hid (bthen B1.out b2 (Nat.le_refl _))
  clear b2
  rcases h2 with ⟨rfl, hf⟩ | rfl
  · have HF := Lib.hid hf
    have h100 := hf.1
    clear hf
    go_upto_region 6 with fail
    have HBX := Lib.hid (show LnBox w w2.heap.size [] (w2.alloc (.cells #[.slice none 0 0] 55)) from LnBox.new (l := []) B2.out.size (LnU.nil (fun _ => False) w2))
    have HBB := Lib.hid (B2.out.alloc B2.out.size (.cells #[.slice none 0 0] 55))
    generalize w2.alloc (.cells #[.slice none 0 0] 55) = w3 at *
    generalize w2.heap.size = b at *
    go_wp2_with fail
    go_loopg [22] l.length (fun g i wr => AcSt w b l.length g i wr)
    case atStart => exact ⟨0, [], by omega, rfl, FineS.nil, HBX.out, HBB.out⟩
    case round =>
      obtain ⟨k, q, hk, rfl, hfi, hbx, hbb⟩ := hrel
      have HK := Lib.hid hk
      have HFI := Lib.hid hfi
      have HQX := Lib.hid hbx
      have HQB := Lib.hid hbb
      clear hk hfi hbx hbb
      by_cases hlt : k < l.length
      · obtain ⟨ba, off, rfl, hbl, hat⟩ := (HA.out.on HQB.out).at_ k hlt
        have hin := (HA.out.on HQB.out).in_ l[k] (List.getElem_mem hlt)
        have hli := HF.out.2 l[k] (List.getElem_mem hlt)
        generalize l[k] = p at *
        obtain ⟨d, x, Ax, cx⟩ := p
        unfold acL maL at hat
        dsimp only at hat hin hli
        have c0 := hat 0 _ rfl
        have c1 := hat 1 _ rfl
        have c2 := hat 2 _ rfl
        have c3 := hat 3 _ rfl
        have c4 := hat 4 _ rfl
        have c5 := hat 5 _ rfl
        have c6 := hat 6 _ rfl
        have c7 := hat 7 _ rfl
        rw [Nat.add_zero] at c0
        have HGO := Lib.hid (show MaGo wr x Ax cx from ⟨ml_light_Ok hli hin.cap hin.row, hin.fits⟩)
        have HST := Lib.hid (HFI.out.step d hin.fits hli)
        have HA1 := Lib.hid (one_alloc wr (.cells #[.int .u8 (d : Int), .int .u64 (x.id : Int), .string (ofL x.shop), .string (ofL x.key), .slice Ax x.head.length cx, .string (ofL x.body), .int .u64 (x.due : Int), .int .u8 (x.hops : Int)] 61))
        have HB1 := Lib.hid (HQB.out.alloc HQB.out.size (.cells #[.int .u8 (d : Int), .int .u64 (x.id : Int), .string (ofL x.shop), .string (ofL x.key), .slice Ax x.head.length cx, .string (ofL x.body), .int .u64 (x.due : Int), .int .u8 (x.hops : Int)] 61))
        have HX1 := Lib.hid (HQX.out.on HA1.out)
        have HDO := Lib.hid (fun v W U h hg hL => done18_any d x Ax cx v q W U HFI.out h hg hL)
        unfold DoneN at HDO
        obtain ⟨A, c, U, hx, hu, hnu⟩ := HX1.out
        have HU := Lib.hid hu
        have HNU := Lib.hid hnu
        have HX := Lib.hid hx
        have hxl := hx.lt
        have x0 := hx.cs 0 _ rfl
        have hwl := World.block_lt_of_cell? _ _ (HQX.out.choose_spec.choose_spec.choose_spec.1.cs 0 _ rfl)
        simp only at hwl
        clear hat hin hli hx hu hnu
        generalize doL q d x = q2 at *
        go_wp2_with fail
        refine (HDO.out _ _ _ HU.out (HGO.out.on HA1.out) (HL.out.on HB1.out)).mono ?_
        rintro e w3 ⟨v', Ap, np, cp, bb, rfl, h3, hb⟩
        obtain ⟨A3, c3, rfl, -⟩ := h3.form
        have HX3 := Lib.hid (HX.out.on hb)
        have HQ3 := Lib.hid (((show LnBox w b q _ from ⟨A, c, U, HX.out, HU.out, HNU.out⟩).on hb).put h3 (fun h => h.elim HNU.out (fun h => by have := HX.out.lt; omega)))
        have HB3 := Lib.hid ((bthen HB1.out hb (Nat.le_refl _)).setCell (p := ⟨b, 0, none⟩) HX.out.ge (.slice A3 q2.length c3))
        clear hb h3 x0 hxl
        have x0 := HX3.out.cs 0 _ rfl
        have xl := HX3.out.lt
        have xf := HX3.out.s 0
        go_wp2_with fail
        go_roundg (gk - 1)
        case rel => exact ⟨k + 1, q2, by have := HK.out; omega, by go_num, HST.out, HQ3.out, HB3.out⟩
        case measure => have := HK.out; omega
      · have hlen : k = l.length := by have := HK.out; omega
        obtain ⟨A, c, U, hx, hu, hnu⟩ := HQX.out
        have HU := Lib.hid hu.cut
        have HX := Lib.hid hx
        have hq64 : q.length ≤ 100000 := by have := HFI.out.fine.len; omega
        have HNU := Lib.hid hnu
        have HRS := Lib.hid (show Ln.Rises (Ln.wake q) from HFI.out.fine.wake.rises)
        have HWK := Lib.hid (fun v W U h => lnWake_any v q W U hq64 h)
        have HWW := Lib.hid (fun v W U h => lnWake_any v (Ln.wake q) W U (by rw [wake_len]; exact hq64) h)
        have HAL := Lib.hid (fun v W h => lnAll_any v q W hq64 h)
        have HLD := Lib.hid (fun k (hk : k < q.length) v W U h => wk_lend HRS.out hk hq64 v W U h)
        have HLE := Lib.hid (fun v W U h => wk_end (q := q) hq64 v W U h)
        have HSM := Lib.hid (fun v1 v2 W h1 h2 => lnSame_self v1 v2 (Ln.wake q) W (by rw [wake_len]; exact hq64) h1 h2)
        have HLN := Lib.hid (fun v W h => lnLen_any v (Ln.lentTo (Ln.wake q) q.length) W h)
        rw [Ln.lentTo_len, wake_len] at HLN
        rw [Ln.wake_wake] at HWW
        unfold LnPost at HWK HWW
        unfold LentPost at HLD HLE
        unfold AllPost at HAL
        have HQ64 := Lib.hid hq64
        have x0 := hx.cs 0 _ rfl
        have xl := hx.lt
        clear hx hu hnu hlen hq64
        go_wp2_with fail
        refine (HWK.out _ _ _ HU.out).mono ?_
        rintro e w4 ⟨v4, rfl, h4, hb⟩
        obtain ⟨A4, c4, rfl, -⟩ := h4.form
        have HX4 := Lib.hid (HX.out.on hb)
        have HU4 := Lib.hid (HU.out.on hb)
        have HB4 := Lib.hid (bthen HQB.out hb (Nat.le_refl _))
        rw [wake_len]
        rw [wake_len] at h4
        have hbw4 : ¬ (U w4.heap.size ∧ w4.heap.size < wr.heap.size) := by have := hb.size; omega
        have HS4 := Lib.hid (show wr.heap.size ≤ w4.heap.size from hb.size)
        have HNU5 := Lib.hid hbw4
        have HYB5 := Lib.hid (show LnBox w w4.heap.size (Ln.lentTo (Ln.wake q) 0) (w4.alloc (.cells #[.slice A4 q.length c4] 55)) from by rw [Ln.lentTo_zero]; have := LnBox.new (w := w) (W := w4) HB4.out.size (A := A4) (c := c4) (l := Ln.wake q) (by rw [wake_len]; exact h4); rw [wake_len] at this; exact this)
        have HT5 := Lib.hid (one_alloc w4 (.cells #[.slice A4 q.length c4] 55))
        have HX5 := Lib.hid (HX4.out.on HT5.out)
        have HU5 := Lib.hid (HU4.out.on HT5.out)
        have HB5 := Lib.hid (bthen HB4.out HT5.out (Nat.le_refl _))
        have HS5 := Lib.hid (show w4.heap.size < (w4.alloc (.cells #[.slice A4 q.length c4] 55)).heap.size by simp)
        have HBB1 := Lib.hid (show b ≠ w4.heap.size from by have := HX4.out.lt; omega)
        clear hb h4 hbw4 x0 xl
        go_upto_region 12 with fail
        generalize w4.alloc (.cells #[.slice A4 q.length c4] 55) = w5 at *
        generalize w4.heap.size = b1 at *
        have x0 := HX5.out.cs 0 _ rfl
        have xl := HX5.out.lt
        go_wp2_with fail
        refine (HAL.out _ _ HU5.out.in).mono ?_
        rintro e w6 ⟨A6, c6, rfl, ha, hb⟩
        have HX6 := Lib.hid (HX5.out.on hb)
        have HU6 := Lib.hid (HU5.out.on hb)
        have HB6 := Lib.hid (bthen HB5.out hb (Nat.le_refl _))
        have HYB6 := Lib.hid (HYB5.out.on hb)
        have HA6 := Lib.hid ha
        have HNA := Lib.hid (show ¬ (w5.heap.size ≤ b1) from by have := HS5.out; omega)
        have HGE := Lib.hid (show w.heap.size ≤ b1 from by have := HB4.out.size; have := HYB5.out; obtain ⟨_, _, _, h, _⟩ := this; exact h.ge)
        clear hb ha x0 xl
        go_wp2_with fail
        generalize hUe : (fun g => U g ∧ g < wr.heap.size) = UE at *
        generalize hUA : (fun g => w5.heap.size ≤ g) = UA at *
        have HNU6 := Lib.hid (show ¬ UE b1 from by rw [← hUe]; exact HNU5.out)
        have HNA6 := Lib.hid (show ¬ UA b1 from by rw [← hUA]; exact HNA.out)
        clear hUe hUA
        go_loopg [40] q.length (fun g i wr => WkSt w b b1 q A c UE A6 c6 UA q.length g i wr)
        case atStart => exact ⟨0, by omega, rfl, HX6.out, HU6.out, HA6.out, HYB6.out, HB6.out⟩
        case round =>
          obtain ⟨kk, hk2, rfl, hx2, hu2, ha2, hy2, hbw⟩ := hrel
          have HK2 := Lib.hid hk2
          have HX7 := Lib.hid hx2
          have HU7 := Lib.hid hu2
          have HA7 := Lib.hid ha2
          have HB7 := Lib.hid hbw
          obtain ⟨A7, c7, U7, hy, hyu, hynu⟩ := hy2
          rw [Ln.lentTo_len, wake_len] at hy hyu
          have HY7 := Lib.hid hy
          have HV7 := Lib.hid hyu
          have HNV7 := Lib.hid hynu
          clear hk2 hbw hx2 hu2 ha2 hyu hynu
          by_cases hlt2 : kk < q.length
          · have HLT2 := Lib.hid hlt2
            have HLD2 := Lib.hid (fun v W U h => HLD.out kk hlt2 v W U h)
            have HL8 := Lib.hid (show (Ln.lentTo (Ln.wake q) (kk + 1)).length = q.length by rw [Ln.lentTo_len, wake_len])
            generalize hln : Ln.lentTo (Ln.wake q) (kk + 1) = ln at *
            have HLN2 := Lib.hid hln
            clear hln
            obtain ⟨b', off', Ay, cy, hA6e, hbl, hat, hgo⟩ := HA7.out.get hlt2
            subst hA6e
            have HGY := Lib.hid hgo
            have HAT := Lib.hid hat
            clear hat hgo
            generalize q.getD kk it0 = yy at *
            obtain ⟨ym, lent, again⟩ := yy
            have HGY' := Lib.hid (show MaGo wr ym Ay cy from HGY.out)
            clear HGY
            have y0 := HY7.out.cs 0 _ rfl
            have yl := HY7.out.lt
            clear hy
            simp only [itV] at HLD2
            try dsimp only at HLD2
            go_wp2_with fail
            refine (HLD2.out _ _ _ HV7.out).mono ?_
            rintro e w4 ⟨v8, Aq, cq, rfl, h8, ho, hb⟩
            obtain ⟨A8, c8, rfl, -⟩ := h8.form
            rw [HL8.out] at h8 ⊢
            have HT := Lib.hid (two_allocs w4 (.cells #[.slice A8 q.length c8] 55) (.cells #[.int .u64 (ym.id : Int), .string (ofL ym.shop), .string (ofL ym.key), .slice Aq ym.head.length cq, .string (ofL ym.body), .int .u64 (ym.due : Int), .int .u8 (ym.hops : Int), .bool true, .bool (again || lent)] 72))
            have HZL := Lib.hid (box_next (box_at0 w4 #[.slice A8 q.length c8] 55) (.cells #[.int .u64 (ym.id : Int), .string (ofL ym.shop), .string (ofL ym.key), .slice Aq ym.head.length cq, .string (ofL ym.body), .int .u64 (ym.due : Int), .int .u8 (ym.hops : Int), .bool true, .bool (again || lent)] 72))
            have HZI := Lib.hid (box_at1 w4 (.cells #[.slice A8 q.length c8] 55) #[.int .u64 (ym.id : Int), .string (ofL ym.shop), .string (ofL ym.key), .slice Aq ym.head.length cq, .string (ofL ym.body), .int .u64 (ym.due : Int), .int .u8 (ym.hops : Int), .bool true, .bool (again || lent)] 72)
            have HBA := Lib.hid (bthen hb HT.out (Nat.le_refl _))
            have HV9 := Lib.hid (h8.on HT.out)
            have HP9 := Lib.hid (ho.row.1.on HT.out)
            have HSZ9 := Lib.hid (show wr.heap.size ≤ w4.heap.size from hb.size)
            clear h8 ho hb y0 yl hbl
            go_upto_region 17 with fail
            generalize ((w4.alloc (.cells #[.slice A8 q.length c8] 55)).alloc (.cells #[.int .u64 (ym.id : Int), .string (ofL ym.shop), .string (ofL ym.key), .slice Aq ym.head.length cq, .string (ofL ym.body), .int .u64 (ym.due : Int), .int .u8 (ym.hops : Int), .bool true, .bool (again || lent)] 72)) = w5 at *
            generalize w4.heap.size = g9 at *
            have z0 := HZI.out.cs 0 _ rfl
            have z1 := HZI.out.cs 1 _ rfl
            have z2 := HZI.out.cs 2 _ rfl
            have z3 := HZI.out.cs 3 _ rfl
            have z4 := HZI.out.cs 4 _ rfl
            have z5 := HZI.out.cs 5 _ rfl
            have z6 := HZI.out.cs 6 _ rfl
            have z7 := HZI.out.cs 7 _ rfl
            have z8' := HZI.out.cs 8 _ rfl
            have m0 := cell_on HBA.out (HAT.out 0 _ rfl)
            have m1 := cell_on HBA.out (HAT.out 1 _ rfl)
            have m2 := cell_on HBA.out (HAT.out 2 _ rfl)
            have m3 := cell_on HBA.out (HAT.out 3 _ rfl)
            have m4 := cell_on HBA.out (HAT.out 4 _ rfl)
            have m5 := cell_on HBA.out (HAT.out 5 _ rfl)
            have m6 := cell_on HBA.out (HAT.out 6 _ rfl)
            have m7 := cell_on HBA.out (HAT.out 7 _ rfl)
            have m8 := cell_on HBA.out (HAT.out 8 _ rfl)
            rw [Nat.add_zero] at m0
            have HZ9 := Lib.hid (HZI.out.lt)
            have HPY := Lib.hid (HGY'.out.ok.row.on HBA.out)
            have HSA := Lib.hid (fun W (hb : Below w5.heap.size w5 W) => r13Same_any ym ym Aq cq Ay cy W HGY'.out.ok.len HGY'.out.ok.len (HP9.out.on hb) (HPY.out.on hb))
            rw [maEq_self] at HSA
            simp only [maV] at HSA
            have hi1 : (0 : Int) ≤ (kk : Int) := by omega
            have hi2 : (kk : Int) < (q.length : Int) := by omega
            have hi3 : ((kk : Int)).toNat = kk := by omega
            clear HZI
            cases lent
            · cases again
              · have z8 : w5.cell? ⟨g9 + 1, 8, none⟩ = some (.bool false) := z8'
                have HS0 := Lib.hid (show w5.cell? ⟨g9 + 1, 0, none⟩ = some (.int .u64 (ym.id : Int)) ∧ w5.cell? ⟨g9 + 1, 1, none⟩ = some (.string (ofL ym.shop)) ∧ w5.cell? ⟨g9 + 1, 2, none⟩ = some (.string (ofL ym.key)) ∧ w5.cell? ⟨g9 + 1, 3, none⟩ = some (.slice Aq ym.head.length cq) ∧ w5.cell? ⟨g9 + 1, 4, none⟩ = some (.string (ofL ym.body)) ∧ w5.cell? ⟨g9 + 1, 5, none⟩ = some (.int .u64 (ym.due : Int)) ∧ w5.cell? ⟨g9 + 1, 6, none⟩ = some (.int .u8 (ym.hops : Int)) ∧ w5.cell? ⟨g9 + 1, 7, none⟩ = some (.bool true) ∧ w5.cell? ⟨g9 + 1, 8, none⟩ = some (.bool false) ∧ w5.cell? ⟨b', off' + kk * 9, none⟩ = some (.int .u64 (ym.id : Int)) ∧ w5.cell? ⟨b', off' + kk * 9 + 1, none⟩ = some (.string (ofL ym.shop)) ∧ w5.cell? ⟨b', off' + kk * 9 + 2, none⟩ = some (.string (ofL ym.key)) ∧ w5.cell? ⟨b', off' + kk * 9 + 3, none⟩ = some (.slice Ay ym.head.length cy) ∧ w5.cell? ⟨b', off' + kk * 9 + 4, none⟩ = some (.string (ofL ym.body)) ∧ w5.cell? ⟨b', off' + kk * 9 + 5, none⟩ = some (.int .u64 (ym.due : Int)) ∧ w5.cell? ⟨b', off' + kk * 9 + 6, none⟩ = some (.int .u8 (ym.hops : Int)) ∧ w5.cell? ⟨b', off' + kk * 9 + 7, none⟩ = some (.bool false) ∧ w5.cell? ⟨b', off' + kk * 9 + 8, none⟩ = some (.bool false) ∧ Below w5.heap.size w5 w5 from ⟨z0, z1, z2, z3, z4, z5, z6, z7, z8, m0, m1, m2, m3, m4, m5, m6, m7, m8, Below.refl _ _⟩)
                have HON := Lib.hid (show ∀ a a' : World, (a.cell? ⟨g9 + 1, 0, none⟩ = some (.int .u64 (ym.id : Int)) ∧ a.cell? ⟨g9 + 1, 1, none⟩ = some (.string (ofL ym.shop)) ∧ a.cell? ⟨g9 + 1, 2, none⟩ = some (.string (ofL ym.key)) ∧ a.cell? ⟨g9 + 1, 3, none⟩ = some (.slice Aq ym.head.length cq) ∧ a.cell? ⟨g9 + 1, 4, none⟩ = some (.string (ofL ym.body)) ∧ a.cell? ⟨g9 + 1, 5, none⟩ = some (.int .u64 (ym.due : Int)) ∧ a.cell? ⟨g9 + 1, 6, none⟩ = some (.int .u8 (ym.hops : Int)) ∧ a.cell? ⟨g9 + 1, 7, none⟩ = some (.bool true) ∧ a.cell? ⟨g9 + 1, 8, none⟩ = some (.bool false) ∧ a.cell? ⟨b', off' + kk * 9, none⟩ = some (.int .u64 (ym.id : Int)) ∧ a.cell? ⟨b', off' + kk * 9 + 1, none⟩ = some (.string (ofL ym.shop)) ∧ a.cell? ⟨b', off' + kk * 9 + 2, none⟩ = some (.string (ofL ym.key)) ∧ a.cell? ⟨b', off' + kk * 9 + 3, none⟩ = some (.slice Ay ym.head.length cy) ∧ a.cell? ⟨b', off' + kk * 9 + 4, none⟩ = some (.string (ofL ym.body)) ∧ a.cell? ⟨b', off' + kk * 9 + 5, none⟩ = some (.int .u64 (ym.due : Int)) ∧ a.cell? ⟨b', off' + kk * 9 + 6, none⟩ = some (.int .u8 (ym.hops : Int)) ∧ a.cell? ⟨b', off' + kk * 9 + 7, none⟩ = some (.bool false) ∧ a.cell? ⟨b', off' + kk * 9 + 8, none⟩ = some (.bool false) ∧ Below w5.heap.size w5 a) → Below a.heap.size a a' → (a'.cell? ⟨g9 + 1, 0, none⟩ = some (.int .u64 (ym.id : Int)) ∧ a'.cell? ⟨g9 + 1, 1, none⟩ = some (.string (ofL ym.shop)) ∧ a'.cell? ⟨g9 + 1, 2, none⟩ = some (.string (ofL ym.key)) ∧ a'.cell? ⟨g9 + 1, 3, none⟩ = some (.slice Aq ym.head.length cq) ∧ a'.cell? ⟨g9 + 1, 4, none⟩ = some (.string (ofL ym.body)) ∧ a'.cell? ⟨g9 + 1, 5, none⟩ = some (.int .u64 (ym.due : Int)) ∧ a'.cell? ⟨g9 + 1, 6, none⟩ = some (.int .u8 (ym.hops : Int)) ∧ a'.cell? ⟨g9 + 1, 7, none⟩ = some (.bool true) ∧ a'.cell? ⟨g9 + 1, 8, none⟩ = some (.bool false) ∧ a'.cell? ⟨b', off' + kk * 9, none⟩ = some (.int .u64 (ym.id : Int)) ∧ a'.cell? ⟨b', off' + kk * 9 + 1, none⟩ = some (.string (ofL ym.shop)) ∧ a'.cell? ⟨b', off' + kk * 9 + 2, none⟩ = some (.string (ofL ym.key)) ∧ a'.cell? ⟨b', off' + kk * 9 + 3, none⟩ = some (.slice Ay ym.head.length cy) ∧ a'.cell? ⟨b', off' + kk * 9 + 4, none⟩ = some (.string (ofL ym.body)) ∧ a'.cell? ⟨b', off' + kk * 9 + 5, none⟩ = some (.int .u64 (ym.due : Int)) ∧ a'.cell? ⟨b', off' + kk * 9 + 6, none⟩ = some (.int .u8 (ym.hops : Int)) ∧ a'.cell? ⟨b', off' + kk * 9 + 7, none⟩ = some (.bool false) ∧ a'.cell? ⟨b', off' + kk * 9 + 8, none⟩ = some (.bool false) ∧ Below w5.heap.size w5 a') from fun a a' ⟨h0, h1, h2, h3, h4, h5, h6, h7, h8, h9, h10, h11, h12, h13, h14, h15, h16, h17, h18⟩ hb => ⟨cell_on hb h0, cell_on hb h1, cell_on hb h2, cell_on hb h3, cell_on hb h4, cell_on hb h5, cell_on hb h6, cell_on hb h7, cell_on hb h8, cell_on hb h9, cell_on hb h10, cell_on hb h11, cell_on hb h12, cell_on hb h13, cell_on hb h14, cell_on hb h15, cell_on hb h16, cell_on hb h17, bthen h18 hb (Nat.le_refl _)⟩)
                have HGET := Lib.hid (show ∀ a : World, (a.cell? ⟨g9 + 1, 0, none⟩ = some (.int .u64 (ym.id : Int)) ∧ a.cell? ⟨g9 + 1, 1, none⟩ = some (.string (ofL ym.shop)) ∧ a.cell? ⟨g9 + 1, 2, none⟩ = some (.string (ofL ym.key)) ∧ a.cell? ⟨g9 + 1, 3, none⟩ = some (.slice Aq ym.head.length cq) ∧ a.cell? ⟨g9 + 1, 4, none⟩ = some (.string (ofL ym.body)) ∧ a.cell? ⟨g9 + 1, 5, none⟩ = some (.int .u64 (ym.due : Int)) ∧ a.cell? ⟨g9 + 1, 6, none⟩ = some (.int .u8 (ym.hops : Int)) ∧ a.cell? ⟨g9 + 1, 7, none⟩ = some (.bool true) ∧ a.cell? ⟨g9 + 1, 8, none⟩ = some (.bool false) ∧ a.cell? ⟨b', off' + kk * 9, none⟩ = some (.int .u64 (ym.id : Int)) ∧ a.cell? ⟨b', off' + kk * 9 + 1, none⟩ = some (.string (ofL ym.shop)) ∧ a.cell? ⟨b', off' + kk * 9 + 2, none⟩ = some (.string (ofL ym.key)) ∧ a.cell? ⟨b', off' + kk * 9 + 3, none⟩ = some (.slice Ay ym.head.length cy) ∧ a.cell? ⟨b', off' + kk * 9 + 4, none⟩ = some (.string (ofL ym.body)) ∧ a.cell? ⟨b', off' + kk * 9 + 5, none⟩ = some (.int .u64 (ym.due : Int)) ∧ a.cell? ⟨b', off' + kk * 9 + 6, none⟩ = some (.int .u8 (ym.hops : Int)) ∧ a.cell? ⟨b', off' + kk * 9 + 7, none⟩ = some (.bool false) ∧ a.cell? ⟨b', off' + kk * 9 + 8, none⟩ = some (.bool false) ∧ Below w5.heap.size w5 a) → Below w5.heap.size w5 a from fun a ⟨h0, h1, h2, h3, h4, h5, h6, h7, h8, h9, h10, h11, h12, h13, h14, h15, h16, h17, h18⟩ => h18)
                clear z8'
                skip
                refine wp_region_held_drew (S := fun a => a.cell? ⟨g9 + 1, 0, none⟩ = some (.int .u64 (ym.id : Int)) ∧ a.cell? ⟨g9 + 1, 1, none⟩ = some (.string (ofL ym.shop)) ∧ a.cell? ⟨g9 + 1, 2, none⟩ = some (.string (ofL ym.key)) ∧ a.cell? ⟨g9 + 1, 3, none⟩ = some (.slice Aq ym.head.length cq) ∧ a.cell? ⟨g9 + 1, 4, none⟩ = some (.string (ofL ym.body)) ∧ a.cell? ⟨g9 + 1, 5, none⟩ = some (.int .u64 (ym.due : Int)) ∧ a.cell? ⟨g9 + 1, 6, none⟩ = some (.int .u8 (ym.hops : Int)) ∧ a.cell? ⟨g9 + 1, 7, none⟩ = some (.bool true) ∧ a.cell? ⟨g9 + 1, 8, none⟩ = some (.bool false) ∧ a.cell? ⟨b', off' + kk * 9, none⟩ = some (.int .u64 (ym.id : Int)) ∧ a.cell? ⟨b', off' + kk * 9 + 1, none⟩ = some (.string (ofL ym.shop)) ∧ a.cell? ⟨b', off' + kk * 9 + 2, none⟩ = some (.string (ofL ym.key)) ∧ a.cell? ⟨b', off' + kk * 9 + 3, none⟩ = some (.slice Ay ym.head.length cy) ∧ a.cell? ⟨b', off' + kk * 9 + 4, none⟩ = some (.string (ofL ym.body)) ∧ a.cell? ⟨b', off' + kk * 9 + 5, none⟩ = some (.int .u64 (ym.due : Int)) ∧ a.cell? ⟨b', off' + kk * 9 + 6, none⟩ = some (.int .u8 (ym.hops : Int)) ∧ a.cell? ⟨b', off' + kk * 9 + 7, none⟩ = some (.bool false) ∧ a.cell? ⟨b', off' + kk * 9 + 8, none⟩ = some (.bool false) ∧ Below w5.heap.size w5 a) (by kernel_rfl) (by (try dsimp only); exact HON.out _ _ HS0.out (Below.refl _ _).drew) (fun hHeld => ?_)
                refine wpAnyH_take (i := 0) (oi := { dst := some 49, op := Op.move (Operand.tmp 11), type := 4, pos := "law.go:194", after := #[], guard := none }) (v := ?_) rfl (by kernel_rfl) (by kernel_rfl) (by kernel_rfl) (fun _ _ _ h => h) (Or.inl ⟨by rfl, ?_⟩) (by assumption) ?_
                rotate_left 1
                · intro w hSw; (try dsimp only at hSw); go_simp; try with_reducible rfl
                try simp only [Act.put, List.setIfInBounds_toArray, List.set_cons_zero, List.set_cons_succ]
                refine wpAnyH_take (i := 1) (oi := { dst := some 50, op := Op.unOp UnOp.not 4 (Operand.tmp 49), type := 4, pos := "law.go:194", after := #[{ on := 0, ground := Ground.data }], guard := none }) (v := ?_) rfl (by kernel_rfl) (by kernel_rfl) (by kernel_rfl) (fun _ _ _ h => h) (Or.inl ⟨by rfl, ?_⟩) (by assumption) ?_
                rotate_left 1
                · intro w hSw; (try dsimp only at hSw); go_simp; try with_reducible rfl
                try simp only [Act.put, List.setIfInBounds_toArray, List.set_cons_zero, List.set_cons_succ]
                refine wpAnyH_take (i := 2) (oi := { dst := some 51, op := Op.move (Operand.tmp 50), type := 4, pos := "law.go:194", after := #[{ on := 1, ground := Ground.data }], guard := none }) (v := ?_) rfl (by kernel_rfl) (by kernel_rfl) (by kernel_rfl) (fun _ _ _ h => h) (Or.inl ⟨by rfl, ?_⟩) (by assumption) ?_
                rotate_left 1
                · intro w hSw; (try dsimp only at hSw); go_simp; try with_reducible rfl
                try simp only [Act.put, List.setIfInBounds_toArray, List.set_cons_zero, List.set_cons_succ]
                refine wpAnyH_take (i := 3) (oi := { dst := some 52, op := Op.fieldAddr 72 (Operand.tmp 10) 0, type := 0, pos := "law.go:194", after := #[{ on := 2, ground := Ground.guard }], guard := some (2, false) }) (v := ?_) rfl (by kernel_rfl) (by kernel_rfl) (by kernel_rfl) (fun _ _ _ h => h) (Or.inl ⟨by rfl, ?_⟩) (by assumption) ?_
                rotate_left 1
                · intro w hSw; (try dsimp only at hSw); go_simp; try with_reducible rfl
                try simp only [Act.put, List.setIfInBounds_toArray, List.set_cons_zero, List.set_cons_succ]
                refine wpAnyH_take (i := 4) (oi := { dst := some 53, op := Op.load 59 (Operand.tmp 52), type := 59, pos := "law.go:194", after := #[{ on := 3, ground := Ground.data }, { on := 2, ground := Ground.guard }], guard := some (2, false) }) (v := ?_) rfl (by kernel_rfl) (by kernel_rfl) (by kernel_rfl) (fun _ _ _ h => h) (Or.inl ⟨by rfl, ?_⟩) (by assumption) ?_
                rotate_left 1
                · intro w hSw; (try dsimp only at hSw); go_simp; try with_reducible rfl
                try simp only [Act.put, List.setIfInBounds_toArray, List.set_cons_zero, List.set_cons_succ]
                refine wpAnyH_take (i := 5) (oi := { dst := some 54, op := Op.move (Operand.tmp 7), type := 53, pos := "law.go:194", after := #[{ on := 2, ground := Ground.guard }], guard := some (2, false) }) (v := ?_) rfl (by kernel_rfl) (by kernel_rfl) (by kernel_rfl) (fun _ _ _ h => h) (Or.inl ⟨by rfl, ?_⟩) (by assumption) ?_
                rotate_left 1
                · intro w hSw; (try dsimp only at hSw); go_simp; try with_reducible rfl
                try simp only [Act.put, List.setIfInBounds_toArray, List.set_cons_zero, List.set_cons_succ]
                refine wpAnyH_take (i := 6) (oi := { dst := some 55, op := Op.move (Operand.tmp 8), type := 3, pos := "law.go:194", after := #[{ on := 2, ground := Ground.guard }], guard := some (2, false) }) (v := ?_) rfl (by kernel_rfl) (by kernel_rfl) (by kernel_rfl) (fun _ _ _ h => h) (Or.inl ⟨by rfl, ?_⟩) (by assumption) ?_
                rotate_left 1
                · intro w hSw; (try dsimp only at hSw); go_simp; try with_reducible rfl
                try simp only [Act.put, List.setIfInBounds_toArray, List.set_cons_zero, List.set_cons_succ]
                refine wpAnyH_take (i := 7) (oi := { dst := some 56, op := Op.indexAddr 53 (Operand.tmp 54) (Operand.tmp 55), type := 0, pos := "law.go:194", after := #[{ on := 5, ground := Ground.data }, { on := 6, ground := Ground.data }, { on := 2, ground := Ground.guard }], guard := some (2, false) }) (v := ?_) rfl (by kernel_rfl) (by kernel_rfl) (by kernel_rfl) (fun _ _ _ h => h) (Or.inl ⟨by rfl, ?_⟩) (by assumption) ?_
                rotate_left 1
                · intro w hSw; (try dsimp only at hSw); go_simp; try with_reducible rfl
                try simp only [Act.put, List.setIfInBounds_toArray, List.set_cons_zero, List.set_cons_succ]
                refine wpAnyH_take (i := 8) (oi := { dst := some 57, op := Op.fieldAddr 72 (Operand.tmp 56) 0, type := 0, pos := "law.go:194", after := #[{ on := 7, ground := Ground.data }, { on := 2, ground := Ground.guard }], guard := some (2, false) }) (v := ?_) rfl (by kernel_rfl) (by kernel_rfl) (by kernel_rfl) (fun _ _ _ h => h) (Or.inl ⟨by rfl, ?_⟩) (by assumption) ?_
                rotate_left 1
                · intro w hSw; (try dsimp only at hSw); go_simp; try with_reducible rfl
                try simp only [Act.put, List.setIfInBounds_toArray, List.set_cons_zero, List.set_cons_succ]
                refine wpAnyH_take (i := 9) (oi := { dst := some 58, op := Op.load 59 (Operand.tmp 57), type := 59, pos := "law.go:194", after := #[{ on := 8, ground := Ground.data }, { on := 2, ground := Ground.guard }], guard := some (2, false) }) (v := ?_) rfl (by kernel_rfl) (by kernel_rfl) (by kernel_rfl) (fun _ _ _ h => h) (Or.inl ⟨by rfl, ?_⟩) (by assumption) ?_
                rotate_left 1
                · intro w hSw; (try dsimp only at hSw); go_simp; try with_reducible rfl
                try simp only [Act.put, List.setIfInBounds_toArray, List.set_cons_zero, List.set_cons_succ]
                refine wpAnyH_ready (rs := [10]) (by kernel_rfl) (by simp) ?_
                refine AllReadyH.cons (o := { dst := some 59, op := Op.call { callee := Callee.value (Operand.func 36), args := #[Operand.tmp 53, Operand.tmp 58], argTypes := #[59, 59] }, type := 4, pos := "law.go:194", after := #[{ on := 4, ground := Ground.data }, { on := 9, ground := Ground.data }, { on := 2, ground := Ground.chain }, { on := 2, ground := Ground.guard }], guard := some (2, false) }) rfl (fun K hK => ?_) AllReadyH.nil
                go_simp
                go_at_call 36
                refine (HSA.out _ (HGET.out _ (by assumption))).mono ?_
                rintro e wx ⟨rfl, hb2⟩
                refine hK.out _ _ (HON.out _ _ (by assumption) hb2) (fun hHeld2 => ?_)
                clear hK K hHeld
                try simp only [Act.put, List.setIfInBounds_toArray, List.set_cons_zero, List.set_cons_succ]
                refine wpAnyH_take (i := 11) (oi := { dst := some 60, op := Op.unOp UnOp.not 4 (Operand.tmp 59), type := 4, pos := "law.go:194", after := #[{ on := 10, ground := Ground.data }, { on := 2, ground := Ground.guard }], guard := some (2, false) }) (v := ?_) rfl (by kernel_rfl) (by kernel_rfl) (by kernel_rfl) (fun _ _ _ h => h) (Or.inl ⟨by rfl, ?_⟩) (by assumption) ?_
                rotate_left 1
                · intro w hSw; (try dsimp only at hSw); go_simp; try with_reducible rfl
                try simp only [Act.put, List.setIfInBounds_toArray, List.set_cons_zero, List.set_cons_succ]
                refine wpAnyH_take (i := 12) (oi := { dst := some 61, op := Op.pick (Operand.tmp 51) (Operand.const (Value.bool true)) (Operand.tmp 60), type := 4, pos := "law.go:194", after := #[{ on := 2, ground := Ground.data }, { on := 11, ground := Ground.data }], guard := none }) (v := ?_) rfl (by kernel_rfl) (by kernel_rfl) (by kernel_rfl) (fun _ _ _ h => h) (Or.inl ⟨by rfl, ?_⟩) (by assumption) ?_
                rotate_left 1
                · intro w hSw; (try dsimp only at hSw); go_simp; try with_reducible rfl
                try simp only [Act.put, List.setIfInBounds_toArray, List.set_cons_zero, List.set_cons_succ]
                refine wpAnyH_take (i := 13) (oi := { dst := some 62, op := Op.move (Operand.tmp 61), type := 4, pos := "law.go:194", after := #[{ on := 12, ground := Ground.data }, { on := 10, ground := Ground.chain }], guard := none }) (v := ?_) rfl (by kernel_rfl) (by kernel_rfl) (by kernel_rfl) (fun _ _ _ h => h) (Or.inl ⟨by rfl, ?_⟩) (by assumption) ?_
                rotate_left 1
                · intro w hSw; (try dsimp only at hSw); go_simp; try with_reducible rfl
                try simp only [Act.put, List.setIfInBounds_toArray, List.set_cons_zero, List.set_cons_succ]
                refine wpAnyH_take (i := 14) (oi := { dst := some 63, op := Op.fieldAddr 72 (Operand.tmp 10) 2, type := 0, pos := "law.go:194", after := #[{ on := 13, ground := Ground.guard }], guard := some (13, false) }) (v := ?_) rfl (by kernel_rfl) (by kernel_rfl) (by kernel_rfl) (fun _ _ _ h => h) (Or.inl ⟨by rfl, ?_⟩) (by assumption) ?_
                rotate_left 1
                · intro w hSw; (try dsimp only at hSw); go_simp; try with_reducible rfl
                try simp only [Act.put, List.setIfInBounds_toArray, List.set_cons_zero, List.set_cons_succ]
                refine wpAnyH_take (i := 15) (oi := { dst := some 64, op := Op.load 4 (Operand.tmp 63), type := 4, pos := "law.go:194", after := #[{ on := 14, ground := Ground.data }, { on := 13, ground := Ground.guard }], guard := some (13, false) }) (v := ?_) rfl (by kernel_rfl) (by kernel_rfl) (by kernel_rfl) (fun _ _ _ h => h) (Or.inl ⟨by rfl, ?_⟩) (by assumption) ?_
                rotate_left 1
                · intro w hSw; (try dsimp only at hSw); go_simp; try with_reducible rfl
                try simp only [Act.put, List.setIfInBounds_toArray, List.set_cons_zero, List.set_cons_succ]
                refine wpAnyH_take (i := 16) (oi := { dst := some 65, op := Op.move (Operand.tmp 7), type := 53, pos := "law.go:194", after := #[{ on := 13, ground := Ground.guard }], guard := some (13, false) }) (v := ?_) rfl (by kernel_rfl) (by kernel_rfl) (by kernel_rfl) (fun _ _ _ h => h) (Or.inl ⟨by rfl, ?_⟩) (by assumption) ?_
                rotate_left 1
                · intro w hSw; (try dsimp only at hSw); go_simp; try with_reducible rfl
                try simp only [Act.put, List.setIfInBounds_toArray, List.set_cons_zero, List.set_cons_succ]
                refine wpAnyH_take (i := 17) (oi := { dst := some 66, op := Op.move (Operand.tmp 8), type := 3, pos := "law.go:194", after := #[{ on := 13, ground := Ground.guard }], guard := some (13, false) }) (v := ?_) rfl (by kernel_rfl) (by kernel_rfl) (by kernel_rfl) (fun _ _ _ h => h) (Or.inl ⟨by rfl, ?_⟩) (by assumption) ?_
                rotate_left 1
                · intro w hSw; (try dsimp only at hSw); go_simp; try with_reducible rfl
                try simp only [Act.put, List.setIfInBounds_toArray, List.set_cons_zero, List.set_cons_succ]
                refine wpAnyH_take (i := 18) (oi := { dst := some 67, op := Op.indexAddr 53 (Operand.tmp 65) (Operand.tmp 66), type := 0, pos := "law.go:194", after := #[{ on := 16, ground := Ground.data }, { on := 17, ground := Ground.data }, { on := 13, ground := Ground.guard }], guard := some (13, false) }) (v := ?_) rfl (by kernel_rfl) (by kernel_rfl) (by kernel_rfl) (fun _ _ _ h => h) (Or.inl ⟨by rfl, ?_⟩) (by assumption) ?_
                rotate_left 1
                · intro w hSw; (try dsimp only at hSw); go_simp; try with_reducible rfl
                try simp only [Act.put, List.setIfInBounds_toArray, List.set_cons_zero, List.set_cons_succ]
                refine wpAnyH_take (i := 19) (oi := { dst := some 68, op := Op.fieldAddr 72 (Operand.tmp 67) 2, type := 0, pos := "law.go:194", after := #[{ on := 18, ground := Ground.data }, { on := 13, ground := Ground.guard }], guard := some (13, false) }) (v := ?_) rfl (by kernel_rfl) (by kernel_rfl) (by kernel_rfl) (fun _ _ _ h => h) (Or.inl ⟨by rfl, ?_⟩) (by assumption) ?_
                rotate_left 1
                · intro w hSw; (try dsimp only at hSw); go_simp; try with_reducible rfl
                try simp only [Act.put, List.setIfInBounds_toArray, List.set_cons_zero, List.set_cons_succ]
                refine wpAnyH_take (i := 20) (oi := { dst := some 69, op := Op.load 4 (Operand.tmp 68), type := 4, pos := "law.go:194", after := #[{ on := 19, ground := Ground.data }, { on := 13, ground := Ground.guard }], guard := some (13, false) }) (v := ?_) rfl (by kernel_rfl) (by kernel_rfl) (by kernel_rfl) (fun _ _ _ h => h) (Or.inl ⟨by rfl, ?_⟩) (by assumption) ?_
                rotate_left 1
                · intro w hSw; (try dsimp only at hSw); go_simp; try with_reducible rfl
                try simp only [Act.put, List.setIfInBounds_toArray, List.set_cons_zero, List.set_cons_succ]
                refine wpAnyH_take (i := 21) (oi := { dst := some 70, op := Op.move (Operand.tmp 69), type := 4, pos := "law.go:194", after := #[{ on := 20, ground := Ground.data }, { on := 13, ground := Ground.chain }, { on := 13, ground := Ground.guard }], guard := some (13, false) }) (v := ?_) rfl (by kernel_rfl) (by kernel_rfl) (by kernel_rfl) (fun _ _ _ h => h) (Or.inl ⟨by rfl, ?_⟩) (by assumption) ?_
                rotate_left 1
                · intro w hSw; (try dsimp only at hSw); go_simp; try with_reducible rfl
                try simp only [Act.put, List.setIfInBounds_toArray, List.set_cons_zero, List.set_cons_succ]
                refine wpAnyH_take (i := 22) (oi := { dst := some 71, op := Op.move (Operand.tmp 7), type := 53, pos := "law.go:194", after := #[{ on := 21, ground := Ground.guard }], guard := some (21, false) }) (v := ?_) rfl (by kernel_rfl) (by kernel_rfl) (by kernel_rfl) (fun _ _ _ h => h) (Or.inl ⟨by rfl, ?_⟩) (by assumption) ?_
                rotate_left 1
                · intro w hSw; (try dsimp only at hSw); go_simp; try with_reducible rfl
                try simp only [Act.put, List.setIfInBounds_toArray, List.set_cons_zero, List.set_cons_succ]
                refine wpAnyH_take (i := 23) (oi := { dst := some 72, op := Op.move (Operand.tmp 8), type := 3, pos := "law.go:194", after := #[{ on := 21, ground := Ground.guard }], guard := some (21, false) }) (v := ?_) rfl (by kernel_rfl) (by kernel_rfl) (by kernel_rfl) (fun _ _ _ h => h) (Or.inl ⟨by rfl, ?_⟩) (by assumption) ?_
                rotate_left 1
                · intro w hSw; (try dsimp only at hSw); go_simp; try with_reducible rfl
                try simp only [Act.put, List.setIfInBounds_toArray, List.set_cons_zero, List.set_cons_succ]
                refine wpAnyH_take (i := 24) (oi := { dst := some 73, op := Op.indexAddr 53 (Operand.tmp 71) (Operand.tmp 72), type := 0, pos := "law.go:194", after := #[{ on := 22, ground := Ground.data }, { on := 23, ground := Ground.data }, { on := 21, ground := Ground.guard }], guard := some (21, false) }) (v := ?_) rfl (by kernel_rfl) (by kernel_rfl) (by kernel_rfl) (fun _ _ _ h => h) (Or.inl ⟨by rfl, ?_⟩) (by assumption) ?_
                rotate_left 1
                · intro w hSw; (try dsimp only at hSw); go_simp; try with_reducible rfl
                try simp only [Act.put, List.setIfInBounds_toArray, List.set_cons_zero, List.set_cons_succ]
                refine wpAnyH_take (i := 25) (oi := { dst := some 74, op := Op.fieldAddr 72 (Operand.tmp 73) 1, type := 0, pos := "law.go:194", after := #[{ on := 24, ground := Ground.data }, { on := 21, ground := Ground.guard }], guard := some (21, false) }) (v := ?_) rfl (by kernel_rfl) (by kernel_rfl) (by kernel_rfl) (fun _ _ _ h => h) (Or.inl ⟨by rfl, ?_⟩) (by assumption) ?_
                rotate_left 1
                · intro w hSw; (try dsimp only at hSw); go_simp; try with_reducible rfl
                try simp only [Act.put, List.setIfInBounds_toArray, List.set_cons_zero, List.set_cons_succ]
                refine wpAnyH_take (i := 26) (oi := { dst := some 75, op := Op.load 4 (Operand.tmp 74), type := 4, pos := "law.go:194", after := #[{ on := 25, ground := Ground.data }, { on := 21, ground := Ground.guard }], guard := some (21, false) }) (v := ?_) rfl (by kernel_rfl) (by kernel_rfl) (by kernel_rfl) (fun _ _ _ h => h) (Or.inl ⟨by rfl, ?_⟩) (by assumption) ?_
                rotate_left 1
                · intro w hSw; (try dsimp only at hSw); go_simp; try with_reducible rfl
                try simp only [Act.put, List.setIfInBounds_toArray, List.set_cons_zero, List.set_cons_succ]
                refine wpAnyH_take (i := 27) (oi := { dst := some 76, op := Op.pick (Operand.tmp 70) (Operand.const (Value.bool true)) (Operand.tmp 75), type := 4, pos := "law.go:194", after := #[{ on := 21, ground := Ground.data }, { on := 26, ground := Ground.data }, { on := 13, ground := Ground.guard }], guard := some (13, false) }) (v := ?_) rfl (by kernel_rfl) (by kernel_rfl) (by kernel_rfl) (fun _ _ _ h => h) (Or.inl ⟨by rfl, ?_⟩) (by assumption) ?_
                rotate_left 1
                · intro w hSw; (try dsimp only at hSw); go_simp; try with_reducible rfl
                try simp only [Act.put, List.setIfInBounds_toArray, List.set_cons_zero, List.set_cons_succ]
                refine wpAnyH_take (i := 28) (oi := { dst := some 77, op := Op.binOp BinOp.neq 4 (Operand.tmp 64) (Operand.tmp 76) 4, type := 4, pos := "law.go:194", after := #[{ on := 15, ground := Ground.data }, { on := 27, ground := Ground.data }, { on := 13, ground := Ground.guard }], guard := some (13, false) }) (v := ?_) rfl (by kernel_rfl) (by kernel_rfl) (by kernel_rfl) (fun _ _ _ h => h) (Or.inl ⟨by rfl, ?_⟩) (by assumption) ?_
                rotate_left 1
                · intro w hSw; (try dsimp only at hSw); go_simp; try with_reducible rfl
                try simp only [Act.put, List.setIfInBounds_toArray, List.set_cons_zero, List.set_cons_succ]
                refine wpAnyH_take (i := 29) (oi := { dst := some 78, op := Op.pick (Operand.tmp 62) (Operand.const (Value.bool true)) (Operand.tmp 77), type := 4, pos := "law.go:194", after := #[{ on := 13, ground := Ground.data }, { on := 28, ground := Ground.data }], guard := none }) (v := ?_) rfl (by kernel_rfl) (by kernel_rfl) (by kernel_rfl) (fun _ _ _ h => h) (Or.inl ⟨by rfl, ?_⟩) (by assumption) ?_
                rotate_left 1
                · intro w hSw; (try dsimp only at hSw); go_simp; try with_reducible rfl
                try simp only [Act.put, List.setIfInBounds_toArray, List.set_cons_zero, List.set_cons_succ]
                refine wpAnyH_done (by kernel_rfl) ?_ _
                have hlast := hHeld2
                clear hHeld2
                all_goals
                  have HBF := Lib.hid (bthen HBA.out (HGET.out _ hlast) (Nat.le_refl _))
                  have HB5F := Lib.hid (HGET.out _ hlast)
                  have HYF := Lib.hid (HY7.out.on HBF.out)
                  have l0 := (HZL.out.on HB5F.out).cs 0 _ rfl
                  have y0 := HYF.out.cs 0 _ rfl
                  have yl := HYF.out.lt
                  have yf := HYF.out.s 0
                  have HNN := Lib.hid (show ¬ (U7 b1 ∨ wr.heap.size ≤ b1) from fun h => h.elim HNV7.out (fun h => by have := HY7.out.lt; omega))
                  have HPUT := Lib.hid (LnBox.putN HL8.out HYF.out (HV9.out.on HB5F.out) HNN.out)
                  have HXF := Lib.hid ((HX7.out.on HBF.out).aside (g := b1) (fun e => HBB1.out e.symm) 0 (.slice A8 q.length c8))
                  have HUF := Lib.hid ((HU7.out.on HBF.out).aside HNU6.out 0 (.slice A8 q.length c8))
                  have HAF := Lib.hid ((HA7.out.on HBF.out).aside HNA6.out 0 (.slice A8 q.length c8))
                  have HBFF := Lib.hid ((bthen HB7.out HBF.out (Nat.le_refl _)).setCell (p := ⟨b1, 0, none⟩) HGE.out (.slice A8 q.length c8))
                  clear hlast HON HGET HS0
                  clear z0 z1 z2 z3 z4 z5 z6 z7 z8 m0 m1 m2 m3 m4 m5 m6 m7 m8
                  have hq9 := HQ64.out
                  go_wp2_with fail
                  go_roundg (gk - 1)
                  case rel => exact ⟨kk + 1, by have := HK2.out; omega, by go_num, HXF.out, HUF.out, HAF.out, by rw [HLN2.out]; exact HPUT.out, HBFF.out⟩
                  case measure => have := HK2.out; omega
              · have z8 : w5.cell? ⟨g9 + 1, 8, none⟩ = some (.bool true) := z8'
                have HS0 := Lib.hid (show w5.cell? ⟨g9 + 1, 0, none⟩ = some (.int .u64 (ym.id : Int)) ∧ w5.cell? ⟨g9 + 1, 1, none⟩ = some (.string (ofL ym.shop)) ∧ w5.cell? ⟨g9 + 1, 2, none⟩ = some (.string (ofL ym.key)) ∧ w5.cell? ⟨g9 + 1, 3, none⟩ = some (.slice Aq ym.head.length cq) ∧ w5.cell? ⟨g9 + 1, 4, none⟩ = some (.string (ofL ym.body)) ∧ w5.cell? ⟨g9 + 1, 5, none⟩ = some (.int .u64 (ym.due : Int)) ∧ w5.cell? ⟨g9 + 1, 6, none⟩ = some (.int .u8 (ym.hops : Int)) ∧ w5.cell? ⟨g9 + 1, 7, none⟩ = some (.bool true) ∧ w5.cell? ⟨g9 + 1, 8, none⟩ = some (.bool true) ∧ w5.cell? ⟨b', off' + kk * 9, none⟩ = some (.int .u64 (ym.id : Int)) ∧ w5.cell? ⟨b', off' + kk * 9 + 1, none⟩ = some (.string (ofL ym.shop)) ∧ w5.cell? ⟨b', off' + kk * 9 + 2, none⟩ = some (.string (ofL ym.key)) ∧ w5.cell? ⟨b', off' + kk * 9 + 3, none⟩ = some (.slice Ay ym.head.length cy) ∧ w5.cell? ⟨b', off' + kk * 9 + 4, none⟩ = some (.string (ofL ym.body)) ∧ w5.cell? ⟨b', off' + kk * 9 + 5, none⟩ = some (.int .u64 (ym.due : Int)) ∧ w5.cell? ⟨b', off' + kk * 9 + 6, none⟩ = some (.int .u8 (ym.hops : Int)) ∧ w5.cell? ⟨b', off' + kk * 9 + 7, none⟩ = some (.bool false) ∧ w5.cell? ⟨b', off' + kk * 9 + 8, none⟩ = some (.bool true) ∧ Below w5.heap.size w5 w5 from ⟨z0, z1, z2, z3, z4, z5, z6, z7, z8, m0, m1, m2, m3, m4, m5, m6, m7, m8, Below.refl _ _⟩)
                have HON := Lib.hid (show ∀ a a' : World, (a.cell? ⟨g9 + 1, 0, none⟩ = some (.int .u64 (ym.id : Int)) ∧ a.cell? ⟨g9 + 1, 1, none⟩ = some (.string (ofL ym.shop)) ∧ a.cell? ⟨g9 + 1, 2, none⟩ = some (.string (ofL ym.key)) ∧ a.cell? ⟨g9 + 1, 3, none⟩ = some (.slice Aq ym.head.length cq) ∧ a.cell? ⟨g9 + 1, 4, none⟩ = some (.string (ofL ym.body)) ∧ a.cell? ⟨g9 + 1, 5, none⟩ = some (.int .u64 (ym.due : Int)) ∧ a.cell? ⟨g9 + 1, 6, none⟩ = some (.int .u8 (ym.hops : Int)) ∧ a.cell? ⟨g9 + 1, 7, none⟩ = some (.bool true) ∧ a.cell? ⟨g9 + 1, 8, none⟩ = some (.bool true) ∧ a.cell? ⟨b', off' + kk * 9, none⟩ = some (.int .u64 (ym.id : Int)) ∧ a.cell? ⟨b', off' + kk * 9 + 1, none⟩ = some (.string (ofL ym.shop)) ∧ a.cell? ⟨b', off' + kk * 9 + 2, none⟩ = some (.string (ofL ym.key)) ∧ a.cell? ⟨b', off' + kk * 9 + 3, none⟩ = some (.slice Ay ym.head.length cy) ∧ a.cell? ⟨b', off' + kk * 9 + 4, none⟩ = some (.string (ofL ym.body)) ∧ a.cell? ⟨b', off' + kk * 9 + 5, none⟩ = some (.int .u64 (ym.due : Int)) ∧ a.cell? ⟨b', off' + kk * 9 + 6, none⟩ = some (.int .u8 (ym.hops : Int)) ∧ a.cell? ⟨b', off' + kk * 9 + 7, none⟩ = some (.bool false) ∧ a.cell? ⟨b', off' + kk * 9 + 8, none⟩ = some (.bool true) ∧ Below w5.heap.size w5 a) → Below a.heap.size a a' → (a'.cell? ⟨g9 + 1, 0, none⟩ = some (.int .u64 (ym.id : Int)) ∧ a'.cell? ⟨g9 + 1, 1, none⟩ = some (.string (ofL ym.shop)) ∧ a'.cell? ⟨g9 + 1, 2, none⟩ = some (.string (ofL ym.key)) ∧ a'.cell? ⟨g9 + 1, 3, none⟩ = some (.slice Aq ym.head.length cq) ∧ a'.cell? ⟨g9 + 1, 4, none⟩ = some (.string (ofL ym.body)) ∧ a'.cell? ⟨g9 + 1, 5, none⟩ = some (.int .u64 (ym.due : Int)) ∧ a'.cell? ⟨g9 + 1, 6, none⟩ = some (.int .u8 (ym.hops : Int)) ∧ a'.cell? ⟨g9 + 1, 7, none⟩ = some (.bool true) ∧ a'.cell? ⟨g9 + 1, 8, none⟩ = some (.bool true) ∧ a'.cell? ⟨b', off' + kk * 9, none⟩ = some (.int .u64 (ym.id : Int)) ∧ a'.cell? ⟨b', off' + kk * 9 + 1, none⟩ = some (.string (ofL ym.shop)) ∧ a'.cell? ⟨b', off' + kk * 9 + 2, none⟩ = some (.string (ofL ym.key)) ∧ a'.cell? ⟨b', off' + kk * 9 + 3, none⟩ = some (.slice Ay ym.head.length cy) ∧ a'.cell? ⟨b', off' + kk * 9 + 4, none⟩ = some (.string (ofL ym.body)) ∧ a'.cell? ⟨b', off' + kk * 9 + 5, none⟩ = some (.int .u64 (ym.due : Int)) ∧ a'.cell? ⟨b', off' + kk * 9 + 6, none⟩ = some (.int .u8 (ym.hops : Int)) ∧ a'.cell? ⟨b', off' + kk * 9 + 7, none⟩ = some (.bool false) ∧ a'.cell? ⟨b', off' + kk * 9 + 8, none⟩ = some (.bool true) ∧ Below w5.heap.size w5 a') from fun a a' ⟨h0, h1, h2, h3, h4, h5, h6, h7, h8, h9, h10, h11, h12, h13, h14, h15, h16, h17, h18⟩ hb => ⟨cell_on hb h0, cell_on hb h1, cell_on hb h2, cell_on hb h3, cell_on hb h4, cell_on hb h5, cell_on hb h6, cell_on hb h7, cell_on hb h8, cell_on hb h9, cell_on hb h10, cell_on hb h11, cell_on hb h12, cell_on hb h13, cell_on hb h14, cell_on hb h15, cell_on hb h16, cell_on hb h17, bthen h18 hb (Nat.le_refl _)⟩)
                have HGET := Lib.hid (show ∀ a : World, (a.cell? ⟨g9 + 1, 0, none⟩ = some (.int .u64 (ym.id : Int)) ∧ a.cell? ⟨g9 + 1, 1, none⟩ = some (.string (ofL ym.shop)) ∧ a.cell? ⟨g9 + 1, 2, none⟩ = some (.string (ofL ym.key)) ∧ a.cell? ⟨g9 + 1, 3, none⟩ = some (.slice Aq ym.head.length cq) ∧ a.cell? ⟨g9 + 1, 4, none⟩ = some (.string (ofL ym.body)) ∧ a.cell? ⟨g9 + 1, 5, none⟩ = some (.int .u64 (ym.due : Int)) ∧ a.cell? ⟨g9 + 1, 6, none⟩ = some (.int .u8 (ym.hops : Int)) ∧ a.cell? ⟨g9 + 1, 7, none⟩ = some (.bool true) ∧ a.cell? ⟨g9 + 1, 8, none⟩ = some (.bool true) ∧ a.cell? ⟨b', off' + kk * 9, none⟩ = some (.int .u64 (ym.id : Int)) ∧ a.cell? ⟨b', off' + kk * 9 + 1, none⟩ = some (.string (ofL ym.shop)) ∧ a.cell? ⟨b', off' + kk * 9 + 2, none⟩ = some (.string (ofL ym.key)) ∧ a.cell? ⟨b', off' + kk * 9 + 3, none⟩ = some (.slice Ay ym.head.length cy) ∧ a.cell? ⟨b', off' + kk * 9 + 4, none⟩ = some (.string (ofL ym.body)) ∧ a.cell? ⟨b', off' + kk * 9 + 5, none⟩ = some (.int .u64 (ym.due : Int)) ∧ a.cell? ⟨b', off' + kk * 9 + 6, none⟩ = some (.int .u8 (ym.hops : Int)) ∧ a.cell? ⟨b', off' + kk * 9 + 7, none⟩ = some (.bool false) ∧ a.cell? ⟨b', off' + kk * 9 + 8, none⟩ = some (.bool true) ∧ Below w5.heap.size w5 a) → Below w5.heap.size w5 a from fun a ⟨h0, h1, h2, h3, h4, h5, h6, h7, h8, h9, h10, h11, h12, h13, h14, h15, h16, h17, h18⟩ => h18)
                clear z8'
                skip
                refine wp_region_held_drew (S := fun a => a.cell? ⟨g9 + 1, 0, none⟩ = some (.int .u64 (ym.id : Int)) ∧ a.cell? ⟨g9 + 1, 1, none⟩ = some (.string (ofL ym.shop)) ∧ a.cell? ⟨g9 + 1, 2, none⟩ = some (.string (ofL ym.key)) ∧ a.cell? ⟨g9 + 1, 3, none⟩ = some (.slice Aq ym.head.length cq) ∧ a.cell? ⟨g9 + 1, 4, none⟩ = some (.string (ofL ym.body)) ∧ a.cell? ⟨g9 + 1, 5, none⟩ = some (.int .u64 (ym.due : Int)) ∧ a.cell? ⟨g9 + 1, 6, none⟩ = some (.int .u8 (ym.hops : Int)) ∧ a.cell? ⟨g9 + 1, 7, none⟩ = some (.bool true) ∧ a.cell? ⟨g9 + 1, 8, none⟩ = some (.bool true) ∧ a.cell? ⟨b', off' + kk * 9, none⟩ = some (.int .u64 (ym.id : Int)) ∧ a.cell? ⟨b', off' + kk * 9 + 1, none⟩ = some (.string (ofL ym.shop)) ∧ a.cell? ⟨b', off' + kk * 9 + 2, none⟩ = some (.string (ofL ym.key)) ∧ a.cell? ⟨b', off' + kk * 9 + 3, none⟩ = some (.slice Ay ym.head.length cy) ∧ a.cell? ⟨b', off' + kk * 9 + 4, none⟩ = some (.string (ofL ym.body)) ∧ a.cell? ⟨b', off' + kk * 9 + 5, none⟩ = some (.int .u64 (ym.due : Int)) ∧ a.cell? ⟨b', off' + kk * 9 + 6, none⟩ = some (.int .u8 (ym.hops : Int)) ∧ a.cell? ⟨b', off' + kk * 9 + 7, none⟩ = some (.bool false) ∧ a.cell? ⟨b', off' + kk * 9 + 8, none⟩ = some (.bool true) ∧ Below w5.heap.size w5 a) (by kernel_rfl) (by (try dsimp only); exact HON.out _ _ HS0.out (Below.refl _ _).drew) (fun hHeld => ?_)
                refine wpAnyH_take (i := 0) (oi := { dst := some 49, op := Op.move (Operand.tmp 11), type := 4, pos := "law.go:194", after := #[], guard := none }) (v := ?_) rfl (by kernel_rfl) (by kernel_rfl) (by kernel_rfl) (fun _ _ _ h => h) (Or.inl ⟨by rfl, ?_⟩) (by assumption) ?_
                rotate_left 1
                · intro w hSw; (try dsimp only at hSw); go_simp; try with_reducible rfl
                try simp only [Act.put, List.setIfInBounds_toArray, List.set_cons_zero, List.set_cons_succ]
                refine wpAnyH_take (i := 1) (oi := { dst := some 50, op := Op.unOp UnOp.not 4 (Operand.tmp 49), type := 4, pos := "law.go:194", after := #[{ on := 0, ground := Ground.data }], guard := none }) (v := ?_) rfl (by kernel_rfl) (by kernel_rfl) (by kernel_rfl) (fun _ _ _ h => h) (Or.inl ⟨by rfl, ?_⟩) (by assumption) ?_
                rotate_left 1
                · intro w hSw; (try dsimp only at hSw); go_simp; try with_reducible rfl
                try simp only [Act.put, List.setIfInBounds_toArray, List.set_cons_zero, List.set_cons_succ]
                refine wpAnyH_take (i := 2) (oi := { dst := some 51, op := Op.move (Operand.tmp 50), type := 4, pos := "law.go:194", after := #[{ on := 1, ground := Ground.data }], guard := none }) (v := ?_) rfl (by kernel_rfl) (by kernel_rfl) (by kernel_rfl) (fun _ _ _ h => h) (Or.inl ⟨by rfl, ?_⟩) (by assumption) ?_
                rotate_left 1
                · intro w hSw; (try dsimp only at hSw); go_simp; try with_reducible rfl
                try simp only [Act.put, List.setIfInBounds_toArray, List.set_cons_zero, List.set_cons_succ]
                refine wpAnyH_take (i := 3) (oi := { dst := some 52, op := Op.fieldAddr 72 (Operand.tmp 10) 0, type := 0, pos := "law.go:194", after := #[{ on := 2, ground := Ground.guard }], guard := some (2, false) }) (v := ?_) rfl (by kernel_rfl) (by kernel_rfl) (by kernel_rfl) (fun _ _ _ h => h) (Or.inl ⟨by rfl, ?_⟩) (by assumption) ?_
                rotate_left 1
                · intro w hSw; (try dsimp only at hSw); go_simp; try with_reducible rfl
                try simp only [Act.put, List.setIfInBounds_toArray, List.set_cons_zero, List.set_cons_succ]
                refine wpAnyH_take (i := 4) (oi := { dst := some 53, op := Op.load 59 (Operand.tmp 52), type := 59, pos := "law.go:194", after := #[{ on := 3, ground := Ground.data }, { on := 2, ground := Ground.guard }], guard := some (2, false) }) (v := ?_) rfl (by kernel_rfl) (by kernel_rfl) (by kernel_rfl) (fun _ _ _ h => h) (Or.inl ⟨by rfl, ?_⟩) (by assumption) ?_
                rotate_left 1
                · intro w hSw; (try dsimp only at hSw); go_simp; try with_reducible rfl
                try simp only [Act.put, List.setIfInBounds_toArray, List.set_cons_zero, List.set_cons_succ]
                refine wpAnyH_take (i := 5) (oi := { dst := some 54, op := Op.move (Operand.tmp 7), type := 53, pos := "law.go:194", after := #[{ on := 2, ground := Ground.guard }], guard := some (2, false) }) (v := ?_) rfl (by kernel_rfl) (by kernel_rfl) (by kernel_rfl) (fun _ _ _ h => h) (Or.inl ⟨by rfl, ?_⟩) (by assumption) ?_
                rotate_left 1
                · intro w hSw; (try dsimp only at hSw); go_simp; try with_reducible rfl
                try simp only [Act.put, List.setIfInBounds_toArray, List.set_cons_zero, List.set_cons_succ]
                refine wpAnyH_take (i := 6) (oi := { dst := some 55, op := Op.move (Operand.tmp 8), type := 3, pos := "law.go:194", after := #[{ on := 2, ground := Ground.guard }], guard := some (2, false) }) (v := ?_) rfl (by kernel_rfl) (by kernel_rfl) (by kernel_rfl) (fun _ _ _ h => h) (Or.inl ⟨by rfl, ?_⟩) (by assumption) ?_
                rotate_left 1
                · intro w hSw; (try dsimp only at hSw); go_simp; try with_reducible rfl
                try simp only [Act.put, List.setIfInBounds_toArray, List.set_cons_zero, List.set_cons_succ]
                refine wpAnyH_take (i := 7) (oi := { dst := some 56, op := Op.indexAddr 53 (Operand.tmp 54) (Operand.tmp 55), type := 0, pos := "law.go:194", after := #[{ on := 5, ground := Ground.data }, { on := 6, ground := Ground.data }, { on := 2, ground := Ground.guard }], guard := some (2, false) }) (v := ?_) rfl (by kernel_rfl) (by kernel_rfl) (by kernel_rfl) (fun _ _ _ h => h) (Or.inl ⟨by rfl, ?_⟩) (by assumption) ?_
                rotate_left 1
                · intro w hSw; (try dsimp only at hSw); go_simp; try with_reducible rfl
                try simp only [Act.put, List.setIfInBounds_toArray, List.set_cons_zero, List.set_cons_succ]
                refine wpAnyH_take (i := 8) (oi := { dst := some 57, op := Op.fieldAddr 72 (Operand.tmp 56) 0, type := 0, pos := "law.go:194", after := #[{ on := 7, ground := Ground.data }, { on := 2, ground := Ground.guard }], guard := some (2, false) }) (v := ?_) rfl (by kernel_rfl) (by kernel_rfl) (by kernel_rfl) (fun _ _ _ h => h) (Or.inl ⟨by rfl, ?_⟩) (by assumption) ?_
                rotate_left 1
                · intro w hSw; (try dsimp only at hSw); go_simp; try with_reducible rfl
                try simp only [Act.put, List.setIfInBounds_toArray, List.set_cons_zero, List.set_cons_succ]
                refine wpAnyH_take (i := 9) (oi := { dst := some 58, op := Op.load 59 (Operand.tmp 57), type := 59, pos := "law.go:194", after := #[{ on := 8, ground := Ground.data }, { on := 2, ground := Ground.guard }], guard := some (2, false) }) (v := ?_) rfl (by kernel_rfl) (by kernel_rfl) (by kernel_rfl) (fun _ _ _ h => h) (Or.inl ⟨by rfl, ?_⟩) (by assumption) ?_
                rotate_left 1
                · intro w hSw; (try dsimp only at hSw); go_simp; try with_reducible rfl
                try simp only [Act.put, List.setIfInBounds_toArray, List.set_cons_zero, List.set_cons_succ]
                refine wpAnyH_ready (rs := [10]) (by kernel_rfl) (by simp) ?_
                refine AllReadyH.cons (o := { dst := some 59, op := Op.call { callee := Callee.value (Operand.func 36), args := #[Operand.tmp 53, Operand.tmp 58], argTypes := #[59, 59] }, type := 4, pos := "law.go:194", after := #[{ on := 4, ground := Ground.data }, { on := 9, ground := Ground.data }, { on := 2, ground := Ground.chain }, { on := 2, ground := Ground.guard }], guard := some (2, false) }) rfl (fun K hK => ?_) AllReadyH.nil
                go_simp
                go_at_call 36
                refine (HSA.out _ (HGET.out _ (by assumption))).mono ?_
                rintro e wx ⟨rfl, hb2⟩
                refine hK.out _ _ (HON.out _ _ (by assumption) hb2) (fun hHeld2 => ?_)
                clear hK K hHeld
                try simp only [Act.put, List.setIfInBounds_toArray, List.set_cons_zero, List.set_cons_succ]
                refine wpAnyH_take (i := 11) (oi := { dst := some 60, op := Op.unOp UnOp.not 4 (Operand.tmp 59), type := 4, pos := "law.go:194", after := #[{ on := 10, ground := Ground.data }, { on := 2, ground := Ground.guard }], guard := some (2, false) }) (v := ?_) rfl (by kernel_rfl) (by kernel_rfl) (by kernel_rfl) (fun _ _ _ h => h) (Or.inl ⟨by rfl, ?_⟩) (by assumption) ?_
                rotate_left 1
                · intro w hSw; (try dsimp only at hSw); go_simp; try with_reducible rfl
                try simp only [Act.put, List.setIfInBounds_toArray, List.set_cons_zero, List.set_cons_succ]
                refine wpAnyH_take (i := 12) (oi := { dst := some 61, op := Op.pick (Operand.tmp 51) (Operand.const (Value.bool true)) (Operand.tmp 60), type := 4, pos := "law.go:194", after := #[{ on := 2, ground := Ground.data }, { on := 11, ground := Ground.data }], guard := none }) (v := ?_) rfl (by kernel_rfl) (by kernel_rfl) (by kernel_rfl) (fun _ _ _ h => h) (Or.inl ⟨by rfl, ?_⟩) (by assumption) ?_
                rotate_left 1
                · intro w hSw; (try dsimp only at hSw); go_simp; try with_reducible rfl
                try simp only [Act.put, List.setIfInBounds_toArray, List.set_cons_zero, List.set_cons_succ]
                refine wpAnyH_take (i := 13) (oi := { dst := some 62, op := Op.move (Operand.tmp 61), type := 4, pos := "law.go:194", after := #[{ on := 12, ground := Ground.data }, { on := 10, ground := Ground.chain }], guard := none }) (v := ?_) rfl (by kernel_rfl) (by kernel_rfl) (by kernel_rfl) (fun _ _ _ h => h) (Or.inl ⟨by rfl, ?_⟩) (by assumption) ?_
                rotate_left 1
                · intro w hSw; (try dsimp only at hSw); go_simp; try with_reducible rfl
                try simp only [Act.put, List.setIfInBounds_toArray, List.set_cons_zero, List.set_cons_succ]
                refine wpAnyH_take (i := 14) (oi := { dst := some 63, op := Op.fieldAddr 72 (Operand.tmp 10) 2, type := 0, pos := "law.go:194", after := #[{ on := 13, ground := Ground.guard }], guard := some (13, false) }) (v := ?_) rfl (by kernel_rfl) (by kernel_rfl) (by kernel_rfl) (fun _ _ _ h => h) (Or.inl ⟨by rfl, ?_⟩) (by assumption) ?_
                rotate_left 1
                · intro w hSw; (try dsimp only at hSw); go_simp; try with_reducible rfl
                try simp only [Act.put, List.setIfInBounds_toArray, List.set_cons_zero, List.set_cons_succ]
                refine wpAnyH_take (i := 15) (oi := { dst := some 64, op := Op.load 4 (Operand.tmp 63), type := 4, pos := "law.go:194", after := #[{ on := 14, ground := Ground.data }, { on := 13, ground := Ground.guard }], guard := some (13, false) }) (v := ?_) rfl (by kernel_rfl) (by kernel_rfl) (by kernel_rfl) (fun _ _ _ h => h) (Or.inl ⟨by rfl, ?_⟩) (by assumption) ?_
                rotate_left 1
                · intro w hSw; (try dsimp only at hSw); go_simp; try with_reducible rfl
                try simp only [Act.put, List.setIfInBounds_toArray, List.set_cons_zero, List.set_cons_succ]
                refine wpAnyH_take (i := 16) (oi := { dst := some 65, op := Op.move (Operand.tmp 7), type := 53, pos := "law.go:194", after := #[{ on := 13, ground := Ground.guard }], guard := some (13, false) }) (v := ?_) rfl (by kernel_rfl) (by kernel_rfl) (by kernel_rfl) (fun _ _ _ h => h) (Or.inl ⟨by rfl, ?_⟩) (by assumption) ?_
                rotate_left 1
                · intro w hSw; (try dsimp only at hSw); go_simp; try with_reducible rfl
                try simp only [Act.put, List.setIfInBounds_toArray, List.set_cons_zero, List.set_cons_succ]
                refine wpAnyH_take (i := 17) (oi := { dst := some 66, op := Op.move (Operand.tmp 8), type := 3, pos := "law.go:194", after := #[{ on := 13, ground := Ground.guard }], guard := some (13, false) }) (v := ?_) rfl (by kernel_rfl) (by kernel_rfl) (by kernel_rfl) (fun _ _ _ h => h) (Or.inl ⟨by rfl, ?_⟩) (by assumption) ?_
                rotate_left 1
                · intro w hSw; (try dsimp only at hSw); go_simp; try with_reducible rfl
                try simp only [Act.put, List.setIfInBounds_toArray, List.set_cons_zero, List.set_cons_succ]
                refine wpAnyH_take (i := 18) (oi := { dst := some 67, op := Op.indexAddr 53 (Operand.tmp 65) (Operand.tmp 66), type := 0, pos := "law.go:194", after := #[{ on := 16, ground := Ground.data }, { on := 17, ground := Ground.data }, { on := 13, ground := Ground.guard }], guard := some (13, false) }) (v := ?_) rfl (by kernel_rfl) (by kernel_rfl) (by kernel_rfl) (fun _ _ _ h => h) (Or.inl ⟨by rfl, ?_⟩) (by assumption) ?_
                rotate_left 1
                · intro w hSw; (try dsimp only at hSw); go_simp; try with_reducible rfl
                try simp only [Act.put, List.setIfInBounds_toArray, List.set_cons_zero, List.set_cons_succ]
                refine wpAnyH_take (i := 19) (oi := { dst := some 68, op := Op.fieldAddr 72 (Operand.tmp 67) 2, type := 0, pos := "law.go:194", after := #[{ on := 18, ground := Ground.data }, { on := 13, ground := Ground.guard }], guard := some (13, false) }) (v := ?_) rfl (by kernel_rfl) (by kernel_rfl) (by kernel_rfl) (fun _ _ _ h => h) (Or.inl ⟨by rfl, ?_⟩) (by assumption) ?_
                rotate_left 1
                · intro w hSw; (try dsimp only at hSw); go_simp; try with_reducible rfl
                try simp only [Act.put, List.setIfInBounds_toArray, List.set_cons_zero, List.set_cons_succ]
                refine wpAnyH_take (i := 20) (oi := { dst := some 69, op := Op.load 4 (Operand.tmp 68), type := 4, pos := "law.go:194", after := #[{ on := 19, ground := Ground.data }, { on := 13, ground := Ground.guard }], guard := some (13, false) }) (v := ?_) rfl (by kernel_rfl) (by kernel_rfl) (by kernel_rfl) (fun _ _ _ h => h) (Or.inl ⟨by rfl, ?_⟩) (by assumption) ?_
                rotate_left 1
                · intro w hSw; (try dsimp only at hSw); go_simp; try with_reducible rfl
                try simp only [Act.put, List.setIfInBounds_toArray, List.set_cons_zero, List.set_cons_succ]
                refine wpAnyH_take (i := 21) (oi := { dst := some 70, op := Op.move (Operand.tmp 69), type := 4, pos := "law.go:194", after := #[{ on := 20, ground := Ground.data }, { on := 13, ground := Ground.chain }, { on := 13, ground := Ground.guard }], guard := some (13, false) }) (v := ?_) rfl (by kernel_rfl) (by kernel_rfl) (by kernel_rfl) (fun _ _ _ h => h) (Or.inl ⟨by rfl, ?_⟩) (by assumption) ?_
                rotate_left 1
                · intro w hSw; (try dsimp only at hSw); go_simp; try with_reducible rfl
                try simp only [Act.put, List.setIfInBounds_toArray, List.set_cons_zero, List.set_cons_succ]
                refine wpAnyH_take (i := 22) (oi := { dst := some 71, op := Op.move (Operand.tmp 7), type := 53, pos := "law.go:194", after := #[{ on := 21, ground := Ground.guard }], guard := some (21, false) }) (v := undef) rfl (by kernel_rfl) (by kernel_rfl) (by kernel_rfl) (fun _ _ _ h => h) (Or.inr ⟨by rfl, rfl⟩) (by assumption) ?_
                try simp only [Act.put, List.setIfInBounds_toArray, List.set_cons_zero, List.set_cons_succ]
                refine wpAnyH_take (i := 23) (oi := { dst := some 72, op := Op.move (Operand.tmp 8), type := 3, pos := "law.go:194", after := #[{ on := 21, ground := Ground.guard }], guard := some (21, false) }) (v := undef) rfl (by kernel_rfl) (by kernel_rfl) (by kernel_rfl) (fun _ _ _ h => h) (Or.inr ⟨by rfl, rfl⟩) (by assumption) ?_
                try simp only [Act.put, List.setIfInBounds_toArray, List.set_cons_zero, List.set_cons_succ]
                refine wpAnyH_take (i := 24) (oi := { dst := some 73, op := Op.indexAddr 53 (Operand.tmp 71) (Operand.tmp 72), type := 0, pos := "law.go:194", after := #[{ on := 22, ground := Ground.data }, { on := 23, ground := Ground.data }, { on := 21, ground := Ground.guard }], guard := some (21, false) }) (v := undef) rfl (by kernel_rfl) (by kernel_rfl) (by kernel_rfl) (fun _ _ _ h => h) (Or.inr ⟨by rfl, rfl⟩) (by assumption) ?_
                try simp only [Act.put, List.setIfInBounds_toArray, List.set_cons_zero, List.set_cons_succ]
                refine wpAnyH_take (i := 25) (oi := { dst := some 74, op := Op.fieldAddr 72 (Operand.tmp 73) 1, type := 0, pos := "law.go:194", after := #[{ on := 24, ground := Ground.data }, { on := 21, ground := Ground.guard }], guard := some (21, false) }) (v := undef) rfl (by kernel_rfl) (by kernel_rfl) (by kernel_rfl) (fun _ _ _ h => h) (Or.inr ⟨by rfl, rfl⟩) (by assumption) ?_
                try simp only [Act.put, List.setIfInBounds_toArray, List.set_cons_zero, List.set_cons_succ]
                refine wpAnyH_take (i := 26) (oi := { dst := some 75, op := Op.load 4 (Operand.tmp 74), type := 4, pos := "law.go:194", after := #[{ on := 25, ground := Ground.data }, { on := 21, ground := Ground.guard }], guard := some (21, false) }) (v := undef) rfl (by kernel_rfl) (by kernel_rfl) (by kernel_rfl) (fun _ _ _ h => h) (Or.inr ⟨by rfl, rfl⟩) (by assumption) ?_
                try simp only [Act.put, List.setIfInBounds_toArray, List.set_cons_zero, List.set_cons_succ]
                refine wpAnyH_take (i := 27) (oi := { dst := some 76, op := Op.pick (Operand.tmp 70) (Operand.const (Value.bool true)) (Operand.tmp 75), type := 4, pos := "law.go:194", after := #[{ on := 21, ground := Ground.data }, { on := 26, ground := Ground.data }, { on := 13, ground := Ground.guard }], guard := some (13, false) }) (v := ?_) rfl (by kernel_rfl) (by kernel_rfl) (by kernel_rfl) (fun _ _ _ h => h) (Or.inl ⟨by rfl, ?_⟩) (by assumption) ?_
                rotate_left 1
                · intro w hSw; (try dsimp only at hSw); go_simp; try with_reducible rfl
                try simp only [Act.put, List.setIfInBounds_toArray, List.set_cons_zero, List.set_cons_succ]
                refine wpAnyH_take (i := 28) (oi := { dst := some 77, op := Op.binOp BinOp.neq 4 (Operand.tmp 64) (Operand.tmp 76) 4, type := 4, pos := "law.go:194", after := #[{ on := 15, ground := Ground.data }, { on := 27, ground := Ground.data }, { on := 13, ground := Ground.guard }], guard := some (13, false) }) (v := ?_) rfl (by kernel_rfl) (by kernel_rfl) (by kernel_rfl) (fun _ _ _ h => h) (Or.inl ⟨by rfl, ?_⟩) (by assumption) ?_
                rotate_left 1
                · intro w hSw; (try dsimp only at hSw); go_simp; try with_reducible rfl
                try simp only [Act.put, List.setIfInBounds_toArray, List.set_cons_zero, List.set_cons_succ]
                refine wpAnyH_take (i := 29) (oi := { dst := some 78, op := Op.pick (Operand.tmp 62) (Operand.const (Value.bool true)) (Operand.tmp 77), type := 4, pos := "law.go:194", after := #[{ on := 13, ground := Ground.data }, { on := 28, ground := Ground.data }], guard := none }) (v := ?_) rfl (by kernel_rfl) (by kernel_rfl) (by kernel_rfl) (fun _ _ _ h => h) (Or.inl ⟨by rfl, ?_⟩) (by assumption) ?_
                rotate_left 1
                · intro w hSw; (try dsimp only at hSw); go_simp; try with_reducible rfl
                try simp only [Act.put, List.setIfInBounds_toArray, List.set_cons_zero, List.set_cons_succ]
                refine wpAnyH_done (by kernel_rfl) ?_ _
                have hlast := hHeld2
                clear hHeld2
                all_goals
                  have HBF := Lib.hid (bthen HBA.out (HGET.out _ hlast) (Nat.le_refl _))
                  have HB5F := Lib.hid (HGET.out _ hlast)
                  have HYF := Lib.hid (HY7.out.on HBF.out)
                  have l0 := (HZL.out.on HB5F.out).cs 0 _ rfl
                  have y0 := HYF.out.cs 0 _ rfl
                  have yl := HYF.out.lt
                  have yf := HYF.out.s 0
                  have HNN := Lib.hid (show ¬ (U7 b1 ∨ wr.heap.size ≤ b1) from fun h => h.elim HNV7.out (fun h => by have := HY7.out.lt; omega))
                  have HPUT := Lib.hid (LnBox.putN HL8.out HYF.out (HV9.out.on HB5F.out) HNN.out)
                  have HXF := Lib.hid ((HX7.out.on HBF.out).aside (g := b1) (fun e => HBB1.out e.symm) 0 (.slice A8 q.length c8))
                  have HUF := Lib.hid ((HU7.out.on HBF.out).aside HNU6.out 0 (.slice A8 q.length c8))
                  have HAF := Lib.hid ((HA7.out.on HBF.out).aside HNA6.out 0 (.slice A8 q.length c8))
                  have HBFF := Lib.hid ((bthen HB7.out HBF.out (Nat.le_refl _)).setCell (p := ⟨b1, 0, none⟩) HGE.out (.slice A8 q.length c8))
                  clear hlast HON HGET HS0
                  clear z0 z1 z2 z3 z4 z5 z6 z7 z8 m0 m1 m2 m3 m4 m5 m6 m7 m8
                  have hq9 := HQ64.out
                  go_wp2_with fail
                  go_roundg (gk - 1)
                  case rel => exact ⟨kk + 1, by have := HK2.out; omega, by go_num, HXF.out, HUF.out, HAF.out, by rw [HLN2.out]; exact HPUT.out, HBFF.out⟩
                  case measure => have := HK2.out; omega
            · cases again
              · have z8 : w5.cell? ⟨g9 + 1, 8, none⟩ = some (.bool true) := z8'
                have HS0 := Lib.hid (show w5.cell? ⟨g9 + 1, 0, none⟩ = some (.int .u64 (ym.id : Int)) ∧ w5.cell? ⟨g9 + 1, 1, none⟩ = some (.string (ofL ym.shop)) ∧ w5.cell? ⟨g9 + 1, 2, none⟩ = some (.string (ofL ym.key)) ∧ w5.cell? ⟨g9 + 1, 3, none⟩ = some (.slice Aq ym.head.length cq) ∧ w5.cell? ⟨g9 + 1, 4, none⟩ = some (.string (ofL ym.body)) ∧ w5.cell? ⟨g9 + 1, 5, none⟩ = some (.int .u64 (ym.due : Int)) ∧ w5.cell? ⟨g9 + 1, 6, none⟩ = some (.int .u8 (ym.hops : Int)) ∧ w5.cell? ⟨g9 + 1, 7, none⟩ = some (.bool true) ∧ w5.cell? ⟨g9 + 1, 8, none⟩ = some (.bool true) ∧ w5.cell? ⟨b', off' + kk * 9, none⟩ = some (.int .u64 (ym.id : Int)) ∧ w5.cell? ⟨b', off' + kk * 9 + 1, none⟩ = some (.string (ofL ym.shop)) ∧ w5.cell? ⟨b', off' + kk * 9 + 2, none⟩ = some (.string (ofL ym.key)) ∧ w5.cell? ⟨b', off' + kk * 9 + 3, none⟩ = some (.slice Ay ym.head.length cy) ∧ w5.cell? ⟨b', off' + kk * 9 + 4, none⟩ = some (.string (ofL ym.body)) ∧ w5.cell? ⟨b', off' + kk * 9 + 5, none⟩ = some (.int .u64 (ym.due : Int)) ∧ w5.cell? ⟨b', off' + kk * 9 + 6, none⟩ = some (.int .u8 (ym.hops : Int)) ∧ w5.cell? ⟨b', off' + kk * 9 + 7, none⟩ = some (.bool true) ∧ w5.cell? ⟨b', off' + kk * 9 + 8, none⟩ = some (.bool false) ∧ Below w5.heap.size w5 w5 from ⟨z0, z1, z2, z3, z4, z5, z6, z7, z8, m0, m1, m2, m3, m4, m5, m6, m7, m8, Below.refl _ _⟩)
                have HON := Lib.hid (show ∀ a a' : World, (a.cell? ⟨g9 + 1, 0, none⟩ = some (.int .u64 (ym.id : Int)) ∧ a.cell? ⟨g9 + 1, 1, none⟩ = some (.string (ofL ym.shop)) ∧ a.cell? ⟨g9 + 1, 2, none⟩ = some (.string (ofL ym.key)) ∧ a.cell? ⟨g9 + 1, 3, none⟩ = some (.slice Aq ym.head.length cq) ∧ a.cell? ⟨g9 + 1, 4, none⟩ = some (.string (ofL ym.body)) ∧ a.cell? ⟨g9 + 1, 5, none⟩ = some (.int .u64 (ym.due : Int)) ∧ a.cell? ⟨g9 + 1, 6, none⟩ = some (.int .u8 (ym.hops : Int)) ∧ a.cell? ⟨g9 + 1, 7, none⟩ = some (.bool true) ∧ a.cell? ⟨g9 + 1, 8, none⟩ = some (.bool true) ∧ a.cell? ⟨b', off' + kk * 9, none⟩ = some (.int .u64 (ym.id : Int)) ∧ a.cell? ⟨b', off' + kk * 9 + 1, none⟩ = some (.string (ofL ym.shop)) ∧ a.cell? ⟨b', off' + kk * 9 + 2, none⟩ = some (.string (ofL ym.key)) ∧ a.cell? ⟨b', off' + kk * 9 + 3, none⟩ = some (.slice Ay ym.head.length cy) ∧ a.cell? ⟨b', off' + kk * 9 + 4, none⟩ = some (.string (ofL ym.body)) ∧ a.cell? ⟨b', off' + kk * 9 + 5, none⟩ = some (.int .u64 (ym.due : Int)) ∧ a.cell? ⟨b', off' + kk * 9 + 6, none⟩ = some (.int .u8 (ym.hops : Int)) ∧ a.cell? ⟨b', off' + kk * 9 + 7, none⟩ = some (.bool true) ∧ a.cell? ⟨b', off' + kk * 9 + 8, none⟩ = some (.bool false) ∧ Below w5.heap.size w5 a) → Below a.heap.size a a' → (a'.cell? ⟨g9 + 1, 0, none⟩ = some (.int .u64 (ym.id : Int)) ∧ a'.cell? ⟨g9 + 1, 1, none⟩ = some (.string (ofL ym.shop)) ∧ a'.cell? ⟨g9 + 1, 2, none⟩ = some (.string (ofL ym.key)) ∧ a'.cell? ⟨g9 + 1, 3, none⟩ = some (.slice Aq ym.head.length cq) ∧ a'.cell? ⟨g9 + 1, 4, none⟩ = some (.string (ofL ym.body)) ∧ a'.cell? ⟨g9 + 1, 5, none⟩ = some (.int .u64 (ym.due : Int)) ∧ a'.cell? ⟨g9 + 1, 6, none⟩ = some (.int .u8 (ym.hops : Int)) ∧ a'.cell? ⟨g9 + 1, 7, none⟩ = some (.bool true) ∧ a'.cell? ⟨g9 + 1, 8, none⟩ = some (.bool true) ∧ a'.cell? ⟨b', off' + kk * 9, none⟩ = some (.int .u64 (ym.id : Int)) ∧ a'.cell? ⟨b', off' + kk * 9 + 1, none⟩ = some (.string (ofL ym.shop)) ∧ a'.cell? ⟨b', off' + kk * 9 + 2, none⟩ = some (.string (ofL ym.key)) ∧ a'.cell? ⟨b', off' + kk * 9 + 3, none⟩ = some (.slice Ay ym.head.length cy) ∧ a'.cell? ⟨b', off' + kk * 9 + 4, none⟩ = some (.string (ofL ym.body)) ∧ a'.cell? ⟨b', off' + kk * 9 + 5, none⟩ = some (.int .u64 (ym.due : Int)) ∧ a'.cell? ⟨b', off' + kk * 9 + 6, none⟩ = some (.int .u8 (ym.hops : Int)) ∧ a'.cell? ⟨b', off' + kk * 9 + 7, none⟩ = some (.bool true) ∧ a'.cell? ⟨b', off' + kk * 9 + 8, none⟩ = some (.bool false) ∧ Below w5.heap.size w5 a') from fun a a' ⟨h0, h1, h2, h3, h4, h5, h6, h7, h8, h9, h10, h11, h12, h13, h14, h15, h16, h17, h18⟩ hb => ⟨cell_on hb h0, cell_on hb h1, cell_on hb h2, cell_on hb h3, cell_on hb h4, cell_on hb h5, cell_on hb h6, cell_on hb h7, cell_on hb h8, cell_on hb h9, cell_on hb h10, cell_on hb h11, cell_on hb h12, cell_on hb h13, cell_on hb h14, cell_on hb h15, cell_on hb h16, cell_on hb h17, bthen h18 hb (Nat.le_refl _)⟩)
                have HGET := Lib.hid (show ∀ a : World, (a.cell? ⟨g9 + 1, 0, none⟩ = some (.int .u64 (ym.id : Int)) ∧ a.cell? ⟨g9 + 1, 1, none⟩ = some (.string (ofL ym.shop)) ∧ a.cell? ⟨g9 + 1, 2, none⟩ = some (.string (ofL ym.key)) ∧ a.cell? ⟨g9 + 1, 3, none⟩ = some (.slice Aq ym.head.length cq) ∧ a.cell? ⟨g9 + 1, 4, none⟩ = some (.string (ofL ym.body)) ∧ a.cell? ⟨g9 + 1, 5, none⟩ = some (.int .u64 (ym.due : Int)) ∧ a.cell? ⟨g9 + 1, 6, none⟩ = some (.int .u8 (ym.hops : Int)) ∧ a.cell? ⟨g9 + 1, 7, none⟩ = some (.bool true) ∧ a.cell? ⟨g9 + 1, 8, none⟩ = some (.bool true) ∧ a.cell? ⟨b', off' + kk * 9, none⟩ = some (.int .u64 (ym.id : Int)) ∧ a.cell? ⟨b', off' + kk * 9 + 1, none⟩ = some (.string (ofL ym.shop)) ∧ a.cell? ⟨b', off' + kk * 9 + 2, none⟩ = some (.string (ofL ym.key)) ∧ a.cell? ⟨b', off' + kk * 9 + 3, none⟩ = some (.slice Ay ym.head.length cy) ∧ a.cell? ⟨b', off' + kk * 9 + 4, none⟩ = some (.string (ofL ym.body)) ∧ a.cell? ⟨b', off' + kk * 9 + 5, none⟩ = some (.int .u64 (ym.due : Int)) ∧ a.cell? ⟨b', off' + kk * 9 + 6, none⟩ = some (.int .u8 (ym.hops : Int)) ∧ a.cell? ⟨b', off' + kk * 9 + 7, none⟩ = some (.bool true) ∧ a.cell? ⟨b', off' + kk * 9 + 8, none⟩ = some (.bool false) ∧ Below w5.heap.size w5 a) → Below w5.heap.size w5 a from fun a ⟨h0, h1, h2, h3, h4, h5, h6, h7, h8, h9, h10, h11, h12, h13, h14, h15, h16, h17, h18⟩ => h18)
                clear z8'
                skip
                refine wp_region_held_drew (S := fun a => a.cell? ⟨g9 + 1, 0, none⟩ = some (.int .u64 (ym.id : Int)) ∧ a.cell? ⟨g9 + 1, 1, none⟩ = some (.string (ofL ym.shop)) ∧ a.cell? ⟨g9 + 1, 2, none⟩ = some (.string (ofL ym.key)) ∧ a.cell? ⟨g9 + 1, 3, none⟩ = some (.slice Aq ym.head.length cq) ∧ a.cell? ⟨g9 + 1, 4, none⟩ = some (.string (ofL ym.body)) ∧ a.cell? ⟨g9 + 1, 5, none⟩ = some (.int .u64 (ym.due : Int)) ∧ a.cell? ⟨g9 + 1, 6, none⟩ = some (.int .u8 (ym.hops : Int)) ∧ a.cell? ⟨g9 + 1, 7, none⟩ = some (.bool true) ∧ a.cell? ⟨g9 + 1, 8, none⟩ = some (.bool true) ∧ a.cell? ⟨b', off' + kk * 9, none⟩ = some (.int .u64 (ym.id : Int)) ∧ a.cell? ⟨b', off' + kk * 9 + 1, none⟩ = some (.string (ofL ym.shop)) ∧ a.cell? ⟨b', off' + kk * 9 + 2, none⟩ = some (.string (ofL ym.key)) ∧ a.cell? ⟨b', off' + kk * 9 + 3, none⟩ = some (.slice Ay ym.head.length cy) ∧ a.cell? ⟨b', off' + kk * 9 + 4, none⟩ = some (.string (ofL ym.body)) ∧ a.cell? ⟨b', off' + kk * 9 + 5, none⟩ = some (.int .u64 (ym.due : Int)) ∧ a.cell? ⟨b', off' + kk * 9 + 6, none⟩ = some (.int .u8 (ym.hops : Int)) ∧ a.cell? ⟨b', off' + kk * 9 + 7, none⟩ = some (.bool true) ∧ a.cell? ⟨b', off' + kk * 9 + 8, none⟩ = some (.bool false) ∧ Below w5.heap.size w5 a) (by kernel_rfl) (by (try dsimp only); exact HON.out _ _ HS0.out (Below.refl _ _).drew) (fun hHeld => ?_)
                refine wpAnyH_take (i := 0) (oi := { dst := some 49, op := Op.move (Operand.tmp 11), type := 4, pos := "law.go:194", after := #[], guard := none }) (v := ?_) rfl (by kernel_rfl) (by kernel_rfl) (by kernel_rfl) (fun _ _ _ h => h) (Or.inl ⟨by rfl, ?_⟩) (by assumption) ?_
                rotate_left 1
                · intro w hSw; (try dsimp only at hSw); go_simp; try with_reducible rfl
                try simp only [Act.put, List.setIfInBounds_toArray, List.set_cons_zero, List.set_cons_succ]
                refine wpAnyH_take (i := 1) (oi := { dst := some 50, op := Op.unOp UnOp.not 4 (Operand.tmp 49), type := 4, pos := "law.go:194", after := #[{ on := 0, ground := Ground.data }], guard := none }) (v := ?_) rfl (by kernel_rfl) (by kernel_rfl) (by kernel_rfl) (fun _ _ _ h => h) (Or.inl ⟨by rfl, ?_⟩) (by assumption) ?_
                rotate_left 1
                · intro w hSw; (try dsimp only at hSw); go_simp; try with_reducible rfl
                try simp only [Act.put, List.setIfInBounds_toArray, List.set_cons_zero, List.set_cons_succ]
                refine wpAnyH_take (i := 2) (oi := { dst := some 51, op := Op.move (Operand.tmp 50), type := 4, pos := "law.go:194", after := #[{ on := 1, ground := Ground.data }], guard := none }) (v := ?_) rfl (by kernel_rfl) (by kernel_rfl) (by kernel_rfl) (fun _ _ _ h => h) (Or.inl ⟨by rfl, ?_⟩) (by assumption) ?_
                rotate_left 1
                · intro w hSw; (try dsimp only at hSw); go_simp; try with_reducible rfl
                try simp only [Act.put, List.setIfInBounds_toArray, List.set_cons_zero, List.set_cons_succ]
                refine wpAnyH_take (i := 3) (oi := { dst := some 52, op := Op.fieldAddr 72 (Operand.tmp 10) 0, type := 0, pos := "law.go:194", after := #[{ on := 2, ground := Ground.guard }], guard := some (2, false) }) (v := ?_) rfl (by kernel_rfl) (by kernel_rfl) (by kernel_rfl) (fun _ _ _ h => h) (Or.inl ⟨by rfl, ?_⟩) (by assumption) ?_
                rotate_left 1
                · intro w hSw; (try dsimp only at hSw); go_simp; try with_reducible rfl
                try simp only [Act.put, List.setIfInBounds_toArray, List.set_cons_zero, List.set_cons_succ]
                refine wpAnyH_take (i := 4) (oi := { dst := some 53, op := Op.load 59 (Operand.tmp 52), type := 59, pos := "law.go:194", after := #[{ on := 3, ground := Ground.data }, { on := 2, ground := Ground.guard }], guard := some (2, false) }) (v := ?_) rfl (by kernel_rfl) (by kernel_rfl) (by kernel_rfl) (fun _ _ _ h => h) (Or.inl ⟨by rfl, ?_⟩) (by assumption) ?_
                rotate_left 1
                · intro w hSw; (try dsimp only at hSw); go_simp; try with_reducible rfl
                try simp only [Act.put, List.setIfInBounds_toArray, List.set_cons_zero, List.set_cons_succ]
                refine wpAnyH_take (i := 5) (oi := { dst := some 54, op := Op.move (Operand.tmp 7), type := 53, pos := "law.go:194", after := #[{ on := 2, ground := Ground.guard }], guard := some (2, false) }) (v := ?_) rfl (by kernel_rfl) (by kernel_rfl) (by kernel_rfl) (fun _ _ _ h => h) (Or.inl ⟨by rfl, ?_⟩) (by assumption) ?_
                rotate_left 1
                · intro w hSw; (try dsimp only at hSw); go_simp; try with_reducible rfl
                try simp only [Act.put, List.setIfInBounds_toArray, List.set_cons_zero, List.set_cons_succ]
                refine wpAnyH_take (i := 6) (oi := { dst := some 55, op := Op.move (Operand.tmp 8), type := 3, pos := "law.go:194", after := #[{ on := 2, ground := Ground.guard }], guard := some (2, false) }) (v := ?_) rfl (by kernel_rfl) (by kernel_rfl) (by kernel_rfl) (fun _ _ _ h => h) (Or.inl ⟨by rfl, ?_⟩) (by assumption) ?_
                rotate_left 1
                · intro w hSw; (try dsimp only at hSw); go_simp; try with_reducible rfl
                try simp only [Act.put, List.setIfInBounds_toArray, List.set_cons_zero, List.set_cons_succ]
                refine wpAnyH_take (i := 7) (oi := { dst := some 56, op := Op.indexAddr 53 (Operand.tmp 54) (Operand.tmp 55), type := 0, pos := "law.go:194", after := #[{ on := 5, ground := Ground.data }, { on := 6, ground := Ground.data }, { on := 2, ground := Ground.guard }], guard := some (2, false) }) (v := ?_) rfl (by kernel_rfl) (by kernel_rfl) (by kernel_rfl) (fun _ _ _ h => h) (Or.inl ⟨by rfl, ?_⟩) (by assumption) ?_
                rotate_left 1
                · intro w hSw; (try dsimp only at hSw); go_simp; try with_reducible rfl
                try simp only [Act.put, List.setIfInBounds_toArray, List.set_cons_zero, List.set_cons_succ]
                refine wpAnyH_take (i := 8) (oi := { dst := some 57, op := Op.fieldAddr 72 (Operand.tmp 56) 0, type := 0, pos := "law.go:194", after := #[{ on := 7, ground := Ground.data }, { on := 2, ground := Ground.guard }], guard := some (2, false) }) (v := ?_) rfl (by kernel_rfl) (by kernel_rfl) (by kernel_rfl) (fun _ _ _ h => h) (Or.inl ⟨by rfl, ?_⟩) (by assumption) ?_
                rotate_left 1
                · intro w hSw; (try dsimp only at hSw); go_simp; try with_reducible rfl
                try simp only [Act.put, List.setIfInBounds_toArray, List.set_cons_zero, List.set_cons_succ]
                refine wpAnyH_take (i := 9) (oi := { dst := some 58, op := Op.load 59 (Operand.tmp 57), type := 59, pos := "law.go:194", after := #[{ on := 8, ground := Ground.data }, { on := 2, ground := Ground.guard }], guard := some (2, false) }) (v := ?_) rfl (by kernel_rfl) (by kernel_rfl) (by kernel_rfl) (fun _ _ _ h => h) (Or.inl ⟨by rfl, ?_⟩) (by assumption) ?_
                rotate_left 1
                · intro w hSw; (try dsimp only at hSw); go_simp; try with_reducible rfl
                try simp only [Act.put, List.setIfInBounds_toArray, List.set_cons_zero, List.set_cons_succ]
                refine wpAnyH_ready (rs := [10]) (by kernel_rfl) (by simp) ?_
                refine AllReadyH.cons (o := { dst := some 59, op := Op.call { callee := Callee.value (Operand.func 36), args := #[Operand.tmp 53, Operand.tmp 58], argTypes := #[59, 59] }, type := 4, pos := "law.go:194", after := #[{ on := 4, ground := Ground.data }, { on := 9, ground := Ground.data }, { on := 2, ground := Ground.chain }, { on := 2, ground := Ground.guard }], guard := some (2, false) }) rfl (fun K hK => ?_) AllReadyH.nil
                go_simp
                go_at_call 36
                refine (HSA.out _ (HGET.out _ (by assumption))).mono ?_
                rintro e wx ⟨rfl, hb2⟩
                refine hK.out _ _ (HON.out _ _ (by assumption) hb2) (fun hHeld2 => ?_)
                clear hK K hHeld
                try simp only [Act.put, List.setIfInBounds_toArray, List.set_cons_zero, List.set_cons_succ]
                refine wpAnyH_take (i := 11) (oi := { dst := some 60, op := Op.unOp UnOp.not 4 (Operand.tmp 59), type := 4, pos := "law.go:194", after := #[{ on := 10, ground := Ground.data }, { on := 2, ground := Ground.guard }], guard := some (2, false) }) (v := ?_) rfl (by kernel_rfl) (by kernel_rfl) (by kernel_rfl) (fun _ _ _ h => h) (Or.inl ⟨by rfl, ?_⟩) (by assumption) ?_
                rotate_left 1
                · intro w hSw; (try dsimp only at hSw); go_simp; try with_reducible rfl
                try simp only [Act.put, List.setIfInBounds_toArray, List.set_cons_zero, List.set_cons_succ]
                refine wpAnyH_take (i := 12) (oi := { dst := some 61, op := Op.pick (Operand.tmp 51) (Operand.const (Value.bool true)) (Operand.tmp 60), type := 4, pos := "law.go:194", after := #[{ on := 2, ground := Ground.data }, { on := 11, ground := Ground.data }], guard := none }) (v := ?_) rfl (by kernel_rfl) (by kernel_rfl) (by kernel_rfl) (fun _ _ _ h => h) (Or.inl ⟨by rfl, ?_⟩) (by assumption) ?_
                rotate_left 1
                · intro w hSw; (try dsimp only at hSw); go_simp; try with_reducible rfl
                try simp only [Act.put, List.setIfInBounds_toArray, List.set_cons_zero, List.set_cons_succ]
                refine wpAnyH_take (i := 13) (oi := { dst := some 62, op := Op.move (Operand.tmp 61), type := 4, pos := "law.go:194", after := #[{ on := 12, ground := Ground.data }, { on := 10, ground := Ground.chain }], guard := none }) (v := ?_) rfl (by kernel_rfl) (by kernel_rfl) (by kernel_rfl) (fun _ _ _ h => h) (Or.inl ⟨by rfl, ?_⟩) (by assumption) ?_
                rotate_left 1
                · intro w hSw; (try dsimp only at hSw); go_simp; try with_reducible rfl
                try simp only [Act.put, List.setIfInBounds_toArray, List.set_cons_zero, List.set_cons_succ]
                refine wpAnyH_take (i := 14) (oi := { dst := some 63, op := Op.fieldAddr 72 (Operand.tmp 10) 2, type := 0, pos := "law.go:194", after := #[{ on := 13, ground := Ground.guard }], guard := some (13, false) }) (v := ?_) rfl (by kernel_rfl) (by kernel_rfl) (by kernel_rfl) (fun _ _ _ h => h) (Or.inl ⟨by rfl, ?_⟩) (by assumption) ?_
                rotate_left 1
                · intro w hSw; (try dsimp only at hSw); go_simp; try with_reducible rfl
                try simp only [Act.put, List.setIfInBounds_toArray, List.set_cons_zero, List.set_cons_succ]
                refine wpAnyH_take (i := 15) (oi := { dst := some 64, op := Op.load 4 (Operand.tmp 63), type := 4, pos := "law.go:194", after := #[{ on := 14, ground := Ground.data }, { on := 13, ground := Ground.guard }], guard := some (13, false) }) (v := ?_) rfl (by kernel_rfl) (by kernel_rfl) (by kernel_rfl) (fun _ _ _ h => h) (Or.inl ⟨by rfl, ?_⟩) (by assumption) ?_
                rotate_left 1
                · intro w hSw; (try dsimp only at hSw); go_simp; try with_reducible rfl
                try simp only [Act.put, List.setIfInBounds_toArray, List.set_cons_zero, List.set_cons_succ]
                refine wpAnyH_take (i := 16) (oi := { dst := some 65, op := Op.move (Operand.tmp 7), type := 53, pos := "law.go:194", after := #[{ on := 13, ground := Ground.guard }], guard := some (13, false) }) (v := ?_) rfl (by kernel_rfl) (by kernel_rfl) (by kernel_rfl) (fun _ _ _ h => h) (Or.inl ⟨by rfl, ?_⟩) (by assumption) ?_
                rotate_left 1
                · intro w hSw; (try dsimp only at hSw); go_simp; try with_reducible rfl
                try simp only [Act.put, List.setIfInBounds_toArray, List.set_cons_zero, List.set_cons_succ]
                refine wpAnyH_take (i := 17) (oi := { dst := some 66, op := Op.move (Operand.tmp 8), type := 3, pos := "law.go:194", after := #[{ on := 13, ground := Ground.guard }], guard := some (13, false) }) (v := ?_) rfl (by kernel_rfl) (by kernel_rfl) (by kernel_rfl) (fun _ _ _ h => h) (Or.inl ⟨by rfl, ?_⟩) (by assumption) ?_
                rotate_left 1
                · intro w hSw; (try dsimp only at hSw); go_simp; try with_reducible rfl
                try simp only [Act.put, List.setIfInBounds_toArray, List.set_cons_zero, List.set_cons_succ]
                refine wpAnyH_take (i := 18) (oi := { dst := some 67, op := Op.indexAddr 53 (Operand.tmp 65) (Operand.tmp 66), type := 0, pos := "law.go:194", after := #[{ on := 16, ground := Ground.data }, { on := 17, ground := Ground.data }, { on := 13, ground := Ground.guard }], guard := some (13, false) }) (v := ?_) rfl (by kernel_rfl) (by kernel_rfl) (by kernel_rfl) (fun _ _ _ h => h) (Or.inl ⟨by rfl, ?_⟩) (by assumption) ?_
                rotate_left 1
                · intro w hSw; (try dsimp only at hSw); go_simp; try with_reducible rfl
                try simp only [Act.put, List.setIfInBounds_toArray, List.set_cons_zero, List.set_cons_succ]
                refine wpAnyH_take (i := 19) (oi := { dst := some 68, op := Op.fieldAddr 72 (Operand.tmp 67) 2, type := 0, pos := "law.go:194", after := #[{ on := 18, ground := Ground.data }, { on := 13, ground := Ground.guard }], guard := some (13, false) }) (v := ?_) rfl (by kernel_rfl) (by kernel_rfl) (by kernel_rfl) (fun _ _ _ h => h) (Or.inl ⟨by rfl, ?_⟩) (by assumption) ?_
                rotate_left 1
                · intro w hSw; (try dsimp only at hSw); go_simp; try with_reducible rfl
                try simp only [Act.put, List.setIfInBounds_toArray, List.set_cons_zero, List.set_cons_succ]
                refine wpAnyH_take (i := 20) (oi := { dst := some 69, op := Op.load 4 (Operand.tmp 68), type := 4, pos := "law.go:194", after := #[{ on := 19, ground := Ground.data }, { on := 13, ground := Ground.guard }], guard := some (13, false) }) (v := ?_) rfl (by kernel_rfl) (by kernel_rfl) (by kernel_rfl) (fun _ _ _ h => h) (Or.inl ⟨by rfl, ?_⟩) (by assumption) ?_
                rotate_left 1
                · intro w hSw; (try dsimp only at hSw); go_simp; try with_reducible rfl
                try simp only [Act.put, List.setIfInBounds_toArray, List.set_cons_zero, List.set_cons_succ]
                refine wpAnyH_take (i := 21) (oi := { dst := some 70, op := Op.move (Operand.tmp 69), type := 4, pos := "law.go:194", after := #[{ on := 20, ground := Ground.data }, { on := 13, ground := Ground.chain }, { on := 13, ground := Ground.guard }], guard := some (13, false) }) (v := ?_) rfl (by kernel_rfl) (by kernel_rfl) (by kernel_rfl) (fun _ _ _ h => h) (Or.inl ⟨by rfl, ?_⟩) (by assumption) ?_
                rotate_left 1
                · intro w hSw; (try dsimp only at hSw); go_simp; try with_reducible rfl
                try simp only [Act.put, List.setIfInBounds_toArray, List.set_cons_zero, List.set_cons_succ]
                refine wpAnyH_take (i := 22) (oi := { dst := some 71, op := Op.move (Operand.tmp 7), type := 53, pos := "law.go:194", after := #[{ on := 21, ground := Ground.guard }], guard := some (21, false) }) (v := ?_) rfl (by kernel_rfl) (by kernel_rfl) (by kernel_rfl) (fun _ _ _ h => h) (Or.inl ⟨by rfl, ?_⟩) (by assumption) ?_
                rotate_left 1
                · intro w hSw; (try dsimp only at hSw); go_simp; try with_reducible rfl
                try simp only [Act.put, List.setIfInBounds_toArray, List.set_cons_zero, List.set_cons_succ]
                refine wpAnyH_take (i := 23) (oi := { dst := some 72, op := Op.move (Operand.tmp 8), type := 3, pos := "law.go:194", after := #[{ on := 21, ground := Ground.guard }], guard := some (21, false) }) (v := ?_) rfl (by kernel_rfl) (by kernel_rfl) (by kernel_rfl) (fun _ _ _ h => h) (Or.inl ⟨by rfl, ?_⟩) (by assumption) ?_
                rotate_left 1
                · intro w hSw; (try dsimp only at hSw); go_simp; try with_reducible rfl
                try simp only [Act.put, List.setIfInBounds_toArray, List.set_cons_zero, List.set_cons_succ]
                refine wpAnyH_take (i := 24) (oi := { dst := some 73, op := Op.indexAddr 53 (Operand.tmp 71) (Operand.tmp 72), type := 0, pos := "law.go:194", after := #[{ on := 22, ground := Ground.data }, { on := 23, ground := Ground.data }, { on := 21, ground := Ground.guard }], guard := some (21, false) }) (v := ?_) rfl (by kernel_rfl) (by kernel_rfl) (by kernel_rfl) (fun _ _ _ h => h) (Or.inl ⟨by rfl, ?_⟩) (by assumption) ?_
                rotate_left 1
                · intro w hSw; (try dsimp only at hSw); go_simp; try with_reducible rfl
                try simp only [Act.put, List.setIfInBounds_toArray, List.set_cons_zero, List.set_cons_succ]
                refine wpAnyH_take (i := 25) (oi := { dst := some 74, op := Op.fieldAddr 72 (Operand.tmp 73) 1, type := 0, pos := "law.go:194", after := #[{ on := 24, ground := Ground.data }, { on := 21, ground := Ground.guard }], guard := some (21, false) }) (v := ?_) rfl (by kernel_rfl) (by kernel_rfl) (by kernel_rfl) (fun _ _ _ h => h) (Or.inl ⟨by rfl, ?_⟩) (by assumption) ?_
                rotate_left 1
                · intro w hSw; (try dsimp only at hSw); go_simp; try with_reducible rfl
                try simp only [Act.put, List.setIfInBounds_toArray, List.set_cons_zero, List.set_cons_succ]
                refine wpAnyH_take (i := 26) (oi := { dst := some 75, op := Op.load 4 (Operand.tmp 74), type := 4, pos := "law.go:194", after := #[{ on := 25, ground := Ground.data }, { on := 21, ground := Ground.guard }], guard := some (21, false) }) (v := ?_) rfl (by kernel_rfl) (by kernel_rfl) (by kernel_rfl) (fun _ _ _ h => h) (Or.inl ⟨by rfl, ?_⟩) (by assumption) ?_
                rotate_left 1
                · intro w hSw; (try dsimp only at hSw); go_simp; try with_reducible rfl
                try simp only [Act.put, List.setIfInBounds_toArray, List.set_cons_zero, List.set_cons_succ]
                refine wpAnyH_take (i := 27) (oi := { dst := some 76, op := Op.pick (Operand.tmp 70) (Operand.const (Value.bool true)) (Operand.tmp 75), type := 4, pos := "law.go:194", after := #[{ on := 21, ground := Ground.data }, { on := 26, ground := Ground.data }, { on := 13, ground := Ground.guard }], guard := some (13, false) }) (v := ?_) rfl (by kernel_rfl) (by kernel_rfl) (by kernel_rfl) (fun _ _ _ h => h) (Or.inl ⟨by rfl, ?_⟩) (by assumption) ?_
                rotate_left 1
                · intro w hSw; (try dsimp only at hSw); go_simp; try with_reducible rfl
                try simp only [Act.put, List.setIfInBounds_toArray, List.set_cons_zero, List.set_cons_succ]
                refine wpAnyH_take (i := 28) (oi := { dst := some 77, op := Op.binOp BinOp.neq 4 (Operand.tmp 64) (Operand.tmp 76) 4, type := 4, pos := "law.go:194", after := #[{ on := 15, ground := Ground.data }, { on := 27, ground := Ground.data }, { on := 13, ground := Ground.guard }], guard := some (13, false) }) (v := ?_) rfl (by kernel_rfl) (by kernel_rfl) (by kernel_rfl) (fun _ _ _ h => h) (Or.inl ⟨by rfl, ?_⟩) (by assumption) ?_
                rotate_left 1
                · intro w hSw; (try dsimp only at hSw); go_simp; try with_reducible rfl
                try simp only [Act.put, List.setIfInBounds_toArray, List.set_cons_zero, List.set_cons_succ]
                refine wpAnyH_take (i := 29) (oi := { dst := some 78, op := Op.pick (Operand.tmp 62) (Operand.const (Value.bool true)) (Operand.tmp 77), type := 4, pos := "law.go:194", after := #[{ on := 13, ground := Ground.data }, { on := 28, ground := Ground.data }], guard := none }) (v := ?_) rfl (by kernel_rfl) (by kernel_rfl) (by kernel_rfl) (fun _ _ _ h => h) (Or.inl ⟨by rfl, ?_⟩) (by assumption) ?_
                rotate_left 1
                · intro w hSw; (try dsimp only at hSw); go_simp; try with_reducible rfl
                try simp only [Act.put, List.setIfInBounds_toArray, List.set_cons_zero, List.set_cons_succ]
                refine wpAnyH_done (by kernel_rfl) ?_ _
                have hlast := hHeld2
                clear hHeld2
                all_goals
                  have HBF := Lib.hid (bthen HBA.out (HGET.out _ hlast) (Nat.le_refl _))
                  have HB5F := Lib.hid (HGET.out _ hlast)
                  have HYF := Lib.hid (HY7.out.on HBF.out)
                  have l0 := (HZL.out.on HB5F.out).cs 0 _ rfl
                  have y0 := HYF.out.cs 0 _ rfl
                  have yl := HYF.out.lt
                  have yf := HYF.out.s 0
                  have HNN := Lib.hid (show ¬ (U7 b1 ∨ wr.heap.size ≤ b1) from fun h => h.elim HNV7.out (fun h => by have := HY7.out.lt; omega))
                  have HPUT := Lib.hid (LnBox.putN HL8.out HYF.out (HV9.out.on HB5F.out) HNN.out)
                  have HXF := Lib.hid ((HX7.out.on HBF.out).aside (g := b1) (fun e => HBB1.out e.symm) 0 (.slice A8 q.length c8))
                  have HUF := Lib.hid ((HU7.out.on HBF.out).aside HNU6.out 0 (.slice A8 q.length c8))
                  have HAF := Lib.hid ((HA7.out.on HBF.out).aside HNA6.out 0 (.slice A8 q.length c8))
                  have HBFF := Lib.hid ((bthen HB7.out HBF.out (Nat.le_refl _)).setCell (p := ⟨b1, 0, none⟩) HGE.out (.slice A8 q.length c8))
                  clear hlast HON HGET HS0
                  clear z0 z1 z2 z3 z4 z5 z6 z7 z8 m0 m1 m2 m3 m4 m5 m6 m7 m8
                  have hq9 := HQ64.out
                  go_wp2_with fail
                  go_roundg (gk - 1)
                  case rel => exact ⟨kk + 1, by have := HK2.out; omega, by go_num, HXF.out, HUF.out, HAF.out, by rw [HLN2.out]; exact HPUT.out, HBFF.out⟩
                  case measure => have := HK2.out; omega
              · have z8 : w5.cell? ⟨g9 + 1, 8, none⟩ = some (.bool true) := z8'
                have HS0 := Lib.hid (show w5.cell? ⟨g9 + 1, 0, none⟩ = some (.int .u64 (ym.id : Int)) ∧ w5.cell? ⟨g9 + 1, 1, none⟩ = some (.string (ofL ym.shop)) ∧ w5.cell? ⟨g9 + 1, 2, none⟩ = some (.string (ofL ym.key)) ∧ w5.cell? ⟨g9 + 1, 3, none⟩ = some (.slice Aq ym.head.length cq) ∧ w5.cell? ⟨g9 + 1, 4, none⟩ = some (.string (ofL ym.body)) ∧ w5.cell? ⟨g9 + 1, 5, none⟩ = some (.int .u64 (ym.due : Int)) ∧ w5.cell? ⟨g9 + 1, 6, none⟩ = some (.int .u8 (ym.hops : Int)) ∧ w5.cell? ⟨g9 + 1, 7, none⟩ = some (.bool true) ∧ w5.cell? ⟨g9 + 1, 8, none⟩ = some (.bool true) ∧ w5.cell? ⟨b', off' + kk * 9, none⟩ = some (.int .u64 (ym.id : Int)) ∧ w5.cell? ⟨b', off' + kk * 9 + 1, none⟩ = some (.string (ofL ym.shop)) ∧ w5.cell? ⟨b', off' + kk * 9 + 2, none⟩ = some (.string (ofL ym.key)) ∧ w5.cell? ⟨b', off' + kk * 9 + 3, none⟩ = some (.slice Ay ym.head.length cy) ∧ w5.cell? ⟨b', off' + kk * 9 + 4, none⟩ = some (.string (ofL ym.body)) ∧ w5.cell? ⟨b', off' + kk * 9 + 5, none⟩ = some (.int .u64 (ym.due : Int)) ∧ w5.cell? ⟨b', off' + kk * 9 + 6, none⟩ = some (.int .u8 (ym.hops : Int)) ∧ w5.cell? ⟨b', off' + kk * 9 + 7, none⟩ = some (.bool true) ∧ w5.cell? ⟨b', off' + kk * 9 + 8, none⟩ = some (.bool true) ∧ Below w5.heap.size w5 w5 from ⟨z0, z1, z2, z3, z4, z5, z6, z7, z8, m0, m1, m2, m3, m4, m5, m6, m7, m8, Below.refl _ _⟩)
                have HON := Lib.hid (show ∀ a a' : World, (a.cell? ⟨g9 + 1, 0, none⟩ = some (.int .u64 (ym.id : Int)) ∧ a.cell? ⟨g9 + 1, 1, none⟩ = some (.string (ofL ym.shop)) ∧ a.cell? ⟨g9 + 1, 2, none⟩ = some (.string (ofL ym.key)) ∧ a.cell? ⟨g9 + 1, 3, none⟩ = some (.slice Aq ym.head.length cq) ∧ a.cell? ⟨g9 + 1, 4, none⟩ = some (.string (ofL ym.body)) ∧ a.cell? ⟨g9 + 1, 5, none⟩ = some (.int .u64 (ym.due : Int)) ∧ a.cell? ⟨g9 + 1, 6, none⟩ = some (.int .u8 (ym.hops : Int)) ∧ a.cell? ⟨g9 + 1, 7, none⟩ = some (.bool true) ∧ a.cell? ⟨g9 + 1, 8, none⟩ = some (.bool true) ∧ a.cell? ⟨b', off' + kk * 9, none⟩ = some (.int .u64 (ym.id : Int)) ∧ a.cell? ⟨b', off' + kk * 9 + 1, none⟩ = some (.string (ofL ym.shop)) ∧ a.cell? ⟨b', off' + kk * 9 + 2, none⟩ = some (.string (ofL ym.key)) ∧ a.cell? ⟨b', off' + kk * 9 + 3, none⟩ = some (.slice Ay ym.head.length cy) ∧ a.cell? ⟨b', off' + kk * 9 + 4, none⟩ = some (.string (ofL ym.body)) ∧ a.cell? ⟨b', off' + kk * 9 + 5, none⟩ = some (.int .u64 (ym.due : Int)) ∧ a.cell? ⟨b', off' + kk * 9 + 6, none⟩ = some (.int .u8 (ym.hops : Int)) ∧ a.cell? ⟨b', off' + kk * 9 + 7, none⟩ = some (.bool true) ∧ a.cell? ⟨b', off' + kk * 9 + 8, none⟩ = some (.bool true) ∧ Below w5.heap.size w5 a) → Below a.heap.size a a' → (a'.cell? ⟨g9 + 1, 0, none⟩ = some (.int .u64 (ym.id : Int)) ∧ a'.cell? ⟨g9 + 1, 1, none⟩ = some (.string (ofL ym.shop)) ∧ a'.cell? ⟨g9 + 1, 2, none⟩ = some (.string (ofL ym.key)) ∧ a'.cell? ⟨g9 + 1, 3, none⟩ = some (.slice Aq ym.head.length cq) ∧ a'.cell? ⟨g9 + 1, 4, none⟩ = some (.string (ofL ym.body)) ∧ a'.cell? ⟨g9 + 1, 5, none⟩ = some (.int .u64 (ym.due : Int)) ∧ a'.cell? ⟨g9 + 1, 6, none⟩ = some (.int .u8 (ym.hops : Int)) ∧ a'.cell? ⟨g9 + 1, 7, none⟩ = some (.bool true) ∧ a'.cell? ⟨g9 + 1, 8, none⟩ = some (.bool true) ∧ a'.cell? ⟨b', off' + kk * 9, none⟩ = some (.int .u64 (ym.id : Int)) ∧ a'.cell? ⟨b', off' + kk * 9 + 1, none⟩ = some (.string (ofL ym.shop)) ∧ a'.cell? ⟨b', off' + kk * 9 + 2, none⟩ = some (.string (ofL ym.key)) ∧ a'.cell? ⟨b', off' + kk * 9 + 3, none⟩ = some (.slice Ay ym.head.length cy) ∧ a'.cell? ⟨b', off' + kk * 9 + 4, none⟩ = some (.string (ofL ym.body)) ∧ a'.cell? ⟨b', off' + kk * 9 + 5, none⟩ = some (.int .u64 (ym.due : Int)) ∧ a'.cell? ⟨b', off' + kk * 9 + 6, none⟩ = some (.int .u8 (ym.hops : Int)) ∧ a'.cell? ⟨b', off' + kk * 9 + 7, none⟩ = some (.bool true) ∧ a'.cell? ⟨b', off' + kk * 9 + 8, none⟩ = some (.bool true) ∧ Below w5.heap.size w5 a') from fun a a' ⟨h0, h1, h2, h3, h4, h5, h6, h7, h8, h9, h10, h11, h12, h13, h14, h15, h16, h17, h18⟩ hb => ⟨cell_on hb h0, cell_on hb h1, cell_on hb h2, cell_on hb h3, cell_on hb h4, cell_on hb h5, cell_on hb h6, cell_on hb h7, cell_on hb h8, cell_on hb h9, cell_on hb h10, cell_on hb h11, cell_on hb h12, cell_on hb h13, cell_on hb h14, cell_on hb h15, cell_on hb h16, cell_on hb h17, bthen h18 hb (Nat.le_refl _)⟩)
                have HGET := Lib.hid (show ∀ a : World, (a.cell? ⟨g9 + 1, 0, none⟩ = some (.int .u64 (ym.id : Int)) ∧ a.cell? ⟨g9 + 1, 1, none⟩ = some (.string (ofL ym.shop)) ∧ a.cell? ⟨g9 + 1, 2, none⟩ = some (.string (ofL ym.key)) ∧ a.cell? ⟨g9 + 1, 3, none⟩ = some (.slice Aq ym.head.length cq) ∧ a.cell? ⟨g9 + 1, 4, none⟩ = some (.string (ofL ym.body)) ∧ a.cell? ⟨g9 + 1, 5, none⟩ = some (.int .u64 (ym.due : Int)) ∧ a.cell? ⟨g9 + 1, 6, none⟩ = some (.int .u8 (ym.hops : Int)) ∧ a.cell? ⟨g9 + 1, 7, none⟩ = some (.bool true) ∧ a.cell? ⟨g9 + 1, 8, none⟩ = some (.bool true) ∧ a.cell? ⟨b', off' + kk * 9, none⟩ = some (.int .u64 (ym.id : Int)) ∧ a.cell? ⟨b', off' + kk * 9 + 1, none⟩ = some (.string (ofL ym.shop)) ∧ a.cell? ⟨b', off' + kk * 9 + 2, none⟩ = some (.string (ofL ym.key)) ∧ a.cell? ⟨b', off' + kk * 9 + 3, none⟩ = some (.slice Ay ym.head.length cy) ∧ a.cell? ⟨b', off' + kk * 9 + 4, none⟩ = some (.string (ofL ym.body)) ∧ a.cell? ⟨b', off' + kk * 9 + 5, none⟩ = some (.int .u64 (ym.due : Int)) ∧ a.cell? ⟨b', off' + kk * 9 + 6, none⟩ = some (.int .u8 (ym.hops : Int)) ∧ a.cell? ⟨b', off' + kk * 9 + 7, none⟩ = some (.bool true) ∧ a.cell? ⟨b', off' + kk * 9 + 8, none⟩ = some (.bool true) ∧ Below w5.heap.size w5 a) → Below w5.heap.size w5 a from fun a ⟨h0, h1, h2, h3, h4, h5, h6, h7, h8, h9, h10, h11, h12, h13, h14, h15, h16, h17, h18⟩ => h18)
                clear z8'
                skip
                refine wp_region_held_drew (S := fun a => a.cell? ⟨g9 + 1, 0, none⟩ = some (.int .u64 (ym.id : Int)) ∧ a.cell? ⟨g9 + 1, 1, none⟩ = some (.string (ofL ym.shop)) ∧ a.cell? ⟨g9 + 1, 2, none⟩ = some (.string (ofL ym.key)) ∧ a.cell? ⟨g9 + 1, 3, none⟩ = some (.slice Aq ym.head.length cq) ∧ a.cell? ⟨g9 + 1, 4, none⟩ = some (.string (ofL ym.body)) ∧ a.cell? ⟨g9 + 1, 5, none⟩ = some (.int .u64 (ym.due : Int)) ∧ a.cell? ⟨g9 + 1, 6, none⟩ = some (.int .u8 (ym.hops : Int)) ∧ a.cell? ⟨g9 + 1, 7, none⟩ = some (.bool true) ∧ a.cell? ⟨g9 + 1, 8, none⟩ = some (.bool true) ∧ a.cell? ⟨b', off' + kk * 9, none⟩ = some (.int .u64 (ym.id : Int)) ∧ a.cell? ⟨b', off' + kk * 9 + 1, none⟩ = some (.string (ofL ym.shop)) ∧ a.cell? ⟨b', off' + kk * 9 + 2, none⟩ = some (.string (ofL ym.key)) ∧ a.cell? ⟨b', off' + kk * 9 + 3, none⟩ = some (.slice Ay ym.head.length cy) ∧ a.cell? ⟨b', off' + kk * 9 + 4, none⟩ = some (.string (ofL ym.body)) ∧ a.cell? ⟨b', off' + kk * 9 + 5, none⟩ = some (.int .u64 (ym.due : Int)) ∧ a.cell? ⟨b', off' + kk * 9 + 6, none⟩ = some (.int .u8 (ym.hops : Int)) ∧ a.cell? ⟨b', off' + kk * 9 + 7, none⟩ = some (.bool true) ∧ a.cell? ⟨b', off' + kk * 9 + 8, none⟩ = some (.bool true) ∧ Below w5.heap.size w5 a) (by kernel_rfl) (by (try dsimp only); exact HON.out _ _ HS0.out (Below.refl _ _).drew) (fun hHeld => ?_)
                refine wpAnyH_take (i := 0) (oi := { dst := some 49, op := Op.move (Operand.tmp 11), type := 4, pos := "law.go:194", after := #[], guard := none }) (v := ?_) rfl (by kernel_rfl) (by kernel_rfl) (by kernel_rfl) (fun _ _ _ h => h) (Or.inl ⟨by rfl, ?_⟩) (by assumption) ?_
                rotate_left 1
                · intro w hSw; (try dsimp only at hSw); go_simp; try with_reducible rfl
                try simp only [Act.put, List.setIfInBounds_toArray, List.set_cons_zero, List.set_cons_succ]
                refine wpAnyH_take (i := 1) (oi := { dst := some 50, op := Op.unOp UnOp.not 4 (Operand.tmp 49), type := 4, pos := "law.go:194", after := #[{ on := 0, ground := Ground.data }], guard := none }) (v := ?_) rfl (by kernel_rfl) (by kernel_rfl) (by kernel_rfl) (fun _ _ _ h => h) (Or.inl ⟨by rfl, ?_⟩) (by assumption) ?_
                rotate_left 1
                · intro w hSw; (try dsimp only at hSw); go_simp; try with_reducible rfl
                try simp only [Act.put, List.setIfInBounds_toArray, List.set_cons_zero, List.set_cons_succ]
                refine wpAnyH_take (i := 2) (oi := { dst := some 51, op := Op.move (Operand.tmp 50), type := 4, pos := "law.go:194", after := #[{ on := 1, ground := Ground.data }], guard := none }) (v := ?_) rfl (by kernel_rfl) (by kernel_rfl) (by kernel_rfl) (fun _ _ _ h => h) (Or.inl ⟨by rfl, ?_⟩) (by assumption) ?_
                rotate_left 1
                · intro w hSw; (try dsimp only at hSw); go_simp; try with_reducible rfl
                try simp only [Act.put, List.setIfInBounds_toArray, List.set_cons_zero, List.set_cons_succ]
                refine wpAnyH_take (i := 3) (oi := { dst := some 52, op := Op.fieldAddr 72 (Operand.tmp 10) 0, type := 0, pos := "law.go:194", after := #[{ on := 2, ground := Ground.guard }], guard := some (2, false) }) (v := ?_) rfl (by kernel_rfl) (by kernel_rfl) (by kernel_rfl) (fun _ _ _ h => h) (Or.inl ⟨by rfl, ?_⟩) (by assumption) ?_
                rotate_left 1
                · intro w hSw; (try dsimp only at hSw); go_simp; try with_reducible rfl
                try simp only [Act.put, List.setIfInBounds_toArray, List.set_cons_zero, List.set_cons_succ]
                refine wpAnyH_take (i := 4) (oi := { dst := some 53, op := Op.load 59 (Operand.tmp 52), type := 59, pos := "law.go:194", after := #[{ on := 3, ground := Ground.data }, { on := 2, ground := Ground.guard }], guard := some (2, false) }) (v := ?_) rfl (by kernel_rfl) (by kernel_rfl) (by kernel_rfl) (fun _ _ _ h => h) (Or.inl ⟨by rfl, ?_⟩) (by assumption) ?_
                rotate_left 1
                · intro w hSw; (try dsimp only at hSw); go_simp; try with_reducible rfl
                try simp only [Act.put, List.setIfInBounds_toArray, List.set_cons_zero, List.set_cons_succ]
                refine wpAnyH_take (i := 5) (oi := { dst := some 54, op := Op.move (Operand.tmp 7), type := 53, pos := "law.go:194", after := #[{ on := 2, ground := Ground.guard }], guard := some (2, false) }) (v := ?_) rfl (by kernel_rfl) (by kernel_rfl) (by kernel_rfl) (fun _ _ _ h => h) (Or.inl ⟨by rfl, ?_⟩) (by assumption) ?_
                rotate_left 1
                · intro w hSw; (try dsimp only at hSw); go_simp; try with_reducible rfl
                try simp only [Act.put, List.setIfInBounds_toArray, List.set_cons_zero, List.set_cons_succ]
                refine wpAnyH_take (i := 6) (oi := { dst := some 55, op := Op.move (Operand.tmp 8), type := 3, pos := "law.go:194", after := #[{ on := 2, ground := Ground.guard }], guard := some (2, false) }) (v := ?_) rfl (by kernel_rfl) (by kernel_rfl) (by kernel_rfl) (fun _ _ _ h => h) (Or.inl ⟨by rfl, ?_⟩) (by assumption) ?_
                rotate_left 1
                · intro w hSw; (try dsimp only at hSw); go_simp; try with_reducible rfl
                try simp only [Act.put, List.setIfInBounds_toArray, List.set_cons_zero, List.set_cons_succ]
                refine wpAnyH_take (i := 7) (oi := { dst := some 56, op := Op.indexAddr 53 (Operand.tmp 54) (Operand.tmp 55), type := 0, pos := "law.go:194", after := #[{ on := 5, ground := Ground.data }, { on := 6, ground := Ground.data }, { on := 2, ground := Ground.guard }], guard := some (2, false) }) (v := ?_) rfl (by kernel_rfl) (by kernel_rfl) (by kernel_rfl) (fun _ _ _ h => h) (Or.inl ⟨by rfl, ?_⟩) (by assumption) ?_
                rotate_left 1
                · intro w hSw; (try dsimp only at hSw); go_simp; try with_reducible rfl
                try simp only [Act.put, List.setIfInBounds_toArray, List.set_cons_zero, List.set_cons_succ]
                refine wpAnyH_take (i := 8) (oi := { dst := some 57, op := Op.fieldAddr 72 (Operand.tmp 56) 0, type := 0, pos := "law.go:194", after := #[{ on := 7, ground := Ground.data }, { on := 2, ground := Ground.guard }], guard := some (2, false) }) (v := ?_) rfl (by kernel_rfl) (by kernel_rfl) (by kernel_rfl) (fun _ _ _ h => h) (Or.inl ⟨by rfl, ?_⟩) (by assumption) ?_
                rotate_left 1
                · intro w hSw; (try dsimp only at hSw); go_simp; try with_reducible rfl
                try simp only [Act.put, List.setIfInBounds_toArray, List.set_cons_zero, List.set_cons_succ]
                refine wpAnyH_take (i := 9) (oi := { dst := some 58, op := Op.load 59 (Operand.tmp 57), type := 59, pos := "law.go:194", after := #[{ on := 8, ground := Ground.data }, { on := 2, ground := Ground.guard }], guard := some (2, false) }) (v := ?_) rfl (by kernel_rfl) (by kernel_rfl) (by kernel_rfl) (fun _ _ _ h => h) (Or.inl ⟨by rfl, ?_⟩) (by assumption) ?_
                rotate_left 1
                · intro w hSw; (try dsimp only at hSw); go_simp; try with_reducible rfl
                try simp only [Act.put, List.setIfInBounds_toArray, List.set_cons_zero, List.set_cons_succ]
                refine wpAnyH_ready (rs := [10]) (by kernel_rfl) (by simp) ?_
                refine AllReadyH.cons (o := { dst := some 59, op := Op.call { callee := Callee.value (Operand.func 36), args := #[Operand.tmp 53, Operand.tmp 58], argTypes := #[59, 59] }, type := 4, pos := "law.go:194", after := #[{ on := 4, ground := Ground.data }, { on := 9, ground := Ground.data }, { on := 2, ground := Ground.chain }, { on := 2, ground := Ground.guard }], guard := some (2, false) }) rfl (fun K hK => ?_) AllReadyH.nil
                go_simp
                go_at_call 36
                refine (HSA.out _ (HGET.out _ (by assumption))).mono ?_
                rintro e wx ⟨rfl, hb2⟩
                refine hK.out _ _ (HON.out _ _ (by assumption) hb2) (fun hHeld2 => ?_)
                clear hK K hHeld
                try simp only [Act.put, List.setIfInBounds_toArray, List.set_cons_zero, List.set_cons_succ]
                refine wpAnyH_take (i := 11) (oi := { dst := some 60, op := Op.unOp UnOp.not 4 (Operand.tmp 59), type := 4, pos := "law.go:194", after := #[{ on := 10, ground := Ground.data }, { on := 2, ground := Ground.guard }], guard := some (2, false) }) (v := ?_) rfl (by kernel_rfl) (by kernel_rfl) (by kernel_rfl) (fun _ _ _ h => h) (Or.inl ⟨by rfl, ?_⟩) (by assumption) ?_
                rotate_left 1
                · intro w hSw; (try dsimp only at hSw); go_simp; try with_reducible rfl
                try simp only [Act.put, List.setIfInBounds_toArray, List.set_cons_zero, List.set_cons_succ]
                refine wpAnyH_take (i := 12) (oi := { dst := some 61, op := Op.pick (Operand.tmp 51) (Operand.const (Value.bool true)) (Operand.tmp 60), type := 4, pos := "law.go:194", after := #[{ on := 2, ground := Ground.data }, { on := 11, ground := Ground.data }], guard := none }) (v := ?_) rfl (by kernel_rfl) (by kernel_rfl) (by kernel_rfl) (fun _ _ _ h => h) (Or.inl ⟨by rfl, ?_⟩) (by assumption) ?_
                rotate_left 1
                · intro w hSw; (try dsimp only at hSw); go_simp; try with_reducible rfl
                try simp only [Act.put, List.setIfInBounds_toArray, List.set_cons_zero, List.set_cons_succ]
                refine wpAnyH_take (i := 13) (oi := { dst := some 62, op := Op.move (Operand.tmp 61), type := 4, pos := "law.go:194", after := #[{ on := 12, ground := Ground.data }, { on := 10, ground := Ground.chain }], guard := none }) (v := ?_) rfl (by kernel_rfl) (by kernel_rfl) (by kernel_rfl) (fun _ _ _ h => h) (Or.inl ⟨by rfl, ?_⟩) (by assumption) ?_
                rotate_left 1
                · intro w hSw; (try dsimp only at hSw); go_simp; try with_reducible rfl
                try simp only [Act.put, List.setIfInBounds_toArray, List.set_cons_zero, List.set_cons_succ]
                refine wpAnyH_take (i := 14) (oi := { dst := some 63, op := Op.fieldAddr 72 (Operand.tmp 10) 2, type := 0, pos := "law.go:194", after := #[{ on := 13, ground := Ground.guard }], guard := some (13, false) }) (v := ?_) rfl (by kernel_rfl) (by kernel_rfl) (by kernel_rfl) (fun _ _ _ h => h) (Or.inl ⟨by rfl, ?_⟩) (by assumption) ?_
                rotate_left 1
                · intro w hSw; (try dsimp only at hSw); go_simp; try with_reducible rfl
                try simp only [Act.put, List.setIfInBounds_toArray, List.set_cons_zero, List.set_cons_succ]
                refine wpAnyH_take (i := 15) (oi := { dst := some 64, op := Op.load 4 (Operand.tmp 63), type := 4, pos := "law.go:194", after := #[{ on := 14, ground := Ground.data }, { on := 13, ground := Ground.guard }], guard := some (13, false) }) (v := ?_) rfl (by kernel_rfl) (by kernel_rfl) (by kernel_rfl) (fun _ _ _ h => h) (Or.inl ⟨by rfl, ?_⟩) (by assumption) ?_
                rotate_left 1
                · intro w hSw; (try dsimp only at hSw); go_simp; try with_reducible rfl
                try simp only [Act.put, List.setIfInBounds_toArray, List.set_cons_zero, List.set_cons_succ]
                refine wpAnyH_take (i := 16) (oi := { dst := some 65, op := Op.move (Operand.tmp 7), type := 53, pos := "law.go:194", after := #[{ on := 13, ground := Ground.guard }], guard := some (13, false) }) (v := ?_) rfl (by kernel_rfl) (by kernel_rfl) (by kernel_rfl) (fun _ _ _ h => h) (Or.inl ⟨by rfl, ?_⟩) (by assumption) ?_
                rotate_left 1
                · intro w hSw; (try dsimp only at hSw); go_simp; try with_reducible rfl
                try simp only [Act.put, List.setIfInBounds_toArray, List.set_cons_zero, List.set_cons_succ]
                refine wpAnyH_take (i := 17) (oi := { dst := some 66, op := Op.move (Operand.tmp 8), type := 3, pos := "law.go:194", after := #[{ on := 13, ground := Ground.guard }], guard := some (13, false) }) (v := ?_) rfl (by kernel_rfl) (by kernel_rfl) (by kernel_rfl) (fun _ _ _ h => h) (Or.inl ⟨by rfl, ?_⟩) (by assumption) ?_
                rotate_left 1
                · intro w hSw; (try dsimp only at hSw); go_simp; try with_reducible rfl
                try simp only [Act.put, List.setIfInBounds_toArray, List.set_cons_zero, List.set_cons_succ]
                refine wpAnyH_take (i := 18) (oi := { dst := some 67, op := Op.indexAddr 53 (Operand.tmp 65) (Operand.tmp 66), type := 0, pos := "law.go:194", after := #[{ on := 16, ground := Ground.data }, { on := 17, ground := Ground.data }, { on := 13, ground := Ground.guard }], guard := some (13, false) }) (v := ?_) rfl (by kernel_rfl) (by kernel_rfl) (by kernel_rfl) (fun _ _ _ h => h) (Or.inl ⟨by rfl, ?_⟩) (by assumption) ?_
                rotate_left 1
                · intro w hSw; (try dsimp only at hSw); go_simp; try with_reducible rfl
                try simp only [Act.put, List.setIfInBounds_toArray, List.set_cons_zero, List.set_cons_succ]
                refine wpAnyH_take (i := 19) (oi := { dst := some 68, op := Op.fieldAddr 72 (Operand.tmp 67) 2, type := 0, pos := "law.go:194", after := #[{ on := 18, ground := Ground.data }, { on := 13, ground := Ground.guard }], guard := some (13, false) }) (v := ?_) rfl (by kernel_rfl) (by kernel_rfl) (by kernel_rfl) (fun _ _ _ h => h) (Or.inl ⟨by rfl, ?_⟩) (by assumption) ?_
                rotate_left 1
                · intro w hSw; (try dsimp only at hSw); go_simp; try with_reducible rfl
                try simp only [Act.put, List.setIfInBounds_toArray, List.set_cons_zero, List.set_cons_succ]
                refine wpAnyH_take (i := 20) (oi := { dst := some 69, op := Op.load 4 (Operand.tmp 68), type := 4, pos := "law.go:194", after := #[{ on := 19, ground := Ground.data }, { on := 13, ground := Ground.guard }], guard := some (13, false) }) (v := ?_) rfl (by kernel_rfl) (by kernel_rfl) (by kernel_rfl) (fun _ _ _ h => h) (Or.inl ⟨by rfl, ?_⟩) (by assumption) ?_
                rotate_left 1
                · intro w hSw; (try dsimp only at hSw); go_simp; try with_reducible rfl
                try simp only [Act.put, List.setIfInBounds_toArray, List.set_cons_zero, List.set_cons_succ]
                refine wpAnyH_take (i := 21) (oi := { dst := some 70, op := Op.move (Operand.tmp 69), type := 4, pos := "law.go:194", after := #[{ on := 20, ground := Ground.data }, { on := 13, ground := Ground.chain }, { on := 13, ground := Ground.guard }], guard := some (13, false) }) (v := ?_) rfl (by kernel_rfl) (by kernel_rfl) (by kernel_rfl) (fun _ _ _ h => h) (Or.inl ⟨by rfl, ?_⟩) (by assumption) ?_
                rotate_left 1
                · intro w hSw; (try dsimp only at hSw); go_simp; try with_reducible rfl
                try simp only [Act.put, List.setIfInBounds_toArray, List.set_cons_zero, List.set_cons_succ]
                refine wpAnyH_take (i := 22) (oi := { dst := some 71, op := Op.move (Operand.tmp 7), type := 53, pos := "law.go:194", after := #[{ on := 21, ground := Ground.guard }], guard := some (21, false) }) (v := undef) rfl (by kernel_rfl) (by kernel_rfl) (by kernel_rfl) (fun _ _ _ h => h) (Or.inr ⟨by rfl, rfl⟩) (by assumption) ?_
                try simp only [Act.put, List.setIfInBounds_toArray, List.set_cons_zero, List.set_cons_succ]
                refine wpAnyH_take (i := 23) (oi := { dst := some 72, op := Op.move (Operand.tmp 8), type := 3, pos := "law.go:194", after := #[{ on := 21, ground := Ground.guard }], guard := some (21, false) }) (v := undef) rfl (by kernel_rfl) (by kernel_rfl) (by kernel_rfl) (fun _ _ _ h => h) (Or.inr ⟨by rfl, rfl⟩) (by assumption) ?_
                try simp only [Act.put, List.setIfInBounds_toArray, List.set_cons_zero, List.set_cons_succ]
                refine wpAnyH_take (i := 24) (oi := { dst := some 73, op := Op.indexAddr 53 (Operand.tmp 71) (Operand.tmp 72), type := 0, pos := "law.go:194", after := #[{ on := 22, ground := Ground.data }, { on := 23, ground := Ground.data }, { on := 21, ground := Ground.guard }], guard := some (21, false) }) (v := undef) rfl (by kernel_rfl) (by kernel_rfl) (by kernel_rfl) (fun _ _ _ h => h) (Or.inr ⟨by rfl, rfl⟩) (by assumption) ?_
                try simp only [Act.put, List.setIfInBounds_toArray, List.set_cons_zero, List.set_cons_succ]
                refine wpAnyH_take (i := 25) (oi := { dst := some 74, op := Op.fieldAddr 72 (Operand.tmp 73) 1, type := 0, pos := "law.go:194", after := #[{ on := 24, ground := Ground.data }, { on := 21, ground := Ground.guard }], guard := some (21, false) }) (v := undef) rfl (by kernel_rfl) (by kernel_rfl) (by kernel_rfl) (fun _ _ _ h => h) (Or.inr ⟨by rfl, rfl⟩) (by assumption) ?_
                try simp only [Act.put, List.setIfInBounds_toArray, List.set_cons_zero, List.set_cons_succ]
                refine wpAnyH_take (i := 26) (oi := { dst := some 75, op := Op.load 4 (Operand.tmp 74), type := 4, pos := "law.go:194", after := #[{ on := 25, ground := Ground.data }, { on := 21, ground := Ground.guard }], guard := some (21, false) }) (v := undef) rfl (by kernel_rfl) (by kernel_rfl) (by kernel_rfl) (fun _ _ _ h => h) (Or.inr ⟨by rfl, rfl⟩) (by assumption) ?_
                try simp only [Act.put, List.setIfInBounds_toArray, List.set_cons_zero, List.set_cons_succ]
                refine wpAnyH_take (i := 27) (oi := { dst := some 76, op := Op.pick (Operand.tmp 70) (Operand.const (Value.bool true)) (Operand.tmp 75), type := 4, pos := "law.go:194", after := #[{ on := 21, ground := Ground.data }, { on := 26, ground := Ground.data }, { on := 13, ground := Ground.guard }], guard := some (13, false) }) (v := ?_) rfl (by kernel_rfl) (by kernel_rfl) (by kernel_rfl) (fun _ _ _ h => h) (Or.inl ⟨by rfl, ?_⟩) (by assumption) ?_
                rotate_left 1
                · intro w hSw; (try dsimp only at hSw); go_simp; try with_reducible rfl
                try simp only [Act.put, List.setIfInBounds_toArray, List.set_cons_zero, List.set_cons_succ]
                refine wpAnyH_take (i := 28) (oi := { dst := some 77, op := Op.binOp BinOp.neq 4 (Operand.tmp 64) (Operand.tmp 76) 4, type := 4, pos := "law.go:194", after := #[{ on := 15, ground := Ground.data }, { on := 27, ground := Ground.data }, { on := 13, ground := Ground.guard }], guard := some (13, false) }) (v := ?_) rfl (by kernel_rfl) (by kernel_rfl) (by kernel_rfl) (fun _ _ _ h => h) (Or.inl ⟨by rfl, ?_⟩) (by assumption) ?_
                rotate_left 1
                · intro w hSw; (try dsimp only at hSw); go_simp; try with_reducible rfl
                try simp only [Act.put, List.setIfInBounds_toArray, List.set_cons_zero, List.set_cons_succ]
                refine wpAnyH_take (i := 29) (oi := { dst := some 78, op := Op.pick (Operand.tmp 62) (Operand.const (Value.bool true)) (Operand.tmp 77), type := 4, pos := "law.go:194", after := #[{ on := 13, ground := Ground.data }, { on := 28, ground := Ground.data }], guard := none }) (v := ?_) rfl (by kernel_rfl) (by kernel_rfl) (by kernel_rfl) (fun _ _ _ h => h) (Or.inl ⟨by rfl, ?_⟩) (by assumption) ?_
                rotate_left 1
                · intro w hSw; (try dsimp only at hSw); go_simp; try with_reducible rfl
                try simp only [Act.put, List.setIfInBounds_toArray, List.set_cons_zero, List.set_cons_succ]
                refine wpAnyH_done (by kernel_rfl) ?_ _
                have hlast := hHeld2
                clear hHeld2
                all_goals
                  have HBF := Lib.hid (bthen HBA.out (HGET.out _ hlast) (Nat.le_refl _))
                  have HB5F := Lib.hid (HGET.out _ hlast)
                  have HYF := Lib.hid (HY7.out.on HBF.out)
                  have l0 := (HZL.out.on HB5F.out).cs 0 _ rfl
                  have y0 := HYF.out.cs 0 _ rfl
                  have yl := HYF.out.lt
                  have yf := HYF.out.s 0
                  have HNN := Lib.hid (show ¬ (U7 b1 ∨ wr.heap.size ≤ b1) from fun h => h.elim HNV7.out (fun h => by have := HY7.out.lt; omega))
                  have HPUT := Lib.hid (LnBox.putN HL8.out HYF.out (HV9.out.on HB5F.out) HNN.out)
                  have HXF := Lib.hid ((HX7.out.on HBF.out).aside (g := b1) (fun e => HBB1.out e.symm) 0 (.slice A8 q.length c8))
                  have HUF := Lib.hid ((HU7.out.on HBF.out).aside HNU6.out 0 (.slice A8 q.length c8))
                  have HAF := Lib.hid ((HA7.out.on HBF.out).aside HNA6.out 0 (.slice A8 q.length c8))
                  have HBFF := Lib.hid ((bthen HB7.out HBF.out (Nat.le_refl _)).setCell (p := ⟨b1, 0, none⟩) HGE.out (.slice A8 q.length c8))
                  clear hlast HON HGET HS0
                  clear z0 z1 z2 z3 z4 z5 z6 z7 z8 m0 m1 m2 m3 m4 m5 m6 m7 m8
                  have hq9 := HQ64.out
                  go_wp2_with fail
                  go_roundg (gk - 1)
                  case rel => exact ⟨kk + 1, by have := HK2.out; omega, by go_num, HXF.out, HUF.out, HAF.out, by rw [HLN2.out]; exact HPUT.out, HBFF.out⟩
                  case measure => have := HK2.out; omega
          · have hkq : kk = q.length := by have := HK2.out; omega
            subst hkq
            obtain ⟨z0, hz0⟩ : ∃ z0, it0 = z0 := ⟨_, rfl⟩
            rw [hz0] at HLE
            simp only [itV] at HLE
            have y0 := HY7.out.cs 0 _ rfl
            have yl := HY7.out.lt
            clear hy hz0
            go_wp2_with fail
            refine (HLE.out _ _ _ HV7.out).mono ?_
            rintro e w4 ⟨v8, Aq, cq, rfl, h8, ho, hb⟩
            obtain ⟨A8, c8, rfl, -⟩ := h8.form
            have HL8 := Lib.hid (show (Ln.lentTo (Ln.wake q) q.length).length = q.length by rw [Ln.lentTo_len, wake_len])
            rw [HL8.out]
            have HT := Lib.hid (two_allocs w4 (.cells #[.slice A8 q.length c8] 55) (.cells #[.int .u64 (z0.m.id : Int), .string (ofL z0.m.shop), .string (ofL z0.m.key), .slice Aq z0.m.head.length cq, .string (ofL z0.m.body), .int .u64 (z0.m.due : Int), .int .u8 (z0.m.hops : Int), .bool z0.lent, .bool z0.again] 72))
            have HBA := Lib.hid (bthen hb HT.out (Nat.le_refl _))
            clear h8 ho hb y0 yl
            go_upto_region 22 with fail
            generalize ((w4.alloc (.cells #[.slice A8 q.length c8] 55)).alloc (.cells #[.int .u64 (z0.m.id : Int), .string (ofL z0.m.shop), .string (ofL z0.m.key), .slice Aq z0.m.head.length cq, .string (ofL z0.m.body), .int .u64 (z0.m.due : Int), .int .u8 (z0.m.hops : Int), .bool z0.lent, .bool z0.again] 72)) = w5 at *
            have HX9 := Lib.hid (HX7.out.on HBA.out)
            have HU9 := Lib.hid (HU7.out.on HBA.out)
            have HY9 := Lib.hid (HY7.out.on HBA.out)
            have HV9 := Lib.hid (HV7.out.on HBA.out)
            have HB9 := Lib.hid (bthen HB7.out HBA.out (Nat.le_refl _))
            have x0 := HX9.out.cs 0 _ rfl
            have y0 := HY9.out.cs 0 _ rfl
            generalize w4.heap.size = g9 at *
            go_region_with (first
              | (go_at_call 30; refine (HLN.out _ _ HV9.out.drew.in).mono ?_; rintro e wa ⟨rfl, hb⟩; have HBa := Lib.hid (bthen HB9.out.drew hb (Nat.le_refl _)); have HXa := Lib.hid (HX9.out.drew.on hb); have HUa := Lib.hid (HU9.out.drew.on hb); have xa := HXa.out.cs 0 _ rfl; clear hb)
              | (go_at_call 29; refine (HSM.out _ _ _ HVd.out.in HWd.out.in).mono ?_; rintro e wz ⟨rfl, hb⟩; have HBz := Lib.hid (bthen HBd.out hb (Nat.le_refl _)); clear hb)
              | (go_at_call 34; refine (HWW.out _ _ _ HWc.out).mono ?_; rintro e wd ⟨vd, rfl, hv, hb⟩; have HBd := Lib.hid (bthen HBc.out hb (Nat.le_refl _)); have HVd := Lib.hid (HVc.out.on hb); have HWd := Lib.hid hv; clear hb hv)
              | (go_at_call 34; refine (HWK.out _ _ _ HUb.out).mono ?_; rintro e wc ⟨vc, rfl, hv, hb⟩; have HBc := Lib.hid (bthen HBb.out hb (Nat.le_refl _)); have HVc := Lib.hid (HVb.out.on hb); have HWc := Lib.hid hv; clear hb hv)
              | (go_at_call 34; refine (HWK.out _ _ _ HUa.out).mono ?_; rintro e wb ⟨vb, rfl, hv, hb⟩; have HBb := Lib.hid (bthen HBa.out hb (Nat.le_refl _)); have HXb := Lib.hid (HXa.out.on hb); have HUb := Lib.hid (HUa.out.on hb); have HVb := Lib.hid hv; have xb := HXb.out.cs 0 _ rfl; clear hb hv))
            all_goals
              go_wp2_with fail
              go_ret
              exact ⟨by first | rfl | go_simp, HBz.out⟩
  · go_wp2_with fail
    go_ret
    exact ⟨rfl, B2.out⟩
end Go.Proofs.YtgpnhccekpiijaaGreatDoor
end
