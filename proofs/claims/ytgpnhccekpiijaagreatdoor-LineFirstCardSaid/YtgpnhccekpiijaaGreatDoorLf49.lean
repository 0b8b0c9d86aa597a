/-
  THE LAW LineFirst.
-/
import Derived.Test.YtgpnhccekpiijaaGreatDoorLf48

section
namespace Go.Proofs.YtgpnhccekpiijaaGreatDoor
open Go.ChangeShapes Go.WideShapes Go.ChangeAt Go.RowKit
theorem any_take_false {q : List It} {p : It → Bool} {j : Nat} (h : (q.take j).any p = false) (hj : j ≤ q.length) : ∀ i, i < j → p (q.getD i it0) = false := by
  intro i hi
  rw [List.any_eq_false] at h
  have h1 := h (q.getD i it0) (by
    rw [Ln.getD_lt (by omega)]
    rw [List.mem_iff_getElem]
    exact ⟨i, by rw [List.length_take]; omega, by rw [List.getElem_take]⟩)
  simpa using h1
theorem tell_at {q : List It} {p : It → Bool} {j : Nat} (hj : j < q.length) (h0 : (q.take j).any p = false) (h1 : p (q.getD j it0) = true) : tellM q (idx p q) = (q.getD j it0).m := by
  have : idx p q = j := idx_some it0 hj (any_take_false h0 (by omega)) h1
  unfold tellM
  rw [this, if_neg (by omega), Int.toNat_natCast]
theorem any_one {q : List It} {p : It → Bool} {j : Nat} (hj : j < q.length) (h1 : p (q.getD j it0) = true) : q.any p = true := by
  rw [List.any_eq_true]
  exact ⟨_, by rw [Ln.getD_lt hj]; exact List.getElem_mem hj, h1⟩
theorem first_at {q : List It} {j : Nat} (hj : j < q.length) (h0 : (q.take j).any Ln.rdy = false) (h1 : Ln.rdy (q.getD j it0) = true) : tellM q (Ln.next q) = (q.getD j it0).m ∧ q.any Ln.rdy = true := ⟨tell_at hj h0 h1, any_one hj h1⟩
theorem late_at {q : List It} {t j : Nat} (hj : j < q.length) (h0 : (q.take j).any (Ln.late t) = false) (h1 : Ln.late t (q.getD j it0) = true) : tellM q (Ln.nextLate q t) = (q.getD j it0).m ∧ q.any (Ln.late t) = true := ⟨tell_at hj h0 h1, any_one hj h1⟩
theorem ready_any (q : List It) : decide (0 < Ln.ready q) = q.any Ln.rdy := by
  unfold Ln.ready
  by_cases h : 0 < q.countP Ln.rdy
  · rw [decide_eq_true h]
    obtain ⟨x, hx, hq⟩ := List.countP_pos_iff.1 h
    exact (List.any_eq_true.2 ⟨x, hx, hq⟩).symm
  · rw [decide_eq_false h]
    symm
    rw [List.any_eq_false]
    intro x hx hq
    exact h (List.countP_pos_iff.2 ⟨x, hx, hq⟩)
theorem ready_anyI (q : List It) : decide ((Ln.ready q : Int) > 0) = q.any Ln.rdy := by
  rw [← ready_any]
  by_cases h : 0 < Ln.ready q
  · rw [decide_eq_true h, decide_eq_true (by omega)]
  · rw [decide_eq_false h, decide_eq_false (by omega)]
theorem any_next {q : List It} (p : It → Bool) {k : Nat} (hk : k < q.length) : (q.take (k + 1)).any p = ((q.take k).any p || p (q.getD k it0)) := by
  rw [List.take_succ_eq_append_getElem hk, List.any_append, Ln.getD_lt hk]
  simp

def FiSt (w : World) (q : List It) (t n g : Nat) (s o i : Value) (wr : World) : Prop :=
  ∃ k : Nat, k + g = n ∧ s = .bool ((q.take k).any Ln.rdy) ∧ o = .bool ((q.take k).any (Ln.late t)) ∧ i = .int .i64 (k : Int) ∧ Below w.heap.size w wr
set_option maxRecDepth 100000 in
set_option maxHeartbeats 16000000 in
theorem lineFirst_walk (A0 : Option Addr) (ca : Nat) (l : List AcP) (t : Nat) (w : World) (hl : l.length ≤ 9223372036854775807) (hA : Acs w A0 l) (hL : Len w) : Calls Tryz.prog 7 #[.slice A0 l.length ca, .int .u64 (t : Int)] w fun e w' => e = .returned (.bool true) ∧ Below w.heap.size w w' := by
  have HAW := Lib.hid (fun W h => awake18_any W h)
  have HLI := Lib.hid (fun W h => light18_any A0 ca l W hl h)
  have HA := Lib.hid hA
  have HL := Lib.hid hL
  clear hA hL
  go_enter Tryz.func7, Tryz.ntmps7
  go_wp2_with fail
  refine (HAW.out _ HL.out).mono ?_
  rintro e w1 ⟨rfl, b1⟩
  have B1 := Lib.hid b1
  clear b1
  go_wp2_with fail
  refine (HLI.out _ (HA.out.on B1.out)).mono ?_
  rintro e w2 ⟨h2, b2⟩
  have B2 := Lib.hid (bthen B1.out b2 (Nat.le_refl _))
  clear b2
  rcases h2 with ⟨rfl, hf⟩ | rfl
  · have HF := Lib.hid hf
    have h100 := hf.1
    clear hf
    go_upto_region 6 with fail
    have HBX := Lib.hid (show LnBox w w2.heap.size [] (w2.alloc (.cells #[.slice none 0 0] 55)) from LnBox.new (l := []) B2.out.size (LnU.nil (fun _ => False) w2))
    have HBB := Lib.hid (B2.out.alloc B2.out.size (.cells #[.slice none 0 0] 55))
    generalize w2.alloc (.cells #[.slice none 0 0] 55) = w3 at *
    generalize w2.heap.size = b at *
    go_wp2_with fail
    go_loopg [23] l.length (fun g i wr => AcSt w b l.length g i wr)
    case atStart => exact ⟨0, [], by omega, rfl, FineS.nil, HBX.out, HBB.out⟩
    case round =>
      obtain ⟨k, q, hk, rfl, hfi, hbx, hbb⟩ := hrel
      have HK := Lib.hid hk
      have HFI := Lib.hid hfi
      have HQX := Lib.hid hbx
      have HQB := Lib.hid hbb
      clear hk hfi hbx hbb
      by_cases hlt : k < l.length
      · obtain ⟨ba, off, rfl, hbl, hat⟩ := (HA.out.on HQB.out).at_ k hlt
        have hin := (HA.out.on HQB.out).in_ l[k] (List.getElem_mem hlt)
        have hli := HF.out.2 l[k] (List.getElem_mem hlt)
        generalize l[k] = p at *
        obtain ⟨d, x, Ax, cx⟩ := p
        unfold acL maL at hat
        dsimp only at hat hin hli
        have c0 := hat 0 _ rfl
        have c1 := hat 1 _ rfl
        have c2 := hat 2 _ rfl
        have c3 := hat 3 _ rfl
        have c4 := hat 4 _ rfl
        have c5 := hat 5 _ rfl
        have c6 := hat 6 _ rfl
        have c7 := hat 7 _ rfl
        rw [Nat.add_zero] at c0
        have HGO := Lib.hid (show MaGo wr x Ax cx from ⟨ml_light_Ok hli hin.cap hin.row, hin.fits⟩)
        have HST := Lib.hid (HFI.out.step d hin.fits hli)
        have HA1 := Lib.hid (one_alloc wr (.cells #[.int .u8 (d : Int), .int .u64 (x.id : Int), .string (ofL x.shop), .string (ofL x.key), .slice Ax x.head.length cx, .string (ofL x.body), .int .u64 (x.due : Int), .int .u8 (x.hops : Int)] 61))
        have HB1 := Lib.hid (HQB.out.alloc HQB.out.size (.cells #[.int .u8 (d : Int), .int .u64 (x.id : Int), .string (ofL x.shop), .string (ofL x.key), .slice Ax x.head.length cx, .string (ofL x.body), .int .u64 (x.due : Int), .int .u8 (x.hops : Int)] 61))
        have HX1 := Lib.hid (HQX.out.on HA1.out)
        have HDO := Lib.hid (fun v W U h hg hL => done18_any d x Ax cx v q W U HFI.out h hg hL)
        unfold DoneN at HDO
        obtain ⟨A, c, U, hx, hu, hnu⟩ := HX1.out
        have HU := Lib.hid hu
        have HNU := Lib.hid hnu
        have HX := Lib.hid hx
        have hxl := hx.lt
        have x0 := hx.cs 0 _ rfl
        have hwl := World.block_lt_of_cell? _ _ (HQX.out.choose_spec.choose_spec.choose_spec.1.cs 0 _ rfl)
        simp only at hwl
        clear hat hin hli hx hu hnu
        generalize doL q d x = q2 at *
        go_wp2_with fail
        refine (HDO.out _ _ _ HU.out (HGO.out.on HA1.out) (HL.out.on HB1.out)).mono ?_
        rintro e w3 ⟨v', Ap, np, cp, bb, rfl, h3, hb⟩
        obtain ⟨A3, c3, rfl, -⟩ := h3.form
        have HX3 := Lib.hid (HX.out.on hb)
        have HQ3 := Lib.hid (((show LnBox w b q _ from ⟨A, c, U, HX.out, HU.out, HNU.out⟩).on hb).put h3 (fun h => h.elim HNU.out (fun h => by have := HX.out.lt; omega)))
        have HB3 := Lib.hid ((bthen HB1.out hb (Nat.le_refl _)).setCell (p := ⟨b, 0, none⟩) HX.out.ge (.slice A3 q2.length c3))
        clear hb h3 x0 hxl
        have x0 := HX3.out.cs 0 _ rfl
        have xl := HX3.out.lt
        have xf := HX3.out.s 0
        go_wp2_with fail
        go_roundg (gk - 1)
        case rel => exact ⟨k + 1, q2, by have := HK.out; omega, by go_num, HST.out, HQ3.out, HB3.out⟩
        case measure => have := HK.out; omega
      · have hlen : k = l.length := by have := HK.out; omega
        obtain ⟨A, c, U, hx, hu, hnu⟩ := HQX.out
        have HU := Lib.hid hu
        have HX := Lib.hid hx
        have hq64 : q.length ≤ 100000 := by have := HFI.out.fine.len; omega
        have HFS := Lib.hid (lnFirst_any (.agg #[.slice A q.length c]) q wr U hq64 hu)
        have HLT := Lib.hid (fun W h => lnLate_any t (.agg #[.slice A q.length c]) q W U hq64 h)
        have HAL := Lib.hid (fun W h => lnAll_any (.agg #[.slice A q.length c]) q W hq64 h)
        have HRD := Lib.hid (fun W h => lnReady_any (.agg #[.slice A q.length c]) q W hq64 h)
        have HOKV := Lib.hid (show decide (0 ≤ Ln.next q) = q.any Ln.rdy from idx_any Ln.rdy q)
        have HOKL := Lib.hid (show decide (0 ≤ Ln.nextLate q t) = q.any (Ln.late t) from idx_any (Ln.late t) q)
        have HM1 := Lib.hid (fun j (hj : j < q.length) (h0 : (q.take j).any Ln.rdy = false) (h1 : Ln.rdy (q.getD j it0) = true) => first_at hj h0 h1)
        have HM2 := Lib.hid (fun j (hj : j < q.length) (h0 : (q.take j).any (Ln.late t) = false) (h1 : Ln.late t (q.getD j it0) = true) => late_at hj h0 h1)
        have HRP := Lib.hid (ready_any q)
        unfold MaOut at HFS HLT
        rw [HOKV.out] at HFS
        rw [HOKL.out] at HLT
        generalize tellM q (Ln.next q) = m1 at *
        generalize tellM q (Ln.nextLate q t) = m2 at *
        simp only [maV] at HFS HLT
        have x0 := hx.cs 0 _ rfl
        have xl := hx.lt
        clear hx hu hnu hlen
        go_wp2_with fail
        refine HFS.out.mono ?_
        rintro e w4 ⟨Am, cm, rfl, ho, hb⟩
        have HX4 := Lib.hid (HX.out.on hb)
        have HU4 := Lib.hid (HU.out.on hb)
        have HB4 := Lib.hid (bthen HQB.out hb (Nat.le_refl _))
        have HP4 := Lib.hid ho.row.1
        have HT5 := Lib.hid (one_alloc w4 (.cells #[.int .u64 (m1.id : Int), .string (ofL m1.shop), .string (ofL m1.key), .slice Am m1.head.length cm, .string (ofL m1.body), .int .u64 (m1.due : Int), .int .u8 (m1.hops : Int)] 59))
        have HMB5 := Lib.hid (box_at0 w4 #[.int .u64 (m1.id : Int), .string (ofL m1.shop), .string (ofL m1.key), .slice Am m1.head.length cm, .string (ofL m1.body), .int .u64 (m1.due : Int), .int .u8 (m1.hops : Int)] 59)
        have HX5 := Lib.hid (HX4.out.on HT5.out)
        have HU5 := Lib.hid (HU4.out.on HT5.out)
        have HB5 := Lib.hid (bthen HB4.out HT5.out (Nat.le_refl _))
        have HP5 := Lib.hid (HP4.out.on HT5.out)
        clear hb ho x0 xl
        go_upto_region 12 with fail
        generalize w4.alloc (.cells #[.int .u64 (m1.id : Int), .string (ofL m1.shop), .string (ofL m1.key), .slice Am m1.head.length cm, .string (ofL m1.body), .int .u64 (m1.due : Int), .int .u8 (m1.hops : Int)] 59) = w5 at *
        generalize w4.heap.size = b1 at *
        have x0 := HX5.out.cs 0 _ rfl
        have xl := HX5.out.lt
        go_wp2_with fail
        refine (HLT.out _ HU5.out).mono ?_
        rintro e w6 ⟨An, cn, rfl, ho, hb⟩
        have HX6 := Lib.hid (HX5.out.on hb)
        have HU6 := Lib.hid (HU5.out.on hb)
        have HB6 := Lib.hid (bthen HB5.out hb (Nat.le_refl _))
        have HP6 := Lib.hid (HP5.out.on hb)
        have HMB6 := Lib.hid (HMB5.out.on hb)
        have HN6 := Lib.hid ho.row.1
        have HT7 := Lib.hid (one_alloc w6 (.cells #[.int .u64 (m2.id : Int), .string (ofL m2.shop), .string (ofL m2.key), .slice An m2.head.length cn, .string (ofL m2.body), .int .u64 (m2.due : Int), .int .u8 (m2.hops : Int)] 59))
        have HNB7 := Lib.hid (box_at0 w6 #[.int .u64 (m2.id : Int), .string (ofL m2.shop), .string (ofL m2.key), .slice An m2.head.length cn, .string (ofL m2.body), .int .u64 (m2.due : Int), .int .u8 (m2.hops : Int)] 59)
        have HX7 := Lib.hid (HX6.out.on HT7.out)
        have HU7 := Lib.hid (HU6.out.on HT7.out)
        have HB7 := Lib.hid (bthen HB6.out HT7.out (Nat.le_refl _))
        have HP7 := Lib.hid (HP6.out.on HT7.out)
        have HMB7 := Lib.hid (HMB6.out.on HT7.out)
        have HN7 := Lib.hid (HN6.out.on HT7.out)
        clear hb ho x0 xl
        go_upto_region 13 with fail
        generalize w6.alloc (.cells #[.int .u64 (m2.id : Int), .string (ofL m2.shop), .string (ofL m2.key), .slice An m2.head.length cn, .string (ofL m2.body), .int .u64 (m2.due : Int), .int .u8 (m2.hops : Int)] 59) = w7 at *
        generalize w6.heap.size = b2 at *
        have x0 := HX7.out.cs 0 _ rfl
        have xl := HX7.out.lt
        go_wp2_with fail
        refine (HAL.out _ HU7.out.in).mono ?_
        rintro e w8 ⟨Aa, ca2, rfl, ha, hb⟩
        have HX8 := Lib.hid (HX7.out.on hb)
        have HU8 := Lib.hid (HU7.out.on hb)
        have HB8 := Lib.hid (bthen HB7.out hb (Nat.le_refl _))
        have HP8 := Lib.hid (HP7.out.on hb)
        have HMB8 := Lib.hid (HMB7.out.on hb)
        have HN8 := Lib.hid (HN7.out.on hb)
        have HNB8 := Lib.hid (HNB7.out.on hb)
        have HA8 := Lib.hid ha
        clear hb ha x0 xl
        have HRQ := Lib.hid (ready_anyI q)
        generalize hokB : q.any Ln.rdy = okB at *
        generalize hokL : q.any (Ln.late t) = okL at *
        have HOK1 := Lib.hid hokB
        have HOK2 := Lib.hid hokL
        clear hokB hokL
        go_wp2_with fail
        go_loopg [12, 13, 49] q.length (fun g s o i wr => FiSt w8 q t q.length g s o i wr)
        case atStart => exact ⟨0, by omega, by simp, by simp, rfl, Below.refl _ _⟩
        case round =>
          obtain ⟨kk, hk2, rfl, rfl, rfl, hbw⟩ := hrel
          have HK2 := Lib.hid hk2
          have HBW := Lib.hid hbw
          clear hk2 hbw
          by_cases hlt2 : kk < q.length
          · obtain ⟨b', off', Ay, cy, rfl, hbl, hat, hgo⟩ := (HA8.out.on HBW.out).get hlt2
            have HS1 := Lib.hid (any_next Ln.rdy hlt2)
            have HS2 := Lib.hid (any_next (Ln.late t) hlt2)
            have h1 := HM1.out kk hlt2
            have h2 := HM2.out kk hlt2
            have HGY := Lib.hid hgo
            generalize q.getD kk it0 = yy at *
            obtain ⟨ym, lent, again⟩ := yy
            unfold itL at hat
            dsimp only at hat h1 h2
            have HGY' := Lib.hid (show MaGo wr ym Ay cy from HGY.out)
            have c0 := hat 0 _ rfl
            have c1 := hat 1 _ rfl
            have c2 := hat 2 _ rfl
            have c3 := hat 3 _ rfl
            have c4 := hat 4 _ rfl
            have c5 := hat 5 _ rfl
            have c6 := hat 6 _ rfl
            have c7 := hat 7 _ rfl
            have c8 := hat 8 _ rfl
            rw [Nat.add_zero] at c0
            have HT9 := Lib.hid (one_alloc wr (.cells #[.int .u64 (ym.id : Int), .string (ofL ym.shop), .string (ofL ym.key), .slice Ay ym.head.length cy, .string (ofL ym.body), .int .u64 (ym.due : Int), .int .u8 (ym.hops : Int), .bool lent, .bool again] 72))
            have HB9 := Lib.hid (bthen HBW.out HT9.out (Nat.le_refl _))
            have HP9 := Lib.hid (HP8.out.on HB9.out)
            have HN9 := Lib.hid (HN8.out.on HB9.out)
            have HM9 := Lib.hid (HMB8.out.on HB9.out)
            have HO9 := Lib.hid (HNB8.out.on HB9.out)
            have mm0 := HM9.out.cs 0 _ rfl
            have mm1 := HM9.out.cs 1 _ rfl
            have mm2 := HM9.out.cs 2 _ rfl
            have mm3 := HM9.out.cs 3 _ rfl
            have mm4 := HM9.out.cs 4 _ rfl
            have mm5 := HM9.out.cs 5 _ rfl
            have mm6 := HM9.out.cs 6 _ rfl
            have n0 := HO9.out.cs 0 _ rfl
            have n1 := HO9.out.cs 1 _ rfl
            have n2 := HO9.out.cs 2 _ rfl
            have n3 := HO9.out.cs 3 _ rfl
            have n4 := HO9.out.cs 4 _ rfl
            have n5 := HO9.out.cs 5 _ rfl
            have n6 := HO9.out.cs 6 _ rfl
            have m1l := HM9.out.lt
            have n1l := HO9.out.lt
            clear hat hgo HGY
            cases lent
            · have hrd : Ln.rdy ⟨ym, false, again⟩ = true := rfl
              rw [hrd, Bool.or_true] at HS1
              cases hs : (q.take kk).any Ln.rdy
              · by_cases hz : ym.due = 0
                · have hdue : ym.due = 0 := hz
                  have hld : Ln.late t ⟨ym, false, again⟩ = false := by simp [Ln.late, hdue]
                  rw [hld, Bool.or_false] at HS2
                  have q1 : decide ((ym.due : Int) > 0) = false := decide_eq_false (by omega)
                  have q2 : decide (0 < ym.due) = false := decide_eq_false (by omega)
                  clear hz hdue
                  have h1' := h1 hs hrd
                  have hm1 := h1'.1.symm
                  have hok := h1'.2
                  subst hok
                  subst hm1
                  have HSA := Lib.hid (fun W hA hB => r13Same_any ym ym Ay cy Am cm W HGY'.out.ok.len HGY'.out.ok.len hA hB)
                  rw [maEq_self] at HSA
                  simp only [maV] at HSA
                  go_wp2_with fail
                  refine (HSA.out _ (HGY'.out.ok.row.on HT9.out) HP9.out).mono ?_
                  rintro e wx ⟨rfl, hb⟩
                  have HBx := Lib.hid (bthen HB9.out hb (Nat.le_refl _))
                  have HYx := Lib.hid ((box_at0 wr #[.int .u64 (ym.id : Int), .string (ofL ym.shop), .string (ofL ym.key), .slice Ay ym.head.length cy, .string (ofL ym.body), .int .u64 (ym.due : Int), .int .u8 (ym.hops : Int), .bool false, .bool again] 72).on hb)
                  have HOx := Lib.hid (HO9.out.on hb)
                  have HRx := Lib.hid ((HGY'.out.ok.row.on HT9.out).on hb)
                  have HNx := Lib.hid (HN9.out.on hb)
                  clear hb m1l n1l mm0 n0 mm1 n1 mm2 n2 mm3 n3 mm4 n4 mm5 n5 mm6 n6
                  have s0 := HYx.out.cs 0 _ rfl
                  have s1 := HYx.out.cs 1 _ rfl
                  have s2 := HYx.out.cs 2 _ rfl
                  have s3 := HYx.out.cs 3 _ rfl
                  have s4 := HYx.out.cs 4 _ rfl
                  have s5 := HYx.out.cs 5 _ rfl
                  have s6 := HYx.out.cs 6 _ rfl
                  have s7 := HYx.out.cs 7 _ rfl
                  have s8 := HYx.out.cs 8 _ rfl
                  have sl := HYx.out.lt
                  have n0 := HOx.out.cs 0 _ rfl
                  have n1 := HOx.out.cs 1 _ rfl
                  have n2 := HOx.out.cs 2 _ rfl
                  have n3 := HOx.out.cs 3 _ rfl
                  have n4 := HOx.out.cs 4 _ rfl
                  have n5 := HOx.out.cs 5 _ rfl
                  have n6 := HOx.out.cs 6 _ rfl
                  have n1l := HOx.out.lt
                  go_wp2_with fail
                  go_roundg (gk - 1)
                  case rel => exact ⟨kk + 1, by have := HK2.out; omega, (congrArg Value.bool HS1.out).symm, (congrArg Value.bool HS2.out).symm, by go_num, HBx.out⟩
                  case measure => have := HK2.out; omega
                · by_cases hz2 : t < ym.due
                  · have hld : Ln.late t ⟨ym, false, again⟩ = false := by simp only [Ln.late]; rw [decide_eq_false (show ¬ ym.due ≤ t by omega)]; simp
                    rw [hld, Bool.or_false] at HS2
                    have q1 : decide ((ym.due : Int) > 0) = true := decide_eq_true (by omega)
                    have q2 : decide (0 < ym.due) = true := decide_eq_true (by omega)
                    have q5 : 0 < ym.due := by omega
                    have q3 : decide ((ym.due : Int) ≤ (t : Int)) = false := decide_eq_false (by omega)
                    have q4 : decide (ym.due ≤ t) = false := decide_eq_false (by omega)
                    have h1' := h1 hs hrd
                    have hm1 := h1'.1.symm
                    have hok := h1'.2
                    subst hok
                    subst hm1
                    have HSA := Lib.hid (fun W hA hB => r13Same_any ym ym Ay cy Am cm W HGY'.out.ok.len HGY'.out.ok.len hA hB)
                    rw [maEq_self] at HSA
                    simp only [maV] at HSA
                    go_wp2_with fail
                    refine (HSA.out _ (HGY'.out.ok.row.on HT9.out) HP9.out).mono ?_
                    rintro e wx ⟨rfl, hb⟩
                    have HBx := Lib.hid (bthen HB9.out hb (Nat.le_refl _))
                    have HYx := Lib.hid ((box_at0 wr #[.int .u64 (ym.id : Int), .string (ofL ym.shop), .string (ofL ym.key), .slice Ay ym.head.length cy, .string (ofL ym.body), .int .u64 (ym.due : Int), .int .u8 (ym.hops : Int), .bool false, .bool again] 72).on hb)
                    have HOx := Lib.hid (HO9.out.on hb)
                    have HRx := Lib.hid ((HGY'.out.ok.row.on HT9.out).on hb)
                    have HNx := Lib.hid (HN9.out.on hb)
                    clear hb m1l n1l mm0 n0 mm1 n1 mm2 n2 mm3 n3 mm4 n4 mm5 n5 mm6 n6
                    have s0 := HYx.out.cs 0 _ rfl
                    have s1 := HYx.out.cs 1 _ rfl
                    have s2 := HYx.out.cs 2 _ rfl
                    have s3 := HYx.out.cs 3 _ rfl
                    have s4 := HYx.out.cs 4 _ rfl
                    have s5 := HYx.out.cs 5 _ rfl
                    have s6 := HYx.out.cs 6 _ rfl
                    have s7 := HYx.out.cs 7 _ rfl
                    have s8 := HYx.out.cs 8 _ rfl
                    have sl := HYx.out.lt
                    have n0 := HOx.out.cs 0 _ rfl
                    have n1 := HOx.out.cs 1 _ rfl
                    have n2 := HOx.out.cs 2 _ rfl
                    have n3 := HOx.out.cs 3 _ rfl
                    have n4 := HOx.out.cs 4 _ rfl
                    have n5 := HOx.out.cs 5 _ rfl
                    have n6 := HOx.out.cs 6 _ rfl
                    have n1l := HOx.out.lt
                    go_wp2_with fail
                    go_roundg (gk - 1)
                    case rel => exact ⟨kk + 1, by have := HK2.out; omega, (congrArg Value.bool HS1.out).symm, (congrArg Value.bool HS2.out).symm, by go_num, HBx.out⟩
                    case measure => have := HK2.out; omega
                  · cases ho : (q.take kk).any (Ln.late t)
                    · have hld : Ln.late t ⟨ym, false, again⟩ = true := by simp only [Ln.late]; rw [decide_eq_true (show ym.due ≤ t by omega), show (ym.due != 0) = true by simp; omega]; simp
                      rw [hld, Bool.or_true] at HS2
                      have q1 : decide ((ym.due : Int) > 0) = true := decide_eq_true (by omega)
                      have q2 : decide (0 < ym.due) = true := decide_eq_true (by omega)
                      have q5 : 0 < ym.due := by omega
                      have q3 : decide ((ym.due : Int) ≤ (t : Int)) = true := decide_eq_true (by omega)
                      have q4 : decide (ym.due ≤ t) = true := decide_eq_true (by omega)
                      have h2' := h2 ho hld
                      have hm2 := h2'.1.symm
                      have hokl := h2'.2
                      subst hokl
                      have h1' := h1 hs hrd
                      have hm1 := h1'.1.symm
                      have hok := h1'.2
                      subst hok
                      subst hm1
                      have HSA := Lib.hid (fun W hA hB => r13Same_any ym ym Ay cy Am cm W HGY'.out.ok.len HGY'.out.ok.len hA hB)
                      rw [maEq_self] at HSA
                      simp only [maV] at HSA
                      subst hm2
                      have HSB := Lib.hid (fun W hA hB => r13Same_any ym ym Ay cy An cn W HGY'.out.ok.len HGY'.out.ok.len hA hB)
                      rw [maEq_self] at HSB
                      simp only [maV] at HSB
                      go_wp2_with fail
                      refine (HSA.out _ (HGY'.out.ok.row.on HT9.out) HP9.out).mono ?_
                      rintro e wx ⟨rfl, hb⟩
                      have HBx := Lib.hid (bthen HB9.out hb (Nat.le_refl _))
                      have HYx := Lib.hid ((box_at0 wr #[.int .u64 (ym.id : Int), .string (ofL ym.shop), .string (ofL ym.key), .slice Ay ym.head.length cy, .string (ofL ym.body), .int .u64 (ym.due : Int), .int .u8 (ym.hops : Int), .bool false, .bool again] 72).on hb)
                      have HOx := Lib.hid (HO9.out.on hb)
                      have HRx := Lib.hid ((HGY'.out.ok.row.on HT9.out).on hb)
                      have HNx := Lib.hid (HN9.out.on hb)
                      clear hb m1l n1l mm0 n0 mm1 n1 mm2 n2 mm3 n3 mm4 n4 mm5 n5 mm6 n6
                      have s0 := HYx.out.cs 0 _ rfl
                      have s1 := HYx.out.cs 1 _ rfl
                      have s2 := HYx.out.cs 2 _ rfl
                      have s3 := HYx.out.cs 3 _ rfl
                      have s4 := HYx.out.cs 4 _ rfl
                      have s5 := HYx.out.cs 5 _ rfl
                      have s6 := HYx.out.cs 6 _ rfl
                      have s7 := HYx.out.cs 7 _ rfl
                      have s8 := HYx.out.cs 8 _ rfl
                      have sl := HYx.out.lt
                      have n0 := HOx.out.cs 0 _ rfl
                      have n1 := HOx.out.cs 1 _ rfl
                      have n2 := HOx.out.cs 2 _ rfl
                      have n3 := HOx.out.cs 3 _ rfl
                      have n4 := HOx.out.cs 4 _ rfl
                      have n5 := HOx.out.cs 5 _ rfl
                      have n6 := HOx.out.cs 6 _ rfl
                      have n1l := HOx.out.lt
                      go_wp2_with fail
                      refine (HSB.out _ HRx.out HNx.out).mono ?_
                      rintro e wy ⟨rfl, hb⟩
                      have HBy := Lib.hid (bthen HBx.out hb (Nat.le_refl _))
                      clear hb
                      go_wp2_with fail
                      go_roundg (gk - 1)
                      case rel => exact ⟨kk + 1, by have := HK2.out; omega, (congrArg Value.bool HS1.out).symm, (congrArg Value.bool HS2.out).symm, by go_num, HBy.out⟩
                      case measure => have := HK2.out; omega
                    · have hld : Ln.late t ⟨ym, false, again⟩ = true := by simp only [Ln.late]; rw [decide_eq_true (show ym.due ≤ t by omega), show (ym.due != 0) = true by simp; omega]; simp
                      rw [hld, Bool.or_true] at HS2
                      have q1 : decide ((ym.due : Int) > 0) = true := decide_eq_true (by omega)
                      have q2 : decide (0 < ym.due) = true := decide_eq_true (by omega)
                      have q5 : 0 < ym.due := by omega
                      have q3 : decide ((ym.due : Int) ≤ (t : Int)) = true := decide_eq_true (by omega)
                      have q4 : decide (ym.due ≤ t) = true := decide_eq_true (by omega)
                      have h1' := h1 hs hrd
                      have hm1 := h1'.1.symm
                      have hok := h1'.2
                      subst hok
                      subst hm1
                      have HSA := Lib.hid (fun W hA hB => r13Same_any ym ym Ay cy Am cm W HGY'.out.ok.len HGY'.out.ok.len hA hB)
                      rw [maEq_self] at HSA
                      simp only [maV] at HSA
                      go_wp2_with fail
                      refine (HSA.out _ (HGY'.out.ok.row.on HT9.out) HP9.out).mono ?_
                      rintro e wx ⟨rfl, hb⟩
                      have HBx := Lib.hid (bthen HB9.out hb (Nat.le_refl _))
                      have HYx := Lib.hid ((box_at0 wr #[.int .u64 (ym.id : Int), .string (ofL ym.shop), .string (ofL ym.key), .slice Ay ym.head.length cy, .string (ofL ym.body), .int .u64 (ym.due : Int), .int .u8 (ym.hops : Int), .bool false, .bool again] 72).on hb)
                      have HOx := Lib.hid (HO9.out.on hb)
                      have HRx := Lib.hid ((HGY'.out.ok.row.on HT9.out).on hb)
                      have HNx := Lib.hid (HN9.out.on hb)
                      clear hb m1l n1l mm0 n0 mm1 n1 mm2 n2 mm3 n3 mm4 n4 mm5 n5 mm6 n6
                      have s0 := HYx.out.cs 0 _ rfl
                      have s1 := HYx.out.cs 1 _ rfl
                      have s2 := HYx.out.cs 2 _ rfl
                      have s3 := HYx.out.cs 3 _ rfl
                      have s4 := HYx.out.cs 4 _ rfl
                      have s5 := HYx.out.cs 5 _ rfl
                      have s6 := HYx.out.cs 6 _ rfl
                      have s7 := HYx.out.cs 7 _ rfl
                      have s8 := HYx.out.cs 8 _ rfl
                      have sl := HYx.out.lt
                      have n0 := HOx.out.cs 0 _ rfl
                      have n1 := HOx.out.cs 1 _ rfl
                      have n2 := HOx.out.cs 2 _ rfl
                      have n3 := HOx.out.cs 3 _ rfl
                      have n4 := HOx.out.cs 4 _ rfl
                      have n5 := HOx.out.cs 5 _ rfl
                      have n6 := HOx.out.cs 6 _ rfl
                      have n1l := HOx.out.lt
                      go_wp2_with fail
                      go_roundg (gk - 1)
                      case rel => exact ⟨kk + 1, by have := HK2.out; omega, (congrArg Value.bool HS1.out).symm, (congrArg Value.bool HS2.out).symm, by go_num, HBx.out⟩
                      case measure => have := HK2.out; omega
              · by_cases hz : ym.due = 0
                · have hdue : ym.due = 0 := hz
                  have hld : Ln.late t ⟨ym, false, again⟩ = false := by simp [Ln.late, hdue]
                  rw [hld, Bool.or_false] at HS2
                  have q1 : decide ((ym.due : Int) > 0) = false := decide_eq_false (by omega)
                  have q2 : decide (0 < ym.due) = false := decide_eq_false (by omega)
                  clear hz hdue
                  clear h1 h2
                  go_wp2_with fail
                  go_roundg (gk - 1)
                  case rel => exact ⟨kk + 1, by have := HK2.out; omega, (congrArg Value.bool HS1.out).symm, (congrArg Value.bool HS2.out).symm, by go_num, HB9.out⟩
                  case measure => have := HK2.out; omega
                · by_cases hz2 : t < ym.due
                  · have hld : Ln.late t ⟨ym, false, again⟩ = false := by simp only [Ln.late]; rw [decide_eq_false (show ¬ ym.due ≤ t by omega)]; simp
                    rw [hld, Bool.or_false] at HS2
                    have q1 : decide ((ym.due : Int) > 0) = true := decide_eq_true (by omega)
                    have q2 : decide (0 < ym.due) = true := decide_eq_true (by omega)
                    have q5 : 0 < ym.due := by omega
                    have q3 : decide ((ym.due : Int) ≤ (t : Int)) = false := decide_eq_false (by omega)
                    have q4 : decide (ym.due ≤ t) = false := decide_eq_false (by omega)
                    clear h1 h2
                    go_wp2_with fail
                    go_roundg (gk - 1)
                    case rel => exact ⟨kk + 1, by have := HK2.out; omega, (congrArg Value.bool HS1.out).symm, (congrArg Value.bool HS2.out).symm, by go_num, HB9.out⟩
                    case measure => have := HK2.out; omega
                  · cases ho : (q.take kk).any (Ln.late t)
                    · have hld : Ln.late t ⟨ym, false, again⟩ = true := by simp only [Ln.late]; rw [decide_eq_true (show ym.due ≤ t by omega), show (ym.due != 0) = true by simp; omega]; simp
                      rw [hld, Bool.or_true] at HS2
                      have q1 : decide ((ym.due : Int) > 0) = true := decide_eq_true (by omega)
                      have q2 : decide (0 < ym.due) = true := decide_eq_true (by omega)
                      have q5 : 0 < ym.due := by omega
                      have q3 : decide ((ym.due : Int) ≤ (t : Int)) = true := decide_eq_true (by omega)
                      have q4 : decide (ym.due ≤ t) = true := decide_eq_true (by omega)
                      have h2' := h2 ho hld
                      have hm2 := h2'.1.symm
                      have hokl := h2'.2
                      subst hokl
                      subst hm2
                      have HSB := Lib.hid (fun W hA hB => r13Same_any ym ym Ay cy An cn W HGY'.out.ok.len HGY'.out.ok.len hA hB)
                      rw [maEq_self] at HSB
                      simp only [maV] at HSB
                      go_wp2_with fail
                      refine (HSB.out _ (HGY'.out.ok.row.on HT9.out) HN9.out).mono ?_
                      rintro e wy ⟨rfl, hb⟩
                      have HBy := Lib.hid (bthen HB9.out hb (Nat.le_refl _))
                      clear hb
                      go_wp2_with fail
                      go_roundg (gk - 1)
                      case rel => exact ⟨kk + 1, by have := HK2.out; omega, (congrArg Value.bool HS1.out).symm, (congrArg Value.bool HS2.out).symm, by go_num, HBy.out⟩
                      case measure => have := HK2.out; omega
                    · have hld : Ln.late t ⟨ym, false, again⟩ = true := by simp only [Ln.late]; rw [decide_eq_true (show ym.due ≤ t by omega), show (ym.due != 0) = true by simp; omega]; simp
                      rw [hld, Bool.or_true] at HS2
                      have q1 : decide ((ym.due : Int) > 0) = true := decide_eq_true (by omega)
                      have q2 : decide (0 < ym.due) = true := decide_eq_true (by omega)
                      have q5 : 0 < ym.due := by omega
                      have q3 : decide ((ym.due : Int) ≤ (t : Int)) = true := decide_eq_true (by omega)
                      have q4 : decide (ym.due ≤ t) = true := decide_eq_true (by omega)
                      clear h1 h2
                      go_wp2_with fail
                      go_roundg (gk - 1)
                      case rel => exact ⟨kk + 1, by have := HK2.out; omega, (congrArg Value.bool HS1.out).symm, (congrArg Value.bool HS2.out).symm, by go_num, HB9.out⟩
                      case measure => have := HK2.out; omega
            · have hrd : Ln.rdy ⟨ym, true, again⟩ = false := rfl
              have hld : Ln.late t ⟨ym, true, again⟩ = false := rfl
              rw [hrd, Bool.or_false] at HS1
              rw [hld, Bool.or_false] at HS2
              go_wp2_with fail
              go_roundg (gk - 1)
              case rel => exact ⟨kk + 1, by have := HK2.out; omega, (congrArg Value.bool HS1.out).symm, (congrArg Value.bool HS2.out).symm, by go_num, HB9.out⟩
              case measure => have := HK2.out; omega
          · have e1 : q.take kk = q := List.take_of_length_le (by have := HK2.out; omega)
            rw [e1, HOK1.out, HOK2.out]
            have HX9 := Lib.hid (HX8.out.on HBW.out)
            have x0 := HX9.out.cs 0 _ rfl
            have xl := HX9.out.lt
            have HU9 := Lib.hid (HU8.out.on HBW.out)
            have HBF := Lib.hid (bthen HB8.out HBW.out (Nat.le_refl _))
            have hrp := HRP.out
            have hrp2 := HRQ.out
            clear e1
            generalize Ln.ready q = nr at *
            go_wp2_with fail
            refine (HRD.out _ HU9.out.in).mono ?_
            rintro e wz ⟨rfl, hb⟩
            have HBZ := Lib.hid (bthen HBF.out hb (Nat.le_refl _))
            clear hb
            go_wp2_with fail
            go_ret
            exact ⟨by simp, HBZ.out⟩
  · go_wp2_with fail
    go_ret
    exact ⟨rfl, B2.out⟩
end Go.Proofs.YtgpnhccekpiijaaGreatDoor
end
