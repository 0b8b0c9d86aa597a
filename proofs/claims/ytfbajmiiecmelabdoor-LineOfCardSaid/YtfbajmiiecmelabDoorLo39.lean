/-
  ONE MORE MESSAGE; ALL OF THEM: walked.
-/
import Derived.Test.YtfbajmiiecmelabDoorLo38

section
namespace Go.Proofs.YtfbajmiiecmelabDoor
open Go.ChangeShapes Go.WideShapes Go.ChangeAt Go.RowKit
set_option maxHeartbeats 2000000 in
theorem lnAdd_any (x : Ml) (Ax : Option Addr) (cx : Nat) (v : Value) (l : List It) (w : World) (U : Nat → Prop) (hl : l.length ≤ 10000) (h : LnU U w v l) (hg : MaGo w x Ax cx) (hL : Len w) : Calls Tryd.prog 12 #[v, maV x Ax cx] w (LnCode U (Ln.add l ⟨x, false, false⟩) (Ln.acode l ⟨x, false, false⟩) w) := by
  have hc := h.cut
  obtain ⟨A, c, rfl, hlc⟩ := h.form
  have hb0 := three_allocs w (.cells #[.slice A l.length c] 34) (.cells #[.int .u64 (x.id : Int), .string (ofL x.shop), .string (ofL x.key), .slice Ax x.head.length cx, .string (ofL x.body), .int .u64 (x.due : Int), .int .u8 (x.hops : Int)] 28) (.cells #[.slice none 0 0] 34)
  have HR0 := Lib.hid (box_at2 w (.cells #[.slice A l.length c] 34) (.cells #[.int .u64 (x.id : Int), .string (ofL x.shop), .string (ofL x.key), .slice Ax x.head.length cx, .string (ofL x.body), .int .u64 (x.due : Int), .int .u8 (x.hops : Int)] 28) #[.slice none 0 0] 34)
  have HB0 := Lib.hid hb0
  have HC := Lib.hid (lnadd_any ⟨x, false, false⟩ Ax cx _ l _ _ hl (hc.on hb0) (hg.on hb0) (hL.on hb0))
  have HSZ := Lib.hid (show (((w.alloc (.cells #[.slice A l.length c] 34)).alloc (.cells #[.int .u64 (x.id : Int), .string (ofL x.shop), .string (ofL x.key), .slice Ax x.head.length cx, .string (ofL x.body), .int .u64 (x.due : Int), .int .u8 (x.hops : Int)] 28)).alloc (.cells #[.slice none 0 0] 34)).heap.size = w.heap.size + 3 by simp)
  simp only [itV] at HC
  simp only [maV]
  generalize Ln.add l ⟨x, false, false⟩ = l' at *
  generalize Ln.acode l ⟨x, false, false⟩ = cd at *
  clear hc hb0 h hg hL
  go_enter Tryd.func12, Tryd.ntmps12
  go_wp2_with fail
  generalize (((w.alloc (.cells #[.slice A l.length c] 34)).alloc (.cells #[.int .u64 (x.id : Int), .string (ofL x.shop), .string (ofL x.key), .slice Ax x.head.length cx, .string (ofL x.body), .int .u64 (x.due : Int), .int .u8 (x.hops : Int)] 28)).alloc (.cells #[.slice none 0 0] 34)) = w2 at *
  refine HC.out.mono ?_
  rintro e w3 ⟨v', rfl, h3, hb⟩
  obtain ⟨A', c', rfl, -⟩ := h3.form
  have HL3 := Lib.hid h3
  have HR3 := Lib.hid (HR0.out.on hb)
  have HB3 := Lib.hid (bthen HB0.out hb (Nat.le_refl _))
  clear hb h3
  have r0 := HR3.out.cs 0 _ rfl
  have rl := HR3.out.lt
  have rf := HR3.out.s 0
  go_wp2_with fail
  have hR4 := HR3.out.put 0 (.slice A' l'.length c') (by simp)
  have g0 := hR4.cs 0 _ rfl
  have hB4 := HB3.out.setCell (p := ⟨w.heap.size + 2, 0, none⟩) (by simp) (.slice A' l'.length c')
  have hL4 := HL3.out.aside (g := w.heap.size + 2) (by have := HSZ.out; omega) 0 (.slice A' l'.length c')
  exact bodyPost_ret (v := .tuple #[.agg #[.slice A' l'.length c'], .int .i64 (cd : Int)]) (by simp [results, Tryd.results12, go_sem, g0]) rfl ⟨_, rfl, hL4.mono (fun g hg => hg.elim (fun a => .inl a.1) (fun a => .inr (by have := HSZ.out; omega))), hB4⟩
/-! ### all of them, their heads their own -/
def AllPost (l : List It) (w : World) (e : Ending) (w' : World) : Prop := ∃ A c, e = .returned (.slice A l.length c) ∧ LnU (fun g => w.heap.size ≤ g) w' (.agg #[.slice A l.length c]) l ∧ Below w.heap.size w w'
def AlSt (w : World) (l : List It) (R g : Nat) (i : Value) (wr : World) : Prop :=
  ∃ (k : Nat) (m : List ItP), k + g = l.length ∧ i = .int .i64 (k : Int) ∧ m.map (·.x) = l ∧ BoxC w R (its m) wr ∧ (∀ p ∈ m, MaGo wr p.x.m p.A p.c) ∧ (∀ p ∈ m, p.x.m.head ≠ [] → ∀ a, p.A = some a → a.block ≠ R) ∧ (∀ j (hj : j < m.length), j < k → ∀ a, m[j].A = some a → w.heap.size ≤ a.block) ∧ Below w.heap.size w wr
set_option maxRecDepth 100000 in
set_option maxHeartbeats 4000000 in
theorem lnAll_any (v : Value) (l : List It) (w : World) (hl : l.length ≤ 100000) (h : LnIn w v l) : Calls Tryd.prog 10 #[v] w (AllPost l w) := by
  obtain ⟨A, c, m0, rfl, hm, hlc, hI⟩ := h
  have hml := xs_len hm
  have hb0 := one_alloc w (.cells #[.slice A l.length c] 34)
  have HB0 := Lib.hid hb0
  have HC := Lib.hid (cloneIt_any m0 A c _ (by omega) (hI.on hb0))
  have HI0 := Lib.hid hI
  have HSZ := Lib.hid (show (w.alloc (.cells #[.slice A l.length c] 34)).heap.size = w.heap.size + 1 by simp)
  unfold ClIt at HC
  rw [hml, HSZ.out] at HC
  have HM := Lib.hid hm
  clear hI hb0 hm hml
  go_enter Tryd.func10, Tryd.ntmps10
  go_wp2_with fail
  generalize w.alloc (.cells #[.slice A l.length c] 34) = w1 at *
  refine HC.out.mono ?_
  rintro e w3 ⟨A', c', rfl, ho, hb⟩
  rw [← HSZ.out] at hb
  have HB3 := Lib.hid (bthen HB0.out hb (Nat.le_refl _))
  have HI3 := Lib.hid ((HI0.out.on HB0.out).on hb)
  have HO := Lib.hid ho
  clear hb ho
  by_cases h0 : l.length = 0
  · have hl0 : l = [] := List.eq_nil_of_length_eq_zero h0
    subst hl0
    go_wp2_with fail
    go_loopg [11] 0 (fun g i wr => i = .int .i64 0 ∧ w3 = wr)
    case atStart => exact ⟨rfl, rfl⟩
    obtain ⟨rfl, rfl⟩ := hrel
    go_wp2_with fail
    go_ret
    refine ⟨A', c', rfl, ⟨A', c', [], rfl, rfl, Nat.zero_le _, Its.nil _ _, fun g hg => ?_⟩, HB3.out⟩
    rcases hg with ⟨h, _⟩ | ⟨p, hp, _⟩
    · exact absurd rfl h
    · simp at hp
  · obtain ⟨R, rfl, hR1, hR2, hR3⟩ := ownRow_some HO.out (by omega)
    have HX := Lib.hid (show BoxC w R (its m0) w3 from BoxC.of_own HO.out (by omega))
    have HRR := Lib.hid hR1
    have HRC := Lib.hid hR3
    clear HO hR1 hR2 hR3 h0
    go_wp2_with fail
    go_loopg [11] l.length (fun g i wr => AlSt w l R g i wr)
    case atStart => exact ⟨0, m0, by omega, rfl, HM.out, HX.out, HI3.out.ok, fun p hp hh a ha => by have := prs_in (HI0.out.ok p hp).ok.row hh ha; have := HRR.out; omega, fun j hj h => absurd h (by omega), HB3.out⟩
    case round =>
      obtain ⟨k, m, hk, rfl, hmx, hbx, hok, hne, hold, hbl⟩ := hrel
      have HK := Lib.hid hk
      have HMQ := Lib.hid hmx
      have HBX := Lib.hid hbx
      have HOK := Lib.hid hok
      have HNE := Lib.hid hne
      have HOLD := Lib.hid hold
      have HBL := Lib.hid hbl
      clear hk hmx hbx hok hne hold hbl
      by_cases hlt : k < l.length
      · have hkm : k < m.length := by rw [xs_len HMQ.out]; exact hlt
        have hat : ∀ j v, (itL m[k].x m[k].A m[k].c)[j]? = some v → wr.cell? ⟨R, k * 9 + j, none⟩ = some v := fun j v hv => by
          have hj : j < 9 := (List.getElem?_eq_some_iff.1 hv).1
          exact HBX.out.cs _ _ ((its_at hkm hj).trans hv)
        have hgo := HOK.out m[k] (List.getElem_mem hkm)
        have HST := Lib.hid (fun p : ItP => setAll_its p (m := m) (k := k) hkm)
        have HXX := Lib.hid (fun (p : ItP) (hp : p.x = m[k].x) => show (m.set k p).map (·.x) = l from by
          rw [← HMQ.out, List.map_set, hp]
          apply List.ext_getElem
          · simp
          · intro i h1 h2
            rw [List.getElem_set]
            split
            · rename_i e; subst e; simp
            · rfl)
        have HLN := Lib.hid (show k * 9 + 9 ≤ (its m).length from by rw [its_len]; omega)
        generalize m[k] = p at *
        obtain ⟨x, Ax, cx⟩ := p
        dsimp only at hat hgo HXX
        have HOW := Lib.hid (fun W hp => itOwn_any x Ax cx W hgo.ok.len hgo.ok.cap hp)
        have HGO := Lib.hid hgo
        unfold ItOwnPost at HOW
        simp only [itV] at HOW
        have c0 := hat 0 _ rfl
        have c1 := hat 1 _ rfl
        have c2 := hat 2 _ rfl
        have c3 := hat 3 _ rfl
        have c4 := hat 4 _ rfl
        have c5 := hat 5 _ rfl
        have c6 := hat 6 _ rfl
        have c7 := hat 7 _ rfl
        have c8 := hat 8 _ rfl
        rw [Nat.add_zero] at c0
        clear hat hgo
        have HA := Lib.hid (one_alloc wr (.cells #[.int .u64 (x.m.id : Int), .string (ofL x.m.shop), .string (ofL x.m.key), .slice Ax x.m.head.length cx, .string (ofL x.m.body), .int .u64 (x.m.due : Int), .int .u8 (x.m.hops : Int), .bool x.lent, .bool x.again] 30))
        have HB4 := Lib.hid (HBL.out.alloc HBL.out.size (.cells #[.int .u64 (x.m.id : Int), .string (ofL x.m.shop), .string (ofL x.m.key), .slice Ax x.m.head.length cx, .string (ofL x.m.body), .int .u64 (x.m.due : Int), .int .u8 (x.m.hops : Int), .bool x.lent, .bool x.again] 30))
        have HX4 := Lib.hid (HBX.out.on HA.out)
        go_wp2_with fail
        refine (HOW.out _ ((HGO.out.ok.row).on HA.out)).mono ?_
        rintro e w5 ⟨Aq, cq, rfl, ho, b5⟩
        have HB5 := Lib.hid (bthen HB4.out b5 (Nat.le_refl _))
        have HX5 := Lib.hid (HX4.out.on b5)
        have HOR := Lib.hid ho.row
        have HD5 := Lib.hid (bthen HA.out b5 (Nat.le_refl _))
        have HSR := Lib.hid (show wr.heap.size + 1 = (wr.alloc (.cells #[.int .u64 (x.m.id : Int), .string (ofL x.m.shop), .string (ofL x.m.key), .slice Ax x.m.head.length cx, .string (ofL x.m.body), .int .u64 (x.m.due : Int), .int .u8 (x.m.hops : Int), .bool x.lent, .bool x.again] 30)).heap.size by simp)
        clear b5 ho c0 c1 c2 c3 c4 c5 c6 c7 c8
        have hce : ∀ j, j < 9 → ∃ u, w5.cell? ⟨R, k * 9 + j, none⟩ = some u := fun j hj => by
          have h1 : k * 9 + j < (its m).length := by have := HLN.out; omega
          exact ⟨_, HX5.out.cs _ _ (List.getElem?_eq_getElem h1)⟩
        obtain ⟨u0, e0⟩ := hce 0 (by omega)
        obtain ⟨u1, e1⟩ := hce 1 (by omega)
        obtain ⟨u2, e2⟩ := hce 2 (by omega)
        obtain ⟨u3, e3⟩ := hce 3 (by omega)
        obtain ⟨u4, e4⟩ := hce 4 (by omega)
        obtain ⟨u5, e5⟩ := hce 5 (by omega)
        obtain ⟨u6, e6⟩ := hce 6 (by omega)
        obtain ⟨u7, e7⟩ := hce 7 (by omega)
        obtain ⟨u8, e8⟩ := hce 8 (by omega)
        rw [Nat.add_zero] at e0
        have hfz : ∀ j, w5.frozen? ⟨R, j, none⟩ = false := HX5.out.s
        have hl5 := HX5.out.lt
        clear hce
        go_wp2_with fail
        have hRlt := HBX.out.lt
        have hnew : ∀ a, Aq = some a → R ≠ a.block ∧ w.heap.size ≤ a.block := fun a ha => by
          have := (HOR.out.2.2 a ha).1
          have := HSR.out
          have := HBL.out.size
          omega
        have hX6 := BoxC.putSome [.int .u64 (x.m.id : Int), .string (ofL x.m.shop), .string (ofL x.m.key), .slice Aq x.m.head.length cq, .string (ofL x.m.body), .int .u64 (x.m.due : Int), .int .u8 (x.m.hops : Int), .bool x.lent, .bool x.again] (k * 9) HX5.out (by show k * 9 + 9 ≤ _; exact HLN.out)
        have hB6 := below_putAll (w := w) (g := R) (by have := HRR.out; omega) [.int .u64 (x.m.id : Int), .string (ofL x.m.shop), .string (ofL x.m.key), .slice Aq x.m.head.length cq, .string (ofL x.m.body), .int .u64 (x.m.due : Int), .int .u8 (x.m.hops : Int), .bool x.lent, .bool x.again] (k * 9) HB5.out
        rw [show setAll (its m) (k * 9) [.int .u64 (x.m.id : Int), .string (ofL x.m.shop), .string (ofL x.m.key), .slice Aq x.m.head.length cq, .string (ofL x.m.body), .int .u64 (x.m.due : Int), .int .u8 (x.m.hops : Int), .bool x.lent, .bool x.again] = its (m.set k ⟨x, Aq, cq⟩) from HST.out ⟨x, Aq, cq⟩] at hX6
        have hXX := HXX.out ⟨x, Aq, cq⟩ rfl
        have hOK6 : ∀ p ∈ m.set k ⟨x, Aq, cq⟩, MaGo (putAll R (k * 9) [.int .u64 (x.m.id : Int), .string (ofL x.m.shop), .string (ofL x.m.key), .slice Aq x.m.head.length cq, .string (ofL x.m.body), .int .u64 (x.m.due : Int), .int .u8 (x.m.hops : Int), .bool x.lent, .bool x.again] w5) p.x.m p.A p.c := fun p hp => by
          rcases List.mem_or_eq_of_mem_set hp with hp | rfl
          · have h1 := (HOK.out p hp).on HD5.out
            exact ⟨MaOk.putAll (fun hh a ha e => HNE.out p hp hh a ha e.symm) _ _ h1.ok, h1.fits⟩
          · have h0 := HGO.out.ok
            refine ⟨MaOk.putAll (fun hh a ha => (hnew a ha).1) _ _ ⟨h0.shop, h0.key, h0.body, h0.len, HOR.out.2.1, h0.lite, HOR.out.1⟩, HGO.out.fits⟩
        have hNE6 : ∀ p ∈ m.set k ⟨x, Aq, cq⟩, p.x.m.head ≠ [] → ∀ a, p.A = some a → a.block ≠ R := fun p hp hh a ha => by
          rcases List.mem_or_eq_of_mem_set hp with hp | rfl
          · exact HNE.out p hp hh a ha
          · exact fun e => (hnew a ha).1 e.symm
        have hOL6 : ∀ j (hj : j < (m.set k ⟨x, Aq, cq⟩).length), j < k + 1 → ∀ a, (m.set k ⟨x, Aq, cq⟩)[j].A = some a → w.heap.size ≤ a.block := fun j hj hjk a ha => by
          rw [List.getElem_set] at ha
          by_cases e : k = j
          · rw [if_pos e] at ha; exact (hnew a ha).2
          · rw [if_neg e] at ha
            exact HOLD.out j (by simpa using hj) (by omega) a ha
        simp only [putAll, Nat.add_assoc, Nat.reduceAdd] at hX6 hB6 hOK6
        go_roundg (gk - 1)
        case rel => exact ⟨k + 1, m.set k ⟨x, Aq, cq⟩, by have := HK.out; omega, by go_num, hXX, hX6, hOK6, hNE6, hOL6, hB6⟩
        case measure => have := HK.out; omega
      · have hkn : k = l.length := by have := HK.out; omega
        go_wp2_with fail
        go_ret
        refine ⟨some ⟨R, 0, none⟩, c', rfl, ⟨some ⟨R, 0, none⟩, c', m, rfl, HMQ.out, HRC.out, Its.of_box HBX.out HOK.out, fun g hg => ?_⟩, HBL.out⟩
        rcases hg with ⟨_, a, ha, rfl⟩ | ⟨p, hp, hh, a, ha, rfl⟩
        · obtain rfl := Option.some.inj ha
          have := HRR.out; show w.heap.size ≤ R; omega
        · obtain ⟨j, hj, rfl⟩ := List.getElem_of_mem hp
          exact HOLD.out j hj (by rw [xs_len HMQ.out] at hj; omega) a ha
end Go.Proofs.YtfbajmiiecmelabDoor
end
