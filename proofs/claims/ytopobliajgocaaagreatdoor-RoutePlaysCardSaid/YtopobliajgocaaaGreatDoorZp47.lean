/-
  ALL BINDINGS OF A BOOK, their pairs their own: walked.
-/
import Derived.Test.YtopobliajgocaaaGreatDoorZp28

section
namespace Go.Proofs.YtopobliajgocaaaGreatDoor
open Go.ChangeShapes Go.WideShapes Go.ChangeAt Go.RowKit
theorem BdOk.putAll {x : Bd} {A : Option Addr} {c g : Nat} (hg : x.want ≠ [] → ∀ a, A = some a → g ≠ a.block) : ∀ (vs : List Value) (j : Nat) {w : World}, BdOk w x A c → BdOk (Go.Proofs.YtopobliajgocaaaGreatDoor.putAll g j vs w) x A c
  | [], _, _, h => h
  | v :: vs, j, _, h => BdOk.putAll hg vs (j + 1) (h.put (fun hh a ha => Ne.symm (hg hh a ha)) j v)
theorem rt_prs_in {w : World} {A : Option Addr} {l : List Hd.Pr} (h : Prs w A l) (hl : l ≠ []) {a : Addr} (ha : A = some a) : a.block < w.heap.size := by
  obtain ⟨b, off, e, hlt, -⟩ := h.at_ 0 (List.length_pos_iff.2 hl)
  rw [ha] at e
  obtain rfl := Option.some.inj e
  exact hlt
def BndPost (l : List Bd) (w : World) (e : Ending) (w' : World) : Prop := ∃ A c ps, e = .returned (.slice A l.length c) ∧ ps.map Bp.x = l ∧ l.length ≤ c ∧ (A = none → c = 0) ∧ Bds w' A ps ∧ BkU (fun g => w.heap.size ≤ g) w' none A ps ∧ Below w.heap.size w w'
def RbSt (w : World) (l : List Bd) (R g : Nat) (i : Value) (wr : World) : Prop :=
  ∃ (k : Nat) (m : List Bp), k + g = l.length ∧ i = .int .i64 (k : Int) ∧ m.map Bp.x = l ∧ BoxC w R (bps m) wr ∧ (∀ p ∈ m, BdOk wr p.x p.A p.c) ∧ (∀ p ∈ m, p.x.want ≠ [] → ∀ a, p.A = some a → a.block ≠ R) ∧ (∀ j (hj : j < m.length), j < k → ∀ a, m[j].A = some a → w.heap.size ≤ a.block) ∧ Below w.heap.size w wr
theorem bps_atE {m : List Bp} {i j : Nat} (h : i < m.length) (hj : j < 6) : (bps m)[i * 6 + j]? = (bpL m[i])[j]? := Rw.flat_get bpL 6 (fun _ => rfl) (by decide) m i j h hj
set_option maxRecDepth 100000 in
set_option maxHeartbeats 4000000 in
theorem rtBinds_any (b : Bk) (A : Option Addr) (c : Nat) (B : Option Addr) (d : Nat) (m0 : List Bp) (w : World) (hl : b.binds.length ≤ 100000) (hI : BkAt w A c B d b m0) : Calls Tryz.prog 35 #[bkV A c B d b] w (BndPost b.binds w) := by
  have h := hI.bds
  have hl0 := hI.xs
  unfold bkV
  generalize b.binds = l at *
  have hml := bx_len hl0
  have hb0 := rtOne w (.cells #[.slice A b.shops.length c, .slice B l.length d] 28)
  have HB0 := Lib.hid hb0
  have HC := Lib.hid (cloneBd_any m0.length (bps m0) B d _ (by omega) (Rws.on h.row hb0) (bps_len m0) (bps_one m0))
  have HI0 := Lib.hid h
  have HSZ := Lib.hid (show (w.alloc (.cells #[.slice A b.shops.length c, .slice B l.length d] 28)).heap.size = w.heap.size + 1 by simp)
  unfold ClBd at HC
  rw [HSZ.out, hml] at HC
  have HM := Lib.hid hl0
  clear hI
  clear h hb0 hl0 hml
  go_enter Tryz.func35, Tryz.ntmps35
  go_wp2_with fail
  generalize w.alloc (.cells #[.slice A b.shops.length c, .slice B l.length d] 28) = w1 at *
  refine HC.out.mono ?_
  rintro e w3 ⟨A', c', rfl, ho, hb⟩
  rw [← HSZ.out] at hb
  have HB3 := Lib.hid (bthen HB0.out hb (Nat.le_refl _))
  have HI3 := Lib.hid ((HI0.out.on HB0.out).on hb)
  have HO := Lib.hid ho
  clear hb ho
  by_cases h0 : l.length = 0
  · have hl0 : l = [] := List.eq_nil_of_length_eq_zero h0
    subst hl0
    have HQ := Lib.hid (Rws.of_own HO.out)
    go_wp2_with fail
    go_loopg [11] 0 (fun g i wr => i = .int .i64 0 ∧ w3 = wr)
    case atStart => exact ⟨rfl, rfl⟩
    obtain ⟨rfl, rfl⟩ := hrel
    go_wp2_with fail
    go_ret
    obtain ⟨A2, c2, e2, hc2, hn2, -, hb2⟩ := HQ.out
    obtain ⟨rfl, -, rfl⟩ := Value.slice.inj e2
    exact ⟨A', c', [], rfl, rfl, Nat.zero_le _, hn2, Bds.nil _ _, ⟨(fun a h => by cases h), fun a ha => ⟨by have := (hb2 a ha).1; omega, (hb2 a ha).2⟩, fun p hp => by simp at hp⟩, HB3.out⟩
  · obtain ⟨R, rfl, hR1, hR2, hR3⟩ := rtOwnSome HO.out (by omega)
    have HX := Lib.hid (show BoxC w R (bps m0) w3 from BoxC.rtOwn HO.out (by omega))
    have HRR := Lib.hid hR1
    have HRC := Lib.hid hR3
    clear HO hR1 hR2 hR3 h0
    go_wp2_with fail
    go_loopg [11] l.length (fun g i wr => RbSt w l R g i wr)
    case atStart => exact ⟨0, m0, by omega, rfl, HM.out, HX.out, HI3.out.ok, fun p hp hh a ha => by have := rt_prs_in (HI0.out.ok p hp).row hh ha; have := HRR.out; omega, fun j hj h => absurd h (by omega), HB3.out⟩
    case round =>
      obtain ⟨k, m, hk, rfl, hmx, hbx, hok, hne, hold, hbl⟩ := hrel
      have HK := Lib.hid hk
      have HMQ := Lib.hid hmx
      have HBX := Lib.hid hbx
      have HOK := Lib.hid hok
      have HNE := Lib.hid hne
      have HOLD := Lib.hid hold
      have HBL := Lib.hid hbl
      clear hk hmx hbx hok hne hold hbl
      by_cases hlt : k < l.length
      · have hkm : k < m.length := by rw [bx_len HMQ.out]; exact hlt
        have hat : ∀ j v, (bpL m[k])[j]? = some v → wr.cell? ⟨R, k * 6 + j, none⟩ = some v := fun j v hv => by
          have hj : j < 6 := (List.getElem?_eq_some_iff.1 hv).1
          exact HBX.out.cs _ _ ((bps_atE hkm hj).trans hv)
        have hgo := HOK.out m[k] (List.getElem_mem hkm)
        have HST := Lib.hid (fun p : Bp => rtSet_flat bpL 6 (fun _ => rfl) p (m := m) (k := k) hkm)
        have HXX := Lib.hid (fun (p : Bp) (hp : p.x = m[k].x) => show (m.set k p).map Bp.x = l from by
          rw [← HMQ.out, List.map_set, hp]
          apply List.ext_getElem
          · simp
          · intro i h1 h2
            rw [List.getElem_set]
            split
            · rename_i e; subst e; simp
            · rfl)
        have HLN := Lib.hid (show k * 6 + 6 ≤ (bps m).length from by rw [bps_len]; omega)
        generalize m[k] = p at *
        obtain ⟨x, Ax, cx⟩ := p
        dsimp only at hgo HXX
        unfold bpL bdL at hat
        have HOW := Lib.hid (fun W hp => bdOwn_any x Ax cx W hgo.len hgo.cap hp)
        have HGO := Lib.hid hgo
        unfold BdOwnPost at HOW
        simp only [bdV] at HOW
        have c0 := hat 0 _ rfl
        have c1 := hat 1 _ rfl
        have c2 := hat 2 _ rfl
        have c3 := hat 3 _ rfl
        have c4 := hat 4 _ rfl
        have c5 := hat 5 _ rfl
        rw [Nat.add_zero] at c0
        dsimp only at c0 c1 c2 c3 c4 c5
        clear hat hgo
        have HA := Lib.hid (show Below wr.heap.size wr (wr.alloc (.cells #[.string (ofL x.shop), .string (ofL x.to), .bool x.up, .string (ofL x.key), .slice Ax x.want.length cx, .bool x.all] 37)) from (Below.refl _ _).alloc (Nat.le_refl _) _)
        have HB4 := Lib.hid (HBL.out.alloc HBL.out.size (.cells #[.string (ofL x.shop), .string (ofL x.to), .bool x.up, .string (ofL x.key), .slice Ax x.want.length cx, .bool x.all] 37))
        have HX4 := Lib.hid (HBX.out.on HA.out)
        go_wp2_with fail
        refine (HOW.out _ ((HGO.out.row).on HA.out)).mono ?_
        rintro e w5 ⟨Aq, cq, rfl, ho, b5⟩
        have HB5 := Lib.hid (bthen HB4.out b5 (Nat.le_refl _))
        have HX5 := Lib.hid (HX4.out.on b5)
        have HOR := Lib.hid ho.row
        have HD5 := Lib.hid (bthen HA.out b5 (Nat.le_refl _))
        have HSR := Lib.hid (show wr.heap.size + 1 = (wr.alloc (.cells #[.string (ofL x.shop), .string (ofL x.to), .bool x.up, .string (ofL x.key), .slice Ax x.want.length cx, .bool x.all] 37)).heap.size by simp)
        clear b5 ho c0 c1 c2 c3 c4 c5
        have hce : ∀ j, j < 6 → ∃ u, w5.cell? ⟨R, k * 6 + j, none⟩ = some u := fun j hj => by
          have h1 : k * 6 + j < (bps m).length := by have := HLN.out; omega
          exact ⟨_, HX5.out.cs _ _ (List.getElem?_eq_getElem h1)⟩
        obtain ⟨u0, e0⟩ := hce 0 (by omega)
        obtain ⟨u1, e1⟩ := hce 1 (by omega)
        obtain ⟨u2, e2⟩ := hce 2 (by omega)
        obtain ⟨u3, e3⟩ := hce 3 (by omega)
        obtain ⟨u4, e4⟩ := hce 4 (by omega)
        obtain ⟨u5, e5⟩ := hce 5 (by omega)
        rw [Nat.add_zero] at e0
        have hfz : ∀ j, w5.frozen? ⟨R, j, none⟩ = false := HX5.out.s
        have hl5 := HX5.out.lt
        clear hce
        go_wp2_with fail
        have hRlt := HBX.out.lt
        have hnew : ∀ a, Aq = some a → R ≠ a.block ∧ w.heap.size ≤ a.block := fun a ha => by
          have := (HOR.out.2.2 a ha).1
          have := HSR.out
          have := HBL.out.size
          omega
        have hX6 := BoxC.rtPut [.string (ofL x.shop), .string (ofL x.to), .bool x.up, .string (ofL x.key), .slice Aq x.want.length cq, .bool x.all] (k * 6) HX5.out (by show k * 6 + 6 ≤ _; exact HLN.out)
        have hB6 := below_putAll (w := w) (g := R) (by have := HRR.out; omega) [.string (ofL x.shop), .string (ofL x.to), .bool x.up, .string (ofL x.key), .slice Aq x.want.length cq, .bool x.all] (k * 6) HB5.out
        rw [show rtSet (bps m) (k * 6) [.string (ofL x.shop), .string (ofL x.to), .bool x.up, .string (ofL x.key), .slice Aq x.want.length cq, .bool x.all] = bps (m.set k ⟨x, Aq, cq⟩) from HST.out ⟨x, Aq, cq⟩] at hX6
        have hXX := HXX.out ⟨x, Aq, cq⟩ rfl
        have hOK6 : ∀ p ∈ m.set k ⟨x, Aq, cq⟩, BdOk (putAll R (k * 6) [.string (ofL x.shop), .string (ofL x.to), .bool x.up, .string (ofL x.key), .slice Aq x.want.length cq, .bool x.all] w5) p.x p.A p.c := fun p hp => by
          rcases List.mem_or_eq_of_mem_set hp with hp | rfl
          · have h1 := (HOK.out p hp).on HD5.out
            exact BdOk.putAll (fun hh a ha e => HNE.out p hp hh a ha e.symm) _ _ h1
          · have h0 := HGO.out
            exact BdOk.putAll (fun hh a ha => (hnew a ha).1) _ _ ⟨h0.shop, h0.tol, h0.key, h0.len, HOR.out.2.1, h0.lite, HOR.out.1⟩
        have hNE6 : ∀ p ∈ m.set k ⟨x, Aq, cq⟩, p.x.want ≠ [] → ∀ a, p.A = some a → a.block ≠ R := fun p hp hh a ha => by
          rcases List.mem_or_eq_of_mem_set hp with hp | rfl
          · exact HNE.out p hp hh a ha
          · exact fun e => (hnew a ha).1 e.symm
        have hOL6 : ∀ j (hj : j < (m.set k ⟨x, Aq, cq⟩).length), j < k + 1 → ∀ a, (m.set k ⟨x, Aq, cq⟩)[j].A = some a → w.heap.size ≤ a.block := fun j hj hjk a ha => by
          rw [List.getElem_set] at ha
          by_cases e : k = j
          · rw [if_pos e] at ha; exact (hnew a ha).2
          · rw [if_neg e] at ha
            exact HOLD.out j (by simpa using hj) (by omega) a ha
        simp only [putAll, Nat.add_assoc, Nat.reduceAdd] at hX6 hB6 hOK6
        go_roundg (gk - 1)
        case rel => exact ⟨k + 1, m.set k ⟨x, Aq, cq⟩, by have := HK.out; omega, by go_num, hXX, hX6, hOK6, hNE6, hOL6, hB6⟩
        case measure => have := HK.out; omega
      · have hkn : k = l.length := by have := HK.out; omega
        go_wp2_with fail
        go_ret
        refine ⟨some ⟨R, 0, none⟩, c', m, rfl, HMQ.out, HRC.out, (fun h => by cases h), ⟨Rws.of_news fun j u hu => ?_, HOK.out⟩, ⟨(fun a h => by cases h), fun a ha => ?_, fun p hp hh a ha => ?_⟩, HBL.out⟩
        · rw [Nat.zero_add]; exact HBX.out.cs j u hu
        · obtain rfl := Option.some.inj ha
          exact ⟨by have := HRR.out; show w.heap.size ≤ R; omega, HBX.out.lt⟩
        · refine ⟨?_, rt_prs_in (HOK.out p hp).row hh ha⟩
          obtain ⟨j, hj, rfl⟩ := List.getElem_of_mem hp
          exact HOLD.out j hj (by rw [bx_len HMQ.out] at hj; omega) a ha
end Go.Proofs.YtopobliajgocaaaGreatDoor
end
