/-
  RISE: all of them, their heads their own: walked. A CELL carried on.
-/
import Derived.Test.YtjkaljokkpabfaaGreatDoorRr03
import Derived.Test.YtjkaljokkpabfaaGreatDoorRr22
import Derived.Test.YtjkaljokkpabfaaGreatDoorRr34

section
namespace Go.Proofs.YtjkaljokkpabfaaGreatDoor
open Go.ChangeShapes Go.WideShapes Go.ChangeAt Go.RowKit
def rsSet : List Value → Nat → List Value → List Value
  | xs, _, [] => xs
  | xs, j, v :: vs => rsSet (xs.set j v) (j + 1) vs
theorem BoxC.rsPut {w : World} {c : Nat} : ∀ (vs : List Value) (j : Nat) {xs : List Value} {W : World}, BoxC w c xs W → j + vs.length ≤ xs.length → BoxC w c (rsSet xs j vs) (putAll c j vs W)
  | [], _, _, _, h, _ => h
  | v :: vs, j, _, _, h, hl => BoxC.rsPut vs (j + 1) (h.put j v (by simp at hl; omega)) (by simp at hl ⊢; omega)
theorem rsSet_cons (x : Value) : ∀ (vs xs : List Value) (j : Nat), rsSet (x :: xs) (j + 1) vs = x :: rsSet xs j vs
  | [], _, _ => rfl
  | v :: vs, xs, j => by
    show rsSet ((x :: xs).set (j + 1) v) (j + 1 + 1) vs = x :: rsSet (xs.set j v) (j + 1) vs
    exact rsSet_cons x vs (xs.set j v) (j + 1)
theorem rsSet_zero : ∀ (vs xs : List Value), vs.length ≤ xs.length → rsSet xs 0 vs = vs ++ xs.drop vs.length
  | [], _, _ => rfl
  | v :: vs, x :: xs, h => by
    show rsSet (v :: xs) (0 + 1) vs = _
    rw [rsSet_cons, rsSet_zero vs xs (by simpa using h)]
    rfl
theorem rsSet_app (vs : List Value) (b : List Value) (j : Nat) : ∀ a : List Value, rsSet (a ++ b) (a.length + j) vs = a ++ rsSet b j vs
  | [] => by simp
  | x :: a => by
    show rsSet (x :: (a ++ b)) (a.length + 1 + j) vs = _
    rw [show a.length + 1 + j = a.length + j + 1 by omega, rsSet_cons, rsSet_app vs b j a]
    rfl
theorem rsSet_mcs (p : Mp) : ∀ {m : List Mp} {k : Nat}, k < m.length → rsSet (mcs m) (k * 7) (mpL p) = mcs (m.set k p)
  | q :: m, 0, _ => by
    show rsSet (mpL q ++ mcs m) 0 (mpL p) = mpL p ++ mcs m
    rw [rsSet_zero _ _ (by simp [mpL, maL])]
    rfl
  | q :: m, k + 1, h => by
    show rsSet (mpL q ++ mcs m) ((k + 1) * 7) (mpL p) = mpL q ++ mcs (m.set k p)
    rw [show (k + 1) * 7 = (mpL q).length + k * 7 by show (k + 1) * 7 = 7 + k * 7; omega, rsSet_app, rsSet_mcs p (m := m) (k := k) (by simpa using h)]
theorem BoxC.of_mails {w w0 : World} {B e g c n : Nat} {xs : List Value} (h : w.ownsRow B e 7 (.slice (some ⟨g, 0, none⟩) n c) n xs) (hB : w0.heap.size ≤ B) : BoxC w0 g xs w := by
  have hl := h.1
  rcases h.2 with ⟨e, _⟩ | ⟨g', cap, cur, e, hb, hh, h1, h2, h3, h4⟩
  · exact absurd (Value.slice.inj e).1 (by simp)
  · obtain ⟨e1, -, rfl⟩ := Value.slice.inj e
    obtain ⟨rfl⟩ : g = g' := by simpa using e1
    refine ⟨fun j x hj => ?_, fun j => Lib.frozen_of_heap hh j, (Array.getElem?_eq_some_iff.1 hh).1, Nat.le_trans hB hb⟩
    have hj' : j < n * 7 := by
      have := (List.getElem?_eq_some_iff.1 hj).1
      rwa [hl] at this
    rw [World.ownsRow.cellAt h j hj']
    exact hj
theorem rs_own_some {w : World} {B e size n c : Nat} {A : Option Addr} {xs : List Value} (h : w.ownsRow B e size (.slice A n c) n xs) (hn : 0 < n) : ∃ R, A = some ⟨R, 0, none⟩ ∧ B ≤ R ∧ R < w.heap.size ∧ n ≤ c := by
  obtain ⟨A2, c2, e2, hc, hb, hx⟩ := Rw.own_cells h
  obtain ⟨rfl, -, rfl⟩ := Value.slice.inj e2
  obtain ⟨R, rfl, hR, -⟩ := hx hn
  exact ⟨R, rfl, (h.lt R rfl).1, hR, hc⟩
theorem MaOk.asideR {w : World} {x : Ml} {A : Option Addr} {c g : Nat} (h : MaOk w x A c) (hg : x.head ≠ [] → ∀ a, A = some a → g ≠ a.block) (j : Nat) (v : Value) : MaOk (w.setCell ⟨g, j, none⟩ v) x A c := by
  refine ⟨h.shop, h.key, h.body, h.len, h.cap, h.lite, ?_⟩
  by_cases e : x.head = []
  · rw [e]; exact Prs.nil _ _
  · exact h.row.aside (hg e) j v
theorem MaOk.putAllR {x : Ml} {A : Option Addr} {c g : Nat} (hg : x.head ≠ [] → ∀ a, A = some a → g ≠ a.block) : ∀ (vs : List Value) (j : Nat) {w : World}, MaOk w x A c → MaOk (Go.Proofs.YtjkaljokkpabfaaGreatDoor.putAll g j vs w) x A c
  | [], _, _, h => h
  | v :: vs, j, _, h => MaOk.putAllR hg vs (j + 1) (h.asideR hg j v)
theorem rs_prs_in {w : World} {A : Option Addr} {l : List Hd.Pr} (h : Prs w A l) (hl : l ≠ []) {a : Addr} (ha : A = some a) : a.block < w.heap.size := by
  obtain ⟨b, off, e, hlt, -⟩ := h.at_ 0 (List.length_pos_iff.2 hl)
  rw [ha] at e
  obtain rfl := Option.some.inj e
  exact hlt
def RsAllPost (l : List Ml) (w : World) (e : Ending) (w' : World) : Prop := ∃ A c ps, e = .returned (.slice A l.length c) ∧ ps.map Mp.x = l ∧ l.length ≤ c ∧ (A = none → c = 0) ∧ MasU (fun g => w.heap.size ≤ g) w' A ps ∧ Below w.heap.size w w'
def RaSt (w : World) (l : List Ml) (R g : Nat) (i : Value) (wr : World) : Prop :=
  ∃ (k : Nat) (m : List Mp), k + g = l.length ∧ i = .int .i64 (k : Int) ∧ m.map Mp.x = l ∧ BoxC w R (mcs m) wr ∧ (∀ p ∈ m, MaOk wr p.x p.A p.c) ∧ (∀ p ∈ m, p.x.head ≠ [] → ∀ a, p.A = some a → a.block ≠ R) ∧ (∀ j (hj : j < m.length), j < k → ∀ a, m[j].A = some a → w.heap.size ≤ a.block) ∧ Below w.heap.size w wr
theorem mp_len {m : List Mp} {l : List Ml} (h : m.map Mp.x = l) : m.length = l.length := by rw [← h]; simp
theorem mcs_atE {m : List Mp} {i j : Nat} (h : i < m.length) (hj : j < 7) : (mcs m)[i * 7 + j]? = (mpL m[i])[j]? := Rw.flat_get mpL 7 (fun _ => rfl) (by decide) m i j h hj
set_option maxRecDepth 100000 in
set_option maxHeartbeats 4000000 in
theorem rsAll_any (T c : Nat) (A : Option Addr) (m0 : List Mp) (w : World) (hl : m0.length ≤ 100000) (h : Mas w A m0) : Calls Tryz.prog 43 #[.agg #[.int .u64 (T : Int), .slice A m0.length c]] w (RsAllPost (m0.map Mp.x) w) := by
  have hb0 : Below w.heap.size w (w.alloc (.cells #[.int .u64 (T : Int), .slice A m0.length c] 35)) := (Below.refl _ _).alloc (Nat.le_refl _) _
  have HB0 := Lib.hid hb0
  have HC := Lib.hid (cloneMa_any m0.length (mcs m0) A c _ hl (Rws.on h.row hb0) (mcs_len m0) (mcs_one m0))
  have HI0 := Lib.hid h
  have HSZ := Lib.hid (show (w.alloc (.cells #[.int .u64 (T : Int), .slice A m0.length c] 35)).heap.size = w.heap.size + 1 by simp)
  unfold ClMa at HC
  rw [HSZ.out] at HC
  obtain ⟨l, hl0⟩ : ∃ l, m0.map Mp.x = l := ⟨_, rfl⟩
  have hml := mp_len hl0
  rw [hl0, hml]
  rw [hml] at HC HSZ HB0 hl
  have HM := Lib.hid hl0
  clear h hb0 hl0 hml
  go_enter Tryz.func43, Tryz.ntmps43
  go_wp2_with fail
  generalize w.alloc (.cells #[.int .u64 (T : Int), .slice A l.length c] 35) = w1 at *
  refine HC.out.mono ?_
  rintro e w3 ⟨A', c', rfl, ho, hb⟩
  rw [← HSZ.out] at hb
  have HB3 := Lib.hid (bthen HB0.out hb (Nat.le_refl _))
  have HI3 := Lib.hid ((HI0.out.on HB0.out).on hb)
  have HO := Lib.hid ho
  clear hb ho
  by_cases h0 : l.length = 0
  · have hl0 : l = [] := List.eq_nil_of_length_eq_zero h0
    subst hl0
    have HQ := Lib.hid (Rws.of_own HO.out)
    go_wp2_with fail
    go_loopg [11] 0 (fun g i wr => i = .int .i64 0 ∧ w3 = wr)
    case atStart => exact ⟨rfl, rfl⟩
    obtain ⟨rfl, rfl⟩ := hrel
    go_wp2_with fail
    go_ret
    obtain ⟨A2, c2, e2, hc2, hn2, -, hb2⟩ := HQ.out
    obtain ⟨rfl, -, rfl⟩ := Value.slice.inj e2
    exact ⟨A', c', [], rfl, rfl, Nat.zero_le _, hn2, ⟨Mas.nil _ _, fun a ha => by have := (hb2 a ha).1; omega, fun p hp => by simp at hp⟩, HB3.out⟩
  · obtain ⟨R, rfl, hR1, hR2, hR3⟩ := rs_own_some HO.out (by omega)
    have HX := Lib.hid (show BoxC w R (mcs m0) w3 from BoxC.of_mails HO.out (by omega))
    have HRR := Lib.hid hR1
    have HRC := Lib.hid hR3
    clear HO hR1 hR2 hR3 h0
    go_wp2_with fail
    go_loopg [11] l.length (fun g i wr => RaSt w l R g i wr)
    case atStart => exact ⟨0, m0, by omega, rfl, HM.out, HX.out, HI3.out.hd, fun p hp hh a ha => by have := rs_prs_in (HI0.out.hd p hp).row hh ha; have := HRR.out; omega, fun j hj h => absurd h (by omega), HB3.out⟩
    case round =>
      obtain ⟨k, m, hk, rfl, hmx, hbx, hok, hne, hold, hbl⟩ := hrel
      have HK := Lib.hid hk
      have HMQ := Lib.hid hmx
      have HBX := Lib.hid hbx
      have HOK := Lib.hid hok
      have HNE := Lib.hid hne
      have HOLD := Lib.hid hold
      have HBL := Lib.hid hbl
      clear hk hmx hbx hok hne hold hbl
      by_cases hlt : k < l.length
      · have hkm : k < m.length := by rw [mp_len HMQ.out]; exact hlt
        have hat : ∀ j v, (mpL m[k])[j]? = some v → wr.cell? ⟨R, k * 7 + j, none⟩ = some v := fun j v hv => by
          have hj : j < 7 := (List.getElem?_eq_some_iff.1 hv).1
          exact HBX.out.cs _ _ ((mcs_atE hkm hj).trans hv)
        have hgo := HOK.out m[k] (List.getElem_mem hkm)
        have HST := Lib.hid (fun p : Mp => rsSet_mcs p (m := m) (k := k) hkm)
        have HXX := Lib.hid (fun (p : Mp) (hp : p.x = m[k].x) => show (m.set k p).map Mp.x = l from by
          rw [← HMQ.out, List.map_set, hp]
          apply List.ext_getElem
          · simp
          · intro i h1 h2
            rw [List.getElem_set]
            split
            · rename_i e; subst e; simp
            · rfl)
        have HLN := Lib.hid (show k * 7 + 7 ≤ (mcs m).length from by rw [mcs_len]; omega)
        generalize m[k] = p at *
        obtain ⟨x, Ax, cx⟩ := p
        dsimp only at hgo HXX
        have HOW := Lib.hid (fun W hp => maCopy_any x Ax cx W hgo.len hgo.cap hp)
        have HGO := Lib.hid hgo
        unfold MaCopyPost at HOW
        simp only [maV] at HOW
        have c0 := hat 0 _ rfl
        have c1 := hat 1 _ rfl
        have c2 := hat 2 _ rfl
        have c3 := hat 3 _ rfl
        have c4 := hat 4 _ rfl
        have c5 := hat 5 _ rfl
        have c6 := hat 6 _ rfl
        rw [Nat.add_zero] at c0
        dsimp only at c0 c1 c2 c3 c4 c5 c6
        clear hat hgo
        have HA := Lib.hid (show Below wr.heap.size wr (wr.alloc (.cells #[.int .u64 (x.id : Int), .string (ofL x.shop), .string (ofL x.key), .slice Ax x.head.length cx, .string (ofL x.body), .int .u64 (x.due : Int), .int .u8 (x.hops : Int)] 25)) from (Below.refl _ _).alloc (Nat.le_refl _) _)
        have HB4 := Lib.hid (HBL.out.alloc HBL.out.size (.cells #[.int .u64 (x.id : Int), .string (ofL x.shop), .string (ofL x.key), .slice Ax x.head.length cx, .string (ofL x.body), .int .u64 (x.due : Int), .int .u8 (x.hops : Int)] 25))
        have HX4 := Lib.hid (HBX.out.on HA.out)
        go_wp2_with fail
        refine (HOW.out _ ((HGO.out.row).on HA.out)).mono ?_
        rintro e w5 ⟨Aq, cq, rfl, ho, b5⟩
        have HB5 := Lib.hid (bthen HB4.out b5 (Nat.le_refl _))
        have HX5 := Lib.hid (HX4.out.on b5)
        have HOR := Lib.hid ho.row
        have HD5 := Lib.hid (bthen HA.out b5 (Nat.le_refl _))
        have HSR := Lib.hid (show wr.heap.size + 1 = (wr.alloc (.cells #[.int .u64 (x.id : Int), .string (ofL x.shop), .string (ofL x.key), .slice Ax x.head.length cx, .string (ofL x.body), .int .u64 (x.due : Int), .int .u8 (x.hops : Int)] 25)).heap.size by simp)
        clear b5 ho c0 c1 c2 c3 c4 c5 c6
        have hce : ∀ j, j < 7 → ∃ u, w5.cell? ⟨R, k * 7 + j, none⟩ = some u := fun j hj => by
          have h1 : k * 7 + j < (mcs m).length := by have := HLN.out; omega
          exact ⟨_, HX5.out.cs _ _ (List.getElem?_eq_getElem h1)⟩
        obtain ⟨u0, e0⟩ := hce 0 (by omega)
        obtain ⟨u1, e1⟩ := hce 1 (by omega)
        obtain ⟨u2, e2⟩ := hce 2 (by omega)
        obtain ⟨u3, e3⟩ := hce 3 (by omega)
        obtain ⟨u4, e4⟩ := hce 4 (by omega)
        obtain ⟨u5, e5⟩ := hce 5 (by omega)
        obtain ⟨u6, e6⟩ := hce 6 (by omega)
        rw [Nat.add_zero] at e0
        have hfz : ∀ j, w5.frozen? ⟨R, j, none⟩ = false := HX5.out.s
        have hl5 := HX5.out.lt
        clear hce
        go_wp2_with fail
        have hRlt := HBX.out.lt
        have hnew : ∀ a, Aq = some a → R ≠ a.block ∧ w.heap.size ≤ a.block := fun a ha => by
          have := (HOR.out.2.2 a ha).1
          have := HSR.out
          have := HBL.out.size
          omega
        have hX6 := BoxC.rsPut [.int .u64 (x.id : Int), .string (ofL x.shop), .string (ofL x.key), .slice Aq x.head.length cq, .string (ofL x.body), .int .u64 (x.due : Int), .int .u8 (x.hops : Int)] (k * 7) HX5.out (by show k * 7 + 7 ≤ _; exact HLN.out)
        have hB6 := below_putAll (w := w) (g := R) (by have := HRR.out; omega) [.int .u64 (x.id : Int), .string (ofL x.shop), .string (ofL x.key), .slice Aq x.head.length cq, .string (ofL x.body), .int .u64 (x.due : Int), .int .u8 (x.hops : Int)] (k * 7) HB5.out
        rw [show rsSet (mcs m) (k * 7) [.int .u64 (x.id : Int), .string (ofL x.shop), .string (ofL x.key), .slice Aq x.head.length cq, .string (ofL x.body), .int .u64 (x.due : Int), .int .u8 (x.hops : Int)] = mcs (m.set k ⟨x, Aq, cq⟩) from HST.out ⟨x, Aq, cq⟩] at hX6
        have hXX := HXX.out ⟨x, Aq, cq⟩ rfl
        have hOK6 : ∀ p ∈ m.set k ⟨x, Aq, cq⟩, MaOk (putAll R (k * 7) [.int .u64 (x.id : Int), .string (ofL x.shop), .string (ofL x.key), .slice Aq x.head.length cq, .string (ofL x.body), .int .u64 (x.due : Int), .int .u8 (x.hops : Int)] w5) p.x p.A p.c := fun p hp => by
          rcases List.mem_or_eq_of_mem_set hp with hp | rfl
          · have h1 := (HOK.out p hp).on HD5.out
            exact MaOk.putAllR (fun hh a ha e => HNE.out p hp hh a ha e.symm) _ _ h1
          · have h0 := HGO.out
            exact MaOk.putAllR (fun hh a ha => (hnew a ha).1) _ _ ⟨h0.shop, h0.key, h0.body, h0.len, HOR.out.2.1, h0.lite, HOR.out.1⟩
        have hNE6 : ∀ p ∈ m.set k ⟨x, Aq, cq⟩, p.x.head ≠ [] → ∀ a, p.A = some a → a.block ≠ R := fun p hp hh a ha => by
          rcases List.mem_or_eq_of_mem_set hp with hp | rfl
          · exact HNE.out p hp hh a ha
          · exact fun e => (hnew a ha).1 e.symm
        have hOL6 : ∀ j (hj : j < (m.set k ⟨x, Aq, cq⟩).length), j < k + 1 → ∀ a, (m.set k ⟨x, Aq, cq⟩)[j].A = some a → w.heap.size ≤ a.block := fun j hj hjk a ha => by
          rw [List.getElem_set] at ha
          by_cases e : k = j
          · rw [if_pos e] at ha; exact (hnew a ha).2
          · rw [if_neg e] at ha
            exact HOLD.out j (by simpa using hj) (by omega) a ha
        simp only [putAll, Nat.add_assoc, Nat.reduceAdd] at hX6 hB6 hOK6
        go_roundg (gk - 1)
        case rel => exact ⟨k + 1, m.set k ⟨x, Aq, cq⟩, by have := HK.out; omega, by go_num, hXX, hX6, hOK6, hNE6, hOL6, hB6⟩
        case measure => have := HK.out; omega
      · have hkn : k = l.length := by have := HK.out; omega
        go_wp2_with fail
        go_ret
        refine ⟨some ⟨R, 0, none⟩, c', m, rfl, HMQ.out, HRC.out, (fun h => by cases h), ⟨⟨Rws.of_news fun j u hu => ?_, HOK.out⟩, fun a ha => ?_, fun p hp a ha => ?_⟩, HBL.out⟩
        · rw [Nat.zero_add]; exact HBX.out.cs j u hu
        · obtain rfl := Option.some.inj ha
          have := HRR.out; show w.heap.size ≤ R; omega
        · obtain ⟨j, hj, rfl⟩ := List.getElem_of_mem hp
          exact HOLD.out j hj (by rw [mp_len HMQ.out] at hj; omega) a ha
end Go.Proofs.YtjkaljokkpabfaaGreatDoor
end
section
namespace Go.Proofs.YtjkaljokkpabfaaGreatDoor
open Go.ChangeShapes Go.WideShapes Go.ChangeAt Go.RowKit
theorem cell_on {a a' : World} (hb : Below a.heap.size a a') {p : Addr} {v : Value} (h : a.cell? p = some v) : a'.cell? p = some v := (hb.cell (World.block_lt_of_cell? a _ h)).trans h
theorem below_put {B b j : Nat} {w w' : World} {v : Value} (hge : B ≤ b) (h : Below B w w') : Below B w (w'.setCell ⟨b, j, none⟩ v) := h.setCell (p := ⟨b, j, none⟩) hge v
end Go.Proofs.YtjkaljokkpabfaaGreatDoor
end
