/-
  A LINE TURNED, item by item: walked.
-/
import Derived.Test.YtfbajmiiecmelabDoorLo31

section
namespace Go.Proofs.YtfbajmiiecmelabDoor
open Go.ChangeShapes Go.WideShapes Go.ChangeAt Go.RowKit
theorem setAll_cons (x : Value) : ∀ (vs xs : List Value) (j : Nat), setAll (x :: xs) (j + 1) vs = x :: setAll xs j vs
  | [], _, _ => rfl
  | v :: vs, xs, j => by
    show setAll ((x :: xs).set (j + 1) v) (j + 1 + 1) vs = x :: setAll (xs.set j v) (j + 1) vs
    exact setAll_cons x vs (xs.set j v) (j + 1)
theorem setAll_zero : ∀ (vs xs : List Value), vs.length ≤ xs.length → setAll xs 0 vs = vs ++ xs.drop vs.length
  | [], _, _ => rfl
  | v :: vs, x :: xs, h => by
    show setAll (v :: xs) (0 + 1) vs = _
    rw [setAll_cons, setAll_zero vs xs (by simpa using h)]
    rfl
theorem setAll_app (vs : List Value) (b : List Value) (j : Nat) : ∀ a : List Value, setAll (a ++ b) (a.length + j) vs = a ++ setAll b j vs
  | [] => by simp
  | x :: a => by
    show setAll (x :: (a ++ b)) (a.length + 1 + j) vs = _
    rw [show a.length + 1 + j = a.length + j + 1 by omega, setAll_cons, setAll_app vs b j a]
    rfl
theorem setAll_its (p : ItP) : ∀ {m : List ItP} {k : Nat}, k < m.length → setAll (its m) (k * 9) (itL p.x p.A p.c) = its (m.set k p)
  | q :: m, 0, _ => by
    show setAll (itL q.x q.A q.c ++ its m) 0 (itL p.x p.A p.c) = itL p.x p.A p.c ++ its m
    rw [setAll_zero _ _ (by simp [itL])]
    rfl
  | q :: m, k + 1, h => by
    show setAll (itL q.x q.A q.c ++ its m) ((k + 1) * 9) (itL p.x p.A p.c) = itL q.x q.A q.c ++ its (m.set k p)
    rw [show (k + 1) * 9 = (itL q.x q.A q.c).length + k * 9 by show (k + 1) * 9 = 9 + k * 9; omega, setAll_app, setAll_its p (m := m) (k := k) (by simpa using h)]
/-- a row of one's own as a block's cells -/
theorem BoxC.of_own {w w0 : World} {B e g c n : Nat} {xs : List Value} (h : w.ownsRow B e 9 (.slice (some ⟨g, 0, none⟩) n c) n xs) (hB : w0.heap.size ≤ B) : BoxC w0 g xs w := by
  have hl := h.1
  rcases h.2 with ⟨e, _⟩ | ⟨g', cap, cur, e, hb, hh, h1, h2, h3, h4⟩
  · exact absurd (Value.slice.inj e).1 (by simp)
  · obtain ⟨e1, -, rfl⟩ := Value.slice.inj e
    obtain ⟨rfl⟩ : g = g' := by simpa using e1
    refine ⟨fun j x hj => ?_, fun j => Lib.frozen_of_heap hh j, (Array.getElem?_eq_some_iff.1 hh).1, Nat.le_trans hB hb⟩
    have hj' : j < n * 9 := by
      have := (List.getElem?_eq_some_iff.1 hj).1
      rwa [hl] at this
    rw [World.ownsRow.cellAt h j hj']
    exact hj
theorem Its.of_box {w W : World} {g : Nat} {m : List ItP} (h : BoxC w g (its m) W) (ho : ∀ p ∈ m, MaGo W p.x.m p.A p.c) : Its W (some ⟨g, 0, none⟩) m := ⟨fun i hi => ⟨g, 0, rfl, h.lt, fun j v hv => by
  have hj : j < 9 := (List.getElem?_eq_some_iff.1 hv).1
  rw [Nat.zero_add]
  exact h.cs _ _ ((its_at hi hj).trans hv)⟩, ho⟩
def qP (q : It → It) (p : ItP) : ItP := ⟨q p.x, p.A, p.c⟩
/-- of a row the first k are turned -/
def mix (q : It → It) (m : List ItP) (k : Nat) : List ItP := (m.take k).map (qP q) ++ m.drop k
theorem mix_len (q : It → It) (m : List ItP) (k : Nat) : (mix q m k).length = m.length := by
  simp only [mix, List.length_append, List.length_map, List.length_take, List.length_drop]; omega
theorem mix_at (q : It → It) {m : List ItP} {k : Nat} (hk : k < m.length) (h : k < (mix q m k).length) : (mix q m k)[k] = m[k] := by
  have : (mix q m k)[k]? = m[k]? := by
    unfold mix
    rw [List.getElem?_append_right (by simp; omega)]
    simp only [List.length_map, List.length_take, List.getElem?_drop]
    rw [show k + (k - min k m.length) = k by omega]
  rw [List.getElem?_eq_getElem h, List.getElem?_eq_getElem hk] at this
  exact Option.some.inj this
theorem mix_set (q : It → It) {m : List ItP} {k : Nat} (hk : k < m.length) : (mix q m k).set k (qP q m[k]) = mix q m (k + 1) := by
  unfold mix
  rw [List.set_append_right _ _ (by simp; omega), List.take_succ_eq_append_getElem hk, List.map_append, List.append_assoc]
  congr 1
  rw [show k - ((m.take k).map (qP q)).length = 0 by simp; omega, List.drop_eq_getElem_cons hk, List.set_cons_zero]
  rfl
/-- a closure that turns an item, and writes nothing that was there -/
def Turns (f : Nat) (c : Array Value) (q : It → It) (w : World) : Prop :=
  ∀ (W : World) (x : It) (A : Option Addr) (k : Nat), Below w.heap.size w W → Calls Tryd.prog f (#[itV x A k] ++ c) W fun e w' => e = .returned (itV (q x) A k) ∧ Below W.heap.size W w'
def TnSt (w : World) (q : It → It) (m : List ItP) (R g : Nat) (i : Value) (wr : World) : Prop :=
  ∃ k : Nat, k + g = m.length ∧ i = .int .i64 (k : Int) ∧ BoxC w R (its (mix q m k)) wr ∧ BoxC w (w.heap.size + 1) [.slice none 0 0] wr ∧ Below w.heap.size w wr
/-- the blocks that items lie in -/
def Uses (A : Option Addr) (m : List ItP) (g : Nat) : Prop := (m ≠ [] ∧ ∃ a, A = some a ∧ a.block = g) ∨ ∃ p ∈ m, p.x.m.head ≠ [] ∧ ∃ a, p.A = some a ∧ a.block = g
theorem prs_in {w : World} {A : Option Addr} {l : List Hd.Pr} (h : Prs w A l) (hl : l ≠ []) {a : Addr} (ha : A = some a) : a.block < w.heap.size := by
  obtain ⟨b, off, e, hlt, -⟩ := h.at_ 0 (List.length_pos_iff.2 hl)
  rw [ha] at e
  obtain rfl := Option.some.inj e
  exact hlt
theorem Its.uses {w : World} {A : Option Addr} {m : List ItP} (h : Its w A m) {g : Nat} (hu : Uses A m g) : g < w.heap.size := by
  rcases hu with ⟨hm, a, ha, rfl⟩ | ⟨p, hp, hh, a, ha, rfl⟩
  · obtain ⟨b, off, e, hlt, -⟩ := h.at_ 0 (List.length_pos_iff.2 hm)
    rw [ha] at e
    obtain rfl := Option.some.inj e
    exact hlt
  · exact prs_in (h.ok p hp).ok.row hh ha
theorem MaOk.aside {w : World} {x : Ml} {A : Option Addr} {c g : Nat} (h : MaOk w x A c) (hg : x.head ≠ [] → ∀ a, A = some a → g ≠ a.block) (j : Nat) (v : Value) : MaOk (w.setCell ⟨g, j, none⟩ v) x A c := by
  refine ⟨h.shop, h.key, h.body, h.len, h.cap, h.lite, ?_⟩
  by_cases e : x.head = []
  · rw [e]; exact Prs.nil _ _
  · exact h.row.aside (hg e) j v
theorem Its.aside {w : World} {A : Option Addr} {m : List ItP} {g : Nat} (h : Its w A m) (hg : ¬ Uses A m g) (j : Nat) (v : Value) : Its (w.setCell ⟨g, j, none⟩ v) A m := ⟨fun i hi => by
  obtain ⟨b, off, hA, hlt, hc⟩ := h.at_ i hi
  have hne : g ≠ b := fun e => hg (.inl ⟨fun e => by rw [e] at hi; simp at hi, _, hA, e.symm⟩)
  refine ⟨b, off, hA, by simpa [World.setCell] using hlt, fun j' v' hv => ?_⟩
  exact (World.cell?_setCell_other w ⟨g, j, none⟩ ⟨b, off + i * 9 + j', none⟩ _ (by simp only [ne_eq, Addr.mk.injEq, not_and]; omega)).trans (hc j' v' hv), fun p hp => ⟨(h.ok p hp).ok.aside (fun hh a ha e => hg (.inr ⟨p, hp, hh, a, ha, e.symm⟩)) j v, (h.ok p hp).fits⟩⟩
/-- a line's value, what it holds, and in which blocks at most -/
def LnU (U : Nat → Prop) (w : World) (v : Value) (l : List It) : Prop := ∃ A c m, v = .agg #[.slice A l.length c] ∧ m.map (·.x) = l ∧ l.length ≤ c ∧ Its w A m ∧ ∀ g, Uses A m g → U g
theorem LnU.in {U : Nat → Prop} {w : World} {v : Value} {l : List It} (h : LnU U w v l) : LnIn w v l := by
  obtain ⟨A, c, m, h1, h2, h3, h4, _⟩ := h
  exact ⟨A, c, m, h1, h2, h3, h4⟩
theorem LnU.on {U : Nat → Prop} {w w' : World} {v : Value} {l : List It} (h : LnU U w v l) (hb : Below w.heap.size w w') : LnU U w' v l := by
  obtain ⟨A, c, m, h1, h2, h3, h4, h5⟩ := h
  exact ⟨A, c, m, h1, h2, h3, h4.on hb, h5⟩
theorem LnU.mono {U V : Nat → Prop} {w : World} {v : Value} {l : List It} (h : LnU U w v l) (hUV : ∀ g, U g → V g) : LnU V w v l := by
  obtain ⟨A, c, m, h1, h2, h3, h4, h5⟩ := h
  exact ⟨A, c, m, h1, h2, h3, h4, fun g hg => hUV g (h5 g hg)⟩
theorem LnU.cut {U : Nat → Prop} {w : World} {v : Value} {l : List It} (h : LnU U w v l) : LnU (fun g => U g ∧ g < w.heap.size) w v l := by
  obtain ⟨A, c, m, h1, h2, h3, h4, h5⟩ := h
  exact ⟨A, c, m, h1, h2, h3, h4, fun g hg => ⟨h5 g hg, h4.uses hg⟩⟩
theorem LnU.aside {U : Nat → Prop} {w : World} {v : Value} {l : List It} {g : Nat} (h : LnU U w v l) (hg : ¬ U g) (j : Nat) (x : Value) : LnU U (w.setCell ⟨g, j, none⟩ x) v l := by
  obtain ⟨A, c, m, h1, h2, h3, h4, h5⟩ := h
  exact ⟨A, c, m, h1, h2, h3, h4.aside (fun hu => hg (h5 g hu)) j x, h5⟩
theorem LnU.nil (U : Nat → Prop) (w : World) : LnU U w (.agg #[.slice none 0 0]) [] := ⟨none, 0, [], rfl, rfl, Nat.le_refl _, Its.nil _ _, fun g hg => by
  rcases hg with ⟨h, _⟩ | ⟨p, hp, _⟩
  · exact absurd rfl h
  · simp at hp⟩
def LnPost (U : Nat → Prop) (l : List It) (w : World) (e : Ending) (w' : World) : Prop := ∃ v, e = .returned v ∧ LnU (fun g => U g ∨ w.heap.size ≤ g) w' v l ∧ Below w.heap.size w w'
/-- the function that wakes, where there is one -/
def lnWakeN : Nat :=
  28
set_option maxRecDepth 100000 in
set_option maxHeartbeats 4000000 in
theorem lnTurn_any (f : Nat) (cp : Array Value) (hf : f = lnWakeN ∧ cp = #[] ∨ (f = 28 ∨ f = 30) ∧ ∃ b, cp = #[.pointer (some ⟨b, 0, none⟩)]) (q : It → It) (hq : ∀ x, (q x).m = x.m) (v : Value) (l : List It) (w : World) (U : Nat → Prop) (hl : l.length ≤ 100000) (h : LnU U w v l) (ht : Turns f cp q w) :
    Calls Tryd.prog 27 #[v, .func (.func f) #[] cp] w (LnPost U (l.map q) w) := by
  obtain ⟨A, c, m, rfl, hm, hlc, hI, hU⟩ := h
  have HU := Lib.hid hU
  clear hU
  have hml := xs_len hm
  rw [← hml]
  rw [← hml] at hl hlc
  have hb0 : Below w.heap.size w ((w.alloc (.cells #[.slice A m.length c] 34)).alloc (.cells #[.slice none 0 0] 34)) := ((Below.refl _ _).alloc (Nat.le_refl _) _).alloc (by simp) _
  have HB0 := Lib.hid hb0
  have HR0 := Lib.hid (show BoxC w (w.heap.size + 1) [.slice none 0 0] ((w.alloc (.cells #[.slice A m.length c] 34)).alloc (.cells #[.slice none 0 0] 34)) from by
    have := BoxC.new (w := w) (W := w.alloc (.cells #[.slice A m.length c] 34)) (by simp) #[.slice none 0 0] 34
    simpa using this)
  have HC := Lib.hid (cloneIt_any m A c _ hl (hI.on hb0))
  have HI := Lib.hid hI
  have HT := Lib.hid ht
  have HM := Lib.hid hm
  have HQ := Lib.hid hq
  have hsz : ((w.alloc (.cells #[.slice A m.length c] 34)).alloc (.cells #[.slice none 0 0] 34)).heap.size = w.heap.size + 1 + 1 := by simp
  have HSZ := Lib.hid hsz
  unfold ClIt at HC
  rw [hsz] at HC
  clear hI ht hm hb0 hml hq hsz
  obtain ⟨n, hn⟩ : ∃ n, n = m.length := ⟨_, rfl⟩
  rw [← hn] at hl hlc HC HB0 HR0 ⊢
  rw [← hn] at HSZ
  have HN := Lib.hid hn
  clear hn
  unfold lnWakeN at hf
  rcases hf with ⟨rfl, rfl⟩ | ⟨rfl | rfl, b, rfl⟩
  all_goals
    go_enter Tryd.func27, Tryd.ntmps27
    go_wp2_with fail
    generalize ((w.alloc (.cells #[.slice A n c] 34)).alloc (.cells #[.slice none 0 0] 34)) = w2 at *
    refine HC.out.mono ?_
    rintro e w3 ⟨A', c', rfl, ho, hb⟩
    rw [← HSZ.out] at hb
    have HB3 := Lib.hid (bthen HB0.out hb (Nat.le_refl _))
    have HR3 := Lib.hid (HR0.out.on hb)
    have HO := Lib.hid ho
    clear hb ho
    rcases A' with _ | ⟨R, off, sp⟩
    · have h0 : n = 0 := by
        rcases HO.out.2 with ⟨-, h0⟩ | ⟨g', cap, cur, e, _⟩
        · exact h0
        · exact absurd (Value.slice.inj e).1 (by simp)
      subst h0
      have hm0 : m = [] := List.eq_nil_of_length_eq_zero HN.out.symm
      have hl0 : l = [] := by rw [← HM.out, hm0]; rfl
      subst hl0
      have r0 := HR3.out.cs 0 _ rfl
      have rl := HR3.out.lt
      have rf := HR3.out.s 0
      go_wp2_with fail
      go_loopg [13] 0 (fun g i wr => i = .int .i64 0 ∧ w3 = wr)
      case atStart => exact ⟨rfl, rfl⟩
      obtain ⟨rfl, rfl⟩ := hrel
      go_wp2_with fail
      have hR4 := HR3.out.put 0 (.slice none 0 c') (by simp)
      have g0 := hR4.cs 0 _ rfl
      have hB4 := HB3.out.setCell (p := ⟨w.heap.size + 1, 0, none⟩) (by simp) (.slice none 0 c')
      exact bodyPost_ret (v := .agg #[.slice none 0 c']) (by simp [results, Tryd.results27, go_sem, g0]) rfl ⟨_, rfl, ⟨none, c', [], rfl, rfl, Nat.zero_le _, Its.nil _ _, fun g hg => by
        rcases hg with ⟨h, _⟩ | ⟨p, hp, _⟩
        · exact absurd rfl h
        · simp at hp⟩, hB4⟩
    · obtain ⟨rfl, rfl⟩ : off = 0 ∧ sp = none := by
        rcases HO.out.2 with ⟨e, _⟩ | ⟨g', cap, cur, e, _⟩
        · exact absurd (Value.slice.inj e).1 (by simp)
        · have := (Value.slice.inj e).1
          simp only [Option.some.injEq, Addr.mk.injEq] at this
          exact ⟨this.2.1, this.2.2⟩
      have HX := Lib.hid (show BoxC w R (its (mix q m 0)) w3 ∧ w.heap.size + 1 + 1 ≤ R ∧ n ≤ c' from by
        obtain ⟨A2, c2, e2, hc2, hA2, -⟩ := Rw.own_cells HO.out
        obtain ⟨rfl, -, rfl⟩ := Value.slice.inj e2
        exact ⟨BoxC.of_own (by rw [show mix q m 0 = m by simp [mix]]; exact HO.out) (by omega), (HO.out.lt R rfl).1, hc2⟩)
      have hRR : R ≠ w.heap.size + 1 := by have := HX.out.2.1; omega
      have hnc := HX.out.2.2
      clear HO
      go_wp2_with fail
      go_loopg [13] n (fun g i wr => TnSt w q m R g i wr)
      case atStart => exact ⟨0, by have := HN.out; omega, rfl, HX.out.1, HR3.out, HB3.out⟩
      case round =>
        obtain ⟨k, hk, rfl, hbx, hrs, hbl⟩ := hrel
        have HK := Lib.hid hk
        have HBX := Lib.hid hbx
        have HRS := Lib.hid hrs
        have HBL := Lib.hid hbl
        clear hk hbx hrs hbl
        by_cases hlt : k < n
        · have hkm : k < m.length := by have := HN.out; omega
          have hat : ∀ j v, (itL m[k].x m[k].A m[k].c)[j]? = some v → wr.cell? ⟨R, k * 9 + j, none⟩ = some v := fun j v hv => by
            have hj : j < 9 := (List.getElem?_eq_some_iff.1 hv).1
            refine HBX.out.cs _ _ ?_
            rw [its_at (by rw [mix_len]; exact hkm) hj, mix_at q hkm]
            exact hv
          have HSET := Lib.hid (show setAll (its (mix q m k)) (k * 9) (itL (qP q m[k]).x (qP q m[k]).A (qP q m[k]).c) = its (mix q m (k + 1)) from by rw [setAll_its _ (by rw [mix_len]; exact hkm), mix_set q hkm])
          have HLN := Lib.hid (show k * 9 + 9 ≤ (its (mix q m k)).length from by rw [its_len, mix_len]; omega)
          unfold qP at HSET
          generalize m[k] = p at *
          obtain ⟨x, Ax, cx⟩ := p
          dsimp only at hat HSET
          have HCC := Lib.hid (fun W hb => HT.out W x Ax cx hb)
          have HQX := Lib.hid (HQ.out x)
          have c0 := hat 0 _ rfl
          have c1 := hat 1 _ rfl
          have c2 := hat 2 _ rfl
          have c3 := hat 3 _ rfl
          have c4 := hat 4 _ rfl
          have c5 := hat 5 _ rfl
          have c6 := hat 6 _ rfl
          have c7 := hat 7 _ rfl
          have c8 := hat 8 _ rfl
          rw [Nat.add_zero] at c0
          clear hat
          have HB4 := Lib.hid (HBL.out.alloc HBL.out.size (.cells #[.int .u64 (x.m.id : Int), .string (ofL x.m.shop), .string (ofL x.m.key), .slice Ax x.m.head.length cx, .string (ofL x.m.body), .int .u64 (x.m.due : Int), .int .u8 (x.m.hops : Int), .bool x.lent, .bool x.again] 30))
          have HX4 := Lib.hid (HBX.out.on ((Below.refl wr.heap.size wr).alloc (Nat.le_refl _) (.cells #[.int .u64 (x.m.id : Int), .string (ofL x.m.shop), .string (ofL x.m.key), .slice Ax x.m.head.length cx, .string (ofL x.m.body), .int .u64 (x.m.due : Int), .int .u8 (x.m.hops : Int), .bool x.lent, .bool x.again] 30)))
          have HR4 := Lib.hid (HRS.out.on ((Below.refl wr.heap.size wr).alloc (Nat.le_refl _) (.cells #[.int .u64 (x.m.id : Int), .string (ofL x.m.shop), .string (ofL x.m.key), .slice Ax x.m.head.length cx, .string (ofL x.m.body), .int .u64 (x.m.due : Int), .int .u8 (x.m.hops : Int), .bool x.lent, .bool x.again] 30)))
          generalize q x = y at *
          simp only [itV] at HCC
          go_wp2_with fail
          refine (HCC.out _ HB4.out).mono ?_
          rintro e w5 ⟨rfl, b5⟩
          have HB5 := Lib.hid (bthen HB4.out b5 (Nat.le_refl _))
          have HX5 := Lib.hid (HX4.out.on b5)
          have HR5 := Lib.hid (HR4.out.on b5)
          have HL5 := Lib.hid (show R < w5.heap.size from HX5.out.lt)
          clear b5 c0 c1 c2 c3 c4 c5 c6 c7 c8
          have hce : ∀ j, j < 9 → ∃ u, w5.cell? ⟨R, k * 9 + j, none⟩ = some u := fun j hj => by
            have h1 : k * 9 + j < (its (mix q m k)).length := by have := HLN.out; omega
            exact ⟨_, HX5.out.cs _ _ (List.getElem?_eq_getElem h1)⟩
          obtain ⟨u0, e0⟩ := hce 0 (by omega)
          obtain ⟨u1, e1⟩ := hce 1 (by omega)
          obtain ⟨u2, e2⟩ := hce 2 (by omega)
          obtain ⟨u3, e3⟩ := hce 3 (by omega)
          obtain ⟨u4, e4⟩ := hce 4 (by omega)
          obtain ⟨u5, e5⟩ := hce 5 (by omega)
          obtain ⟨u6, e6⟩ := hce 6 (by omega)
          obtain ⟨u7, e7⟩ := hce 7 (by omega)
          obtain ⟨u8, e8⟩ := hce 8 (by omega)
          rw [Nat.add_zero] at e0
          have hfz : ∀ j, w5.frozen? ⟨R, j, none⟩ = false := HX5.out.s
          have hl5 := HL5.out
          clear hce
          go_wp2_with fail
          have hX6 := BoxC.putSome [.int .u64 (y.m.id : Int), .string (ofL y.m.shop), .string (ofL y.m.key), .slice Ax y.m.head.length cx, .string (ofL y.m.body), .int .u64 (y.m.due : Int), .int .u8 (y.m.hops : Int), .bool y.lent, .bool y.again] (k * 9) HX5.out (by show k * 9 + 9 ≤ _; exact HLN.out)
          have hR6 := HR5.out.putAll_aside (g := R) hRR [.int .u64 (y.m.id : Int), .string (ofL y.m.shop), .string (ofL y.m.key), .slice Ax y.m.head.length cx, .string (ofL y.m.body), .int .u64 (y.m.due : Int), .int .u8 (y.m.hops : Int), .bool y.lent, .bool y.again] (k * 9)
          have hB6 := below_putAll (w := w) (g := R) (by have := HX.out.2.1; omega) [.int .u64 (y.m.id : Int), .string (ofL y.m.shop), .string (ofL y.m.key), .slice Ax y.m.head.length cx, .string (ofL y.m.body), .int .u64 (y.m.due : Int), .int .u8 (y.m.hops : Int), .bool y.lent, .bool y.again] (k * 9) HB5.out
          simp only [putAll, Nat.add_assoc, Nat.reduceAdd] at hX6 hR6 hB6
          go_roundg (gk - 1)
          case rel => exact ⟨k + 1, by have := HK.out; omega, by go_num, by rw [← HSET.out]; exact hX6, hR6, hB6⟩
          case measure => have := HK.out; omega
        · have hkn : k = m.length := by have := HK.out; have := HN.out; omega
          have r0 := HRS.out.cs 0 _ rfl
          have rl := HRS.out.lt
          have rf := HRS.out.s 0
          go_wp2_with fail
          have hR4 := HRS.out.put 0 (.slice (some ⟨R, 0, none⟩) n c') (by simp)
          have g0 := hR4.cs 0 _ rfl
          have hB4 := HBL.out.setCell (p := ⟨w.heap.size + 1, 0, none⟩) (by simp) (.slice (some ⟨R, 0, none⟩) n c')
          have hX4 := HBX.out.aside (g := w.heap.size + 1) (fun e => hRR e.symm) 0 (.slice (some ⟨R, 0, none⟩) n c')
          have e1 : mix q m k = m.map (qP q) := by rw [hkn]; simp [mix]
          rw [e1] at hX4
          exact bodyPost_ret (v := .agg #[.slice (some ⟨R, 0, none⟩) n c']) (by simp [results, Tryd.results27, go_sem, g0]) rfl ⟨_, rfl, ⟨some ⟨R, 0, none⟩, c', m.map (qP q), by rw [List.length_map, ← xs_len HM.out, HN.out], by rw [← HM.out, List.map_map, List.map_map]; rfl, by rw [List.length_map, ← xs_len HM.out, ← HN.out]; exact hnc, Its.of_box hX4 (fun p hp => by
            obtain ⟨p0, hp0, rfl⟩ := List.mem_map.1 hp
            have := (HI.out.ok p0 hp0).on hB4
            show MaGo _ (q p0.x).m p0.A p0.c
            rw [HQ.out]
            exact this), fun g hg => by
            rcases hg with ⟨_, a, ha, rfl⟩ | ⟨p, hp, hh, a, ha, rfl⟩
            · obtain rfl := Option.some.inj ha
              exact .inr (by have := HX.out.2.1; show w.heap.size ≤ R; omega)
            · obtain ⟨p0, hp0, rfl⟩ := List.mem_map.1 hp
              refine .inl (HU.out _ (.inr ⟨p0, hp0, ?_, a, ha, rfl⟩))
              have h1 : (q p0.x).m.head ≠ [] := hh
              rwa [HQ.out] at h1⟩, hB4⟩
end Go.Proofs.YtfbajmiiecmelabDoor
end
