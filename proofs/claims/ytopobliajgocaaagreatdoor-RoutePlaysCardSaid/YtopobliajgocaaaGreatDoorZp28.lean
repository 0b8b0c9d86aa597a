/-
  AN EXCHANGE TAKEN OUT OF ITS LIST: slices.DeleteFunc, walked.
-/
import Derived.Test.YtopobliajgocaaaGreatDoorZp25

section
namespace Go.Proofs.YtopobliajgocaaaGreatDoor
open Go.ChangeShapes Go.WideShapes Go.ChangeAt Go.RowKit
def rtSet : List Value → Nat → List Value → List Value
  | xs, _, [] => xs
  | xs, j, v :: vs => rtSet (xs.set j v) (j + 1) vs
theorem BoxC.rtPut {w : World} {c : Nat} : ∀ (vs : List Value) (j : Nat) {xs : List Value} {W : World}, BoxC w c xs W → j + vs.length ≤ xs.length → BoxC w c (rtSet xs j vs) (putAll c j vs W)
  | [], _, _, _, h, _ => h
  | v :: vs, j, _, _, h, hl => BoxC.rtPut vs (j + 1) (h.put j v (by simp at hl; omega)) (by simp at hl ⊢; omega)
theorem rtSet_cons (x : Value) : ∀ (vs xs : List Value) (j : Nat), rtSet (x :: xs) (j + 1) vs = x :: rtSet xs j vs
  | [], _, _ => rfl
  | v :: vs, xs, j => by
    show rtSet ((x :: xs).set (j + 1) v) (j + 1 + 1) vs = x :: rtSet (xs.set j v) (j + 1) vs
    exact rtSet_cons x vs (xs.set j v) (j + 1)
theorem rtSet_zero : ∀ (vs xs : List Value), vs.length ≤ xs.length → rtSet xs 0 vs = vs ++ xs.drop vs.length
  | [], _, _ => rfl
  | v :: vs, x :: xs, h => by
    show rtSet (v :: xs) (0 + 1) vs = _
    rw [rtSet_cons, rtSet_zero vs xs (by simpa using h)]
    rfl
theorem rtSet_app (vs : List Value) (b : List Value) (j : Nat) : ∀ a : List Value, rtSet (a ++ b) (a.length + j) vs = a ++ rtSet b j vs
  | [] => by simp
  | x :: a => by
    show rtSet (x :: (a ++ b)) (a.length + 1 + j) vs = _
    rw [show a.length + 1 + j = a.length + j + 1 by omega, rtSet_cons, rtSet_app vs b j a]
    rfl
theorem rtSet_flat {α : Type} (f : α → List Value) (n : Nat) (hf : ∀ x, (f x).length = n) (p : α) : ∀ {m : List α} {k : Nat}, k < m.length → rtSet (m.flatMap f) (k * n) (f p) = (m.set k p).flatMap f
  | q :: m, 0, _ => by
    rw [List.flatMap_cons, Nat.zero_mul, rtSet_zero _ _ (by rw [List.length_append, hf, hf]; omega), hf, List.set_cons_zero, List.flatMap_cons, List.drop_append, List.drop_of_length_le (by rw [hf]; exact Nat.le_refl _), hf, Nat.sub_self]
    rfl
  | q :: m, k + 1, h => by
    rw [List.flatMap_cons, show (k + 1) * n = (f q).length + k * n by rw [hf, Nat.succ_mul]; omega, rtSet_app, rtSet_flat f n hf p (m := m) (k := k) (by simpa using h), List.set_cons_succ, List.flatMap_cons]
theorem BoxC.rtOwn {w w0 : World} {B e g c n sz : Nat} {xs : List Value} (h : w.ownsRow B e sz (.slice (some ⟨g, 0, none⟩) n c) n xs) (hB : w0.heap.size ≤ B) : BoxC w0 g xs w := by
  have hl := h.1
  rcases h.2 with ⟨e, _⟩ | ⟨g', cap, cur, e, hb, hh, h1, h2, h3, h4⟩
  · exact absurd (Value.slice.inj e).1 (by simp)
  · obtain ⟨e1, -, rfl⟩ := Value.slice.inj e
    obtain ⟨rfl⟩ : g = g' := by simpa using e1
    refine ⟨fun j x hj => ?_, fun j => Lib.frozen_of_heap hh j, (Array.getElem?_eq_some_iff.1 hh).1, Nat.le_trans hB hb⟩
    have hj' : j < n * sz := by
      have := (List.getElem?_eq_some_iff.1 hj).1
      rwa [hl] at this
    rw [World.ownsRow.cellAt h j hj']
    exact hj
theorem rtOwnSome {w : World} {B e size n c : Nat} {A : Option Addr} {xs : List Value} (h : w.ownsRow B e size (.slice A n c) n xs) (hn : 0 < n) : ∃ R, A = some ⟨R, 0, none⟩ ∧ B ≤ R ∧ R < w.heap.size ∧ n ≤ c := by
  obtain ⟨A2, c2, e2, hc, hb, hx⟩ := Rw.own_cells h
  obtain ⟨rfl, -, rfl⟩ := Value.slice.inj e2
  obtain ⟨R, rfl, hR, -⟩ := hx hn
  exact ⟨R, rfl, (h.lt R rfl).1, hR, hc⟩
theorem clearSh {w0 W : World} {xs : List Value} {R o cc : Nat} (h : BoxC w0 R xs W) (ho : o + 3 ≤ xs.length) (ty : TypeId) : (Builtin.clear_ #[25] ty #[.slice (some ⟨R, o, none⟩) 1 cc]).run Tryz.prog W = .ok (.tuple #[]) (W.setCells R o [.string ⟨#[]⟩, .int .u8 0, .string ⟨#[]⟩]) := by
  have hst := run_storeCells_cells (P := Tryz.prog) R o [.string ⟨#[]⟩, .int .u8 0, .string ⟨#[]⟩] 0 W (by
    intro j hj
    have hj' : j < 3 := hj
    rw [Nat.add_zero, h.cs (o + j) _ (List.getElem?_eq_getElem (by omega))]; rfl) (by intro j hj; exact h.s _) (by intro v hv; simp only [List.mem_cons, List.not_mem_nil, or_false] at hv; rcases hv with rfl | rfl | rfl <;> rfl)
  simp only [Nat.add_zero] at hst
  have hzv := Tryz.zeroValue34
  have hzc : (Builtin.zeroCells (Value.agg #[.string ⟨#[]⟩, .int .u8 0, .string ⟨#[]⟩]).cells 1).toList = [.string ⟨#[]⟩, .int .u8 0, .string ⟨#[]⟩] := by
    simp only [Value.cells]
    simp [Builtin.zeroCells]
    rfl
  simp [Builtin.clear_, run_underlying Tryz.underlying25, hzv, hzc, hst]
theorem setCells_putAll (q : Nat) : ∀ (vs : List Value) (j : Nat) (W : World), putAll q j vs W = W.setCells q j vs
  | [], _, _ => rfl
  | v :: vs, j, W => setCells_putAll q vs (j + 1) (W.setCell ⟨q, j, none⟩ v)
theorem TellsSh.later {f : Nat} {c : Array Value} {q : Sh → Bool} {w w' : World} (h : TellsSh f c q w) (hb : Below w.heap.size w w') : TellsSh f c q w' := fun W x hW => h W x (bthen hb hW (Nat.le_refl _))
namespace Bk
/-- moved down by one, up to i -/
def moved (l : List Sh) (k i : Nat) : List Sh := (l.eraseIdx k).take i ++ l.drop i
theorem moved_len {l : List Sh} {k i : Nat} (hk : k < l.length) (hi : i < l.length) : (moved l k i).length = l.length := by
  unfold moved
  rw [List.length_append, List.length_take, List.length_eraseIdx, if_pos hk, List.length_drop]; omega
theorem moved_start (l : List Sh) (k : Nat) : moved l k k = l := by
  unfold moved
  rw [List.eraseIdx_eq_take_drop_succ, List.take_append, List.length_take, List.take_take, Nat.min_self]
  by_cases h : k ≤ l.length
  · rw [Nat.min_eq_left h, Nat.sub_self, List.take_zero, List.append_nil, List.take_append_drop]
  · rw [List.take_of_length_le (by omega), List.drop_of_length_le (by omega), List.drop_of_length_le (by omega)]
    simp
theorem moved_next {l : List Sh} {k i : Nat} (hk : k < l.length) (hi : i + 1 < l.length) : (moved l k i).getD (i + 1) Sh0 = l.getD (i + 1) Sh0 := by
  unfold moved
  have hl : ((l.eraseIdx k).take i).length = i := by rw [List.length_take, List.length_eraseIdx, if_pos hk]; omega
  rw [List.getD_eq_getElem?_getD, List.getD_eq_getElem?_getD, List.getElem?_append_right (by omega), hl, List.getElem?_drop]
  congr 2
  omega
theorem moved_set {l : List Sh} {k i : Nat} (hk : k ≤ i) (hi : i + 1 < l.length) : (moved l k i).set i (l.getD (i + 1) Sh0) = moved l k (i + 1) := by
  unfold moved
  have hE : (l.eraseIdx k).length = l.length - 1 := by rw [List.length_eraseIdx, if_pos (by omega)]
  have hl : ((l.eraseIdx k).take i).length = i := by rw [List.length_take, hE]; omega
  have hg : (l.eraseIdx k)[i]'(by omega) = l.getD (i + 1) Sh0 := by
    rw [List.getElem_eraseIdx, dif_neg (by omega), List.getD_eq_getElem?_getD, List.getElem?_eq_getElem hi]; rfl
  rw [List.set_append_right _ _ (by omega), hl, Nat.sub_self, List.drop_eq_getElem_cons (by omega : i < l.length), List.set_cons_zero, List.take_succ_eq_append_getElem (by omega : i < (l.eraseIdx k).length), hg, List.append_assoc]
  rfl
end Bk
def DlSt (w0 : World) (l : List Sh) (R k g : Nat) (v i : Value) (wr : World) : Prop :=
  ∃ j : Nat, j + 1 + g = l.length ∧ k ≤ j ∧ v = .int .i64 (j : Int) ∧ i = .int .i64 ((j + 1 : Nat) : Int) ∧ BoxC w0 R (shs (Bk.moved l k j)) wr ∧ Below w0.heap.size w0 wr
def DlPost (w0 : World) (l : List Sh) (R k c : Nat) (e : Ending) (w' : World) : Prop := e = .returned (.slice (some ⟨R, 0, none⟩) (l.length - 1) c) ∧ BoxC w0 R (shs (l.eraseIdx k)) w' ∧ Below w0.heap.size w0 w'
set_option maxRecDepth 100000 in
set_option maxHeartbeats 8000000 in
theorem delFSh_any {w0 : World} {l : List Sh} {R c k pb : Nat} (w : World) (q : Sh → Bool) (hR : BoxC w0 R (shs l) w) (hl : l.length ≤ 1000) (hc : l.length ≤ c) (hk : k < l.length) (hq : ∀ i, i < l.length → q (l.getD i Bk.Sh0) = decide (i = k)) (hB : Below w0.heap.size w0 w) (ht : TellsSh 59 #[.pointer (some ⟨pb, 0, none⟩)] q w0) :
    Calls Tryz.prog 58 #[.slice (some ⟨R, 0, none⟩) l.length c, .func (.func 59) #[] #[.pointer (some ⟨pb, 0, none⟩)]] w (DlPost w0 l R k c) := by
  have hS : Shs w (some ⟨R, 0, none⟩) l := ⟨Rws.of_news fun j u hu => by rw [Nat.zero_add]; exact hR.cs j u hu⟩
  have hx := indexSh_any 59 pb (.inr rfl) q l (some ⟨R, 0, none⟩) c w (by omega) hS (ht.later hB)
  rw [idx_some (q := q) (l := l) Bk.Sh0 hk (fun i hi => by rw [hq i (by omega)]; exact decide_eq_false (by omega)) (by rw [hq k hk]; exact decide_eq_true rfl)] at hx
  have HC := Lib.hid hx
  have HR := Lib.hid hR
  have HB := Lib.hid hB
  have HT := Lib.hid ht
  have HQ := Lib.hid hq
  clear hx hS hR hB ht hq
  obtain ⟨n, hn⟩ : ∃ n, n = l.length := ⟨_, rfl⟩
  unfold DlPost
  rw [← hn] at hk hl hc ⊢
  have HN := Lib.hid hn
  clear hn
  have hkm : ((k : Int) == -1) = false := beq_eq_false_iff_ne.2 (by omega)
  rw [← HN.out] at HC
  go_enter Tryz.func58, Tryz.ntmps58
  go_wp2_with fail
  refine HC.out.mono ?_
  rintro e w1 ⟨rfl, hb1⟩
  have HR1 := Lib.hid (HR.out.on hb1)
  have HB1 := Lib.hid (bthen HB.out hb1 (Nat.le_refl _))
  clear hb1
  go_wp2_with fail
  go_loopg [5, 6] (n - 1 - k) (fun g v i wr => DlSt w0 l R k g v i wr)
  case atStart => exact ⟨k, by have := HN.out; omega, Nat.le_refl _, rfl, by go_num, by rw [Bk.moved_start]; exact HR1.out, HB1.out⟩
  case round =>
    obtain ⟨j, hj, hkj, rfl, rfl, hX, hBl⟩ := hrel
    have HJ := Lib.hid hj
    have HKJ := Lib.hid hkj
    have HX := Lib.hid hX
    have HBL := Lib.hid hBl
    clear hj hkj hX hBl
    obtain ⟨j1, hj1⟩ : ∃ j1, j1 = j + 1 := ⟨_, rfl⟩
    rw [← hj1]
    have HJ1 := Lib.hid hj1
    have hj1n : j1 ≤ n := by have := HJ.out; have := HN.out; omega
    have hjn : j < n := by have := HJ.out; have := HN.out; omega
    clear hj1
    by_cases hlt : j1 < n
    · have hjl : j + 1 < l.length := by have := HJ1.out; have := HN.out; omega
      have hkl : k < l.length := by have := HN.out; omega
      have hml := Bk.moved_len (k := k) (i := j) hkl (by omega)
      have hat : ∀ t v, (shL (l.getD j1 Bk.Sh0))[t]? = some v → wr.cell? ⟨R, j1 * 3 + t, none⟩ = some v := fun t v hv => by
        have ht : t < 3 := (List.getElem?_eq_some_iff.1 hv).1
        have hjm : j1 < (Bk.moved l k j).length := by rw [hml]; have := HJ1.out; omega
        have e1 := Rw.flat_get shL 3 (fun _ => rfl) (by decide) (Bk.moved l k j) j1 t hjm ht
        rw [sh_get hjm, HJ1.out, Bk.moved_next hkl hjl, ← HJ1.out] at e1
        exact HX.out.cs _ _ (e1.trans hv)
      have HSET := Lib.hid (show rtSet (shs (Bk.moved l k j)) (j * 3) (shL (l.getD j1 Bk.Sh0)) = shs (Bk.moved l k j1) from by
        rw [shs, rtSet_flat shL 3 (fun _ => rfl) _ (by rw [hml]; omega), HJ1.out, Bk.moved_set HKJ.out hjl]
        rfl)
      have HML := Lib.hid (show j * 3 + 3 ≤ (shs (Bk.moved l k j)).length from by rw [shs_len, hml]; omega)
      have hqj := HQ.out j1 (by have := HN.out; omega)
      rw [decide_eq_false (by have := HKJ.out; have := HJ1.out; omega)] at hqj
      have hcl := HT.out
      generalize l.getD j1 Bk.Sh0 = x at *
      obtain ⟨xn, xs, xt⟩ := x
      have c0 := hat 0 _ rfl
      have c1 := hat 1 _ rfl
      have c2 := hat 2 _ rfl
      rw [Nat.add_zero] at c0
      have ha := rtOne wr (.cells #[.string (ofL xn), .int .u8 (xs : Int), .string (ofL xt)] 34)
      have HC2 := Lib.hid (hcl _ ⟨xn, xs, xt⟩ (bthen HBL.out ha (Nat.le_refl _)))
      rw [hqj] at HC2
      have HA := Lib.hid ha
      have HE0 := Lib.hid (rtAt0 wr #[.string (ofL xn), .int .u8 (xs : Int), .string (ofL xt)] 34)
      have hrl := HX.out.lt
      have HRG := Lib.hid HX.out.ge
      simp only [shV] at HC2
      clear hat hcl ha hml hjl hkl hqj
      go_wp2_with fail
      generalize wr.alloc (.cells #[.string (ofL xn), .int .u8 (xs : Int), .string (ofL xt)] 34) = w2 at *
      refine HC2.out.mono ?_
      rintro e w3 ⟨rfl, hb3⟩
      have HB3 := Lib.hid (bthen HA.out hb3 (Nat.le_refl _))
      have HE3 := HE0.out.on hb3
      have z0 := HE3.cs 0 _ rfl
      have z1 := HE3.cs 1 _ rfl
      have z2 := HE3.cs 2 _ rfl
      have zl := HE3.lt
      have HX3 := Lib.hid (HX.out.on HB3.out)
      have hce : ∀ t, t < 3 → ∃ u, w3.cell? ⟨R, j * 3 + t, none⟩ = some u := fun t ht => ⟨_, HX3.out.cs _ _ (List.getElem?_eq_getElem (by have := HML.out; omega))⟩
      obtain ⟨u0, e0⟩ := hce 0 (by omega)
      obtain ⟨u1, e1⟩ := hce 1 (by omega)
      obtain ⟨u2, e2⟩ := hce 2 (by omega)
      rw [Nat.add_zero] at e0
      have hfz : ∀ t, w3.frozen? ⟨R, t, none⟩ = false := HX3.out.s
      have hl3 := HX3.out.lt
      clear hb3 HE3 hce c0 c1 c2
      go_wp2_with fail
      have hX4 := BoxC.rtPut [.string (ofL xn), .int .u8 (xs : Int), .string (ofL xt)] (j * 3) HX3.out (by show j * 3 + 3 ≤ _; exact HML.out)
      have hB4 := below_putAll (w := w0) (g := R) HRG.out [.string (ofL xn), .int .u8 (xs : Int), .string (ofL xt)] (j * 3) (bthen HBL.out HB3.out (Nat.le_refl _))
      rw [show rtSet (shs (Bk.moved l k j)) (j * 3) [.string (ofL xn), .int .u8 (xs : Int), .string (ofL xt)] = shs (Bk.moved l k j1) from HSET.out] at hX4
      simp only [putAll, Nat.add_assoc, Nat.reduceAdd] at hX4 hB4
      go_roundg (gk - 1)
      case rel => exact ⟨j1, by have := HJ.out; have := HJ1.out; have := HN.out; omega, by have := HKJ.out; have := HJ1.out; omega, by have := HJ1.out; go_num, by have := HJ1.out; go_num, hX4, hB4⟩
      case measure => have := HJ.out; have := HJ1.out; have := HN.out; omega
    · have hjE : j1 = n := by omega
      have hE : j = n - 1 := by have := HJ1.out; omega
      have HJE := Lib.hid hE
      have hml := Bk.moved_len (k := k) (i := j) (l := l) (by have := HN.out; omega) (by have := HN.out; omega)
      have hcl : ∀ ty, (Builtin.clear_ #[25] ty #[.slice (some ⟨R, j * 3, none⟩) (n - j) (c - j)]).run Tryz.prog wr = .ok (.tuple #[]) (wr.setCells R (j * 3) [.string ⟨#[]⟩, .int .u8 0, .string ⟨#[]⟩]) := fun ty => by
        rw [show n - j = 1 by omega]
        exact clearSh HX.out (by rw [shs_len, hml]; have := HN.out; omega) ty
      have HEND := Lib.hid (show BoxC w0 R (shs (l.eraseIdx k)) (wr.setCells R (j * 3) [.string ⟨#[]⟩, .int .u8 0, .string ⟨#[]⟩]) ∧ Below w0.heap.size w0 (wr.setCells R (j * 3) [.string ⟨#[]⟩, .int .u8 0, .string ⟨#[]⟩]) from by
        rw [← setCells_putAll]
        refine ⟨?_, below_putAll HX.out.ge _ _ HBL.out⟩
        have h1 := BoxC.rtPut [.string ⟨#[]⟩, .int .u8 0, .string ⟨#[]⟩] (j * 3) HX.out (by rw [shs_len, hml]; show j * 3 + 3 ≤ _; have := HN.out; omega)
        have hEl : (l.eraseIdx k).length = j := by rw [List.length_eraseIdx, if_pos (by have := HN.out; omega)]; have := HN.out; omega
        have h2 : rtSet (shs (Bk.moved l k j)) (j * 3) [.string ⟨#[]⟩, .int .u8 0, .string ⟨#[]⟩] = shs ((Bk.moved l k j).set j Bk.Sh0) := rtSet_flat shL 3 (fun _ => rfl) Bk.Sh0 (by rw [hml]; have := HN.out; omega)
        rw [h2] at h1
        have h3 : (Bk.moved l k j).set j Bk.Sh0 = l.eraseIdx k ++ [Bk.Sh0] := by
          unfold Bk.moved
          rw [List.take_of_length_le (by omega), List.set_append_right _ _ (by omega), hEl, Nat.sub_self, List.drop_eq_getElem_cons (by have := HN.out; omega : j < l.length), List.set_cons_zero, List.drop_of_length_le (by have := HN.out; omega)]
        rw [h3, shs_app] at h1
        exact ⟨fun t x ht => h1.cs t x (by rw [List.getElem?_append_left (List.getElem?_eq_some_iff.1 ht).1]; exact ht), h1.s, h1.lt, h1.ge⟩)
      have h8 : ¬ c = j := by omega
      have h9 : j ≤ c := by omega
      clear hml hE hjE
      go_wp2_with fail
      go_ret
      exact ⟨by rw [HJE.out]; rfl, HEND.out.1, HEND.out.2⟩
end Go.Proofs.YtopobliajgocaaaGreatDoor
end
