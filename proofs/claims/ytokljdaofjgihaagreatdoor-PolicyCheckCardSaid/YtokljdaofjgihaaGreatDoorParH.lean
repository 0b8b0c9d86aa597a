/-
  WHAT A LINE TELLS, walked: the program's: any line.
-/
import Derived.Test.YtokljdaofjgihaaGreatDoorParG
namespace Go.Proofs.YtokljdaofjgihaaGreatDoor
open Go.ChangeShapes Go.WideShapes Go.ChangeAt Go.RowKit

theorem ne_lit {f k : List UInt8} (h : f ≠ k) : ((ofL f).toList == k) = false := by rw [str_list]; exact beq_eq_false_iff_ne.2 h
theorem askedNone {f : List UInt8} (h1 : f ≠ Pl.wWork) (h2 : f ≠ Pl.wGive) (h3 : f ≠ Pl.wSlot) (h4 : f ≠ Pl.wGrant) (h5 : f ≠ Pl.wLabel) : Pl.asked f = 0 := by
  unfold Pl.asked; rw [if_neg (by rintro (e | e | e); exact h1 e; exact h2 e; exact h3 e), if_neg h4, if_neg h5]
theorem asked_ne1 (f : List UInt8) : Pl.asked f ≠ 1 := by
  unfold Pl.asked
  split
  · decide
  · split
    · decide
    · split <;> decide
theorem asked_any (f : List UInt8) (w : World) : Calls Tryz.prog 79 #[.string (ofL f)] w fun e w' => e = .returned (.int .i64 (Pl.asked f : Int)) ∧ w = w' := by
  by_cases h1 : f = Pl.wWork
  · subst h1
    show Calls Tryz.prog 79 #[.string ⟨#[119, 111, 114, 107]⟩] w fun e w' => e = .returned (.int .i64 2) ∧ w = w'
    go_enter Tryz.func79, Tryz.ntmps79
    go_wp2_with fail
    go_ret
    exact ⟨rfl, rfl⟩
  · by_cases h2 : f = Pl.wGive
    · subst h2
      show Calls Tryz.prog 79 #[.string ⟨#[103, 105, 118, 101]⟩] w fun e w' => e = .returned (.int .i64 2) ∧ w = w'
      go_enter Tryz.func79, Tryz.ntmps79
      go_wp2_with fail
      go_ret
      exact ⟨rfl, rfl⟩
    · by_cases h3 : f = Pl.wSlot
      · subst h3
        show Calls Tryz.prog 79 #[.string ⟨#[115, 108, 111, 116]⟩] w fun e w' => e = .returned (.int .i64 2) ∧ w = w'
        go_enter Tryz.func79, Tryz.ntmps79
        go_wp2_with fail
        go_ret
        exact ⟨rfl, rfl⟩
      · by_cases h4 : f = Pl.wGrant
        · subst h4
          show Calls Tryz.prog 79 #[.string ⟨#[103, 114, 97, 110, 116]⟩] w fun e w' => e = .returned (.int .i64 4) ∧ w = w'
          go_enter Tryz.func79, Tryz.ntmps79
          go_wp2_with fail
          go_ret
          exact ⟨rfl, rfl⟩
        · by_cases h5 : f = Pl.wLabel
          · subst h5
            show Calls Tryz.prog 79 #[.string ⟨#[108, 97, 98, 101, 108]⟩] w fun e w' => e = .returned (.int .i64 5) ∧ w = w'
            go_enter Tryz.func79, Tryz.ntmps79
            go_wp2_with fail
            go_ret
            exact ⟨rfl, rfl⟩
          · have HA := Lib.hid (askedNone h1 h2 h3 h4 h5)
            have k1 : ((ofL f).toList == [119, 111, 114, 107]) = false := ne_lit h1
            have k2 : ((ofL f).toList == [103, 105, 118, 101]) = false := ne_lit h2
            have k3 : ((ofL f).toList == [115, 108, 111, 116]) = false := ne_lit h3
            have k4 : ((ofL f).toList == [103, 114, 97, 110, 116]) = false := ne_lit h4
            have k5 : ((ofL f).toList == [108, 97, 98, 101, 108]) = false := ne_lit h5
            clear h1 h2 h3 h4 h5
            go_enter Tryz.func79, Tryz.ntmps79
            go_wp2_with fail
            go_ret
            exact ⟨ret_nat (by rw [HA.out]; rfl), rfl⟩
theorem list1 {α : Type} {l : List α} (h : l.length = 1) : ∃ a, l = [a] := by
  match l, h with
  | [a], _ => exact ⟨a, rfl⟩
theorem list3 {α : Type} {l : List α} (h : l.length = 3) : ∃ a b c, l = [a, b, c] := by
  match l, h with
  | [a, b, c], _ => exact ⟨a, b, c, rfl⟩
theorem list4 {α : Type} {l : List α} (h : l.length = 4) : ∃ a b c d, l = [a, b, c, d] := by
  match l, h with
  | [a, b, c, d], _ => exact ⟨a, b, c, d, rfl⟩
theorem tell_any (B b r : Nat) (p : Pl.Pol) (pv sv gv : Value) (f : List UInt8) (xs : List (List UInt8)) (W : World) (h : TSt W B b r p pv sv gv xs 0) (hn : xs.length + 1 = Pl.asked f) (hx : ∀ x ∈ xs, x.length ≤ 100000) :
    Calls Tryz.prog 80 #[.pointer (some ⟨b, 0, none⟩), .string (ofL f), .pointer (some ⟨r, 0, none⟩)] W (TellPost B b (Pl.tell p f xs) W) := by
  by_cases h1 : f = Pl.wWork
  · subst h1
    obtain ⟨x, rfl⟩ := list1 (show xs.length = 1 by have : Pl.asked Pl.wWork = 2 := rfl; omega)
    exact tell_work B b r p pv sv gv x [] W h (hx x (by simp))
  · by_cases h2 : f = Pl.wGive
    · subst h2
      obtain ⟨x, rfl⟩ := list1 (show xs.length = 1 by have : Pl.asked Pl.wGive = 2 := rfl; omega)
      exact tell_give B b r p pv sv gv x [] W h (hx x (by simp))
    · by_cases h3 : f = Pl.wSlot
      · subst h3
        obtain ⟨x, rfl⟩ := list1 (show xs.length = 1 by have : Pl.asked Pl.wSlot = 2 := rfl; omega)
        exact tell_slot B b r p pv sv gv x [] W h
      · by_cases h4 : f = Pl.wGrant
        · subst h4
          obtain ⟨x, y, z, rfl⟩ := list3 (show xs.length = 3 by have : Pl.asked Pl.wGrant = 4 := rfl; omega)
          exact tell_grant B b r p pv sv gv x y z W h (hx z (by simp))
        · by_cases h5 : f = Pl.wLabel
          · subst h5
            obtain ⟨x, y, z, a, rfl⟩ := list4 (show xs.length = 4 by have : Pl.asked Pl.wLabel = 5 := rfl; omega)
            exact tell_label B b r p pv sv gv x y z a W h (hx x (by simp)) (hx y (by simp)) (hx z (by simp)) (hx a (by simp))
          · rw [askedNone h1 h2 h3 h4 h5] at hn; omega
theorem take_none {p : Pl.Pol} {l : List UInt8} (h : Pl.wds l = []) : Pl.take p l = (0, p) := by unfold Pl.take; rw [h]
theorem take_mark {p : Pl.Pol} {l f : List UInt8} {xs : List (List UInt8)} (h : Pl.wds l = f :: xs) (h1 : f.head? = some 35) : Pl.take p l = (0, p) := by unfold Pl.take; rw [h]; simp only; rw [if_pos h1]
theorem take_form {p : Pl.Pol} {l f : List UInt8} {xs : List (List UInt8)} (h : Pl.wds l = f :: xs) (h1 : ¬ f.head? = some 35) (h2 : xs.length + 1 ≠ Pl.asked f) : Pl.take p l = (4, p) := by unfold Pl.take; rw [h]; simp only; rw [if_neg h1, if_pos h2]
theorem take_tell {p : Pl.Pol} {l f : List UInt8} {xs : List (List UInt8)} (h : Pl.wds l = f :: xs) (h1 : ¬ f.head? = some 35) (h2 : xs.length + 1 = Pl.asked f) : Pl.take p l = Pl.tell p f xs := by unfold Pl.take; rw [h]; simp only; rw [if_neg h1, if_neg (by omega)]
theorem prefix_mark (f : List UInt8) : Lib.hasPrefix f [35] = decide (f.head? = some 35) := by
  unfold Lib.hasPrefix
  cases f with
  | nil => rfl
  | cons a t =>
    rw [Bool.eq_iff_iff]
    simp [List.isPrefixOf]
    exact eq_comm
theorem pfx_any (f : List UInt8) (w : World) : Calls Tryz.prog 78 #[.string (ofL f), .string ⟨#[35]⟩] w fun e w' => e = .returned (.bool (decide (f.head? = some 35))) ∧ w = w' := by
  refine (Tryz.strings_HasPrefix (ofL f) ⟨#[35]⟩ w).mono ?_
  rintro e w' ⟨rfl, rfl⟩
  exact ⟨by show Ending.returned (.bool (Lib.hasPrefix f [35])) = _; rw [prefix_mark], rfl⟩
theorem rdr_new {W : World} {A : Nat} {f : List UInt8} {xs : List (List UInt8)} (h : Reads W (some ⟨A, 0, none⟩) (f :: xs)) (hx : xs.length ≤ 99999) (hA : A < W.heap.size) :
    Rdr (W.alloc (.cells #[.slice (some ⟨A, 1, none⟩) xs.length xs.length, .int .i64 0] 113)) W.heap.size xs 0 := by
  have hs : Below W.heap.size W (W.alloc (.cells #[.slice (some ⟨A, 1, none⟩) xs.length xs.length, .int .i64 0] 113)) := (Below.refl _ _).alloc (Nat.le_refl _) _
  refine ⟨⟨some ⟨A, 1, none⟩, xs.length, by simp, Nat.le_refl _, by omega, fun j hj => ?_⟩, by simp, fun j => by simp⟩
  obtain ⟨g, e, hc⟩ := h (j + 1) (by simp only [List.length_cons]; omega)
  obtain rfl : A = g := by simpa using e
  refine ⟨A, 1, rfl, hA, ?_⟩
  rw [show 1 + j = j + 1 by omega]
  exact (hs.cell (p := ⟨A, j + 1, none⟩) hA).trans hc
set_option maxRecDepth 100000 in
set_option maxHeartbeats 8000000 in
theorem take_any (B b : Nat) (p : Pl.Pol) (pv sv gv : Value) (l : List UInt8) (W : World) (hO : PolOwn W B b p pv sv gv) (hE : Env W) (e1 : 1 < b) (e2 : 5 < b) (sz : p.size ≤ 99999) (hl : l.length ≤ 90000) :
    Calls Tryz.prog 51 #[.pointer (some ⟨b, 0, none⟩), .string (ofL l)] W (TellPost B b (Pl.take p l) W) := by
  have HO := Lib.hid hO
  have HF := Lib.hid (fields_any l W (by omega))
  have hbW := hO.box.lt
  have hwn := Pl.wds_count l []
  have hwl := Pl.wds_len l []
  simp only [List.length_nil, Nat.zero_add] at hwn hwl
  have hwn : (Pl.wds l).length ≤ l.length := hwn
  have hwl : ∀ x ∈ Pl.wds l, x.length ≤ l.length := hwl
  cases hw : Pl.wds l with
  | nil =>
    have HQ := Lib.hid (take_none (p := p) hw)
    rw [hw] at HF
    clear hw hwl hwn
    generalize Pl.take p l = Q at *
    go_enter Tryz.func51, Tryz.ntmps51
    go_wp2_with fail
    with_reducible refine HF.out.mono ?_
    rintro e W1 ⟨A, rfl, hA, hR, hB⟩
    have HB := Lib.hid hB
    clear hB hR
    simp only [List.length_nil]
    go_wp2_with fail
    go_ret
    exact ⟨by rw [HQ.out]; rfl, fun _ => ⟨pv, sv, gv, by rw [HQ.out]; exact HO.out.on HB.out⟩, HB.out.mono (by omega)⟩
  | cons f xs =>
    rw [hw] at HF hwn hwl
    simp only [List.length_cons] at HF hwn
    have HM := Lib.hid (fun W => pfx_any f W)
    have HAS := Lib.hid (fun W => asked_any f W)
    have Q1 := Lib.hid (fun h => take_mark (p := p) hw h)
    have Q2 := Lib.hid (fun h h2 => take_form (p := p) hw h h2)
    have Q3 := Lib.hid (fun h h2 => take_tell (p := p) hw h h2)
    have HXL := Lib.hid (show ∀ x ∈ xs, x.length ≤ 100000 from fun x hx => by have := hwl x (by simp [hx]); omega)
    clear hw hwl
    generalize Pl.take p l = Q at *
    by_cases h35 : f.head? = some 35
    · have HQ := Lib.hid (Q1.out h35)
      rw [show decide (f.head? = some 35) = true from decide_eq_true h35] at HM
      clear h35
      go_enter Tryz.func51, Tryz.ntmps51
      go_wp2_with fail
      with_reducible refine HF.out.mono ?_
      rintro e W1 ⟨A, rfl, hA, hR, hB⟩
      have HB := Lib.hid hB
      obtain ⟨g0, e0, hc0⟩ := hR 0 (by simp)
      obtain rfl : A = g0 := by simpa using e0
      simp only [List.getElem_cons_zero] at hc0
      clear hB hR e0
      go_wp2_with fail
      with_reducible refine (HM.out _).mono ?_
      rintro e w' ⟨rfl, rfl⟩
      go_wp2_with fail
      go_ret
      exact ⟨by rw [HQ.out]; rfl, fun _ => ⟨pv, sv, gv, by rw [HQ.out]; exact HO.out.on HB.out⟩, HB.out.mono (by omega)⟩
    · rw [show decide (f.head? = some 35) = false from decide_eq_false h35] at HM
      by_cases hn : xs.length + 1 = Pl.asked f
      · have HQ := Lib.hid (Q3.out h35 hn)
        have hnb : (((xs.length : Int) + 1) != (Pl.asked f : Int)) = false := by
          rw [← hn]; simp
        have hge : 1 ≤ xs.length := by
          have h2 : Pl.asked f ≠ 1 := asked_ne1 f
          omega
        have HT := Lib.hid (fun r W h => tell_any B b r p pv sv gv f xs W h hn HXL.out)
        clear h35 hn Q1 Q2 Q3
        rw [← HQ.out] at HT
        generalize Pl.asked f = AS at *
        go_enter Tryz.func51, Tryz.ntmps51
        go_wp2_with fail
        with_reducible refine HF.out.mono ?_
        rintro e W1 ⟨A, rfl, hA, hR, hB⟩
        have HB := Lib.hid hB
        have HR := Lib.hid hR
        obtain ⟨g0, e0, hc0⟩ := hR 0 (by simp)
        obtain rfl : A = g0 := by simpa using e0
        simp only [List.getElem_cons_zero] at hc0
        have hAl := World.block_lt_of_cell? W1 _ hc0
        simp only at hAl
        clear hB hR e0
        go_wp2_with fail
        with_reducible refine (HM.out _).mono ?_
        rintro e w' ⟨rfl, rfl⟩
        go_wp2_with fail
        with_reducible refine (HAS.out _).mono ?_
        rintro e w' ⟨rfl, rfl⟩
        go_wp2_with fail
        have HTS := Lib.hid (show TSt (W1.alloc (.cells #[.slice (some ⟨A, 1, none⟩) xs.length xs.length, .int .i64 0] 113)) B b W1.heap.size p pv sv gv xs 0 from by
          have hs : Below W1.heap.size W1 (W1.alloc (.cells #[.slice (some ⟨A, 1, none⟩) xs.length xs.length, .int .i64 0] 113)) := (Below.refl _ _).alloc (Nat.le_refl _) _
          have o1 := HO.out.on HB.out
          exact ⟨o1.on hs, rdr_new HR.out (by omega) hAl, (fun e => by have := (o1.op.lt _ e).2; omega), (fun e => by have := (o1.os.lt _ e).2; omega), (fun e => by have := (o1.og.lt _ e).2; omega), o1.box.lt, (hE.on HB.out).on hs, e1, e2, sz⟩)
        have hne0 : ¬ xs.length = 0 := by omega
        have hne1 : ¬ ((xs.length : Int) = 0) := by omega
        have hlt1 : 1 < xs.length + 1 := by omega
        go_region_with (first
          | (go_at_call 80; (with_reducible refine (HT.out _ _ (HTS.out.on ((Below.refl _ _).drew))).mono ?_); rintro e' W2 ⟨rfl, hT1, hT2⟩))
        all_goals
          have HT1 := Lib.hid hT1
          have HT2 := Lib.hid hT2
          clear hT1 hT2
          go_wp2_with fail
          go_ret
          refine ⟨rfl, HT1.out, ?_⟩
          have b1 : Below b W W1 := HB.out.mono (by omega)
          have b2 : Below b W1 (W1.alloc (.cells #[.slice (some ⟨A, 1, none⟩) xs.length xs.length, .int .i64 0] 113)) := (Below.refl _ _).alloc (by have := (HO.out.on HB.out).box.lt; omega) _
          exact (b1.trans b2).drew.trans HT2.out
      · have HQ := Lib.hid (Q2.out h35 hn)
        have hnb : (((xs.length : Int) + 1) != (Pl.asked f : Int)) = true := by
          rw [bne_iff_ne]; omega
        clear h35 hn Q1 Q2 Q3
        generalize Pl.asked f = AS at *
        go_enter Tryz.func51, Tryz.ntmps51
        go_wp2_with fail
        with_reducible refine HF.out.mono ?_
        rintro e W1 ⟨A, rfl, hA, hR, hB⟩
        have HB := Lib.hid hB
        obtain ⟨g0, e0, hc0⟩ := hR 0 (by simp)
        obtain rfl : A = g0 := by simpa using e0
        simp only [List.getElem_cons_zero] at hc0
        clear hB hR e0
        go_wp2_with fail
        with_reducible refine (HM.out _).mono ?_
        rintro e w' ⟨rfl, rfl⟩
        go_wp2_with fail
        with_reducible refine (HAS.out _).mono ?_
        rintro e w' ⟨rfl, rfl⟩
        go_wp2_with fail
        go_ret
        exact ⟨by rw [HQ.out]; rfl, fun h => absurd h (by rw [HQ.out]; simp), HB.out.mono (by omega)⟩
end Go.Proofs.YtokljdaofjgihaaGreatDoor
