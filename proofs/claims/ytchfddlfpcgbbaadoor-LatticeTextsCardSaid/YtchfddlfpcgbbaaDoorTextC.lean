/-
  THE DOCUMENT's OWN NUMBER at the front of a text, walked.
-/
import Derived.Test.YtchfddlfpcgbbaaDoorTextB
import Derived.Deep.CutBlock
import Derived.Deep.DeepCutAuto
namespace Go.Proofs.YtchfddlfpcgbbaaDoor
open Go.ChangeShapes Go.WideShapes Go.ChangeAt Go.RowKit

/-- where the document's number ends -/
def refEnd (most : Nat) (l : List UInt8) (k : Nat) : Nat := if (Lat.num most (l.drop k)).2.2 = 0 then l.length - (Lat.num most (l.drop k)).2.1.length else k
theorem ret3 {a b c d e f : Int} (h1 : a = d) (h2 : b = e) (h3 : c = f) : Ending.returned (.tuple #[.int .i64 a, .int .i64 b, .int .i64 c]) = .returned (.tuple #[.int .i64 d, .int .i64 e, .int .i64 f]) := by rw [h1, h2, h3]
theorem drop_get (l : List UInt8) (k j : Nat) (h : k + j < l.length) : (l.drop k)[j]'(by rw [List.length_drop]; omega) = l[k + j] := by rw [List.getElem_drop]
/-- what the loop over the digits keeps -/
def RNumSt (most : Nat) (l : List UInt8) (k D g : Nat) (e n : Value) : Prop :=
  ∃ p : Nat, k ≤ p ∧ p + g = k + D ∧ e = .int .i64 (p : Int) ∧ n = .int .i64 ((Lat.acc most ((l.drop k).take (p - k)) : Nat) : Int)
theorem acc_le (most : Nat) (l : List UInt8) (hd : ∀ b ∈ l, Lat.dig b = true) : Lat.acc most l ≤ 10 * most + 9 := by
  rcases Lat.acc_val most l hd with h | h <;> omega
theorem take_dig (m : List UInt8) (j : Nat) (h : j ≤ (Lat.digs m).length) : ∀ b ∈ m.take j, Lat.dig b = true := by
  intro b hb
  have e : m.take j = (Lat.digs m).take j := by
    conv => lhs; rw [← List.take_append_drop (Lat.digs m).length m, Lat.take_digs, List.take_append_of_le_length h]
  rw [e] at hb
  exact Lat.digs_dig m b (List.mem_of_mem_take hb)
theorem acc_next (most : Nat) (l : List UInt8) (k p : Nat) (hk : k ≤ p) (h : p < l.length) :
    Lat.acc most ((l.drop k).take (p + 1 - k)) = if Lat.acc most ((l.drop k).take (p - k)) ≤ most then Lat.acc most ((l.drop k).take (p - k)) * 10 + (l[p].toNat - 48) else Lat.acc most ((l.drop k).take (p - k)) := by
  have h1 : p - k < (l.drop k).length := by rw [List.length_drop]; omega
  have h2 : (l.drop k)[p - k] = l[p] := by
    rw [List.getElem_drop]; congr 1; omega
  rw [show p + 1 - k = (p - k) + 1 by omega, List.take_succ_eq_append_getElem h1, Lat.acc_snoc, h2]
theorem dig_in (l : List UInt8) (k p : Nat) (hk : k ≤ p) (hp : p < k + (Lat.digs (l.drop k)).length) (h : p < l.length) : 48 ≤ l[p].toNat ∧ l[p].toNat ≤ 57 := by
  have h1 : p - k < (l.drop k).length := by rw [List.length_drop]; omega
  have := Lat.dig_at (l.drop k) (p - k) h1 (by omega)
  have h2 : (l.drop k)[p - k] = l[p] := by
    rw [List.getElem_drop]; congr 1; omega
  rw [h2] at this
  exact Lat.dig_bounds this
theorem dig_out (l : List UInt8) (k : Nat) (h : k + (Lat.digs (l.drop k)).length < l.length) : ¬ (48 ≤ l[k + (Lat.digs (l.drop k)).length].toNat ∧ l[k + (Lat.digs (l.drop k)).length].toNat ≤ 57) := by
  have h1 : (Lat.digs (l.drop k)).length < (l.drop k).length := by rw [List.length_drop]; omega
  have := Lat.dig_not (l.drop k) h1
  have h2 : (l.drop k)[(Lat.digs (l.drop k)).length] = l[k + (Lat.digs (l.drop k)).length] := List.getElem_drop ..
  rw [h2] at this
  intro hh
  rw [Lat.dig_of hh.1 hh.2] at this
  cases this
set_option maxHeartbeats 2000000 in
/-- the loop over the digits: where it ends, the number counted so far -/
theorem rnumber_any (l : List UInt8) (k most : Nat) (w : World) (hl : l.length ≤ 1000) (hk : k ≤ l.length) (hm : most ≤ 31) :
    Calls Tryd.prog 30 #[.string (ofL l), .int .i64 (k : Int), .int .i64 (most : Int)] w fun e w' => e = .returned (.tuple #[.int .i64 (refEnd most l k : Int), .int .i64 ((Lat.num most (l.drop k)).1 : Int), .int .i64 ((Lat.num most (l.drop k)).2.2 : Int)]) ∧ w = w' := by
  have hD : (Lat.digs (l.drop k)).length ≤ l.length - k := by have := Lat.digs_le (l.drop k); rw [List.length_drop] at this; exact this
  have hsz : (ofL l).size = l.length := ofL_size l
  have HIN := Lib.hid (dig_in l k)
  have HOUT := Lib.hid (dig_out l k)
  have HNX := Lib.hid (acc_next most l k)
  have HTK := Lib.hid (fun j hj => acc_le most _ (take_dig (l.drop k) j hj))
  have hget : ∀ p (h : p < l.length), (ofL l)[p]'(by rw [hsz]; exact h) = l[p] := fun p h => rfl
  have HG := Lib.hid hget
  have hst : RNumSt most l k (Lat.digs (l.drop k)).length (Lat.digs (l.drop k)).length (.int .i64 (k : Int)) (.int .i64 0) := ⟨k, Nat.le_refl _, rfl, rfl, by rw [Nat.sub_self]; rfl⟩
  have HST := Lib.hid hst
  clear hget hst
  go_enter Tryd.func30, Tryd.ntmps30
  go_wp2_with fail
  go_loopg [9, 10] (Lat.digs (l.drop k)).length (fun g e n wr => RNumSt most l k (Lat.digs (l.drop k)).length g e n ∧ wr = w)
  case atStart => exact ⟨HST.out, rfl⟩
  case round =>
    obtain ⟨⟨p, hkp, hpg, rfl, rfl⟩, rfl⟩ := hrel
    by_cases hlt : p < k + (Lat.digs (l.drop k)).length
    · have hpl : p < l.length := by omega
      have hps : p < (ofL l).size := by omega
      have hb := HIN.out p hkp hlt hpl
      have hb1 : 48 ≤ (ofL l)[p].toNat := by rw [HG.out p hpl]; exact hb.1
      have hb2 : (ofL l)[p].toNat ≤ 57 := by rw [HG.out p hpl]; exact hb.2
      have HN := Lib.hid (HNX.out p hkp hpl)
      have hA := HTK.out (p - k) (by omega)
      have HGP := Lib.hid (HG.out p hpl)
      clear hb
      generalize Lat.acc most ((l.drop k).take (p - k)) = A at *
      by_cases hle : A ≤ most
      · rw [if_pos hle] at HN
        go_wp2_with fail
        go_roundg (gk - 1)
        case rel => exact ⟨⟨p + 1, by omega, by omega, by go_num, by rw [HN.out, ← HGP.out]; go_num⟩, rfl⟩
        case measure => omega
      · rw [if_neg hle] at HN
        go_wp2_with fail
        go_roundg (gk - 1)
        case rel => exact ⟨⟨p + 1, by omega, by omega, by go_num, by rw [HN.out]⟩, rfl⟩
        case measure => omega
    · have e : p = k + (Lat.digs (l.drop k)).length := by omega
      have e0 : (l.drop k).take (p - k) = Lat.digs (l.drop k) := by rw [e, Nat.add_sub_cancel_left]; exact Lat.take_digs _
      rw [e0]
      have hav := Lat.acc_val most _ (Lat.digs_dig (l.drop k))
      have hx : (∃ h : p < (ofL l).size, 48 ≤ (ofL l)[p].toNat ∧ ¬ (ofL l)[p].toNat ≤ 57) ∨ (∃ h : p < (ofL l).size, ¬ 48 ≤ (ofL l)[p].toNat) ∨ ¬ p < (ofL l).size := by
        by_cases hend : p < l.length
        · have ho := HOUT.out (by omega)
          have hb : ¬ (48 ≤ l[p].toNat ∧ l[p].toNat ≤ 57) := by subst e; exact ho
          by_cases h48 : 48 ≤ l[p].toNat
          · exact Or.inl ⟨by omega, h48, fun h => hb ⟨h48, h⟩⟩
          · exact Or.inr (Or.inl ⟨by omega, h48⟩)
        · exact Or.inr (Or.inr (by omega))
      have HX := Lib.hid hx
      clear hx
      have HFIN := Lib.hid (show (Lat.num most (l.drop k)).2.2 = 0 → refEnd most l k = l.length - (Lat.num most (l.drop k)).2.1.length from fun h => by unfold refEnd; rw [if_pos h])
      have HBAD := Lib.hid (show (Lat.num most (l.drop k)).2.2 ≠ 0 → refEnd most l k = k from fun h => by unfold refEnd; rw [if_neg h])
      have hdl : (l.drop k).length = l.length - k := List.length_drop
      clear e0
      by_cases h0 : (l.drop k).length = 0
      · have hR := Lat.num_short (most := most) h0
        have HE := Lib.hid (HBAD.out (by rw [hR]; simp))
        have HR := Lib.hid hR
        have hpk : p = k := by omega
        have hks : ¬ k < (ofL l).size := by omega
        clear e HFIN HBAD hR hdl h0
        subst hpk
        rcases HX.out with ⟨h, h1, h2⟩ | ⟨h, h1⟩ | h
        · exact absurd h hks
        · exact absurd h hks
        · clear hks hav
          generalize Lat.acc most (Lat.digs (l.drop p)) = A at *
          go_wp2_with fail
          go_ret3
          exact ⟨ret_three (by rw [HE.out]; rfl) (by rw [HR.out]; rfl) (by rw [HR.out]; rfl), rfl⟩
      · by_cases h1 : (Lat.digs (l.drop k)).length = 0
        · have hR := Lat.num_form (most := most) h0 h1
          have HE := Lib.hid (HBAD.out (by rw [hR]; simp))
          have HR := Lib.hid hR
          have hpk : p = k := by omega
          have hks : k < (ofL l).size := by omega
          clear e HFIN HBAD hR hdl h0 h1
          subst hpk
          rcases HX.out with ⟨h, h1, h2⟩ | ⟨h, h1⟩ | h
          · clear hks hav
            generalize Lat.acc most (Lat.digs (l.drop p)) = A at *
            go_wp2_with fail
            go_ret3
            exact ⟨ret_three (by rw [HE.out]; rfl) (by rw [HR.out]; rfl) (by rw [HR.out]; rfl), rfl⟩
          · clear hks hav
            generalize Lat.acc most (Lat.digs (l.drop p)) = A at *
            go_wp2_with fail
            go_ret3
            exact ⟨ret_three (by rw [HE.out]; rfl) (by rw [HR.out]; rfl) (by rw [HR.out]; rfl), rfl⟩
          · exact absurd hks h
        · have hkp' : ¬ p = k := by omega
          have hkl : k < l.length := by omega
          have hks : k < (ofL l).size := by omega
          have hh : (l.drop k).head? = some l[k] := by
            rw [List.head?_eq_getElem?, List.getElem?_eq_getElem (by omega)]
            rw [List.getElem_drop]; rfl
          have heqk : ((p : Int) == (k : Int)) = false := beq_eq_false_iff_ne.2 (by omega)
          by_cases h2 : 1 < (Lat.digs (l.drop k)).length ∧ (l.drop k).head? = some 48
          · have hR := Lat.num_nought (most := most) h2.1 h2.2
            have HE := Lib.hid (HBAD.out (by rw [hR]; simp))
            have HR := Lib.hid hR
            have hk48 : (((ofL l)[k].toNat : Int) == 48) = true := by
              have := h2.2
              rw [hh, Option.some_inj] at this
              have e48 : (ofL l)[k] = 48 := this
              rw [e48]; rfl
            have hgt : k + 1 < p := by have := h2.1; omega
            clear e HFIN HBAD hR hdl h0 h1 h2 hav hkp' hh
            generalize Lat.acc most (Lat.digs (l.drop k)) = A at *
            rcases HX.out with ⟨h, h1, h2⟩ | ⟨h, h1⟩ | h
            all_goals
              go_wp2_with fail
              go_ret3
              exact ⟨ret_three (by rw [HE.out]; rfl) (by rw [HR.out]; rfl) (by rw [HR.out]; rfl), rfl⟩
          · have hq : ¬ k + 1 < p ∨ (((ofL l)[k].toNat : Int) == 48) = false := by
              by_cases hg : k + 1 < p
              · right
                cases hb : (((ofL l)[k].toNat : Int) == 48)
                · rfl
                · exfalso
                  refine h2 ⟨by omega, ?_⟩
                  rw [hh]
                  have : (ofL l)[k].toNat = 48 := by have := beq_iff_eq.1 hb; omega
                  have e48 : l[k] = 48 := UInt8.toNat_inj.1 this
                  rw [e48]
              · exact Or.inl hg
            by_cases h3 : most < Lat.val (Lat.digs (l.drop k))
            · have hR := Lat.num_range (most := most) h1 h2 h3
              have HE := Lib.hid (HBAD.out (by rw [hR]; simp))
              have HR := Lib.hid hR
              have hA : (most : Int) < ((Lat.acc most (Lat.digs (l.drop k)) : Nat) : Int) := by omega
              clear e HFIN HBAD hR hdl h0 h1 h2 h3 hav hkp' hh
              generalize Lat.acc most (Lat.digs (l.drop k)) = A at *
              rcases hq with hq | hq
              all_goals rcases HX.out with ⟨h, h1, h2⟩ | ⟨h, h1⟩ | h
              all_goals
                go_wp2_with fail
                all_goals
                  go_ret3
                  exact ⟨ret_three (by rw [HE.out]; rfl) (by rw [HR.out]; rfl) (by rw [HR.out]; rfl), rfl⟩
            · have hR := Lat.num_ok (most := most) h1 h2 h3
              have hE := HFIN.out (by rw [hR])
              rw [hR] at hE
              have HE := Lib.hid (show refEnd most l k = p by rw [hE, List.length_drop, hdl]; omega)
              have HR := Lib.hid hR
              have hAv : Lat.acc most (Lat.digs (l.drop k)) = Lat.val (Lat.digs (l.drop k)) := by omega
              have HV := Lib.hid hAv
              have hA : ¬ (most : Int) < ((Lat.acc most (Lat.digs (l.drop k)) : Nat) : Int) := by omega
              clear e HFIN HBAD hR hdl h0 h1 h2 h3 hav hkp' hh hE hAv
              generalize Lat.acc most (Lat.digs (l.drop k)) = A at *
              rcases hq with hq | hq
              all_goals rcases HX.out with ⟨h, h1, h2⟩ | ⟨h, h1⟩ | h
              all_goals
                go_wp2_with fail
                all_goals
                  go_ret3
                  exact ⟨ret_three (by rw [HE.out]; rfl) (by rw [HR.out, ← HV.out]; rfl) (by rw [HR.out]; rfl), rfl⟩
end Go.Proofs.YtchfddlfpcgbbaaDoor
