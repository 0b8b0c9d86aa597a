/-
  A POLICY'S TEXT: its numbers; what reads a line's words, walked: the program's.
-/
import Derived.Test.YtokljdaofjgihaaGreatDoorParA
import Derived.Lib.SmallJoins
namespace Go.Proofs.YtokljdaofjgihaaGreatDoor
open Go.ChangeShapes Go.WideShapes Go.ChangeAt Go.RowKit

/-- what of the library's own variables is leant on lies -/
structure Env (w : World) : Prop where
  len : Len w
  rng : ∃ ev, w.cell? ⟨5, 0, none⟩ = some ev ∧ (ev = .nilIface ∨ ∃ te pe, ev = .iface te pe)
theorem Env.on {w w' : World} (h : Env w) (hb : Below w.heap.size w w') : Env w' := by
  refine ⟨h.len.on hb, ?_⟩
  obtain ⟨ev, hc, hev⟩ := h.rng
  exact ⟨ev, (hb.cell (p := ⟨5, 0, none⟩) (World.block_lt_of_cell? w _ hc)).trans hc, hev⟩
def isDigs (l : List UInt8) : Bool := !l.isEmpty && l.all Lat.dig
theorem digs_take (l : List UInt8) (k : Nat) (h : k < l.length) : (l.take (k + 1)).all Lat.dig = ((l.take k).all Lat.dig && Lat.dig l[k]) := by
  rw [List.take_succ_eq_append_getElem h, List.all_append]; simp
theorem digs_not {l : List UInt8} {k : Nat} (h : k < l.length) (hm : Lat.dig l[k] = false) : l.all Lat.dig = false := by
  rw [List.all_eq_false]
  exact ⟨l[k], List.getElem_mem h, by rw [hm]; simp⟩
set_option maxHeartbeats 1000000 in
theorem pDigits_any (l : List UInt8) (w : World) (hl : l.length ≤ 100000) : Calls Tryz.prog 145 #[.string (ofL l)] w fun e w' => e = .returned (.bool (isDigs l)) ∧ w = w' := by
  have hsz : (ofL l).size = l.length := ofL_size l
  have HG : Hid (∀ p (h : p < l.length), (ofL l)[p]'(by rw [hsz]; exact h) = l[p]) := fun p h => rfl
  have HA := Lib.hid (fun k h => digs_take l k h)
  have HN := Lib.hid (fun k (h : k < l.length) => digs_not (l := l) (k := k) h)
  have HP : Hid (isDigs l = (!l.isEmpty && l.all Lat.dig)) := rfl
  generalize isDigs l = PL at *
  go_enter Tryz.func145, Tryz.ntmps145
  go_wp2_with fail
  go_loopg [6] l.length (fun g i wr => ∃ k : Nat, k + g = l.length ∧ i = .int .i64 k ∧ (l.take k).all Lat.dig = true ∧ wr = w)
  case atStart => exact ⟨0, by omega, rfl, by simp, rfl⟩
  case round =>
    obtain ⟨k, hk, rfl, hall, rfl⟩ := hrel
    have HALL := Lib.hid hall
    clear hall
    by_cases hlt : k < l.length
    · have hks : k < (ofL l).size := by omega
      have HGK := Lib.hid (HG.out k hlt)
      cases hm : Lat.dig (l[k]'hlt) with
      | true =>
        have HT := Lib.hid (show (l.take (k + 1)).all Lat.dig = true by rw [HA.out k hlt, HALL.out, hm]; rfl)
        have hb := Lat.dig_bounds hm
        rw [← HGK.out] at hb
        have hb1 : ¬ (((ofL l)[k].toNat : Int) < 48) := by omega
        have hb2 : ¬ (57 < ((ofL l)[k].toNat : Int)) := by omega
        clear hm hb
        go_wp2_with fail
        go_roundg (gk - 1)
        case rel => exact ⟨k + 1, by omega, by go_num, HT.out, rfl⟩
        case measure => omega
      | false =>
        have HF := Lib.hid (show PL = false by rw [HP.out, HN.out k hlt hm, Bool.and_false])
        by_cases hb1 : ((ofL l)[k].toNat : Int) < 48
        · clear hm
          go_wp2_with fail
          go_ret
          exact ⟨ret_bool HF.out.symm, rfl⟩
        · have hb2 : 57 < ((ofL l)[k].toNat : Int) := by
            rw [HGK.out] at hb1 ⊢
            rcases Nat.lt_or_ge 57 (l[k]'hlt).toNat with h | h
            · omega
            · rw [Lat.dig_of (by omega) h] at hm; cases hm
          clear hm
          go_wp2_with fail
          go_ret
          exact ⟨ret_bool HF.out.symm, rfl⟩
    · have hkl : k = l.length := by omega
      have HT := Lib.hid (show l.all Lat.dig = true by have := HALL.out; rw [hkl, List.take_length] at this; exact this)
      by_cases h0 : l.length = 0
      · have HF := Lib.hid (show PL = false by rw [HP.out, List.length_eq_zero_iff.1 h0]; rfl)
        have he : (ofL l) = ⟨#[]⟩ := ofL_nil h0
        have hks : ¬ k < (ofL l).size := by omega
        rw [he] at hks ⊢
        clear hkl he h0
        go_wp2_with fail
        go_ret
        exact ⟨ret_bool HF.out.symm, rfl⟩
      · have HF := Lib.hid (show PL = true by
          rw [HP.out, HT.out]
          cases l with
          | nil => simp at h0
          | cons a t => rfl)
        have he := str_ne h0
        have hks : ¬ k < (ofL l).size := by omega
        clear hkl h0
        go_wp2_with fail
        go_ret
        exact ⟨ret_bool HF.out.symm, rfl⟩
theorem isNum_digs (l : List UInt8) : Pl.isNum l = (isDigs l && !(decide (1 < l.length) && l.head? == some 48)) := rfl
theorem ret_pair {a b a' b' : Value} (h : a = a') (h2 : b = b') : Ending.returned (.tuple #[a, b]) = .returned (.tuple #[a', b']) := by rw [h, h2]
theorem bytes_below (w : World) (t : TypeId) (s : ByteArray) : Below w.heap.size w (Lib.bytesWorld w t s) := Joins.below_bytesWorld _ w t s (Nat.le_refl _)
set_option maxHeartbeats 2000000 in
theorem pNumber_any (l : List UInt8) (m : Nat) (w : World) (hl : l.length ≤ 100000) (hm : m < 18446744073709551616) (hE : Env w) :
    Calls Tryz.prog 129 #[.string (ofL l), .int .u64 (m : Int)] w fun e w' => e = .returned (.tuple #[.int .u64 ((Pl.num m l).1 : Int), .int .i64 ((Pl.num m l).2 : Int)]) ∧ Below w.heap.size w w' := by
  have hsz : (ofL l).size = l.length := ofL_size l
  have HD := Lib.hid (fun W => pDigits_any l W hl)
  cases hd : isDigs l with
  | false =>
    have HM := Lib.hid (show Pl.num m l = (0, 4) from Pl.num_form (by rw [isNum_digs, hd]; rfl))
    rw [hd] at HD
    clear hd
    generalize Pl.num m l = M at *
    go_enter Tryz.func129, Tryz.ntmps129
    go_wp2_with fail
    with_reducible refine (HD.out _).mono ?_
    rintro e w' ⟨rfl, rfl⟩
    go_wp2_with fail
    go_ret2
    exact ⟨by rw [HM.out]; rfl, Below.refl _ _⟩
  | true =>
    have hne : l ≠ [] := by rintro rfl; simp [isDigs] at hd
    have hlen : 0 < l.length := List.length_pos_iff.2 hne
    have hdg : ∀ b ∈ l, Lat.dig b = true := by
      have : l.all Lat.dig = true := by unfold isDigs at hd; simp only [Bool.and_eq_true] at hd; exact hd.2
      exact fun b hb => List.all_eq_true.1 this b hb
    have hh : l.head? = some (l[0]'hlen) := by cases l with | nil => exact absurd rfl hne | cons a t => rfl
    have HG0 : Hid ((ofL l)[0]'(by rw [hsz]; exact hlen) = l[0]'hlen) := rfl
    have HIS := Lib.hid (isNum_digs l)
    have hs0 : 0 < (ofL l).size := by omega
    rw [hd] at HD
    by_cases h1 : 1 < l.length ∧ l[0]'hlen = 48
    · have HM := Lib.hid (show Pl.num m l = (0, 4) from Pl.num_form (by rw [HIS.out, hd, hh, h1.2]; simp [h1.1]))
      have h1s : 1 < (ofL l).size := by omega
      have h48 : (((ofL l)[0].toNat : Int) == 48) = true := by rw [HG0.out, h1.2]; rfl
      generalize Pl.num m l = M at *
      clear hd h1 hdg hh HG0 hlen
      go_enter Tryz.func129, Tryz.ntmps129
      go_wp2_with fail
      with_reducible refine (HD.out _).mono ?_
      rintro e w' ⟨rfl, rfl⟩
      go_wp2_with fail
      go_ret2
      exact ⟨by rw [HM.out]; rfl, Below.refl _ _⟩
    · have hin : Pl.isNum l = true := by
        rw [HIS.out, hd, hh]
        by_cases h2 : 1 < l.length
        · have : ¬ l[0]'hlen = 48 := fun e => h1 ⟨h2, e⟩
          simp [this]
        · simp [h2]
      have HOK := Lib.hid (fun h => Pl.num_ok (most := m) hin h)
      have HRG := Lib.hid (fun h => Pl.num_range (most := m) hin h)
      have hp := Pl.parse64 hne hdg
      have hgate : ¬ (1 < (ofL l).size) ∨ (1 < (ofL l).size ∧ (((ofL l)[0].toNat : Int) == 48) = false) := by
        by_cases h2 : 1 < l.length
        · right
          refine ⟨by omega, ?_⟩
          rw [HG0.out]
          refine beq_eq_false_iff_ne.2 (fun h => h1 ⟨h2, UInt8.toNat_inj.1 (by rw [show (48 : UInt8).toNat = 48 from rfl]; omega)⟩)
        · left; omega
      by_cases hbig : Lat.val l < 18446744073709551616
      · rw [if_pos hbig] at hp
        have HPU := Lib.hid (fun W => Tryz.strconv_ParseUint_10_at64_ok (ofL l) (by rw [hsz]; omega) (Lat.val l) hp W)
        clear hd hdg hh HG0 hlen hp hin h1
        generalize Pl.num m l = M at *
        generalize Lat.val l = v at *
        have HBB := Lib.hid (fun W => bytes_below W 5 (ofL l))
        by_cases hgt : m < v
        · have HM := Lib.hid (HRG.out hgt)
          rcases hgate with hg | ⟨hg, hg2⟩
          all_goals
            go_enter Tryz.func129, Tryz.ntmps129
            go_wp2_with fail
            with_reducible refine (HD.out _).mono ?_
            rintro e w' ⟨rfl, rfl⟩
            go_wp2_with fail
            with_reducible refine (HPU.out _).mono ?_
            rintro e w1 ⟨rfl, hw⟩
            have HB := Lib.hid (show Below w.heap.size w w1 by rcases hw with rfl | rfl; exact Below.refl _ _; exact HBB.out _)
            clear hw
            go_wp2_with fail
            go_ret2
            exact ⟨by rw [HM.out]; rfl, HB.out⟩
        · have HM := Lib.hid (HOK.out hgt)
          rcases hgate with hg | ⟨hg, hg2⟩
          all_goals
            go_enter Tryz.func129, Tryz.ntmps129
            go_wp2_with fail
            with_reducible refine (HD.out _).mono ?_
            rintro e w' ⟨rfl, rfl⟩
            go_wp2_with fail
            with_reducible refine (HPU.out _).mono ?_
            rintro e w1 ⟨rfl, hw⟩
            have HB := Lib.hid (show Below w.heap.size w w1 by rcases hw with rfl | rfl; exact Below.refl _ _; exact HBB.out _)
            clear hw
            go_wp2_with fail
            go_ret2
            exact ⟨by rw [HM.out]; rfl, HB.out⟩
      · rw [if_neg hbig] at hp
        obtain ⟨ev, hc, hev⟩ := hE.rng
        have HPU := Lib.hid (Tryz.strconv_ParseUint_10_at64_range (ofL l) (by rw [hsz]; omega) hp ev w hc hev)
        have HM := Lib.hid (HRG.out (by omega))
        clear hd hdg hh HG0 hlen hp hin h1 hc hev hbig
        generalize Pl.num m l = M at *
        rcases hgate with hg | ⟨hg, hg2⟩
        all_goals
          go_enter Tryz.func129, Tryz.ntmps129
          go_wp2_with fail
          with_reducible refine (HD.out _).mono ?_
          rintro e w' ⟨rfl, rfl⟩
          go_wp2_with fail
          with_reducible refine HPU.out.mono ?_
          rintro e w1 ⟨N, rfl, -, -, hB⟩
          have HB := Lib.hid hB
          clear hB
          go_wp2_with fail
          go_ret2
          exact ⟨by rw [HM.out]; rfl, HB.out⟩
end Go.Proofs.YtokljdaofjgihaaGreatDoor
