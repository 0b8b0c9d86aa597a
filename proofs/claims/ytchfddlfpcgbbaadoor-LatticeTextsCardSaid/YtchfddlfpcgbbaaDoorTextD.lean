/-
  THE DOCUMENT's OWN LABEL OF A TEXT, walked.
-/
import Derived.Test.YtchfddlfpcgbbaaDoorTextC
import Derived.BigQuiet
import Derived.Deep.QuietTactic
import Derived.Deep.RegionHeld3
namespace Go.Proofs.YtchfddlfpcgbbaaDoor
open Go.ChangeShapes Go.WideShapes Go.ChangeAt Go.RowKit

theorem num_rest {most : Nat} {m : List UInt8} (h : (Lat.num most m).2.2 = 0) : (Lat.num most m).2.1 = m.drop (m.length - (Lat.num most m).2.1.length) := by
  have hd := Lat.digs_le m
  by_cases h0 : m.length = 0
  · rw [Lat.num_short h0] at h; simp at h
  · by_cases h1 : (Lat.digs m).length = 0
    · rw [Lat.num_form h0 h1] at h; simp at h
    · by_cases h2 : 1 < (Lat.digs m).length ∧ m.head? = some 48
      · rw [Lat.num_nought h2.1 h2.2] at h; simp at h
      · by_cases h3 : most < Lat.val (Lat.digs m)
        · rw [Lat.num_range h1 h2 h3] at h; simp at h
        · rw [Lat.num_ok h1 h2 h3]
          show m.drop (Lat.digs m).length = m.drop (m.length - (m.drop (Lat.digs m).length).length)
          rw [List.length_drop, Nat.sub_sub_self hd]
theorem end_drop {most : Nat} {l : List UInt8} {k : Nat} (hk : k ≤ l.length) (h : (Lat.num most (l.drop k)).2.2 = 0) : l.drop (refEnd most l k) = (Lat.num most (l.drop k)).2.1 ∧ refEnd most l k ≤ l.length ∧ k ≤ refEnd most l k := by
  have hr := num_rest h
  have hlen := Lat.num_len most (l.drop k)
  have hdl : (l.drop k).length = l.length - k := List.length_drop
  unfold refEnd
  rw [if_pos h]
  refine ⟨?_, by omega, by omega⟩
  have e : k + ((l.drop k).length - (Lat.num most (l.drop k)).2.1.length) = l.length - (Lat.num most (l.drop k)).2.1.length := by omega
  rw [List.drop_drop, e] at hr
  exact hr.symm
/-- the label that comes out of a level and of what stands behind it -/
def fin (lv : Nat) (R : Nat × Nat) : Nat × Nat × Nat := if R.2 ≠ 0 then (0, 0, R.2) else (lv, R.1, 0)
theorem parse_fin {l : List UInt8} (h : (Lat.num 15 l).2.2 = 0) : Lat.parse l = fin (Lat.num 15 l).1 (Lat.set l.length 0 (Lat.num 15 l).2.1) := by
  unfold Lat.parse fin
  rw [if_neg (by omega)]
theorem fin_bad {lv c : Nat} (s : Nat) (h : c ≠ 0) : fin lv (s, c) = (0, 0, c) := by unfold fin; rw [if_pos h]
theorem fin_ok (lv s : Nat) : fin lv (s, 0) = (lv, s, 0) := by unfold fin; rw [if_neg (by simp)]
theorem add_bit {cur n : Nat} (h : cur < 2 ^ n ∧ 2 ^ n ≤ 2147483648) : ((cur : Int) + 2 ^ n) % 4294967296 = ((cur + 2 ^ n : Nat) : Int) := by
  have e0 : (2 ^ n : Int) = ((2 ^ n : Nat) : Int) := by rw [Int.natCast_pow]; rfl
  rw [e0]; omega
theorem box_far {b c i : Nat} {x y : Value} {w : World} (h : Box b x y w) (v : Value) (hc : c ≠ b) : Box b x y (w.setCell ⟨c, i, none⟩ v).drew :=
  ⟨(World.cell?_setCell_other _ _ _ _ (by simp only [ne_eq, Addr.mk.injEq, not_and]; omega)).trans h.1, (World.cell?_setCell_other _ _ _ _ (by simp only [ne_eq, Addr.mk.injEq, not_and]; omega)).trans h.2.1, fun j => by
    show (w.setCell ⟨c, i, none⟩ v).frozen? _ = false
    rw [World.frozen?_setCell]; exact h.2.2 j⟩
theorem box_second {b : Nat} {x y y' z : Value} {w : World} (h : Box b x y w) (hz : z = y') : Box b x y' (w.setCell ⟨b, 1, none⟩ z).drew := by
  subst hz
  exact ⟨(World.cell?_setCell_other _ _ _ _ (ne_cell b 1 0 (by decide))).trans h.1, World.cell?_setCell_same _ _ _ h.2.1, fun j => by
    show (w.setCell ⟨b, 1, none⟩ z).frozen? _ = false
    rw [World.frozen?_setCell]; exact h.2.2 j⟩
/-- what the document's loop keeps -/
def ParSt (l : List UInt8) (lv : Nat) (R : Nat × Nat) (w : World) (g : Nat) (a z : Value) (wr : World) : Prop :=
  ∃ k cur i f : Nat, a = .int .i64 (k : Int) ∧ z = .int .i64 ((i : Int) - 1) ∧ Lat.At cur i ∧ i ≤ 32 ∧ k ≤ l.length ∧ (l.drop k).length ≤ f ∧ (l.drop k).length = g ∧ Lat.set f cur (l.drop k) = R ∧
    Box w.heap.size (.int .u8 0) (.int .u32 0) wr ∧ Box (w.heap.size + 1) (.int .u8 (lv : Int)) (.int .u32 (cur : Int)) wr ∧ Below w.heap.size w wr ∧ w.heap.size + 1 < wr.heap.size
set_option maxHeartbeats 4000000 in
theorem rparse_any (l : List UInt8) (w : World) (hl : l.length ≤ 1000) :
    Calls Tryd.prog 10 #[.string (ofL l)] w fun e w' => e = .returned (.tuple #[.agg #[.int .u8 ((Lat.parse l).1 : Int), .int .u32 ((Lat.parse l).2.1 : Int)], .int .i64 ((Lat.parse l).2.2 : Int)]) ∧ Below w.heap.size w w' := by
  have HN := Lib.hid (fun k most W hk hm => rnumber_any l k most W hl hk hm)
  have hsz : (ofL l).size = l.length := ofL_size l
  have hle := Lat.num_le 15 l
  have HB0 := Lib.hid (Box.new (.int .u8 0) (.int .u32 0) 24 w)
  by_cases h1 : (Lat.num 15 l).2.2 = 0
  · have HP := Lib.hid (parse_fin h1)
    have hend := end_drop (most := 15) (l := l) (k := 0) (Nat.zero_le _) (by rw [List.drop_zero]; exact h1)
    have hn0 := HN.out 0 15
    rw [List.drop_zero] at hn0 hend
    have hc1 := code_eq h1
    have hst : ParSt l (Lat.num 15 l).1 (Lat.set l.length 0 (Lat.num 15 l).2.1) w (l.drop (refEnd 15 l 0)).length (.int .i64 (refEnd 15 l 0 : Int)) (.int .i64 (-1))
        ((w.alloc (.cells #[.int .u8 0, .int .u32 0] 24)).alloc (.cells #[.int .u8 ((Lat.num 15 l).1 : Int), .int .u32 0] 24)) := by
      refine ⟨refEnd 15 l 0, 0, 0, l.length, rfl, rfl, Or.inl ⟨rfl, rfl⟩, by omega, hend.2.1, ?_, rfl, by rw [hend.1], HB0.out.below ((Below.refl _ _).alloc (Nat.le_refl _) _) (by simp), ?_, ((Below.refl _ _).alloc (Nat.le_refl _) _).alloc (by simp) _, by simp⟩
      · rw [List.length_drop]; omega
      · have := Box.new (.int .u8 ((Lat.num 15 l).1 : Int)) (.int .u32 0) 24 (w.alloc (.cells #[.int .u8 0, .int .u32 0] 24))
        simpa using this
    have HST := Lib.hid hst
    have HN0 := Lib.hid (fun W => hn0 W (Nat.zero_le _) (by omega))
    generalize Lat.parse l = PL at *
    generalize Lat.set l.length 0 (Lat.num 15 l).2.1 = R at *
    generalize Lat.num 15 l = N at *
    obtain ⟨lv, rest, code⟩ := N
    simp only at *
    clear h1 hst hn0 hend
    generalize (l.drop (refEnd 15 l 0)).length = g0 at *
    generalize refEnd 15 l 0 = e0 at *
    go_enter Tryd.func10, Tryd.ntmps10
    go_wp2_with fail
    refine (HN0.out _).mono ?_
    rintro e w' ⟨rfl, rfl⟩
    go_wp2_with fail
    go_loopg [4, 8] g0 (fun g a z wr => ParSt l lv R w g a z wr)
    case atStart => exact HST.out
    case round =>
      obtain ⟨k, cur, i, f, rfl, rfl, hat, hi, hk, hf, hg, hR, b0, b1, hB, hz⟩ := hrel
      have B0 := Lib.hid b0
      have B1 := Lib.hid b1
      have HB := Lib.hid hB
      clear hB
      by_cases hlt : k < l.length
      · have hks : k < (ofL l).size := by omega
        obtain ⟨b, hcons, hgb⟩ : ∃ b, l.drop k = b :: l.drop (k + 1) ∧ (ofL l)[k] = b := ⟨l[k], List.drop_eq_getElem_cons hlt, rfl⟩
        have HGB := Lib.hid hgb
        clear hgb
        rw [hcons] at hR hf hg
        by_cases hb : b = 58
        · rw [hb] at hR
          have hb58 : (((ofL l)[k].toNat : Int) != 58) = false := by rw [HGB.out, hb]; rfl
          obtain ⟨f, rfl⟩ : ∃ f', f = f' + 1 := ⟨f - 1, by rw [List.length_cons] at hf; omega⟩
          have HNK := Lib.hid (fun W => HN.out (k + 1) 31 W (by omega) (by omega))
          have hnle := Lat.num_le 31 (l.drop (k + 1))
          have hend := fun h => end_drop (most := 31) (l := l) (k := k + 1) (by omega) h
          have hlen := Lat.num_len 31 (l.drop (k + 1))
          by_cases h3 : (Lat.num 31 (l.drop (k + 1))).2.2 = 0
          · obtain ⟨hd, hd2, hd3⟩ := hend h3
            have hc3 := code_eq h3
            by_cases h4 : cur / 2 ^ (Lat.num 31 (l.drop (k + 1))).1 = 0
            · rw [Lat.set_next h3 h4, ← hd] at hR
              have hin := hat.le h4
              have HAT := Lib.hid (hat.next hin)
              have HBIT := Lib.hid (bit_lt h4 hnle)
              have HR := Lib.hid hR
              have hgl : (l.drop (refEnd 31 l (k + 1))).length < gk := by rw [hd, ← hg, List.length_cons]; omega
              have hfl : (l.drop (refEnd 31 l (k + 1))).length ≤ f := by rw [hd]; rw [List.length_cons] at hf; omega
              generalize Lat.num 31 (l.drop (k + 1)) = M at *
              obtain ⟨n, r2, code2⟩ := M
              simp only at *
              obtain ⟨q0, q1, q2⟩ := b1
              clear hd h3 h4 hR hend hcons hb hf hg hat
              generalize refEnd 31 l (k + 1) = e1 at *
              go_wp2_with fail
              refine (HNK.out _).mono ?_
              rintro e w' ⟨rfl, rfl⟩
              go_wp2_with fail
              go_region
              all_goals
                go_wp2_with fail
                go_roundg (l.drop e1).length
                case rel => exact ⟨e1, cur + 2 ^ n, n + 1, f, rfl, by go_num, HAT.out, by omega, hd2, hfl, rfl, HR.out, (box_far B0.out _ (by simp)), box_second B1.out (by rw [add_bit HBIT.out]), (HB.out.setCell (by simp) _).drew, by simpa [World.setCell] using hz⟩
                case measure => exact hgl
            · rw [Lat.set_there h3 h4] at hR
              have HX := Lib.hid (show PL = (0, 0, 4) by rw [HP.out, ← hR, fin_bad _ (by decide)])
              have hin : (Lat.num 31 (l.drop (k + 1))).1 < i := by
                rcases Nat.lt_or_ge (Lat.num 31 (l.drop (k + 1))).1 i with h | h
                · exact h
                · exact absurd (hat.div h) h4
              generalize Lat.num 31 (l.drop (k + 1)) = M at *
              obtain ⟨n, r2, code2⟩ := M
              simp only at *
              obtain ⟨p0, p1, p2⟩ := b0
              clear hd h3 h4 hR hend hcons hb hf hg hat
              generalize refEnd 31 l (k + 1) = e1 at *
              go_wp2_with fail
              refine (HNK.out _).mono ?_
              rintro e w' ⟨rfl, rfl⟩
              go_wp2_with fail
              refine bodyPost_ret (v := .tuple #[.agg #[.int .u8 0, .int .u32 0], .int .i64 4]) (by simp [results, Tryd.results10, go_sem, p0, p1]) rfl ⟨by rw [HX.out]; rfl, (HB.out.setCell (by simp) _).setCell (by simp) _⟩
          · rw [Lat.set_num h3] at hR
            have hc3 := code_ne h3
            have HX := Lib.hid (show PL = (0, 0, (Lat.num 31 (l.drop (k + 1))).2.2) by rw [HP.out, ← hR, fin_bad _ h3])
            generalize Lat.num 31 (l.drop (k + 1)) = M at *
            obtain ⟨n, r2, code2⟩ := M
            simp only at *
            obtain ⟨p0, p1, p2⟩ := b0
            clear h3 hR hend hcons hb hf hg hat
            generalize refEnd 31 l (k + 1) = e1 at *
            go_wp2_with fail
            refine (HNK.out _).mono ?_
            rintro e w' ⟨rfl, rfl⟩
            go_wp2_with fail
            refine bodyPost_ret (v := .tuple #[.agg #[.int .u8 0, .int .u32 0], .int .i64 (code2 : Int)]) (by simp [results, Tryd.results10, go_sem, p0, p1]) rfl ⟨by rw [HX.out]; rfl, (HB.out.setCell (by simp) _).setCell (by simp) _⟩
        · rw [Lat.set_colon hb] at hR
          have HX := Lib.hid (show PL = (0, 0, 4) by rw [HP.out, ← hR, fin_bad _ (by decide)])
          have hb58 : (((ofL l)[k].toNat : Int) != 58) = true := by
            rw [HGB.out, bne_iff_ne]
            intro h
            exact hb (UInt8.toNat_inj.1 (by rw [show (58 : UInt8).toNat = 58 from rfl]; omega))
          obtain ⟨p0, p1, p2⟩ := b0
          clear hR hb hcons hf hg
          go_wp2_with fail
          refine bodyPost_ret (v := .tuple #[.agg #[.int .u8 0, .int .u32 0], .int .i64 4]) (by simp [results, Tryd.results10, go_sem, p0, p1]) rfl ⟨by rw [HX.out]; rfl, (HB.out.setCell (by simp) _).setCell (by simp) _⟩
      · have hkl : k = l.length := by omega
        have hnil : l.drop k = [] := List.drop_eq_nil_of_le (by omega)
        rw [hnil, Lat.set_nil] at hR
        have HX := Lib.hid (show PL = (lv, cur, 0) by rw [HP.out, ← hR, fin_ok])
        obtain ⟨p0, p1, p2⟩ := b0
        obtain ⟨q0, q1, -⟩ := b1
        clear hkl hnil hR hf hg
        go_wp2_with fail
        refine bodyPost_ret (v := .tuple #[.agg #[.int .u8 (lv : Int), .int .u32 (cur : Int)], .int .i64 0]) (by simp [results, Tryd.results10, go_sem, p0, p1]) rfl ⟨by rw [HX.out]; rfl, (HB.out.setCell (by simp) _).setCell (by simp) _⟩
  · have hX : Lat.parse l = (0, 0, (Lat.num 15 l).2.2) := parse_bad h1
    have HX := Lib.hid hX
    have hn0 := HN.out 0 15
    rw [List.drop_zero] at hn0
    have HN0 := Lib.hid (fun W => hn0 W (Nat.zero_le _) (by omega))
    have hc1 := code_ne h1
    clear hn0 hX
    generalize Lat.parse l = PL at *
    generalize Lat.num 15 l = N at *
    obtain ⟨lv, rest, code⟩ := N
    simp only at *
    clear h1
    obtain ⟨p0, p1, p2⟩ := HB0.out
    generalize refEnd 15 l 0 = e0 at *
    go_enter Tryd.func10, Tryd.ntmps10
    go_wp2_with fail
    refine (HN0.out _).mono ?_
    rintro e w' ⟨rfl, rfl⟩
    go_wp2_with fail
    refine bodyPost_ret (v := .tuple #[.agg #[.int .u8 0, .int .u32 0], .int .i64 (code : Int)]) (by simp [results, Tryd.results10, go_sem]) rfl ⟨by rw [HX.out]; rfl, (Below.refl _ _).alloc (Nat.le_refl _) _⟩
end Go.Proofs.YtchfddlfpcgbbaaDoor
