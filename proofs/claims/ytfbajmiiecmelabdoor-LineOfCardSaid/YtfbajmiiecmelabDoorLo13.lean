/-
  WORDS IN MEMORY, as they are read. THE WORDS BETWEEN POINTS, walked: the document's.
-/
import Derived.Test.YtfbajmiiecmelabDoorLo12

section
namespace Go.Proofs.YtfbajmiiecmelabDoor
open Go.ChangeShapes Go.WideShapes Go.ChangeAt Go.RowKit
/-- a row that can be read: of whatever kind of value -/
theorem row_shape {w : World} {B e : Nat} {v : Value} {n : Nat} {xs : List Value} (h : w.ownsRow B e 1 v n xs) :
    ∃ p cap, v = .slice p n cap ∧ xs.length = n ∧ ∀ j, j < n → ∃ g, p = some ⟨g, 0, none⟩ ∧ B ≤ g ∧ g < w.heap.size ∧ w.cell? ⟨g, j, none⟩ = xs[j]? := by
  obtain ⟨hl, h1 | ⟨g, cap, cur, rfl, hB, hb, h2⟩⟩ := h
  · obtain ⟨rfl, rfl⟩ := h1
    simp at hl
    subst hl
    exact ⟨none, 0, rfl, rfl, fun j hj => absurd hj (by omega)⟩
  · refine ⟨_, cap, rfl, by omega, fun j hj => ⟨g, rfl, hB, ?_, ?_⟩⟩
    · exact (Array.getElem?_eq_some_iff.1 hb).1
    · exact World.ownsRow.cellAt ⟨hl, Or.inr ⟨g, cap, cur, rfl, hB, hb, h2⟩⟩ j (by omega)
def Reads (w : World) (p : Option Addr) (ws : List (List UInt8)) : Prop := ∀ j (h : j < ws.length), ∃ g, p = some ⟨g, 0, none⟩ ∧ w.cell? ⟨g, j, none⟩ = some (.string (ofL ws[j]))
theorem strs_get (ws : List (List UInt8)) (j : Nat) (h : j < ws.length) : (strs ws)[j]? = some (.string (ofL ws[j])) := by
  unfold strs; rw [List.getElem?_map, List.getElem?_eq_getElem h]; rfl
theorem reads_own {w : World} {B : Nat} {v : Value} {ws : List (List UInt8)} (h : w.ownsRow B 9 1 v ws.length (strs ws)) : ∃ p cap, v = .slice p ws.length cap ∧ Reads w p ws := by
  obtain ⟨p, cap, rfl, _, h2⟩ := row_shape h
  refine ⟨p, cap, rfl, fun j hj => ?_⟩
  obtain ⟨g, e, _, _, hc⟩ := h2 j hj
  exact ⟨g, e, hc.trans (strs_get ws j hj)⟩
theorem Reads.on {w w' : World} {p : Option Addr} {ws : List (List UInt8)} (h : Reads w p ws) (hb : Below w.heap.size w w') : Reads w' p ws := by
  intro j hj
  obtain ⟨g, e, hc⟩ := h j hj
  refine ⟨g, e, ?_⟩
  rw [← hc]
  exact hb.cell (p := ⟨g, j, none⟩) (World.block_lt_of_cell? w _ hc)
end Go.Proofs.YtfbajmiiecmelabDoor
end
section
namespace Go.Proofs.YtfbajmiiecmelabDoor
open Go.ChangeShapes Go.WideShapes Go.ChangeAt Go.RowKit
set_option maxHeartbeats 2000000 in
theorem rsplit_any (l : List UInt8) (w : World) (hl : l.length ≤ 100000) : Calls Tryd.prog 66 #[.string (ofL l)] w (SplitPost w (Wrd.words l)) := by
  have hsz : (ofL l).size = l.length := ofL_size l
  by_cases h0 : l.length = 0
  · rw [Wrd.words_nil h0]
    have hs : (ofL l).size = 0 := by omega
    go_enter Tryd.func66, Tryd.ntmps66
    go_wp2_with fail
    go_ret
    exact ⟨_, rfl, World.ownsRow_nil _ _ _ _, Below.refl _ _⟩
  · have hs0 : ((l.length : Int) == 0) = false := beq_eq_false_iff_ne.2 (by omega)
    rw [Wrd.words_ne h0]
    have HG : Hid (∀ p (h : p < l.length), (ofL l)[p]'(by rw [hsz]; exact h) = l[p]) := fun p h => rfl
    have HX := Lib.hid (fun j k => extract_take l j k)
    have HXE := Lib.hid (fun j => show (ofL l).extract j l.length = ofL (l.drop j) by rw [← hsz, extract_drop]; rfl)
    obtain ⟨i0, hi0, hz0, hz1, hz2⟩ := info_parts info9
    clear h0
    go_enter Tryd.func66, Tryd.ntmps66
    go_wp2_with fail
    go_loopg [3, 4, 5] l.length (fun g o f i wr => CutSt l w g o f i wr)
    case atStart => exact ⟨0, 0, [], by omega, by omega, rfl, rfl, World.ownsRow_nil _ _ _ _, by simp, by simp, by simp, Below.refl _ _⟩
    case round =>
      obtain ⟨k, j, D, hk, hjk, rfl, rfl, hown, hDl, hcut, hno, hB⟩ := hrel
      have HO := Lib.hid hown
      have HB := Lib.hid hB
      have HC := Lib.hid hcut
      have HNO := Lib.hid hno
      clear hown hB hcut hno
      by_cases hlt : k < l.length
      · have hks : k < (ofL l).size := by omega
        obtain ⟨b, hgb, hcons⟩ : ∃ b, (ofL l)[k] = b ∧ l.drop k = b :: l.drop (k + 1) := ⟨l[k]'hlt, rfl, List.drop_eq_getElem_cons hlt⟩
        have HGB := Lib.hid hgb
        have HCONS := Lib.hid hcons
        clear hgb hcons
        by_cases hb : b = 46
        · have h46 : (((ofL l)[k].toNat : Int) == 46) = true := by rw [HGB.out, hb]; rfl
          have HBB := Lib.hid hb
          clear hb
          go_wp2_with (first
            | (at_builtin; refine wpList_append_own _ rfl _ _ 92 rfl w.heap.size 9 i0 (.string ⟨#[]⟩) 1 16 Tryd.underlying92 hi0 hz0 hz1 hz2 rfl (by decide) _ _ _ rfl (HO.out.alloc _) ⟨wr.heap.size, 0, none⟩ 1 1 [.string ((ofL l).extract j k)] rfl rfl ?c1 ?c2 ?c3 ?c4 ?c5 ?_))
          case c1 =>
            intro q u hq
            match q, hq with
            | 0, hq => simp at hq; subst hq; simp [Addr.add]
          case c2 => intro u hu; simp at hu; subst hu; rfl
          case c3 => unfold maxLen; omega
          case c4 => omega
          case c5 => have := HB.out.size; simp; omega
          · intro v' w1 hown' hgrow _
            have HOW := Lib.hid hown'
            have HBE := Lib.hid (below_own HB.out HO.out _ hgrow)
            clear hown' hgrow
            go_wp2_with fail
            go_roundg (gk - 1)
            case rel =>
              have hc := HCONS.out
              rw [HBB.out] at hc
              have hpc := piece_cut hjk HNO.out hc
              refine ⟨k + 1, k + 1, D ++ [(l.drop j).take (k - j)], by omega, by omega, by go_num, by go_num, ?_, by rw [List.length_append, List.length_singleton]; omega, ?_, by simp, HBE.out⟩
              · have := HOW.out
                rw [HX.out] at this
                rw [List.length_append, List.length_singleton, strs_snoc]
                exact this
              · rw [HC.out, hpc, List.append_assoc]; rfl
            case measure => omega
        · have h46 : (((ofL l)[k].toNat : Int) == 46) = false := by
            rw [HGB.out]
            exact beq_eq_false_iff_ne.2 (fun h => hb (UInt8.toNat_inj.1 (by rw [show (46 : UInt8).toNat = 46 from rfl]; omega)))
          have HBB := Lib.hid hb
          clear hb
          go_wp2_with fail
          go_roundg (gk - 1)
          case rel => exact ⟨k + 1, j, D, by omega, by omega, by go_num, rfl, HO.out, hDl, HC.out, piece_more hjk HNO.out HCONS.out HBB.out, HB.out⟩
          case measure => omega
      · have hkl : k = l.length := by omega
        have hks : ¬ k < (ofL l).size := by omega
        have hjl : j ≤ l.length := by omega
        have hnj := HNO.out
        rw [hkl, List.take_of_length_le (by rw [List.length_drop]; exact Nat.le_refl _)] at hnj
        have HE := Lib.hid (show Wrd.cut l = D ++ [l.drop j] by rw [HC.out, Wrd.cut_word hnj])
        clear hnj hkl
        go_wp2_with (first
          | (at_builtin; refine wpList_append_own _ rfl _ _ 92 rfl w.heap.size 9 i0 (.string ⟨#[]⟩) 1 16 Tryd.underlying92 hi0 hz0 hz1 hz2 rfl (by decide) _ _ _ rfl (HO.out.alloc _) ⟨wr.heap.size, 0, none⟩ 1 1 [.string ((ofL l).extract j l.length)] rfl rfl ?d1 ?d2 ?d3 ?d4 ?d5 ?_))
        case d1 =>
          intro q u hq
          match q, hq with
          | 0, hq => simp at hq; subst hq; simp [Addr.add]
        case d2 => intro u hu; simp at hu; subst hu; rfl
        case d3 => unfold maxLen; omega
        case d4 => omega
        case d5 => have := HB.out.size; simp; omega
        · intro v' w1 hown' hgrow _
          have HOW := Lib.hid hown'
          have HBE := Lib.hid (below_own HB.out HO.out _ hgrow)
          clear hown' hgrow
          go_wp2_with fail
          go_ret
          refine ⟨_, rfl, ?_, HBE.out⟩
          have := HOW.out
          rw [HXE.out] at this
          rw [HE.out, List.length_append, List.length_singleton, strs_snoc]
          exact this
end Go.Proofs.YtfbajmiiecmelabDoor
end
