/-
  THE WORDS BETWEEN POINTS, walked: the program's and the document's. WORDS IN MEMORY, as they are read. THE WORDS BETWEEN POINTS, walked: the document's.
-/
import Derived.Test.YtnjlhafhgfpfiaaGreatDoorRb05
import Derived.Test.YtnjlhafhgfpfiaaGreatDoorShelfWords
import Derived.Lib.SplitLaws
section
namespace Go.Proofs.YtnjlhafhgfpfiaaGreatDoor
open Go.ChangeShapes Go.WideShapes Go.ChangeAt Go.RowKit
/-! ### the library's pieces are the words -/
theorem splitK_cut : ∀ (n : Nat) (l : List UInt8), l.length ≤ n → Lib.splitK [46] 0 (Lib.count l [46]) l = Wrd.cut l := by
  intro n
  induction n with
  | zero =>
    intro l hl
    have : l = [] := List.length_eq_zero_iff.1 (by omega)
    subst this
    rw [Lib.count_miss (by simp [Lib.index])]
    rfl
  | succ n ih =>
    intro l hl
    by_cases hm : Lib.index l [46] = -1
    · rw [Lib.count_miss hm]
      have hno : (46 : UInt8) ∉ l := by
        rw [Lib.index_one] at hm
        intro hmem
        obtain ⟨k, hk, e⟩ := List.getElem_of_mem hmem
        exact Lib.indexByte_none hm k (by rw [List.getElem?_eq_getElem hk, e])
      rw [Wrd.cut_word hno]
      rfl
    · have hge := Lib.index_ge l [46]
      obtain ⟨i, hi⟩ : ∃ i : Nat, Lib.index l [46] = i := ⟨(Lib.index l [46]).toNat, by omega⟩
      have hc := Lib.count_hit (sub := [46]) (by simp) hi
      have hi1 := hi
      rw [Lib.index_one] at hi1
      obtain ⟨h1, h2⟩ := Lib.indexByte_some hi1
      obtain ⟨hil, he⟩ := List.getElem?_eq_some_iff.1 h1
      have hdec : l = l.take i ++ 46 :: l.drop (i + 1) := by
        have := List.take_append_drop i l
        rw [List.drop_eq_getElem_cons hil, he] at this
        exact this.symm
      have hno : (46 : UInt8) ∉ l.take i := by
        intro hmem
        obtain ⟨k, hk, e⟩ := List.getElem_of_mem hmem
        rw [List.length_take] at hk
        rw [List.getElem_take] at e
        exact h2 k (by omega) (by rw [List.getElem?_eq_getElem (by omega), e])
      have hcut : Wrd.cut l = l.take i :: Wrd.cut (l.drop (i + 1)) := by
        conv => lhs; rw [hdec]
        exact Wrd.cut_app hno _
      rw [hc, hcut, Nat.add_comm, Lib.splitK, if_neg (by rw [hi]; simp), hi]
      have e1 : ((i : Int).toNat + 0) = i := by omega
      have e2 : ((i : Int).toNat + ([46] : List UInt8).length) = i + 1 := by simp
      have e3 : i + ([46] : List UInt8).length = i + 1 := rfl
      rw [e1, e2, e3, ih _ (by rw [List.length_drop]; omega)]
def strs (ws : List (List UInt8)) : List Value := ws.map fun x => .string (ofL x)
theorem pieces_eq (l : List UInt8) : (Lib.splitB ⟨#[46]⟩ 0 (Lib.countB (ofL l) ⟨#[46]⟩) (ofL l)).map Value.string = strs (Wrd.cut l) := by
  have h := Lib.splitB_data ⟨#[46]⟩ 0 (Lib.countB (ofL l) ⟨#[46]⟩) (ofL l)
  have h2 : Lib.splitK (⟨#[46]⟩ : ByteArray).data.toList 0 (Lib.countB (ofL l) ⟨#[46]⟩) (ofL l).data.toList = Wrd.cut l := splitK_cut l.length l (Nat.le_refl _)
  rw [h2] at h
  rw [← h]
  unfold strs
  rw [List.map_map]
  apply List.map_congr_left
  intro s _
  show Value.string s = Value.string (ofL s.data.toList)
  rw [ofL_toList]
theorem pieces_len (l : List UInt8) : Lib.countB (ofL l) ⟨#[46]⟩ + 1 = (Wrd.cut l).length := by
  have h := congrArg List.length (pieces_eq l)
  rw [List.length_map, Lib.splitB_all ⟨#[46]⟩ (by decide) 0 _ _ rfl] at h
  rw [h]
  unfold strs
  rw [List.length_map]
/-- the library's own bound lies -/
def Len (w : World) : Prop := ∃ m, w.cell? ⟨1, 0, none⟩ = some (.int .i64 m)
theorem Len.pos {w : World} (h : Len w) : 1 < w.heap.size := by
  obtain ⟨m, hm⟩ := h
  exact World.block_lt_of_cell? w _ hm
theorem Len.below {w w' : World} {B : Nat} (h : Len w) (hb : Below B w w') (hB : 1 < B) : Len w' := by
  obtain ⟨m, hm⟩ := h
  exact ⟨m, (hb.cell (p := ⟨1, 0, none⟩) hB).trans hm⟩
theorem Len.on {w w' : World} (h : Len w) (hb : Below w.heap.size w w') : Len w' := h.below hb h.pos
/-- what a split leaves: a slice of the words in new memory -/
def SplitPost (w : World) (ws : List (List UInt8)) (e : Ending) (w' : World) : Prop := ∃ v, e = .returned v ∧ w'.ownsRow w.heap.size 9 1 v ws.length (strs ws) ∧ Below w.heap.size w w'
theorem own_new (w : World) (ws : List (List UInt8)) (h : ws.length ≤ maxLen) : (w.alloc (.cells (strs ws).toArray 9)).ownsRow w.heap.size 9 1 (.slice (some ⟨w.heap.size, 0, none⟩) ws.length ws.length) ws.length (strs ws) := by
  have hl : (strs ws).length = ws.length := by unfold strs; rw [List.length_map]
  refine ⟨by rw [hl, Nat.mul_one], Or.inr ⟨w.heap.size, ws.length, (strs ws).toArray, rfl, Nat.le_refl _, ?_, Nat.le_refl _, h, by rw [List.size_toArray, hl, Nat.mul_one], ?_⟩⟩
  · show (w.heap.push _)[w.heap.size]? = _
    rw [Array.getElem?_push_size]
  · rw [Nat.mul_one, ← hl]; simp
set_option maxHeartbeats 1000000 in
theorem split_any (l : List UInt8) (w : World) (hl : l.length ≤ 100000) (hL : Len w) : Calls Tryz.prog 93 #[.string (ofL l)] w (SplitPost w (Wrd.words l)) := by
  by_cases h0 : l.length = 0
  · rw [Wrd.words_nil h0, ofL_nil h0]
    go_enter Tryz.func93, Tryz.ntmps93
    go_wp2_with fail
    go_ret
    exact ⟨_, rfl, World.ownsRow_nil _ _ _ _, Below.refl _ _⟩
  · rw [Wrd.words_ne h0]
    have he := str_ne h0
    obtain ⟨m, hm⟩ := hL
    have hc := Tryz.strings_Split (ofL l) ⟨#[46]⟩ m w (by rw [ofL_size]; omega) hm (by decide)
    rw [pieces_eq, pieces_len] at hc
    have HC := Lib.hid hc
    have HO := Lib.hid (own_new w (Wrd.cut l) (by have := Wrd.cut_len l; unfold maxLen; omega))
    clear hc hm
    generalize ofL l = s at *
    go_enter Tryz.func93, Tryz.ntmps93
    go_wp2_with fail
    refine HC.out.mono ?_
    rintro e w' ⟨rfl, rfl⟩
    go_wp2_with fail
    go_ret
    exact ⟨_, rfl, HO.out, (Below.refl _ _).alloc (Nat.le_refl _) _⟩
theorem piece_cut {l : List UInt8} {j k : Nat} (hjk : j ≤ k) (hno : (46 : UInt8) ∉ (l.drop j).take (k - j)) (hc : l.drop k = 46 :: l.drop (k + 1)) : Wrd.cut (l.drop j) = (l.drop j).take (k - j) :: Wrd.cut (l.drop (k + 1)) := by
  have e : (l.drop j).drop (k - j) = l.drop k := by rw [List.drop_drop]; congr 1; omega
  have : l.drop j = (l.drop j).take (k - j) ++ 46 :: l.drop (k + 1) := by rw [← hc, ← e, List.take_append_drop]
  conv => lhs; rw [this]
  exact Wrd.cut_app hno _
theorem piece_more {l : List UInt8} {j k : Nat} {b : UInt8} (hjk : j ≤ k) (hno : (46 : UInt8) ∉ (l.drop j).take (k - j)) (hc : l.drop k = b :: l.drop (k + 1)) (hb : b ≠ 46) : (46 : UInt8) ∉ (l.drop j).take (k + 1 - j) := by
  have e : (l.drop j).drop (k - j) = l.drop k := by rw [List.drop_drop]; congr 1; omega
  have e2 : (l.drop j).take (k + 1 - j) = (l.drop j).take (k - j) ++ [b] := by
    rw [show k + 1 - j = (k - j) + 1 by omega, List.take_add, e, hc]; rfl
  rw [e2]
  intro h
  rcases List.mem_append.1 h with h | h
  · exact hno h
  · rw [List.mem_singleton] at h; exact hb h.symm
/-- what the document's loop keeps: the pieces so far, where the next one begins -/
def CutSt (l : List UInt8) (w : World) (g : Nat) (o f i : Value) (wr : World) : Prop :=
  ∃ (k j : Nat) (D : List (List UInt8)), k + g = l.length ∧ j ≤ k ∧ i = .int .i64 (k : Int) ∧ f = .int .i64 (j : Int) ∧ wr.ownsRow w.heap.size 9 1 o D.length (strs D) ∧ D.length ≤ j ∧
    Wrd.cut l = D ++ Wrd.cut (l.drop j) ∧ (46 : UInt8) ∉ (l.drop j).take (k - j) ∧ Below w.heap.size w wr
theorem info9 : (Tryz.prog.info? 9).map (fun i => (i.zero, i.size, i.bytes)) = some (some (.string ⟨#[]⟩), 1, 16) := by kernel_rfl
theorem strs_snoc (D : List (List UInt8)) (x : List UInt8) : strs (D ++ [x]) = strs D ++ [.string (ofL x)] := by unfold strs; rw [List.map_append]; rfl
theorem own_block {w : World} {B e n m : Nat} {v : Value} {xs : List Value} (h : w.ownsRow B e n v m xs) {g : Nat} (hg : v.ownBlock = some g) : B ≤ g := by
  obtain ⟨_, h | ⟨g', cap, cur, rfl, hB, _⟩⟩ := h
  · rw [h.1] at hg; cases hg
  · have : g' = g := Option.some.inj hg
    omega
theorem below_own {w wr w1 : World} {v : Value} {D : List (List UInt8)} (h : Below w.heap.size w wr) (ho : wr.ownsRow w.heap.size 9 1 v D.length (strs D)) (o : Obj) (hg : (wr.alloc o).grownBy w1 v.ownBlock) : Below w.heap.size w w1 :=
  (h.alloc h.size o).grown hg (by have := h.size; simp; omega) (fun k hk => own_block ho hk)
theorem extract_take (l : List UInt8) (j k : Nat) : (ofL l).extract j k = ofL ((l.drop j).take (k - j)) := by
  rw [← ofL_toList ((ofL l).extract j k), list_extract]; rfl
end Go.Proofs.YtnjlhafhgfpfiaaGreatDoor
end
section
namespace Go.Proofs.YtnjlhafhgfpfiaaGreatDoor
open Go.ChangeShapes Go.WideShapes Go.ChangeAt Go.RowKit
/-- a row that can be read: of whatever kind of value -/
theorem row_shape {w : World} {B e : Nat} {v : Value} {n : Nat} {xs : List Value} (h : w.ownsRow B e 1 v n xs) :
    ∃ p cap, v = .slice p n cap ∧ xs.length = n ∧ ∀ j, j < n → ∃ g, p = some ⟨g, 0, none⟩ ∧ B ≤ g ∧ g < w.heap.size ∧ w.cell? ⟨g, j, none⟩ = xs[j]? := by
  obtain ⟨hl, h1 | ⟨g, cap, cur, rfl, hB, hb, h2⟩⟩ := h
  · obtain ⟨rfl, rfl⟩ := h1
    simp at hl
    subst hl
    exact ⟨none, 0, rfl, rfl, fun j hj => absurd hj (by omega)⟩
  · refine ⟨_, cap, rfl, by omega, fun j hj => ⟨g, rfl, hB, ?_, ?_⟩⟩
    · exact (Array.getElem?_eq_some_iff.1 hb).1
    · exact World.ownsRow.cellAt ⟨hl, Or.inr ⟨g, cap, cur, rfl, hB, hb, h2⟩⟩ j (by omega)
def Reads (w : World) (p : Option Addr) (ws : List (List UInt8)) : Prop := ∀ j (h : j < ws.length), ∃ g, p = some ⟨g, 0, none⟩ ∧ w.cell? ⟨g, j, none⟩ = some (.string (ofL ws[j]))
theorem strs_get (ws : List (List UInt8)) (j : Nat) (h : j < ws.length) : (strs ws)[j]? = some (.string (ofL ws[j])) := by
  unfold strs; rw [List.getElem?_map, List.getElem?_eq_getElem h]; rfl
theorem reads_own {w : World} {B : Nat} {v : Value} {ws : List (List UInt8)} (h : w.ownsRow B 9 1 v ws.length (strs ws)) : ∃ p cap, v = .slice p ws.length cap ∧ Reads w p ws := by
  obtain ⟨p, cap, rfl, _, h2⟩ := row_shape h
  refine ⟨p, cap, rfl, fun j hj => ?_⟩
  obtain ⟨g, e, _, _, hc⟩ := h2 j hj
  exact ⟨g, e, hc.trans (strs_get ws j hj)⟩
theorem Reads.on {w w' : World} {p : Option Addr} {ws : List (List UInt8)} (h : Reads w p ws) (hb : Below w.heap.size w w') : Reads w' p ws := by
  intro j hj
  obtain ⟨g, e, hc⟩ := h j hj
  refine ⟨g, e, ?_⟩
  rw [← hc]
  exact hb.cell (p := ⟨g, j, none⟩) (World.block_lt_of_cell? w _ hc)
end Go.Proofs.YtnjlhafhgfpfiaaGreatDoor
end
section
namespace Go.Proofs.YtnjlhafhgfpfiaaGreatDoor
open Go.ChangeShapes Go.WideShapes Go.ChangeAt Go.RowKit
set_option maxHeartbeats 2000000 in
theorem rsplit_any (l : List UInt8) (w : World) (hl : l.length ≤ 100000) : Calls Tryz.prog 42 #[.string (ofL l)] w (SplitPost w (Wrd.words l)) := by
  have hsz : (ofL l).size = l.length := ofL_size l
  by_cases h0 : l.length = 0
  · rw [Wrd.words_nil h0]
    have hs : (ofL l).size = 0 := by omega
    go_enter Tryz.func42, Tryz.ntmps42
    go_wp2_with fail
    go_ret
    exact ⟨_, rfl, World.ownsRow_nil _ _ _ _, Below.refl _ _⟩
  · have hs0 : ((l.length : Int) == 0) = false := beq_eq_false_iff_ne.2 (by omega)
    rw [Wrd.words_ne h0]
    have HG : Hid (∀ p (h : p < l.length), (ofL l)[p]'(by rw [hsz]; exact h) = l[p]) := fun p h => rfl
    have HX := Lib.hid (fun j k => extract_take l j k)
    have HXE := Lib.hid (fun j => show (ofL l).extract j l.length = ofL (l.drop j) by rw [← hsz, extract_drop]; rfl)
    obtain ⟨i0, hi0, hz0, hz1, hz2⟩ := info_parts info9
    clear h0
    go_enter Tryz.func42, Tryz.ntmps42
    go_wp2_with fail
    go_loopg [3, 4, 5] l.length (fun g o f i wr => CutSt l w g o f i wr)
    case atStart => exact ⟨0, 0, [], by omega, by omega, rfl, rfl, World.ownsRow_nil _ _ _ _, by simp, by simp, by simp, Below.refl _ _⟩
    case round =>
      obtain ⟨k, j, D, hk, hjk, rfl, rfl, hown, hDl, hcut, hno, hB⟩ := hrel
      have HO := Lib.hid hown
      have HB := Lib.hid hB
      have HC := Lib.hid hcut
      have HNO := Lib.hid hno
      clear hown hB hcut hno
      by_cases hlt : k < l.length
      · have hks : k < (ofL l).size := by omega
        obtain ⟨b, hgb, hcons⟩ : ∃ b, (ofL l)[k] = b ∧ l.drop k = b :: l.drop (k + 1) := ⟨l[k]'hlt, rfl, List.drop_eq_getElem_cons hlt⟩
        have HGB := Lib.hid hgb
        have HCONS := Lib.hid hcons
        clear hgb hcons
        by_cases hb : b = 46
        · have h46 : (((ofL l)[k].toNat : Int) == 46) = true := by rw [HGB.out, hb]; rfl
          have HBB := Lib.hid hb
          clear hb
          go_wp2_with (first
            | (at_builtin; refine wpList_append_own _ rfl _ _ 87 rfl w.heap.size 9 i0 (.string ⟨#[]⟩) 1 16 Tryz.underlying87 hi0 hz0 hz1 hz2 rfl (by decide) _ _ _ rfl (HO.out.alloc _) ⟨wr.heap.size, 0, none⟩ 1 1 [.string ((ofL l).extract j k)] rfl rfl ?c1 ?c2 ?c3 ?c4 ?c5 ?_))
          case c1 =>
            intro q u hq
            match q, hq with
            | 0, hq => simp at hq; subst hq; simp [Addr.add]
          case c2 => intro u hu; simp at hu; subst hu; rfl
          case c3 => unfold maxLen; omega
          case c4 => omega
          case c5 => have := HB.out.size; simp; omega
          · intro v' w1 hown' hgrow _
            have HOW := Lib.hid hown'
            have HBE := Lib.hid (below_own HB.out HO.out _ hgrow)
            clear hown' hgrow
            go_wp2_with fail
            go_roundg (gk - 1)
            case rel =>
              have hc := HCONS.out
              rw [HBB.out] at hc
              have hpc := piece_cut hjk HNO.out hc
              refine ⟨k + 1, k + 1, D ++ [(l.drop j).take (k - j)], by omega, by omega, by go_num, by go_num, ?_, by rw [List.length_append, List.length_singleton]; omega, ?_, by simp, HBE.out⟩
              · have := HOW.out
                rw [HX.out] at this
                rw [List.length_append, List.length_singleton, strs_snoc]
                exact this
              · rw [HC.out, hpc, List.append_assoc]; rfl
            case measure => omega
        · have h46 : (((ofL l)[k].toNat : Int) == 46) = false := by
            rw [HGB.out]
            exact beq_eq_false_iff_ne.2 (fun h => hb (UInt8.toNat_inj.1 (by rw [show (46 : UInt8).toNat = 46 from rfl]; omega)))
          have HBB := Lib.hid hb
          clear hb
          go_wp2_with fail
          go_roundg (gk - 1)
          case rel => exact ⟨k + 1, j, D, by omega, by omega, by go_num, rfl, HO.out, hDl, HC.out, piece_more hjk HNO.out HCONS.out HBB.out, HB.out⟩
          case measure => omega
      · have hkl : k = l.length := by omega
        have hks : ¬ k < (ofL l).size := by omega
        have hjl : j ≤ l.length := by omega
        have hnj := HNO.out
        rw [hkl, List.take_of_length_le (by rw [List.length_drop]; exact Nat.le_refl _)] at hnj
        have HE := Lib.hid (show Wrd.cut l = D ++ [l.drop j] by rw [HC.out, Wrd.cut_word hnj])
        clear hnj hkl
        go_wp2_with (first
          | (at_builtin; refine wpList_append_own _ rfl _ _ 87 rfl w.heap.size 9 i0 (.string ⟨#[]⟩) 1 16 Tryz.underlying87 hi0 hz0 hz1 hz2 rfl (by decide) _ _ _ rfl (HO.out.alloc _) ⟨wr.heap.size, 0, none⟩ 1 1 [.string ((ofL l).extract j l.length)] rfl rfl ?d1 ?d2 ?d3 ?d4 ?d5 ?_))
        case d1 =>
          intro q u hq
          match q, hq with
          | 0, hq => simp at hq; subst hq; simp [Addr.add]
        case d2 => intro u hu; simp at hu; subst hu; rfl
        case d3 => unfold maxLen; omega
        case d4 => omega
        case d5 => have := HB.out.size; simp; omega
        · intro v' w1 hown' hgrow _
          have HOW := Lib.hid hown'
          have HBE := Lib.hid (below_own HB.out HO.out _ hgrow)
          clear hown' hgrow
          go_wp2_with fail
          go_ret
          refine ⟨_, rfl, ?_, HBE.out⟩
          have := HOW.out
          rw [HXE.out] at this
          rw [HE.out, List.length_append, List.length_singleton, strs_snoc]
          exact this
end Go.Proofs.YtnjlhafhgfpfiaaGreatDoor
end
