/-
  THE WORDS BETWEEN POINTS, walked: the program's and the document's. WORDS IN MEMORY, as they are read. KEYS AND PATTERNS, walked: the program's.
-/
import Derived.Test.YtaikigponkjkgaaGreatDoorDs06
import Derived.Test.YtaikigponkjkgaaGreatDoorShelfWords
import Derived.Lib.SplitLaws
section
namespace Go.Proofs.YtaikigponkjkgaaGreatDoor
open Go.ChangeShapes Go.WideShapes Go.ChangeAt Go.RowKit
/-! ### the library's pieces are the words -/
theorem splitK_cut : ∀ (n : Nat) (l : List UInt8), l.length ≤ n → Lib.splitK [46] 0 (Lib.count l [46]) l = Wrd.cut l := by
  intro n
  induction n with
  | zero =>
    intro l hl
    have : l = [] := List.length_eq_zero_iff.1 (by omega)
    subst this
    rw [Lib.count_miss (by simp [Lib.index])]
    rfl
  | succ n ih =>
    intro l hl
    by_cases hm : Lib.index l [46] = -1
    · rw [Lib.count_miss hm]
      have hno : (46 : UInt8) ∉ l := by
        rw [Lib.index_one] at hm
        intro hmem
        obtain ⟨k, hk, e⟩ := List.getElem_of_mem hmem
        exact Lib.indexByte_none hm k (by rw [List.getElem?_eq_getElem hk, e])
      rw [Wrd.cut_word hno]
      rfl
    · have hge := Lib.index_ge l [46]
      obtain ⟨i, hi⟩ : ∃ i : Nat, Lib.index l [46] = i := ⟨(Lib.index l [46]).toNat, by omega⟩
      have hc := Lib.count_hit (sub := [46]) (by simp) hi
      have hi1 := hi
      rw [Lib.index_one] at hi1
      obtain ⟨h1, h2⟩ := Lib.indexByte_some hi1
      obtain ⟨hil, he⟩ := List.getElem?_eq_some_iff.1 h1
      have hdec : l = l.take i ++ 46 :: l.drop (i + 1) := by
        have := List.take_append_drop i l
        rw [List.drop_eq_getElem_cons hil, he] at this
        exact this.symm
      have hno : (46 : UInt8) ∉ l.take i := by
        intro hmem
        obtain ⟨k, hk, e⟩ := List.getElem_of_mem hmem
        rw [List.length_take] at hk
        rw [List.getElem_take] at e
        exact h2 k (by omega) (by rw [List.getElem?_eq_getElem (by omega), e])
      have hcut : Wrd.cut l = l.take i :: Wrd.cut (l.drop (i + 1)) := by
        conv => lhs; rw [hdec]
        exact Wrd.cut_app hno _
      rw [hc, hcut, Nat.add_comm, Lib.splitK, if_neg (by rw [hi]; simp), hi]
      have e1 : ((i : Int).toNat + 0) = i := by omega
      have e2 : ((i : Int).toNat + ([46] : List UInt8).length) = i + 1 := by simp
      have e3 : i + ([46] : List UInt8).length = i + 1 := rfl
      rw [e1, e2, e3, ih _ (by rw [List.length_drop]; omega)]
def strs (ws : List (List UInt8)) : List Value := ws.map fun x => .string (ofL x)
theorem pieces_eq (l : List UInt8) : (Lib.splitB ⟨#[46]⟩ 0 (Lib.countB (ofL l) ⟨#[46]⟩) (ofL l)).map Value.string = strs (Wrd.cut l) := by
  have h := Lib.splitB_data ⟨#[46]⟩ 0 (Lib.countB (ofL l) ⟨#[46]⟩) (ofL l)
  have h2 : Lib.splitK (⟨#[46]⟩ : ByteArray).data.toList 0 (Lib.countB (ofL l) ⟨#[46]⟩) (ofL l).data.toList = Wrd.cut l := splitK_cut l.length l (Nat.le_refl _)
  rw [h2] at h
  rw [← h]
  unfold strs
  rw [List.map_map]
  apply List.map_congr_left
  intro s _
  show Value.string s = Value.string (ofL s.data.toList)
  rw [ofL_toList]
theorem pieces_len (l : List UInt8) : Lib.countB (ofL l) ⟨#[46]⟩ + 1 = (Wrd.cut l).length := by
  have h := congrArg List.length (pieces_eq l)
  rw [List.length_map, Lib.splitB_all ⟨#[46]⟩ (by decide) 0 _ _ rfl] at h
  rw [h]
  unfold strs
  rw [List.length_map]
/-- the library's own bound lies -/
def Len (w : World) : Prop := ∃ m, w.cell? ⟨0, 0, none⟩ = some (.int .i64 m)
theorem Len.pos {w : World} (h : Len w) : 0 < w.heap.size := by
  obtain ⟨m, hm⟩ := h
  exact World.block_lt_of_cell? w _ hm
theorem Len.below {w w' : World} {B : Nat} (h : Len w) (hb : Below B w w') (hB : 0 < B) : Len w' := by
  obtain ⟨m, hm⟩ := h
  exact ⟨m, (hb.cell (p := ⟨0, 0, none⟩) hB).trans hm⟩
theorem Len.on {w w' : World} (h : Len w) (hb : Below w.heap.size w w') : Len w' := h.below hb h.pos
/-- what a split leaves: a slice of the words in new memory -/
def SplitPost (w : World) (ws : List (List UInt8)) (e : Ending) (w' : World) : Prop := ∃ v, e = .returned v ∧ w'.ownsRow w.heap.size 9 1 v ws.length (strs ws) ∧ Below w.heap.size w w'
theorem own_new (w : World) (ws : List (List UInt8)) (h : ws.length ≤ maxLen) : (w.alloc (.cells (strs ws).toArray 9)).ownsRow w.heap.size 9 1 (.slice (some ⟨w.heap.size, 0, none⟩) ws.length ws.length) ws.length (strs ws) := by
  have hl : (strs ws).length = ws.length := by unfold strs; rw [List.length_map]
  refine ⟨by rw [hl, Nat.mul_one], Or.inr ⟨w.heap.size, ws.length, (strs ws).toArray, rfl, Nat.le_refl _, ?_, Nat.le_refl _, h, by rw [List.size_toArray, hl, Nat.mul_one], ?_⟩⟩
  · show (w.heap.push _)[w.heap.size]? = _
    rw [Array.getElem?_push_size]
  · rw [Nat.mul_one, ← hl]; simp
set_option maxHeartbeats 1000000 in
theorem split_any (l : List UInt8) (w : World) (hl : l.length ≤ 100000) (hL : Len w) : Calls Tryz.prog 138 #[.string (ofL l)] w (SplitPost w (Wrd.words l)) := by
  by_cases h0 : l.length = 0
  · rw [Wrd.words_nil h0, ofL_nil h0]
    go_enter Tryz.func138, Tryz.ntmps138
    go_wp2_with fail
    go_ret
    exact ⟨_, rfl, World.ownsRow_nil _ _ _ _, Below.refl _ _⟩
  · rw [Wrd.words_ne h0]
    have he := str_ne h0
    obtain ⟨m, hm⟩ := hL
    have hc := Tryz.strings_Split (ofL l) ⟨#[46]⟩ m w (by rw [ofL_size]; omega) hm (by decide)
    rw [pieces_eq, pieces_len] at hc
    have HC := Lib.hid hc
    have HO := Lib.hid (own_new w (Wrd.cut l) (by have := Wrd.cut_len l; unfold maxLen; omega))
    clear hc hm
    generalize ofL l = s at *
    go_enter Tryz.func138, Tryz.ntmps138
    go_wp2_with fail
    refine HC.out.mono ?_
    rintro e w' ⟨rfl, rfl⟩
    go_wp2_with fail
    go_ret
    exact ⟨_, rfl, HO.out, (Below.refl _ _).alloc (Nat.le_refl _) _⟩
end Go.Proofs.YtaikigponkjkgaaGreatDoor
end
section
namespace Go.Proofs.YtaikigponkjkgaaGreatDoor
open Go.ChangeShapes Go.WideShapes Go.ChangeAt Go.RowKit
/-- a row that can be read: of whatever kind of value -/
theorem row_shape {w : World} {B e : Nat} {v : Value} {n : Nat} {xs : List Value} (h : w.ownsRow B e 1 v n xs) :
    ∃ p cap, v = .slice p n cap ∧ xs.length = n ∧ ∀ j, j < n → ∃ g, p = some ⟨g, 0, none⟩ ∧ B ≤ g ∧ g < w.heap.size ∧ w.cell? ⟨g, j, none⟩ = xs[j]? := by
  obtain ⟨hl, h1 | ⟨g, cap, cur, rfl, hB, hb, h2⟩⟩ := h
  · obtain ⟨rfl, rfl⟩ := h1
    simp at hl
    subst hl
    exact ⟨none, 0, rfl, rfl, fun j hj => absurd hj (by omega)⟩
  · refine ⟨_, cap, rfl, by omega, fun j hj => ⟨g, rfl, hB, ?_, ?_⟩⟩
    · exact (Array.getElem?_eq_some_iff.1 hb).1
    · exact World.ownsRow.cellAt ⟨hl, Or.inr ⟨g, cap, cur, rfl, hB, hb, h2⟩⟩ j (by omega)
def Reads (w : World) (p : Option Addr) (ws : List (List UInt8)) : Prop := ∀ j (h : j < ws.length), ∃ g, p = some ⟨g, 0, none⟩ ∧ w.cell? ⟨g, j, none⟩ = some (.string (ofL ws[j]))
theorem strs_get (ws : List (List UInt8)) (j : Nat) (h : j < ws.length) : (strs ws)[j]? = some (.string (ofL ws[j])) := by
  unfold strs; rw [List.getElem?_map, List.getElem?_eq_getElem h]; rfl
theorem reads_own {w : World} {B : Nat} {v : Value} {ws : List (List UInt8)} (h : w.ownsRow B 9 1 v ws.length (strs ws)) : ∃ p cap, v = .slice p ws.length cap ∧ Reads w p ws := by
  obtain ⟨p, cap, rfl, _, h2⟩ := row_shape h
  refine ⟨p, cap, rfl, fun j hj => ?_⟩
  obtain ⟨g, e, _, _, hc⟩ := h2 j hj
  exact ⟨g, e, hc.trans (strs_get ws j hj)⟩
theorem Reads.on {w w' : World} {p : Option Addr} {ws : List (List UInt8)} (h : Reads w p ws) (hb : Below w.heap.size w w') : Reads w' p ws := by
  intro j hj
  obtain ⟨g, e, hc⟩ := h j hj
  refine ⟨g, e, ?_⟩
  rw [← hc]
  exact hb.cell (p := ⟨g, j, none⟩) (World.block_lt_of_cell? w _ hc)
end Go.Proofs.YtaikigponkjkgaaGreatDoor
end
section
namespace Go.Proofs.YtaikigponkjkgaaGreatDoor
open Go.ChangeShapes Go.WideShapes Go.ChangeAt Go.RowKit
def seen (bs : List (List UInt8)) (m : Nat) (x : List UInt8) : Bool := (bs.take m).contains x
theorem key_long (bs : List (List UInt8)) {l : List UInt8} (h : 64 < l.length) : Wrd.keyCode bs l = 5 := by unfold Wrd.keyCode; rw [if_pos h]
theorem key_ok {bs : List (List UInt8)} {l : List UInt8} (h : ¬ 64 < l.length) (ha : (Wrd.words l).all (Wrd.okWord bs) = true) : Wrd.keyCode bs l = 0 := by unfold Wrd.keyCode; rw [if_neg h, if_pos ha]
theorem key_form {bs : List (List UInt8)} {l : List UInt8} (h : ¬ 64 < l.length) (ha : (Wrd.words l).all (Wrd.okWord bs) = false) : Wrd.keyCode bs l = 4 := by unfold Wrd.keyCode; rw [if_neg h, if_neg (by rw [ha]; simp)]
theorem ok_take (bs ws : List (List UInt8)) (k : Nat) (h : k < ws.length) : (ws.take (k + 1)).all (Wrd.okWord bs) = ((ws.take k).all (Wrd.okWord bs) && Wrd.okWord bs ws[k]) := by
  rw [List.take_succ_eq_append_getElem h, List.all_append]; simp
theorem ok_not {bs ws : List (List UInt8)} {k : Nat} (h : k < ws.length) (hm : Wrd.okWord bs ws[k] = false) : ws.all (Wrd.okWord bs) = false := by
  rw [List.all_eq_false]
  exact ⟨ws[k], List.getElem_mem h, by rw [hm]; simp⟩
theorem seen_succ (bs : List (List UInt8)) (m : Nat) (x : List UInt8) (h : m < bs.length) : seen bs (m + 1) x = (seen bs m x || x == bs[m]) := by
  unfold seen; rw [List.take_succ_eq_append_getElem h, Bool.eq_iff_iff]; simp only [List.contains_iff_mem, Bool.or_eq_true, beq_iff_eq, List.mem_append, List.mem_singleton]
theorem seen_part {bs : List (List UInt8)} {m : Nat} {x : List UInt8} (h : seen bs m x = true) : bs.contains x = true := by
  unfold seen at h
  rw [List.contains_iff_mem] at *
  exact List.mem_of_mem_take h
/-- the outer loop: the words so far are good ones -/
def KeyOut (bs ws : List (List UInt8)) (w0 : World) (g : Nat) (i : Value) (wr : World) : Prop :=
  ∃ k : Nat, k + g = ws.length ∧ i = .int .i64 (k : Int) ∧ (ws.take k).all (Wrd.okWord bs) = true ∧ w0 = wr
/-- the inner loop: none of those so far is the word -/
def KeyIn (bs : List (List UInt8)) (x : List UInt8) (w0 : World) (g : Nat) (i : Value) (wr : World) : Prop :=
  ∃ m : Nat, m + g = bs.length ∧ i = .int .i64 (m : Int) ∧ seen bs m x = false ∧ w0 = wr
set_option maxHeartbeats 2000000 in
theorem keyed_any (l : List UInt8) (bs : List (List UInt8)) (p : Option Addr) (cap : Nat) (w : World) (hl : l.length ≤ 100000) (hL : Len w) (hbs : bs.length ≤ 1000)
    (hr : Reads w p bs) : Calls Tryz.prog 123 #[.string (ofL l), .slice p bs.length cap] w fun e w' => e = .returned (.int .i64 (Wrd.keyCode bs l : Int)) ∧ Below w.heap.size w w' := by
  have hsz : (ofL l).size = l.length := ofL_size l
  by_cases h64 : 64 < l.length
  · have HC := Lib.hid (key_long bs h64)
    have hs : 64 < (ofL l).size := by omega
    clear hr
    go_enter Tryz.func123, Tryz.ntmps123
    go_wp2_with fail
    go_step3
    go_wp2_with fail
    rw [Exit.noGoto_ret]
    go_ret
    exact ⟨ret_nat (by rw [HC.out]; rfl), Below.refl _ _⟩
  · have hs : ¬ 64 < (ofL l).size := by omega
    have HS := Lib.hid (split_any l w hl hL)
    have HR := Lib.hid hr
    have HOK := Lib.hid (fun h => key_ok (bs := bs) h64 h)
    have HBAD := Lib.hid (fun h => key_form (bs := bs) h64 h)
    have HWP := Lib.hid (Wrd.words_part l)
    have hwl := Wrd.words_len l
    generalize Wrd.words l = ws at *
    generalize Wrd.keyCode bs l = C at *
    generalize ofL l = s at *
    clear hr
    go_enter Tryz.func123, Tryz.ntmps123
    go_wp2_with fail
    go_step3
    go_wp2_with fail
    go_step3
    go_wp2_with fail
    refine HS.out.mono ?_
    rintro e w1 ⟨v, rfl, hown, hB⟩
    obtain ⟨q, cq, rfl, hq⟩ := reads_own hown
    have HQ := Lib.hid hq
    have HR1 := Lib.hid (HR.out.on hB)
    have HBB := Lib.hid hB
    clear hown hB hq
    go_wp2_with fail
    go_loopg [15] ws.length (fun g i wr => KeyOut bs ws w1 g i wr)
    case atStart => exact ⟨0, by omega, rfl, by simp, rfl⟩
    case round =>
      obtain ⟨k, hk, rfl, hall, rfl⟩ := hrel
      have HALL := Lib.hid hall
      clear hall
      by_cases hlt : k < ws.length
      · obtain ⟨gq, rfl, hcell⟩ := HQ.out k hlt
        obtain ⟨x, hx⟩ : ∃ x, x = ws[k] := ⟨_, rfl⟩
        rw [← hx] at hcell
        have HX := Lib.hid hx
        have HT := Lib.hid (ok_take bs ws k hlt)
        have HN := Lib.hid (fun h => ok_not (bs := bs) hlt h)
        have hxl : x.length ≤ 100000 := by have := HWP.out _ (List.getElem_mem hlt); rw [← hx] at this; omega
        have HPL := Lib.hid (fun W => plain_any x W hxl)
        clear hx
        go_wp2_with fail
        obtain ⟨g0, hg0⟩ : ∃ g0, g0 = gk := ⟨_, rfl⟩
        go_loopg [21] bs.length (fun g i wr => KeyIn bs x w1 g i wr)
        case atStart => exact ⟨0, by omega, rfl, by simp [seen], rfl⟩
        case round =>
          obtain ⟨m, hm, rfl, hseen, rfl⟩ := hrel
          have HSE := Lib.hid hseen
          clear hseen
          by_cases hlm : m < bs.length
          · obtain ⟨gp, hp, hcp⟩ := HR1.out m hlm
            have HSS := Lib.hid (seen_succ bs m x hlm)
            generalize bs[m] = y at *
            by_cases hxy : x = y
            · have hxs : ((ofL x).toList == (ofL y).toList) = true := by rw [ofL_str, ofL_str, hxy]; simp
              have HF := Lib.hid (show (ws.take (k + 1)).all (Wrd.okWord bs) = true by
                rw [HT.out, HALL.out, ← HX.out]; unfold Wrd.okWord; rw [seen_part (m := m + 1) (by rw [HSS.out, hxy]; simp)]; rfl)
              clear hxy
              subst hp
              go_wp2_with fail
              go_roundg (g0 - 1)
              case rel => exact ⟨k + 1, by omega, by go_num, HF.out, rfl⟩
              case measure => omega
            · have hxs : ((ofL x).toList == (ofL y).toList) = false := by rw [ofL_str, ofL_str]; exact beq_eq_false_iff_ne.2 hxy
              have HF := Lib.hid (show seen bs (m + 1) x = false by rw [HSS.out, HSE.out, beq_eq_false_iff_ne.2 hxy]; rfl)
              clear hxy
              subst hp
              go_wp2_with fail
              go_roundg (gk - 1)
              case rel => exact ⟨m + 1, by omega, by go_num, HF.out, rfl⟩
              case measure => omega
          · have hmb : m = bs.length := by omega
            have hno : bs.contains x = false := by have := HSE.out; unfold seen at this; rw [hmb, List.take_length] at this; exact this
            clear hmb
            cases hpl : Wrd.plain x with
            | true =>
              have HF := Lib.hid (show (ws.take (k + 1)).all (Wrd.okWord bs) = true by
                rw [HT.out, HALL.out, ← HX.out]; unfold Wrd.okWord; rw [hpl, Bool.or_true]; rfl)
              rw [hpl] at HPL
              clear hpl hno
              go_wp2_with fail
              refine (HPL.out _).mono ?_
              rintro e w' ⟨rfl, rfl⟩
              go_wp2_with fail
              go_roundg (g0 - 1)
              case rel => exact ⟨k + 1, by omega, by go_num, HF.out, rfl⟩
              case measure => omega
            | false =>
              have HF := Lib.hid (show C = 4 from HBAD.out (HN.out (by rw [← HX.out]; unfold Wrd.okWord; rw [hpl, hno]; rfl)))
              rw [hpl] at HPL
              clear hpl hno
              go_wp2_with fail
              refine (HPL.out _).mono ?_
              rintro e w' ⟨rfl, rfl⟩
              go_wp2_with fail
              rw [Exit.noGoto_ret]
              go_ret
              exact ⟨ret_nat (by rw [HF.out]; rfl), HBB.out⟩
      · have hkl : k = ws.length := by omega
        have HF := Lib.hid (HOK.out (by have := HALL.out; rw [hkl, List.take_length] at this; exact this))
        clear hkl
        go_wp2_with fail
        rw [Exit.noGoto_ret]
        go_ret
        exact ⟨ret_nat (by rw [HF.out]; rfl), HBB.out⟩
set_option maxHeartbeats 1000000 in
theorem key_any (l : List UInt8) (w : World) (hl : l.length ≤ 100000) (hL : Len w) : Calls Tryz.prog 104 #[.string (ofL l)] w fun e w' => e = .returned (.int .i64 (Wrd.keyCode [] l : Int)) ∧ Below w.heap.size w w' := by
  have HC := Lib.hid (keyed_any l [] none 0 w hl hL (by simp) (fun j h => absurd h (by simp)))
  generalize Wrd.keyCode [] l = C at *
  generalize ofL l = s at *
  go_enter Tryz.func104, Tryz.ntmps104
  go_wp2_with fail
  refine HC.out.mono ?_
  rintro e w1 ⟨rfl, hB⟩
  have HB := Lib.hid hB
  clear hB
  go_wp2_with fail
  go_ret
  exact ⟨rfl, HB.out⟩
def wild : List (List UInt8) := [Wrd.star, Wrd.hash]
theorem wild_at (w : World) (hL : Len w) (l : List UInt8) (hl : l.length ≤ 100000) :
    Calls Tryz.prog 123 #[.string (ofL l), .slice (some ⟨w.heap.size, 0, none⟩) 2 2] (w.alloc (.cells #[.string ⟨#[42]⟩, .string ⟨#[35]⟩] 9)) fun e w' => e = .returned (.int .i64 (Wrd.keyCode wild l : Int)) ∧ Below w.heap.size w w' := by
  have hB : Below w.heap.size w (w.alloc (.cells #[.string ⟨#[42]⟩, .string ⟨#[35]⟩] 9)) := (Below.refl _ _).alloc (Nat.le_refl _) _
  obtain ⟨p, cap, e, hr⟩ := reads_own (own_new w wild (by decide))
  injection e with e1 _ _
  subst e1
  refine (keyed_any l wild (some ⟨w.heap.size, 0, none⟩) 2 _ hl (hL.on hB) (by decide) hr).mono ?_
  rintro e w' ⟨rfl, h⟩
  exact ⟨rfl, hB.trans (h.mono hB.size)⟩
set_option maxHeartbeats 1000000 in
theorem pattern_any (l : List UInt8) (w : World) (hl : l.length ≤ 100000) (hL : Len w) : Calls Tryz.prog 149 #[.string (ofL l)] w fun e w' => e = .returned (.int .i64 (Wrd.keyCode wild l : Int)) ∧ Below w.heap.size w w' := by
  have HC := Lib.hid (wild_at w hL l hl)
  generalize Wrd.keyCode wild l = C at *
  generalize ofL l = s at *
  go_enter Tryz.func149, Tryz.ntmps149
  go_wp2_with fail
  refine HC.out.mono ?_
  rintro e w1 ⟨rfl, hB⟩
  have HB := Lib.hid hB
  clear hB
  go_wp2_with fail
  go_ret
  exact ⟨rfl, HB.out⟩
end Go.Proofs.YtaikigponkjkgaaGreatDoor
end
