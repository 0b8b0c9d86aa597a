/-
  PLAIN: what a frame's body is made of: numbers, yes or no, texts, heads; read behind they were written, and written behind they were read. No program is spoken of here. PLAIN: messages: what may be, their bytes, what is read. No program is spoken of here. THE LAST MESSAGES as plain lists. WHAT THE WORDS' TEXTS TAKE FROM BELOW, where a seat holds no lattice. NAMES AND WORDS' BYTES, walked.
-/
import Derived.Test.YtjkaljokkpabfaaGreatDoorRr02
import Derived.Test.YtjkaljokkpabfaaGreatDoorRr03
import Derived.Test.YtjkaljokkpabfaaGreatDoorRr05
import Derived.Test.YtjkaljokkpabfaaGreatDoorRr07
import Derived.WalkMore
import Derived.Deep.LoopGhost
import Derived.Test.YtjkaljokkpabfaaGreatDoorRows
section
namespace Go.Proofs.YtjkaljokkpabfaaGreatDoor.Pt
/-- a yes or no that comes next -/
def yesOut (s : LSt) : Bool := Oct.val (lOut s.1 1) == 1
def yesIn (s : LSt) : LSt := if 1 < Oct.val (lOut s.1 1) then lFail (lRaw s 1) 4 else lRaw s 1
def yesEnc (b : Bool) : List UInt8 := if b then [1] else [0]
/-! ### written, then read -/
/-! ### read, then written -/
theorem chain {s s1 s2 s3 : LSt} {a b c : List UInt8} (h1 : s = (a ++ s1.1, 0)) (h2 : s1 = (b ++ s2.1, 0)) (h3 : s2 = (c ++ s3.1, 0)) : s = (a ++ b ++ c ++ s3.1, 0) := by
  have e1 := congrArg Prod.fst h2
  have e2 := congrArg Prod.fst h3
  simp only at e1 e2
  rw [h1, e1, e2]
  simp [List.append_assoc]
theorem rds_stop {n : Nat} {h : List Hd.Pr} {s : LSt} (hb : (lFail (Hd.rd1 s).2 (Hd.pcode (Hd.rd1 s).1 h)).2 ≠ 0) : Hd.rds (n + 1) h s = ([], lFail (Hd.rd1 s).2 (Hd.pcode (Hd.rd1 s).1 h)) := by rw [Hd.rds, if_pos hb]
end Go.Proofs.YtjkaljokkpabfaaGreatDoor.Pt
end
section
namespace Go.Proofs.YtjkaljokkpabfaaGreatDoor
structure Ml where
  id : Nat
  shop : List UInt8
  key : List UInt8
  head : List Hd.Pr
  body : List UInt8
  due : Nat
  hops : Nat
deriving DecidableEq
namespace Ml
def zero : Ml := ⟨0, [], [], [], [], 0, 0⟩
/-- what is wrong with a message -/
def code (x : Ml) : Nat :=
  if Wrd.nameCode x.shop ≠ 0 then Wrd.nameCode x.shop else
  if Wrd.keyCode [] x.key ≠ 0 then Wrd.keyCode [] x.key else
  if Hd.hcode x.head ≠ 0 then Hd.hcode x.head else
  if 256 < x.body.length then 5 else
  if 4 < x.hops then 7 else 0
/-- numbers that their types hold -/
structure Fits (x : Ml) : Prop where
  id : x.id < 18446744073709551616
  due : x.due < 18446744073709551616
  hops : x.hops < 256
  head : ∀ p ∈ x.head, Hd.Fits p
theorem code_ok {x : Ml} (h : code x = 0) : Wrd.nameCode x.shop = 0 ∧ Wrd.keyCode [] x.key = 0 ∧ Hd.hcode x.head = 0 ∧ x.body.length ≤ 256 ∧ x.hops ≤ 4 := by
  unfold code at h
  by_cases h1 : Wrd.nameCode x.shop = 0
  · rw [if_neg (by omega)] at h
    by_cases h2 : Wrd.keyCode [] x.key = 0
    · rw [if_neg (by omega)] at h
      by_cases h3 : Hd.hcode x.head = 0
      · rw [if_neg (by omega)] at h
        by_cases h4 : 256 < x.body.length
        · rw [if_pos h4] at h; omega
        · rw [if_neg h4] at h
          by_cases h5 : 4 < x.hops
          · rw [if_pos h5] at h; omega
          · exact ⟨h1, h2, h3, by omega, by omega⟩
      · rw [if_pos h3] at h; exact absurd h h3
    · rw [if_pos h2] at h; exact absurd h h2
  · rw [if_pos h1] at h; exact absurd h h1
/-- its bytes, as far as its head -/
def enc (x : Ml) : List UInt8 := Oct.be 8 x.id ++ (Oct.text x.shop ++ (Oct.text x.key ++ (Hd.henc x.head ++ (Oct.text x.body ++ (Oct.be 8 x.due ++ Oct.be 1 x.hops)))))
/-- what is read, field by field -/
def s1 (s : LSt) : LSt := lRaw s 8
def s2 (s : LSt) : LSt := lText (s1 s) 16
def s3 (s : LSt) : LSt := lText (s2 s) 64
def s4 (s : LSt) : LSt := (Hd.hread (s3 s)).2
def s5 (s : LSt) : LSt := lText (s4 s) 256
def s6 (s : LSt) : LSt := lRaw (s5 s) 8
def s7 (s : LSt) : LSt := lRaw (s6 s) 1
def got (s : LSt) : Ml := ⟨Oct.val (lOut s.1 8), lTextOut (s1 s) 16, lTextOut (s2 s) 64, (Hd.hread (s3 s)).1, lTextOut (s4 s) 256, Oct.val (lOut (s5 s).1 8), Oct.val (lOut (s6 s).1 1)⟩
def fin (s : LSt) : LSt := lFail (s7 s) (code (got s))
/-- the message that comes next -/
def rd (s : LSt) : Ml × LSt := (if (fin s).2 ≠ 0 then zero else got s, fin s)

theorem key_len {bs : List (List UInt8)} {l : List UInt8} (h : Wrd.keyCode bs l = 0) : l.length ≤ 64 := by
  unfold Wrd.keyCode at h
  by_cases h1 : 64 < l.length
  · rw [if_pos h1] at h; omega
  · omega
theorem ok1 {s : LSt} (h : lOk s) : lOk (s1 s) := lOk_raw h _
theorem ok2 {s : LSt} (h : lOk s) : lOk (s2 s) := lOk_text (ok1 h) _
theorem ok3 {s : LSt} (h : lOk s) : lOk (s3 s) := lOk_text (ok2 h) _
theorem ok4 {s : LSt} (h : lOk s) : lOk (s4 s) := Hd.lOk_hread (ok3 h)
theorem ok5 {s : LSt} (h : lOk s) : lOk (s5 s) := lOk_text (ok4 h) _
theorem ok6 {s : LSt} (h : lOk s) : lOk (s6 s) := lOk_raw (ok5 h) _
theorem ok7 {s : LSt} (h : lOk s) : lOk (s7 s) := lOk_raw (ok6 h) _
theorem okF {s : LSt} (h : lOk s) : lOk (fin s) := lOk_fail (ok7 h) _
theorem val8 (r : List UInt8) : Oct.val (lOut r 8) < 18446744073709551616 := Nat.lt_of_lt_of_le (val_out_lt r 8) (by decide)
theorem val1 (r : List UInt8) : Oct.val (lOut r 1) < 256 := Nat.lt_of_lt_of_le (val_out_lt r 1) (by decide)
theorem fits_of (a : Nat) (b c : List UInt8) (d : List Hd.Pr) (e : List UInt8) (f g : Nat) (ha : a < 18446744073709551616) (hf : f < 18446744073709551616) (hg : g < 256) (hd : ∀ p ∈ d, Hd.Fits p) : Fits ⟨a, b, c, d, e, f, g⟩ := ⟨ha, hf, hg, hd⟩
theorem got_fits (s : LSt) : Fits (got s) := fits_of _ _ _ _ _ _ _ (val8 _) (val8 _) (val1 _) (Hd.hread_fits _)
theorem enc_len_le {x : Ml} (h : code x = 0) : (Oct.text x.shop).length ≤ 18 ∧ (Oct.text x.key).length ≤ 66 ∧ (Oct.text x.body).length ≤ 258 := by
  obtain ⟨c1, c2, c3, c4, c5⟩ := code_ok h
  have a := (Hd.name_ok_len c1).1
  have b := key_len c2
  unfold Oct.text
  simp only [List.length_append, Oct.length_be]
  omega
end Ml
end Go.Proofs.YtjkaljokkpabfaaGreatDoor
end
section
namespace Go.Proofs.YtjkaljokkpabfaaGreatDoor
namespace Rs
/-- one more: how many came, what is kept, what is answered -/
def addT (T : Nat) (x : Ml) : Nat := if x.code ≠ 0 then T else if T = 18446744073709551615 then T else T + 1
def addK (T : Nat) (l : List Ml) (x : Ml) : List Ml := if x.code ≠ 0 then l else if T = 18446744073709551615 then l else l.drop (l.length + 1 - 16) ++ [x]
def addC (T : Nat) (x : Ml) : Nat := if x.code ≠ 0 then x.code else if T = 18446744073709551615 then 18 else 0
theorem addK_le {T : Nat} {l : List Ml} {x : Ml} (h : l.length ≤ 16) : (addK T l x).length ≤ 16 := by
  unfold addK
  split
  · exact h
  · split
    · exact h
    · rw [List.length_append, List.length_drop]; simp; omega
theorem addT_le {T : Nat} {x : Ml} (h : T < 18446744073709551616) : addT T x < 18446744073709551616 := by
  unfold addT
  split
  · exact h
  · split
    · exact h
    · omega
/-- those that may be -/
def good (l : List Ml) : List Ml := l.filter fun x => decide (x.code = 0)
/-- the first one above a number: its number, its place, is there one? -/
def aftN (T n k : Nat) : Nat := if T ≤ k then 0 else max k (T - n) + 1
def aftI (T n k : Nat) : Nat := max k (T - n) - (T - n)
def aft (T : Nat) (l : List Ml) (k : Nat) : Ml := if T ≤ k then Ml.zero else l.getD (aftI T l.length k) Ml.zero
theorem aftI_lt {T n k : Nat} (h : k < T) (hn : n ≤ T) (h0 : 0 < n) : aftI T n k < n := by unfold aftI; omega
end Rs
end Go.Proofs.YtjkaljokkpabfaaGreatDoor
end
section
namespace Go.Proofs.YtjkaljokkpabfaaGreatDoor
open Go.ChangeShapes Go.WideShapes Go.ChangeAt Go.RowKit
theorem drewN_below {B : Nat} {a w : World} (h : Below B a w) (n : Nat) : Below B a (w.drewN n) := ⟨h.os, h.tape, h.output, h.size, h.block⟩
theorem not_empty {s : ByteArray} (h : s.size ≠ 0) : s.toList.isEmpty = false := by
  rw [Go.ByteArray.toList_eq]
  cases hl : s.data.toList with
  | nil => exact absurd (by show s.data.size = 0; rw [← Array.length_toList, hl]; rfl) h
  | cons b l => rfl
theorem code_ne {n : Nat} (h : n ≠ 0) : ((n : Int) != 0) = true := by rw [bne_iff_ne]; omega
def Box (b : Nat) (x y : Value) (w : World) : Prop := w.cell? ⟨b, 0, none⟩ = some x ∧ w.cell? ⟨b, 1, none⟩ = some y ∧ ∀ j, w.frozen? ⟨b, j, none⟩ = false
theorem Box.new (x y : Value) (t : TypeId) (w : World) : Box w.heap.size x y (w.alloc (.cells #[x, y] t)) := ⟨cell_new _ _ _ _ _ rfl, cell_new _ _ _ _ _ rfl, fun _ => free_new _ _ _ _ _ rfl⟩
theorem Box.below {b B : Nat} {x y : Value} {w w' : World} (h : Box b x y w) (hb : Below B w w') (hB : b < B) : Box b x y w' :=
  ⟨(hb.cell (p := ⟨b, 0, none⟩) hB).trans h.1, (hb.cell (p := ⟨b, 1, none⟩) hB).trans h.2.1, fun j => (hb.frozen (p := ⟨b, j, none⟩) hB).trans (h.2.2 j)⟩
theorem code_eq {n : Nat} (h : n = 0) : ((n : Int) != 0) = false := by rw [h]; rfl
theorem octAwake2_any (w : World) : Calls Tryz.prog 79 #[] w fun x w' => x = .returned (.bool true) ∧ Below w.heap.size w w' := by
  go_enter Tryz.func79, Tryz.ntmps79
  go_wp2_with fail
  refine (octAwake_any _).mono ?_
  rintro x w1 ⟨rfl, b1⟩
  have B1 := Lib.hid b1
  clear b1
  go_wp2_with fail
  go_ret
  exact ⟨rfl, B1.out⟩
end Go.Proofs.YtjkaljokkpabfaaGreatDoor
end
section
namespace Go.Proofs.YtjkaljokkpabfaaGreatDoor
open Go.ChangeShapes Go.WideShapes Go.ChangeAt Go.RowKit
theorem mark_nat (b : UInt8) : Wrd.mark b = ((decide (97 ≤ b.toNat) && decide (b.toNat ≤ 122)) || (decide (48 ≤ b.toNat) && decide (b.toNat ≤ 57)) || decide (b.toNat = 45) || decide (b.toNat = 95)) := rfl
set_option maxHeartbeats 1000000 in
theorem mark_any (b : UInt8) (w : World) : Calls Tryz.prog 76 #[.int .u8 (b.toNat : Int)] w fun e w' => e = .returned (.bool (Wrd.mark b)) ∧ w = w' := by
  have hb := b.toNat_lt
  have HM := Lib.hid (mark_nat b)
  generalize Wrd.mark b = M at *
  generalize b.toNat = n at *
  go_enter Tryz.func76, Tryz.ntmps76
  go_wp2
  all_goals
    go_ret
    refine ⟨ret_bool ?_, rfl⟩
    rw [HM.out, Bool.eq_iff_iff]
    simp
    omega
set_option maxHeartbeats 1000000 in
theorem letter_any (b : UInt8) (w : World) : Calls Tryz.prog 64 #[.int .u8 (b.toNat : Int)] w fun e w' => e = .returned (.bool (Wrd.mark b)) ∧ w = w' := by
  have hb := b.toNat_lt
  have HM := Lib.hid (mark_nat b)
  generalize Wrd.mark b = M at *
  generalize b.toNat = n at *
  go_enter Tryz.func64, Tryz.ntmps64
  go_wp2
  all_goals
    go_ret
    refine ⟨ret_bool ?_, rfl⟩
    rw [HM.out, Bool.eq_iff_iff]
    simp
    omega
theorem all_take (l : List UInt8) (k : Nat) (h : k < l.length) : (l.take (k + 1)).all Wrd.mark = ((l.take k).all Wrd.mark && Wrd.mark l[k]) := by
  rw [List.take_succ_eq_append_getElem h, List.all_append]; simp
theorem all_not {l : List UInt8} {k : Nat} (h : k < l.length) (hm : Wrd.mark l[k] = false) : l.all Wrd.mark = false := by
  rw [List.all_eq_false]
  exact ⟨l[k], List.getElem_mem h, by rw [hm]; simp⟩
theorem str_ne {l : List UInt8} (h : l.length ≠ 0) : (ofL l).toList.isEmpty = false := not_empty (by rw [ofL_size]; exact h)
theorem ofL_nil {l : List UInt8} (h : l.length = 0) : ofL l = ⟨#[]⟩ := by rw [List.length_eq_zero_iff.1 h]; rfl
set_option maxHeartbeats 1000000 in
theorem plain_any (l : List UInt8) (w : World) (hl : l.length ≤ 100000) : Calls Tryz.prog 62 #[.string (ofL l)] w fun e w' => e = .returned (.bool (Wrd.plain l)) ∧ w = w' := by
  have hsz : (ofL l).size = l.length := ofL_size l
  have HG : Hid (∀ p (h : p < l.length), (ofL l)[p]'(by rw [hsz]; exact h) = l[p]) := fun p h => rfl
  have HA := Lib.hid (fun k h => all_take l k h)
  have HN := Lib.hid (fun k (h : k < l.length) => all_not (l := l) (k := k) h)
  have HP : Hid (Wrd.plain l = (l.all Wrd.mark && decide (l.length ≠ 0))) := rfl
  generalize Wrd.plain l = PL at *
  go_enter Tryz.func62, Tryz.ntmps62
  go_wp2_with fail
  go_loopg [6] l.length (fun g i wr => ∃ k : Nat, k + g = l.length ∧ i = .int .i64 k ∧ (l.take k).all Wrd.mark = true ∧ wr = w)
  case atStart => exact ⟨0, by omega, rfl, by simp, rfl⟩
  case round =>
    obtain ⟨k, hk, rfl, hall, rfl⟩ := hrel
    have HALL := Lib.hid hall
    clear hall
    by_cases hlt : k < l.length
    · have hks : k < (ofL l).size := by omega
      have HGK := Lib.hid (HG.out k hlt)
      have HM := Lib.hid (fun W => mark_any (ofL l)[k] W)
      cases hm : Wrd.mark (l[k]'hlt) with
      | true =>
        have HT := Lib.hid (show (l.take (k + 1)).all Wrd.mark = true by rw [HA.out k hlt, HALL.out, hm]; rfl)
        rw [← HGK.out] at hm
        rw [hm] at HM
        clear hm
        go_wp2_with fail
        refine (HM.out _).mono ?_
        rintro e w' ⟨rfl, rfl⟩
        go_wp2_with fail
        go_roundg (gk - 1)
        case rel => exact ⟨k + 1, by omega, by go_num, HT.out, rfl⟩
        case measure => omega
      | false =>
        have HF := Lib.hid (show PL = false by rw [HP.out, HN.out k hlt hm]; rfl)
        rw [← HGK.out] at hm
        rw [hm] at HM
        clear hm
        go_wp2_with fail
        refine (HM.out _).mono ?_
        rintro e w' ⟨rfl, rfl⟩
        go_wp2_with fail
        go_ret
        exact ⟨ret_bool HF.out.symm, rfl⟩
    · have hkl : k = l.length := by omega
      have HT := Lib.hid (show l.all Wrd.mark = true by have := HALL.out; rw [hkl, List.take_length] at this; exact this)
      by_cases h0 : l.length = 0
      · have HF := Lib.hid (show PL = false by rw [HP.out, HT.out, h0]; rfl)
        have he : (ofL l) = ⟨#[]⟩ := ofL_nil h0
        have hks : ¬ k < (ofL l).size := by omega
        rw [he] at hks ⊢
        clear hkl he h0
        go_wp2_with fail
        go_ret
        exact ⟨ret_bool HF.out.symm, rfl⟩
      · have HF := Lib.hid (show PL = true by rw [HP.out, HT.out]; simp [h0])
        have he := str_ne h0
        have hks : ¬ k < (ofL l).size := by omega
        clear hkl h0
        go_wp2_with fail
        go_ret
        exact ⟨ret_bool HF.out.symm, rfl⟩
end Go.Proofs.YtjkaljokkpabfaaGreatDoor
end
