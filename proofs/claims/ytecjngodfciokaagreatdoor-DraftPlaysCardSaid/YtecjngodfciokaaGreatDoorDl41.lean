/-
  THE DOCUMENT'S SMALL CHECKS OF DEEDS: walked. WHAT A DEED's KIND DOESN'T TELL, the document's: walked.
-/
import Derived.Test.YtecjngodfciokaaGreatDoorDl18
import Derived.Test.YtecjngodfciokaaGreatDoorDl22
import Derived.Test.YtecjngodfciokaaGreatDoorDl27
import Derived.Test.YtecjngodfciokaaGreatDoorDl39
import Derived.Deep.DeepCutAuto
section
namespace Go.Proofs.YtecjngodfciokaaGreatDoor
open Go.ChangeShapes Go.WideShapes Go.ChangeAt Go.RowKit
set_option maxRecDepth 100000 in
theorem r22maybe_any (s : List UInt8) (w : World) (hs : s.length ≤ 90000) : Calls Tryz.prog 46 #[.string (ofL s)] w fun e w' => e = .returned (.int .i64 (De.maybe s : Int)) ∧ w = w' := by
  have HN := Lib.hid (fun W => rname_any s W (by omega))
  have HC : Hid (De.maybe s = if s = [] then 0 else Wrd.nameCode s) := rfl
  generalize De.maybe s = C at *
  generalize Wrd.nameCode s = K at *
  by_cases h : s = []
  · have he := emp_yes h
    have HE := Lib.hid (show C = 0 by rw [HC.out, if_pos h])
    clear h
    go_enter Tryz.func46, Tryz.ntmps46
    go_wp2_with fail
    go_ret
    exact ⟨ret_nat (by rw [HE.out]; rfl), rfl⟩
  · have he := emp_no h
    have HE := Lib.hid (show C = K by rw [HC.out, if_neg h])
    clear h
    go_enter Tryz.func46, Tryz.ntmps46
    go_wp2_with fail
    refine (HN.out _).mono ?_
    rintro e w1 ⟨rfl, rfl⟩
    go_wp2_with fail
    go_ret
    exact ⟨ret_nat (by rw [HE.out]), rfl⟩
theorem r22names_any (k : Nat) (w : World) : Calls Tryz.prog 49 #[.int .u8 (k : Int)] w fun e w' => e = .returned (.bool (De.names k)) ∧ w = w' := by
  have HC : Hid (De.names k = (k == 1 || k == 3 || k == 7 || k == 8)) := rfl
  have q1 : ((k : Int) == 1) = (k == 1) := cast_beq k 1
  have q3 : ((k : Int) == 3) = (k == 3) := cast_beq k 3
  have q7 : ((k : Int) == 7) = (k == 7) := cast_beq k 7
  have q8 : ((k : Int) == 8) = (k == 8) := cast_beq k 8
  cases h1 : k == 1 with
  | true =>
    rw [h1] at q1
    have HE := Lib.hid (show De.names k = true by rw [HC.out, h1]; simp)
    clear h1
    go_enter Tryz.func49, Tryz.ntmps49
    go_wp2_with fail
    go_ret
    exact ⟨ret_bool HE.out.symm, rfl⟩
  | false =>
    rw [h1] at q1
    cases h3 : k == 3 with
    | true =>
      rw [h3] at q3
      have HE := Lib.hid (show De.names k = true by rw [HC.out, h3]; simp)
      clear h1 h3
      go_enter Tryz.func49, Tryz.ntmps49
      go_wp2_with fail
      go_ret
      exact ⟨ret_bool HE.out.symm, rfl⟩
    | false =>
      rw [h3] at q3
      cases h7 : k == 7 with
      | true =>
        rw [h7] at q7
        have HE := Lib.hid (show De.names k = true by rw [HC.out, h7]; simp)
        clear h1 h3 h7
        go_enter Tryz.func49, Tryz.ntmps49
        go_wp2_with fail
        go_ret
        exact ⟨ret_bool HE.out.symm, rfl⟩
      | false =>
        rw [h7] at q7
        have HE := Lib.hid (show De.names k = (k == 8) by rw [HC.out, h1, h3, h7]; simp)
        clear h1 h3 h7
        generalize (k == 8) = B8 at *
        go_enter Tryz.func49, Tryz.ntmps49
        go_wp2_with fail
        go_ret
        exact ⟨ret_bool HE.out.symm, rfl⟩
set_option maxRecDepth 100000 in
set_option maxHeartbeats 4000000 in
theorem r22checkBind_any (x : Bd) (A : Option Addr) (c : Nat) (w : World) (h : BdOk w x A c) :
    Calls Tryz.prog 47 #[bdV x A c] w fun e w' => e = .returned (.int .i64 (De.bdc x : Int)) ∧ Below w.heap.size w w' := by
  have HB1 := Lib.hid (rtOne w (.cells #[.string (ofL x.shop), .string (ofL x.to), .bool x.up, .string (ofL x.key), .slice A x.want.length c, .bool x.all] 47))
  have HX1 := Lib.hid (rtAt0 w #[.string (ofL x.shop), .string (ofL x.to), .bool x.up, .string (ofL x.key), .slice A x.want.length c, .bool x.all] 47)
  have HN1 := Lib.hid (fun W => rname_any x.shop W (by have := h.shop; omega))
  have HN2 := Lib.hid (fun W => rname_any x.to W (by have := h.tol; omega))
  have HH := Lib.hid (fun W (g : Prs W A x.want) => rCheck9_any x.want A c W h.len h.cap h.lite g)
  have HROW := Lib.hid (h.row.on HB1.out)
  have HC : Hid (De.bdc x = if Wrd.nameCode x.shop ≠ 0 then Wrd.nameCode x.shop else if Wrd.nameCode x.to ≠ 0 then Wrd.nameCode x.to else if 64 < x.key.length then 5 else Hd.hcode x.want) := rfl
  have hz : (ofL x.key).size = x.key.length := ofL_size _
  clear h
  generalize De.bdc x = C at *
  generalize Wrd.nameCode x.shop = K1 at *
  generalize Wrd.nameCode x.to = K2 at *
  generalize Hd.hcode x.want = K4 at *
  simp only [bdV]
  go_enter Tryz.func47, Tryz.ntmps47
  go_upto_region 1 with fail
  generalize w.alloc (.cells #[.string (ofL x.shop), .string (ofL x.to), .bool x.up, .string (ofL x.key), .slice A x.want.length c, .bool x.all] 47) = W1 at *
  have c0 := HX1.out.cs 0 _ rfl
  have c1 := HX1.out.cs 1 _ rfl
  have c2 := HX1.out.cs 2 _ rfl
  have c3 := HX1.out.cs 3 _ rfl
  have c4 := HX1.out.cs 4 _ rfl
  have c5 := HX1.out.cs 5 _ rfl
  have cl := HX1.out.lt
  by_cases e1 : K1 = 0
  · have f1 : ((K1 : Int) == 0) = true := by rw [e1]; rfl
    by_cases e2 : K2 = 0
    · have f2 : ((K2 : Int) == 0) = true := by rw [e2]; rfl
      by_cases e5 : 64 < x.key.length
      · have HE := Lib.hid (show C = 5 by rw [HC.out, if_neg (by omega), if_neg (by omega), if_pos e5])
        have h5 : 64 < (ofL x.key).size := by omega
        have h6 : decide (((ofL x.key).size : Int) > 64) = true := decide_eq_true (by omega)
        clear e1 e2 e5 hz
        go_wp2_with fail
        refine (HN1.out _).mono ?_
        rintro e w1 ⟨rfl, rfl⟩
        go_wp2_with fail
        refine (HN2.out _).mono ?_
        rintro e w2 ⟨rfl, rfl⟩
        go_wp2_with fail
        go_ret
        exact ⟨ret_nat (by rw [HE.out]; rfl), HB1.out⟩
      · have HE := Lib.hid (show C = K4 by rw [HC.out, if_neg (by omega), if_neg (by omega), if_neg e5])
        have h5 : ¬ 64 < (ofL x.key).size := by omega
        have h6 : decide (((ofL x.key).size : Int) > 64) = false := decide_eq_false (by omega)
        clear e1 e2 e5 hz
        go_wp2_with fail
        refine (HN1.out _).mono ?_
        rintro e w1 ⟨rfl, rfl⟩
        go_wp2_with fail
        refine (HN2.out _).mono ?_
        rintro e w2 ⟨rfl, rfl⟩
        go_wp2_with fail
        refine (HH.out _ HROW.out).mono ?_
        rintro e w3 ⟨rfl, b3⟩
        have HB3 := Lib.hid (bthen HB1.out b3 (Nat.le_refl _))
        clear b3
        go_wp2_with fail
        go_ret
        exact ⟨ret_nat (by rw [HE.out]), HB3.out⟩
    · have f2 : ((K2 : Int) == 0) = false := beq_eq_false_iff_ne.2 (by omega)
      have HE := Lib.hid (show C = K2 by rw [HC.out, if_neg (by omega), if_pos e2])
      clear e1 hz
      go_wp2_with fail
      refine (HN1.out _).mono ?_
      rintro e w1 ⟨rfl, rfl⟩
      go_wp2_with fail
      refine (HN2.out _).mono ?_
      rintro e w2 ⟨rfl, rfl⟩
      go_wp2_with fail
      go_ret
      exact ⟨ret_nat (by rw [HE.out]), HB1.out⟩
  · have f1 : ((K1 : Int) == 0) = false := beq_eq_false_iff_ne.2 (by omega)
    have HE := Lib.hid (show C = K1 by rw [HC.out, if_pos e1])
    clear hz
    go_wp2_with fail
    refine (HN1.out _).mono ?_
    rintro e w1 ⟨rfl, rfl⟩
    go_wp2_with fail
    go_ret
    exact ⟨ret_nat (by rw [HE.out]), HB1.out⟩
end Go.Proofs.YtecjngodfciokaaGreatDoor
end
section
namespace Go.Proofs.YtecjngodfciokaaGreatDoor
open Go.ChangeShapes Go.WideShapes Go.ChangeAt Go.RowKit
namespace De
def p1 (x : De) : Bool := (x.kd != 0 && !decide (x.shop = Bk.Sh0)) || (x.kd != 2 && !decide (x.q = Qu0))
def p2 (x : De) : Bool := x.kd != 4 && (x.kd != 5 && !decide (x.bind = Bk.Bd0))
def p3 (x : De) : Bool := (!names x.kd && x.name != []) || (x.kd != 8 && (x.id != 0 || x.how != 0))
def p4 (x : De) : Bool := (x.kd != 10 && (x.frm != 0 || x.num != 0)) || (x.kd != 12 && (x.cd != 0 || x.text != []))
def p5 (x : De) : Bool := x.kd != 6 && (x.kd != 10 && !decide (x.mail = Ml.zero))
def spare (x : De) : Bool := p1 x || (p2 x || (p3 x || (p4 x || p5 x)))
theorem spare_0 {x : De} (hk : x.kd = 0) : spare x = !decide (x = x.told) := by
  rw [told_0 hk]
  obtain ⟨kd, tick, shop, q, bind, name, id, how, frm, cd, num, mail, text⟩ := x
  simp only at hk
  subst hk
  rw [Bool.eq_iff_iff]
  simp [spare, p1, p2, p3, p4, p5, names, of, De.mk.injEq]
  try grind
theorem spare_1 {x : De} (hk : x.kd = 1) : spare x = !decide (x = x.told) := by
  rw [told_1 hk]
  obtain ⟨kd, tick, shop, q, bind, name, id, how, frm, cd, num, mail, text⟩ := x
  simp only at hk
  subst hk
  rw [Bool.eq_iff_iff]
  simp [spare, p1, p2, p3, p4, p5, names, of, De.mk.injEq]
  try grind
theorem spare_2 {x : De} (hk : x.kd = 2) : spare x = !decide (x = x.told) := by
  rw [told_2 hk]
  obtain ⟨kd, tick, shop, q, bind, name, id, how, frm, cd, num, mail, text⟩ := x
  simp only at hk
  subst hk
  rw [Bool.eq_iff_iff]
  simp [spare, p1, p2, p3, p4, p5, names, of, De.mk.injEq]
  try grind
theorem spare_3 {x : De} (hk : x.kd = 3) : spare x = !decide (x = x.told) := by
  rw [told_3 hk]
  obtain ⟨kd, tick, shop, q, bind, name, id, how, frm, cd, num, mail, text⟩ := x
  simp only at hk
  subst hk
  rw [Bool.eq_iff_iff]
  simp [spare, p1, p2, p3, p4, p5, names, of, De.mk.injEq]
  try grind
theorem spare_4 {x : De} (hk : x.kd = 4) : spare x = !decide (x = x.told) := by
  rw [told_4 hk]
  obtain ⟨kd, tick, shop, q, bind, name, id, how, frm, cd, num, mail, text⟩ := x
  simp only at hk
  subst hk
  rw [Bool.eq_iff_iff]
  simp [spare, p1, p2, p3, p4, p5, names, of, De.mk.injEq]
  try grind
theorem spare_5 {x : De} (hk : x.kd = 5) : spare x = !decide (x = x.told) := by
  rw [told_5 hk]
  obtain ⟨kd, tick, shop, q, bind, name, id, how, frm, cd, num, mail, text⟩ := x
  simp only at hk
  subst hk
  rw [Bool.eq_iff_iff]
  simp [spare, p1, p2, p3, p4, p5, names, of, De.mk.injEq]
  try grind
theorem spare_6 {x : De} (hk : x.kd = 6) : spare x = !decide (x = x.told) := by
  rw [told_6 hk]
  obtain ⟨kd, tick, shop, q, bind, name, id, how, frm, cd, num, mail, text⟩ := x
  simp only at hk
  subst hk
  rw [Bool.eq_iff_iff]
  simp [spare, p1, p2, p3, p4, p5, names, of, De.mk.injEq]
  try grind
theorem spare_7 {x : De} (hk : x.kd = 7) : spare x = !decide (x = x.told) := by
  rw [told_7 hk]
  obtain ⟨kd, tick, shop, q, bind, name, id, how, frm, cd, num, mail, text⟩ := x
  simp only at hk
  subst hk
  rw [Bool.eq_iff_iff]
  simp [spare, p1, p2, p3, p4, p5, names, of, De.mk.injEq]
  try grind
theorem spare_8 {x : De} (hk : x.kd = 8) : spare x = !decide (x = x.told) := by
  rw [told_8 hk]
  obtain ⟨kd, tick, shop, q, bind, name, id, how, frm, cd, num, mail, text⟩ := x
  simp only at hk
  subst hk
  rw [Bool.eq_iff_iff]
  simp [spare, p1, p2, p3, p4, p5, names, of, De.mk.injEq]
  try grind
theorem spare_9 {x : De} (hk : x.kd = 9) : spare x = !decide (x = x.told) := by
  rw [told_9 hk]
  obtain ⟨kd, tick, shop, q, bind, name, id, how, frm, cd, num, mail, text⟩ := x
  simp only at hk
  subst hk
  rw [Bool.eq_iff_iff]
  simp [spare, p1, p2, p3, p4, p5, names, of, De.mk.injEq]
  try grind
theorem spare_10 {x : De} (hk : x.kd = 10) : spare x = !decide (x = x.told) := by
  rw [told_10 hk]
  obtain ⟨kd, tick, shop, q, bind, name, id, how, frm, cd, num, mail, text⟩ := x
  simp only at hk
  subst hk
  rw [Bool.eq_iff_iff]
  simp [spare, p1, p2, p3, p4, p5, names, of, De.mk.injEq]
  try grind
theorem spare_11 {x : De} (hk : x.kd = 11) : spare x = !decide (x = x.told) := by
  rw [told_11 hk]
  obtain ⟨kd, tick, shop, q, bind, name, id, how, frm, cd, num, mail, text⟩ := x
  simp only at hk
  subst hk
  rw [Bool.eq_iff_iff]
  simp [spare, p1, p2, p3, p4, p5, names, of, De.mk.injEq]
  try grind
theorem spare_12 {x : De} (hk : x.kd = 12) : spare x = !decide (x = x.told) := by
  rw [told_12 hk]
  obtain ⟨kd, tick, shop, q, bind, name, id, how, frm, cd, num, mail, text⟩ := x
  simp only at hk
  subst hk
  rw [Bool.eq_iff_iff]
  simp [spare, p1, p2, p3, p4, p5, names, of, De.mk.injEq]
  try grind
theorem spare_told {x : De} (h : ¬ 12 < x.kd) : spare x = !decide (x = x.told) := by
  have h13 : x.kd = 0 ∨ x.kd = 1 ∨ x.kd = 2 ∨ x.kd = 3 ∨ x.kd = 4 ∨ x.kd = 5 ∨ x.kd = 6 ∨ x.kd = 7 ∨ x.kd = 8 ∨ x.kd = 9 ∨ x.kd = 10 ∨ x.kd = 11 ∨ x.kd = 12 := by omega
  rcases h13 with h | h | h | h | h | h | h | h | h | h | h | h | h
  · exact spare_0 h
  · exact spare_1 h
  · exact spare_2 h
  · exact spare_3 h
  · exact spare_4 h
  · exact spare_5 h
  · exact spare_6 h
  · exact spare_7 h
  · exact spare_8 h
  · exact spare_9 h
  · exact spare_10 h
  · exact spare_11 h
  · exact spare_12 h
end De
end Go.Proofs.YtecjngodfciokaaGreatDoor
end
