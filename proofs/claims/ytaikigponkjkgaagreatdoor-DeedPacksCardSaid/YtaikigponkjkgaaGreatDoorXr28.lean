/-
 A part of the proof.
-/
import Derived.Test.YtaikigponkjkgaaGreatDoorXr21

section
namespace Go.Proofs.YtaikigponkjkgaaGreatDoor
open Go.ChangeShapes Go.WideShapes Go.ChangeAt Go.RowKit
open Go.Lib (hid)
theorem emp_yes {s : List UInt8} (h : s = []) : (ofL s).toList.isEmpty = true := by subst h; rw [str_list]; rfl
theorem emp_no {s : List UInt8} (h : ¬ s = []) : (ofL s).toList.isEmpty = false := by rw [str_list]; cases s with | nil => exact absurd rfl h | cons a t => rfl
set_option maxRecDepth 100000 in
theorem ddMaybe_any (s : List UInt8) (w : World) (hs : s.length ≤ 90000) : Calls Tryz.prog 101 #[.string (ofL s)] w fun e w' => e = .returned (.int .i64 (De.maybe s : Int)) ∧ w = w' := by
 have HN := hid (fun W => name_any s W (by omega))
 have HC : Hid (De.maybe s = if s = [] then 0 else Wrd.nameCode s) := rfl
 generalize De.maybe s = C at *
 generalize Wrd.nameCode s = K at *
 by_cases h : s = []
 ·have he := emp_yes h
  have HE := hid (show C = 0 by rw [HC.out, if_pos h])
  clear h
  go_enter Tryz.func101, Tryz.ntmps101
  go_wp2_with fail
  go_ret
  exact ⟨ret_nat (by rw [HE.out]; rfl), rfl⟩
 ·have he := emp_no h
  have HE := hid (show C = K by rw [HC.out, if_neg h])
  clear h
  go_enter Tryz.func101, Tryz.ntmps101
  go_wp2_with fail
  refine (HN.out _).mono ?_
  rintro e w1 ⟨rfl, rfl⟩
  go_wp2_with fail
  go_ret
  exact ⟨ret_nat (by rw [HE.out]), rfl⟩
theorem ddLong_any (s : List UInt8) (w : World) : Calls Tryz.prog 79 #[.string (ofL s)] w fun e w' => e = .returned (.int .i64 ((if 64 < s.length then 5 else 0 : Nat) : Int)) ∧ w = w' := by
 have hz : (ofL s).size = s.length := ofL_size s
 by_cases h : 64 < s.length
 ·have h2 : decide (((ofL s).size : Int) > 64) = true := decide_eq_true (by omega)
  have h3 : 64 < (ofL s).size := by omega
  rw [if_pos h]
  clear hz h
  go_enter Tryz.func79, Tryz.ntmps79
  go_wp2_with fail
  go_ret
  exact ⟨rfl, rfl⟩
 ·have h2 : decide (((ofL s).size : Int) > 64) = false := decide_eq_false (by omega)
  have h3 : ¬ 64 < (ofL s).size := by omega
  rw [if_neg h]
  clear hz h
  go_enter Tryz.func79, Tryz.ntmps79
  go_wp2_with fail
  go_ret
  exact ⟨rfl, rfl⟩
set_option maxRecDepth 100000 in
set_option maxHeartbeats 4000000 in
theorem ddShop_any (x : Sh) (w : World) (h1 : x.name.length ≤ 90000) (h2 : x.to.length ≤ 90000) :
  Calls Tryz.prog 73 #[shV x] w fun e w' => e = .returned (.int .i64 (De.shc x : Int)) ∧ Below w.heap.size w w' := by
 have HB0 := hid (rtOne w (.cells #[.string (ofL x.name), .int .u8 (x.sort : Int), .string (ofL x.to)] 43))
 have HN := hid (fun W => name_any x.name W (by omega))
 have HT := hid (fun W => ddMaybe_any x.to W (by omega))
 have HC : Hid (De.shc x = if Wrd.nameCode x.name ≠ 0 then Wrd.nameCode x.name else if 4 < x.sort then 8 else De.maybe x.to) := rfl
 generalize De.shc x = C at *
 generalize Wrd.nameCode x.name = K at *
 generalize De.maybe x.to = L at *
 try simp only [shV]
 by_cases hk : K = 0
 ·have hk0 : ((K : Int) != 0) = false := by rw [hk]; rfl
  by_cases h4 : 4 < x.sort
  ·have hz : decide ((x.sort : Int) > 4) = true := decide_eq_true (by omega)
   have HE := hid (show C = 8 by rw [HC.out, if_neg (by omega), if_pos h4])
   clear h4
   go_enter Tryz.func73, Tryz.ntmps73
   go_wp2_with fail
   refine (HN.out _).mono ?_
   rintro e w1 ⟨rfl, rfl⟩
   go_wp2_with fail
   go_ret
   exact ⟨ret_nat (by rw [HE.out]; rfl), HB0.out⟩
  ·have hz : decide ((x.sort : Int) > 4) = false := decide_eq_false (by omega)
   have hz' : decide ((4 : Int) < (x.sort : Int)) = false := decide_eq_false (by omega)
   have HE := hid (show C = L by rw [HC.out, if_neg (by omega), if_neg h4])
   clear h4
   go_enter Tryz.func73, Tryz.ntmps73
   go_wp2_with fail
   refine (HN.out _).mono ?_
   rintro e w1 ⟨rfl, rfl⟩
   go_wp2_with fail
   refine (HT.out _).mono ?_
   rintro e w1 ⟨rfl, rfl⟩
   go_wp2_with fail
   go_ret
   exact ⟨ret_nat (by rw [HE.out]), HB0.out⟩
 ·have hk0 : ((K : Int) != 0) = true := by rw [bne_iff_ne]; omega
  have HE := hid (show C = K by rw [HC.out, if_pos hk])
  go_enter Tryz.func73, Tryz.ntmps73
  go_wp2_with fail
  refine (HN.out _).mono ?_
  rintro e w1 ⟨rfl, rfl⟩
  go_wp2_with fail
  go_ret
  exact ⟨ret_nat (by rw [HE.out]), HB0.out⟩
set_option maxRecDepth 100000 in
set_option maxHeartbeats 4000000 in
theorem ddQueue_any (x : Qu) (w : World) (h1 : x.name.length ≤ 90000) (h2 : x.dead.length ≤ 90000) :
  Calls Tryz.prog 74 #[.agg #[.string (ofL x.name), .int .u64 (x.most : Int), .int .u64 (x.life : Int), .string (ofL x.dead)]] w fun e w' => e = .returned (.int .i64 (De.quc x : Int)) ∧ Below w.heap.size w w' := by
 have HB0 := hid (rtOne w (.cells #[.string (ofL x.name), .int .u64 (x.most : Int), .int .u64 (x.life : Int), .string (ofL x.dead)] 45))
 have HN := hid (fun W => name_any x.name W (by omega))
 have HT := hid (fun W => ddMaybe_any x.dead W (by omega))
 have HC : Hid (De.quc x = if Wrd.nameCode x.name ≠ 0 then Wrd.nameCode x.name else De.maybe x.dead) := rfl
 generalize De.quc x = C at *
 generalize Wrd.nameCode x.name = K at *
 generalize De.maybe x.dead = L at *
 try simp only [shV]
 by_cases hk : K = 0
 ·have hk0 : ((K : Int) != 0) = false := by rw [hk]; rfl
  have HE := hid (show C = L by rw [HC.out, if_neg (by omega)])
  go_enter Tryz.func74, Tryz.ntmps74
  go_wp2_with fail
  refine (HN.out _).mono ?_
  rintro e w1 ⟨rfl, rfl⟩
  go_wp2_with fail
  refine (HT.out _).mono ?_
  rintro e w1 ⟨rfl, rfl⟩
  go_wp2_with fail
  go_ret
  exact ⟨ret_nat (by rw [HE.out]), HB0.out⟩
 ·have hk0 : ((K : Int) != 0) = true := by rw [bne_iff_ne]; omega
  have HE := hid (show C = K by rw [HC.out, if_pos hk])
  go_enter Tryz.func74, Tryz.ntmps74
  go_wp2_with fail
  refine (HN.out _).mono ?_
  rintro e w1 ⟨rfl, rfl⟩
  go_wp2_with fail
  go_ret
  exact ⟨ret_nat (by rw [HE.out]), HB0.out⟩
set_option maxRecDepth 100000 in
set_option maxHeartbeats 4000000 in
theorem ddSettle_any (x : De) (A : Option Addr) (c : Nat) (B : Option Addr) (d : Nat) (w : World) (h1 : x.name.length ≤ 90000) :
  Calls Tryz.prog 78 #[deV x A c B d] w fun e w' => e = .returned (.int .i64 (De.stc x : Int)) ∧ Below w.heap.size w w' := by
 have HB0 := hid (rtOne w (.cells #[.int .u8 (x.kd : Int), .int .u64 (x.tick : Int), .string (ofL x.shop.name), .int .u8 (x.shop.sort : Int), .string (ofL x.shop.to), .string (ofL x.q.name), .int .u64 (x.q.most : Int), .int .u64 (x.q.life : Int), .string (ofL x.q.dead), .string (ofL x.bind.shop), .string (ofL x.bind.to), .bool x.bind.up, .string (ofL x.bind.key), .slice A x.bind.want.length c, .bool x.bind.all, .string (ofL x.name), .int .u64 (x.id : Int), .int .u8 (x.how : Int), .int .u8 (x.frm : Int), .int .u8 (x.cd : Int), .int .u64 (x.num : Int), .int .u64 (x.mail.id : Int), .string (ofL x.mail.shop), .string (ofL x.mail.key), .slice B x.mail.head.length d, .string (ofL x.mail.body), .int .u64 (x.mail.due : Int), .int .u8 (x.mail.hops : Int), .string (ofL x.text)] 52))
 have HN := hid (fun W => name_any x.name W (by omega))
 have HC : Hid (De.stc x = if Wrd.nameCode x.name ≠ 0 then Wrd.nameCode x.name else if 2 < x.how then 7 else 0) := rfl
 generalize De.stc x = C at *
 generalize Wrd.nameCode x.name = K at *
 simp only [deV]
 by_cases hk : K = 0
 ·have hk0 : ((K : Int) != 0) = false := by rw [hk]; rfl
  by_cases h4 : 2 < x.how
  ·have hz : decide ((x.how : Int) > 2) = true := decide_eq_true (by omega)
   have HE := hid (show C = 7 by rw [HC.out, if_neg (by omega), if_pos h4])
   clear h4
   go_enter Tryz.func78, Tryz.ntmps78
   go_wp2_with fail
   refine (HN.out _).mono ?_
   rintro e w1 ⟨rfl, rfl⟩
   go_wp2_with fail
   go_ret
   exact ⟨ret_nat (by rw [HE.out]; rfl), HB0.out⟩
  ·have hz : decide ((x.how : Int) > 2) = false := decide_eq_false (by omega)
   have hz' : decide ((2 : Int) < (x.how : Int)) = false := decide_eq_false (by omega)
   have HE := hid (show C = 0 by rw [HC.out, if_neg (by omega), if_neg h4])
   clear h4
   go_enter Tryz.func78, Tryz.ntmps78
   go_wp2_with fail
   refine (HN.out _).mono ?_
   rintro e w1 ⟨rfl, rfl⟩
   go_wp2_with fail
   go_ret
   exact ⟨ret_nat (by rw [HE.out]; rfl), HB0.out⟩
 ·have hk0 : ((K : Int) != 0) = true := by rw [bne_iff_ne]; omega
  have HE := hid (show C = K by rw [HC.out, if_pos hk])
  go_enter Tryz.func78, Tryz.ntmps78
  go_wp2_with fail
  refine (HN.out _).mono ?_
  rintro e w1 ⟨rfl, rfl⟩
  go_wp2_with fail
  go_ret
  exact ⟨ret_nat (by rw [HE.out]), HB0.out⟩
set_option maxRecDepth 100000 in
set_option maxHeartbeats 8000000 in
theorem ddBind_any (x : Bd) (A : Option Addr) (c : Nat) (w : World) (h : BdOk w x A c) :
  Calls Tryz.prog 75 #[bdV x A c] w fun e w' => e = .returned (.int .i64 (De.bdc x : Int)) ∧ Below w.heap.size w w' := by
 have HB1 := hid (rtTwo w (.cells #[.string (ofL x.shop), .string (ofL x.to), .bool x.up, .string (ofL x.key), .slice A x.want.length c, .bool x.all] 48) (.cells #[.string (ofL x.shop), .string (ofL x.to)] 9))
 have HX1 := hid (rtNext (rtAt0 w #[.string (ofL x.shop), .string (ofL x.to), .bool x.up, .string (ofL x.key), .slice A x.want.length c, .bool x.all] 48) (.cells #[.string (ofL x.shop), .string (ofL x.to)] 9))
 have HS1 := hid (rtAt1 w (.cells #[.string (ofL x.shop), .string (ofL x.to), .bool x.up, .string (ofL x.key), .slice A x.want.length c, .bool x.all] 48) #[.string (ofL x.shop), .string (ofL x.to)] 9)
 have HN1 := hid (fun W => name_any x.shop W (by have := h.shop; omega))
 have HN2 := hid (fun W => name_any x.to W (by have := h.tol; omega))
 have HLO := hid (fun W => ddLong_any x.key W)
 have HH := hid (fun W (g : Prs W A x.want) => hCheck_any x.want A c W h.len h.cap h.lite g)
 have HROW := hid (h.row.on HB1.out)
 have HC : Hid (De.bdc x = if Wrd.nameCode x.shop ≠ 0 then Wrd.nameCode x.shop else if Wrd.nameCode x.to ≠ 0 then Wrd.nameCode x.to else if 64 < x.key.length then 5 else Hd.hcode x.want) := rfl
 have HSZ := hid (show ((w.alloc (.cells #[.string (ofL x.shop), .string (ofL x.to), .bool x.up, .string (ofL x.key), .slice A x.want.length c, .bool x.all] 48)).alloc (.cells #[.string (ofL x.shop), .string (ofL x.to)] 9)).heap.size = w.heap.size + 2 by simp)
 clear h
 generalize De.bdc x = C at *
 generalize Wrd.nameCode x.shop = K1 at *
 generalize Wrd.nameCode x.to = K2 at *
 generalize Hd.hcode x.want = K4 at *
 simp only [bdV]
 go_enter Tryz.func75, Tryz.ntmps75
 go_wp2_with fail
 generalize (w.alloc (.cells #[.string (ofL x.shop), .string (ofL x.to), .bool x.up, .string (ofL x.key), .slice A x.want.length c, .bool x.all] 48)).alloc (.cells #[.string (ofL x.shop), .string (ofL x.to)] 9) = W1 at *
 have c0 := HX1.out.cs 0 _ rfl
 have c1 := HX1.out.cs 1 _ rfl
 have c2 := HX1.out.cs 2 _ rfl
 have c3 := HX1.out.cs 3 _ rfl
 have c4 := HX1.out.cs 4 _ rfl
 have c5 := HX1.out.cs 5 _ rfl
 have d0 := HS1.out.cs 0 _ rfl
 have d1 := HS1.out.cs 1 _ rfl
 have l0 := HX1.out.lt
 have l1 := HS1.out.lt
 go_loopg [13] 2 (fun g i wr => ∃ k : Nat, k + g = 2 ∧ i = .int .i64 (k : Int) ∧ (0 < k → K1 = 0) ∧ (1 < k → K2 = 0) ∧ wr = W1)
 case atStart => exact ⟨0, rfl, rfl, fun h => absurd h (by omega), fun h => absurd h (by omega), rfl⟩
 case round =>
  obtain ⟨k, hk, rfl, hk1, hk2, rfl⟩ := hrel
  have hkk : k = 0 ∨ k = 1 ∨ k = 2 := by omega
  rcases hkk with rfl | rfl | rfl
  ·clear hk1 hk2
   by_cases e1 : K1 = 0
   ·have e2 : ((K1 : Int) != 0) = false := by rw [e1]; rfl
    go_wp2_with fail
    refine (HN1.out _).mono ?_
    rintro e w1 ⟨rfl, rfl⟩
    go_wp2_with fail
    go_roundg (gk - 1)
    case rel => exact ⟨1, by omega, by go_num, fun _ => e1, fun h => absurd h (by omega), rfl⟩
    case measure => omega
   ·have e2 : ((K1 : Int) != 0) = true := by rw [bne_iff_ne]; omega
    have HE := hid (show C = K1 by rw [HC.out, if_pos e1])
    go_wp2_with fail
    refine (HN1.out _).mono ?_
    rintro e w1 ⟨rfl, rfl⟩
    go_wp2_with fail
    go_ret
    exact ⟨ret_nat (by rw [HE.out]), HB1.out⟩
  ·have e1 := hk1 (by omega)
   clear hk1 hk2
   by_cases e3 : K2 = 0
   ·have e2 : ((K2 : Int) != 0) = false := by rw [e3]; rfl
    have HE1 := hid e1
    clear e1
    go_wp2_with fail
    refine (HN2.out _).mono ?_
    rintro e w1 ⟨rfl, rfl⟩
    go_wp2_with fail
    go_roundg (gk - 1)
    case rel => exact ⟨2, by omega, by go_num, fun _ => HE1.out, fun _ => e3, rfl⟩
    case measure => omega
   ·have e2 : ((K2 : Int) != 0) = true := by rw [bne_iff_ne]; omega
    have HE := hid (show C = K2 by rw [HC.out, if_neg (by omega), if_pos e3])
    clear e1
    go_wp2_with fail
    refine (HN2.out _).mono ?_
    rintro e w1 ⟨rfl, rfl⟩
    go_wp2_with fail
    go_ret
    exact ⟨ret_nat (by rw [HE.out]), HB1.out⟩
  ·have e1 := hk1 (by omega)
   have e3 := hk2 (by omega)
   clear hk1 hk2
   by_cases e5 : 64 < x.key.length
   ·have HE := hid (show C = 5 by rw [HC.out, if_neg (by omega), if_neg (by omega), if_pos e5])
    rw [if_pos e5] at HLO
    clear e1 e3 e5
    go_wp2_with fail
    refine (HLO.out _).mono ?_
    rintro e w1 ⟨rfl, rfl⟩
    go_wp2_with fail
    go_ret
    exact ⟨ret_nat (by rw [HE.out]; rfl), HB1.out⟩
   ·have HE := hid (show C = K4 by rw [HC.out, if_neg (by omega), if_neg (by omega), if_neg e5])
    rw [if_neg e5] at HLO
    clear e1 e3 e5
    go_wp2_with fail
    refine (HLO.out _).mono ?_
    rintro e w1 ⟨rfl, rfl⟩
    go_wp2_with fail
    refine (HH.out _ HROW.out).mono ?_
    rintro e w2 ⟨rfl, b2⟩
    have HB2 := hid (bthen HB1.out b2 (Nat.le_refl _))
    clear b2
    go_wp2_with fail
    go_ret
    exact ⟨ret_nat (by rw [HE.out]), HB2.out⟩
end Go.Proofs.YtaikigponkjkgaaGreatDoor
end
