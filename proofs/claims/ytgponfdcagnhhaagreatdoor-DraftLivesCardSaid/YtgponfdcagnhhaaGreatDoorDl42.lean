/-
  THE PROGRAM'S CHECK OF A BINDING THAT A DEED TELLS: walked.
-/
import Derived.Test.YtgponfdcagnhhaaGreatDoorDl41

section
namespace Go.Proofs.YtgponfdcagnhhaaGreatDoor
open Go.ChangeShapes Go.WideShapes Go.ChangeAt Go.RowKit
set_option maxRecDepth 100000 in
set_option maxHeartbeats 8000000 in
theorem ddBind_any (x : Bd) (A : Option Addr) (c : Nat) (w : World) (h : BdOk w x A c) :
    Calls Tryz.prog 38 #[bdV x A c] w fun e w' => e = .returned (.int .i64 (De.bdc x : Int)) ∧ Below w.heap.size w w' := by
  have HB1 := Lib.hid (rtTwo w (.cells #[.string (ofL x.shop), .string (ofL x.to), .bool x.up, .string (ofL x.key), .slice A x.want.length c, .bool x.all] 29) (.cells #[.string (ofL x.shop), .string (ofL x.to)] 9))
  have HX1 := Lib.hid (rtNext (rtAt0 w #[.string (ofL x.shop), .string (ofL x.to), .bool x.up, .string (ofL x.key), .slice A x.want.length c, .bool x.all] 29) (.cells #[.string (ofL x.shop), .string (ofL x.to)] 9))
  have HS1 := Lib.hid (rtAt1 w (.cells #[.string (ofL x.shop), .string (ofL x.to), .bool x.up, .string (ofL x.key), .slice A x.want.length c, .bool x.all] 29) #[.string (ofL x.shop), .string (ofL x.to)] 9)
  have HN1 := Lib.hid (fun W => name_any x.shop W (by have := h.shop; omega))
  have HN2 := Lib.hid (fun W => name_any x.to W (by have := h.tol; omega))
  have HLO := Lib.hid (fun W => ddLong_any x.key W)
  have HH := Lib.hid (fun W (g : Prs W A x.want) => hCheck_any x.want A c W h.len h.cap h.lite g)
  have HROW := Lib.hid (h.row.on HB1.out)
  have HC : Hid (De.bdc x = if Wrd.nameCode x.shop ≠ 0 then Wrd.nameCode x.shop else if Wrd.nameCode x.to ≠ 0 then Wrd.nameCode x.to else if 64 < x.key.length then 5 else Hd.hcode x.want) := rfl
  have HSZ := Lib.hid (show ((w.alloc (.cells #[.string (ofL x.shop), .string (ofL x.to), .bool x.up, .string (ofL x.key), .slice A x.want.length c, .bool x.all] 29)).alloc (.cells #[.string (ofL x.shop), .string (ofL x.to)] 9)).heap.size = w.heap.size + 2 by simp)
  clear h
  generalize De.bdc x = C at *
  generalize Wrd.nameCode x.shop = K1 at *
  generalize Wrd.nameCode x.to = K2 at *
  generalize Hd.hcode x.want = K4 at *
  simp only [bdV]
  go_enter Tryz.func38, Tryz.ntmps38
  go_wp2_with fail
  generalize (w.alloc (.cells #[.string (ofL x.shop), .string (ofL x.to), .bool x.up, .string (ofL x.key), .slice A x.want.length c, .bool x.all] 29)).alloc (.cells #[.string (ofL x.shop), .string (ofL x.to)] 9) = W1 at *
  have c0 := HX1.out.cs 0 _ rfl
  have c1 := HX1.out.cs 1 _ rfl
  have c2 := HX1.out.cs 2 _ rfl
  have c3 := HX1.out.cs 3 _ rfl
  have c4 := HX1.out.cs 4 _ rfl
  have c5 := HX1.out.cs 5 _ rfl
  have d0 := HS1.out.cs 0 _ rfl
  have d1 := HS1.out.cs 1 _ rfl
  have l0 := HX1.out.lt
  have l1 := HS1.out.lt
  go_loopg [13] 2 (fun g i wr => ∃ k : Nat, k + g = 2 ∧ i = .int .i64 (k : Int) ∧ (0 < k → K1 = 0) ∧ (1 < k → K2 = 0) ∧ wr = W1)
  case atStart => exact ⟨0, rfl, rfl, fun h => absurd h (by omega), fun h => absurd h (by omega), rfl⟩
  case round =>
    obtain ⟨k, hk, rfl, hk1, hk2, rfl⟩ := hrel
    have hkk : k = 0 ∨ k = 1 ∨ k = 2 := by omega
    rcases hkk with rfl | rfl | rfl
    · clear hk1 hk2
      by_cases e1 : K1 = 0
      · have e2 : ((K1 : Int) != 0) = false := by rw [e1]; rfl
        go_wp2_with fail
        refine (HN1.out _).mono ?_
        rintro e w1 ⟨rfl, rfl⟩
        go_wp2_with fail
        go_roundg (gk - 1)
        case rel => exact ⟨1, by omega, by go_num, fun _ => e1, fun h => absurd h (by omega), rfl⟩
        case measure => omega
      · have e2 : ((K1 : Int) != 0) = true := by rw [bne_iff_ne]; omega
        have HE := Lib.hid (show C = K1 by rw [HC.out, if_pos e1])
        go_wp2_with fail
        refine (HN1.out _).mono ?_
        rintro e w1 ⟨rfl, rfl⟩
        go_wp2_with fail
        go_ret
        exact ⟨ret_nat (by rw [HE.out]), HB1.out⟩
    · have e1 := hk1 (by omega)
      clear hk1 hk2
      by_cases e3 : K2 = 0
      · have e2 : ((K2 : Int) != 0) = false := by rw [e3]; rfl
        have HE1 := Lib.hid e1
        clear e1
        go_wp2_with fail
        refine (HN2.out _).mono ?_
        rintro e w1 ⟨rfl, rfl⟩
        go_wp2_with fail
        go_roundg (gk - 1)
        case rel => exact ⟨2, by omega, by go_num, fun _ => HE1.out, fun _ => e3, rfl⟩
        case measure => omega
      · have e2 : ((K2 : Int) != 0) = true := by rw [bne_iff_ne]; omega
        have HE := Lib.hid (show C = K2 by rw [HC.out, if_neg (by omega), if_pos e3])
        clear e1
        go_wp2_with fail
        refine (HN2.out _).mono ?_
        rintro e w1 ⟨rfl, rfl⟩
        go_wp2_with fail
        go_ret
        exact ⟨ret_nat (by rw [HE.out]), HB1.out⟩
    · have e1 := hk1 (by omega)
      have e3 := hk2 (by omega)
      clear hk1 hk2
      by_cases e5 : 64 < x.key.length
      · have HE := Lib.hid (show C = 5 by rw [HC.out, if_neg (by omega), if_neg (by omega), if_pos e5])
        rw [if_pos e5] at HLO
        clear e1 e3 e5
        go_wp2_with fail
        refine (HLO.out _).mono ?_
        rintro e w1 ⟨rfl, rfl⟩
        go_wp2_with fail
        go_ret
        exact ⟨ret_nat (by rw [HE.out]; rfl), HB1.out⟩
      · have HE := Lib.hid (show C = K4 by rw [HC.out, if_neg (by omega), if_neg (by omega), if_neg e5])
        rw [if_neg e5] at HLO
        clear e1 e3 e5
        go_wp2_with fail
        refine (HLO.out _).mono ?_
        rintro e w1 ⟨rfl, rfl⟩
        go_wp2_with fail
        refine (HH.out _ HROW.out).mono ?_
        rintro e w2 ⟨rfl, b2⟩
        have HB2 := Lib.hid (bthen HB1.out b2 (Nat.le_refl _))
        clear b2
        go_wp2_with fail
        go_ret
        exact ⟨ret_nat (by rw [HE.out]), HB2.out⟩
end Go.Proofs.YtgponfdcagnhhaaGreatDoor
end
