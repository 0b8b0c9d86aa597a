/-
 A part of the proof.
-/
import Derived.Test.YtaikigponkjkgaaGreatDoorXr15

section
namespace Go.Proofs.YtaikigponkjkgaaGreatDoor
open Go.ChangeShapes Go.WideShapes Go.ChangeAt Go.RowKit
open Go.Lib (hid)
def maV (x : Ml) (A : Option Addr) (c : Nat) : Value := .agg #[.int .u64 (x.id : Int), .string (ofL x.shop), .string (ofL x.key), .slice A x.head.length c, .string (ofL x.body), .int .u64 (x.due : Int), .int .u8 (x.hops : Int)]
def maL (x : Ml) (A : Option Addr) (c : Nat) : List Value := [.int .u64 (x.id : Int), .string (ofL x.shop), .string (ofL x.key), .slice A x.head.length c, .string (ofL x.body), .int .u64 (x.due : Int), .int .u8 (x.hops : Int)]
structure MaOk (w : World) (x : Ml) (A : Option Addr) (c : Nat) : Prop where
 shop : x.shop.length ≤ 90000
 key : x.key.length ≤ 90000
 body : x.body.length ≤ 90000
 len : x.head.length ≤ 100000
 cap : x.head.length ≤ c
 lite : Lite x.head
 row : Prs w A x.head
theorem MaOk.on {w w' : World} {x : Ml} {A : Option Addr} {c : Nat} (h : MaOk w x A c) (hb : Below w.heap.size w w') : MaOk w' x A c := ⟨h.shop, h.key, h.body, h.len, h.cap, h.lite, h.row.on hb⟩
structure MaX (w : World) (x : Ml) (A : Option Addr) (c q : Nat) (W : World) : Prop where
 p : BoxC w q (maL x A c) W
 ra : Prs W A x.head
 B : Below w.heap.size w W
theorem MaX.on {w : World} {x : Ml} {A : Option Addr} {c q : Nat} {W W' : World} (h : MaX w x A c q W) (hb : Below W.heap.size W W') : MaX w x A c q W' := ⟨h.p.on hb, h.ra.on hb, bthen h.B hb (Nat.le_refl _)⟩
theorem MaX.start (w : World) (x : Ml) (A : Option Addr) (c : Nat) (hA : Prs w A x.head) (t : TypeId) : MaX w x A c w.heap.size (w.alloc (.cells #[.int .u64 (x.id : Int), .string (ofL x.shop), .string (ofL x.key), .slice A x.head.length c, .string (ofL x.body), .int .u64 (x.due : Int), .int .u8 (x.hops : Int)] t)) := by
 have hb : Below w.heap.size w (w.alloc (.cells #[.int .u64 (x.id : Int), .string (ofL x.shop), .string (ofL x.key), .slice A x.head.length c, .string (ofL x.body), .int .u64 (x.due : Int), .int .u8 (x.hops : Int)] t)) := (Below.refl _ _).alloc (Nat.le_refl _) _
 exact ⟨BoxC.new (Nat.le_refl _) #[.int .u64 (x.id : Int), .string (ofL x.shop), .string (ofL x.key), .slice A x.head.length c, .string (ofL x.body), .int .u64 (x.due : Int), .int .u8 (x.hops : Int)] t, hA.on hb, hb⟩
set_option maxRecDepth 100000 in
set_option maxHeartbeats 4000000 in
theorem ml_Check_any (x : Ml) (A : Option Addr) (c : Nat) (w : World) (h : MaOk w x A c) (hL : Len w) : Calls Tryz.prog 77 #[maV x A c] w fun e w' => e = .returned (.int .i64 (x.code : Int)) ∧ Below w.heap.size w w' := by
 have HC : Hid (x.code = if Wrd.nameCode x.shop ≠ 0 then Wrd.nameCode x.shop else if Wrd.keyCode [] x.key ≠ 0 then Wrd.keyCode [] x.key else if Hd.hcode x.head ≠ 0 then Hd.hcode x.head else if 256 < x.body.length then 5 else if 4 < x.hops then 7 else 0) := rfl
 have HM0 := hid (MaX.start w x A c h.row 50)
 have HL0 := hid (hL.on HM0.out.B)
 have HN := hid (fun W => name_any x.shop W (by have := h.shop; omega))
 have HK := hid (fun W h2 => key_any x.key W (by have := h.key; omega) h2)
 have HH := hid (fun W h2 => hCheck_any x.head A c W h.len h.cap h.lite h2)
 clear hL
 have hz : (ofL x.body).size = x.body.length := ofL_size x.body
 clear h
 generalize Wrd.nameCode x.shop = C1 at *
 generalize Wrd.keyCode [] x.key = C2 at *
 generalize Hd.hcode x.head = C3 at *
 simp only [maV]
 by_cases k1 : C1 = 0
 ·subst k1
  by_cases k2 : C2 = 0
  ·subst k2
   by_cases k3 : C3 = 0
   ·subst k3
    by_cases k4 : 256 < x.body.length
    ·have HD := hid (show x.code = 5 by rw [HC.out]; simp [k4])
     have h20 : 256 < (ofL x.body).size := by omega
     clear hz k4 HC
     go_enter Tryz.func77, Tryz.ntmps77
     go_wp2_with fail
     refine (HN.out _).mono ?_
     rintro e w1 ⟨rfl, rfl⟩
     go_wp2_with fail
     refine (HK.out _ HL0.out).mono ?_
     rintro e w2 ⟨rfl, b2⟩
     have HM1 := hid (HM0.out.on b2)
     clear b2
     have c0 := HM1.out.p.cs 0 _ rfl
     have c1 := HM1.out.p.cs 1 _ rfl
     have c2 := HM1.out.p.cs 2 _ rfl
     have c3 := HM1.out.p.cs 3 _ rfl
     have c4 := HM1.out.p.cs 4 _ rfl
     have c5 := HM1.out.p.cs 5 _ rfl
     have c6 := HM1.out.p.cs 6 _ rfl
     have cl := HM1.out.p.lt
     go_wp2_with fail
     refine (HH.out _ HM1.out.ra).mono ?_
     rintro e w3 ⟨rfl, b3⟩
     have HM2 := hid (HM1.out.on b3)
     clear b3 c0 c1 c2 c3 c4 c5 c6 cl
     have c0 := HM2.out.p.cs 0 _ rfl
     have c1 := HM2.out.p.cs 1 _ rfl
     have c2 := HM2.out.p.cs 2 _ rfl
     have c3 := HM2.out.p.cs 3 _ rfl
     have c4 := HM2.out.p.cs 4 _ rfl
     have c5 := HM2.out.p.cs 5 _ rfl
     have c6 := HM2.out.p.cs 6 _ rfl
     have cl := HM2.out.p.lt
     go_wp2_with fail
     go_ret
     exact ⟨ret_nat (by rw [HD.out]; rfl), HM2.out.B⟩
    ·by_cases k5 : 4 < x.hops
     ·have HD := hid (show x.code = 7 by rw [HC.out]; simp [k4, k5])
      have h20 : ¬ 256 < (ofL x.body).size := by omega
      have h21 : decide ((4 : Int) < (x.hops : Int)) = true := decide_eq_true (by omega)
      clear hz k4 k5 HC
      go_enter Tryz.func77, Tryz.ntmps77
      go_wp2_with fail
      refine (HN.out _).mono ?_
      rintro e w1 ⟨rfl, rfl⟩
      go_wp2_with fail
      refine (HK.out _ HL0.out).mono ?_
      rintro e w2 ⟨rfl, b2⟩
      have HM1 := hid (HM0.out.on b2)
      clear b2
      have c0 := HM1.out.p.cs 0 _ rfl
      have c1 := HM1.out.p.cs 1 _ rfl
      have c2 := HM1.out.p.cs 2 _ rfl
      have c3 := HM1.out.p.cs 3 _ rfl
      have c4 := HM1.out.p.cs 4 _ rfl
      have c5 := HM1.out.p.cs 5 _ rfl
      have c6 := HM1.out.p.cs 6 _ rfl
      have cl := HM1.out.p.lt
      go_wp2_with fail
      refine (HH.out _ HM1.out.ra).mono ?_
      rintro e w3 ⟨rfl, b3⟩
      have HM2 := hid (HM1.out.on b3)
      clear b3 c0 c1 c2 c3 c4 c5 c6 cl
      have c0 := HM2.out.p.cs 0 _ rfl
      have c1 := HM2.out.p.cs 1 _ rfl
      have c2 := HM2.out.p.cs 2 _ rfl
      have c3 := HM2.out.p.cs 3 _ rfl
      have c4 := HM2.out.p.cs 4 _ rfl
      have c5 := HM2.out.p.cs 5 _ rfl
      have c6 := HM2.out.p.cs 6 _ rfl
      have cl := HM2.out.p.lt
      go_wp2_with fail
      go_ret
      exact ⟨ret_nat (by rw [HD.out]; rfl), HM2.out.B⟩
     ·have HD := hid (show x.code = 0 by rw [HC.out]; simp [k4, k5])
      have h20 : ¬ 256 < (ofL x.body).size := by omega
      have h21 : decide ((4 : Int) < (x.hops : Int)) = false := decide_eq_false (by omega)
      clear hz k4 k5 HC
      go_enter Tryz.func77, Tryz.ntmps77
      go_wp2_with fail
      refine (HN.out _).mono ?_
      rintro e w1 ⟨rfl, rfl⟩
      go_wp2_with fail
      refine (HK.out _ HL0.out).mono ?_
      rintro e w2 ⟨rfl, b2⟩
      have HM1 := hid (HM0.out.on b2)
      clear b2
      have c0 := HM1.out.p.cs 0 _ rfl
      have c1 := HM1.out.p.cs 1 _ rfl
      have c2 := HM1.out.p.cs 2 _ rfl
      have c3 := HM1.out.p.cs 3 _ rfl
      have c4 := HM1.out.p.cs 4 _ rfl
      have c5 := HM1.out.p.cs 5 _ rfl
      have c6 := HM1.out.p.cs 6 _ rfl
      have cl := HM1.out.p.lt
      go_wp2_with fail
      refine (HH.out _ HM1.out.ra).mono ?_
      rintro e w3 ⟨rfl, b3⟩
      have HM2 := hid (HM1.out.on b3)
      clear b3 c0 c1 c2 c3 c4 c5 c6 cl
      have c0 := HM2.out.p.cs 0 _ rfl
      have c1 := HM2.out.p.cs 1 _ rfl
      have c2 := HM2.out.p.cs 2 _ rfl
      have c3 := HM2.out.p.cs 3 _ rfl
      have c4 := HM2.out.p.cs 4 _ rfl
      have c5 := HM2.out.p.cs 5 _ rfl
      have c6 := HM2.out.p.cs 6 _ rfl
      have cl := HM2.out.p.lt
      go_wp2_with fail
      go_ret
      exact ⟨ret_nat (by rw [HD.out]; rfl), HM2.out.B⟩
   ·have HD := hid (show x.code = C3 by rw [HC.out]; simp [k3])
    have hk0 := code_ne k3
    clear hz k3 HC
    go_enter Tryz.func77, Tryz.ntmps77
    go_wp2_with fail
    refine (HN.out _).mono ?_
    rintro e w1 ⟨rfl, rfl⟩
    go_wp2_with fail
    refine (HK.out _ HL0.out).mono ?_
    rintro e w2 ⟨rfl, b2⟩
    have HM1 := hid (HM0.out.on b2)
    clear b2
    have c0 := HM1.out.p.cs 0 _ rfl
    have c1 := HM1.out.p.cs 1 _ rfl
    have c2 := HM1.out.p.cs 2 _ rfl
    have c3 := HM1.out.p.cs 3 _ rfl
    have c4 := HM1.out.p.cs 4 _ rfl
    have c5 := HM1.out.p.cs 5 _ rfl
    have c6 := HM1.out.p.cs 6 _ rfl
    have cl := HM1.out.p.lt
    go_wp2_with fail
    refine (HH.out _ HM1.out.ra).mono ?_
    rintro e w3 ⟨rfl, b3⟩
    have HM2 := hid (HM1.out.on b3)
    clear b3 c0 c1 c2 c3 c4 c5 c6 cl
    have c0 := HM2.out.p.cs 0 _ rfl
    have c1 := HM2.out.p.cs 1 _ rfl
    have c2 := HM2.out.p.cs 2 _ rfl
    have c3 := HM2.out.p.cs 3 _ rfl
    have c4 := HM2.out.p.cs 4 _ rfl
    have c5 := HM2.out.p.cs 5 _ rfl
    have c6 := HM2.out.p.cs 6 _ rfl
    have cl := HM2.out.p.lt
    go_wp2_with fail
    go_ret
    exact ⟨ret_nat (by rw [HD.out]), HM2.out.B⟩
  ·have HD := hid (show x.code = C2 by rw [HC.out]; simp [k2])
   have hk0 := code_ne k2
   clear hz k2 HC
   go_enter Tryz.func77, Tryz.ntmps77
   go_wp2_with fail
   refine (HN.out _).mono ?_
   rintro e w1 ⟨rfl, rfl⟩
   go_wp2_with fail
   refine (HK.out _ HL0.out).mono ?_
   rintro e w2 ⟨rfl, b2⟩
   have HM1 := hid (HM0.out.on b2)
   clear b2
   have c0 := HM1.out.p.cs 0 _ rfl
   have c1 := HM1.out.p.cs 1 _ rfl
   have c2 := HM1.out.p.cs 2 _ rfl
   have c3 := HM1.out.p.cs 3 _ rfl
   have c4 := HM1.out.p.cs 4 _ rfl
   have c5 := HM1.out.p.cs 5 _ rfl
   have c6 := HM1.out.p.cs 6 _ rfl
   have cl := HM1.out.p.lt
   go_wp2_with fail
   go_ret
   exact ⟨ret_nat (by rw [HD.out]), HM1.out.B⟩
 ·have HD := hid (show x.code = C1 by rw [HC.out]; simp [k1])
  have hk0 := code_ne k1
  clear hz k1 HC
  go_enter Tryz.func77, Tryz.ntmps77
  go_wp2_with fail
  refine (HN.out _).mono ?_
  rintro e w1 ⟨rfl, rfl⟩
  go_wp2_with fail
  go_ret
  exact ⟨ret_nat (by rw [HD.out]), HM0.out.B⟩
set_option maxRecDepth 100000 in
set_option maxHeartbeats 4000000 in
theorem r13Check_any (x : Ml) (A : Option Addr) (c : Nat) (w : World) (h : MaOk w x A c) : Calls Tryz.prog 50 #[maV x A c] w fun e w' => e = .returned (.int .i64 (x.code : Int)) ∧ Below w.heap.size w w' := by
 have HC : Hid (x.code = if Wrd.nameCode x.shop ≠ 0 then Wrd.nameCode x.shop else if Wrd.keyCode [] x.key ≠ 0 then Wrd.keyCode [] x.key else if Hd.hcode x.head ≠ 0 then Hd.hcode x.head else if 256 < x.body.length then 5 else if 4 < x.hops then 7 else 0) := rfl
 have HM0 := hid (MaX.start w x A c h.row 50)
 have HN := hid (fun W => rname_any x.shop W (by have := h.shop; omega))
 have HK := hid (fun W => rkey_any x.key false W (by have := h.key; omega))
 rw [show wildIf false = [] from rfl] at HK
 have HH := hid (fun W h2 => rCheck9_any x.head A c W h.len h.cap h.lite h2)
 have hz : (ofL x.body).size = x.body.length := ofL_size x.body
 clear h
 generalize Wrd.nameCode x.shop = C1 at *
 generalize Wrd.keyCode [] x.key = C2 at *
 generalize Hd.hcode x.head = C3 at *
 simp only [maV]
 by_cases k1 : C1 = 0
 ·subst k1
  by_cases k2 : C2 = 0
  ·subst k2
   by_cases k3 : C3 = 0
   ·subst k3
    by_cases k4 : 256 < x.body.length
    ·have HD := hid (show x.code = 5 by rw [HC.out]; simp [k4])
     have h20 : 256 < (ofL x.body).size := by omega
     clear hz k4 HC
     go_enter Tryz.func50, Tryz.ntmps50
     go_wp2_with fail
     refine (HN.out _).mono ?_
     rintro e w1 ⟨rfl, rfl⟩
     go_wp2_with fail
     refine (HK.out _).mono ?_
     rintro e w2 ⟨rfl, b2⟩
     have HM1 := hid (HM0.out.on b2)
     clear b2
     have c0 := HM1.out.p.cs 0 _ rfl
     have c1 := HM1.out.p.cs 1 _ rfl
     have c2 := HM1.out.p.cs 2 _ rfl
     have c3 := HM1.out.p.cs 3 _ rfl
     have c4 := HM1.out.p.cs 4 _ rfl
     have c5 := HM1.out.p.cs 5 _ rfl
     have c6 := HM1.out.p.cs 6 _ rfl
     have cl := HM1.out.p.lt
     go_wp2_with fail
     refine (HH.out _ HM1.out.ra).mono ?_
     rintro e w3 ⟨rfl, b3⟩
     have HM2 := hid (HM1.out.on b3)
     clear b3 c0 c1 c2 c3 c4 c5 c6 cl
     have c0 := HM2.out.p.cs 0 _ rfl
     have c1 := HM2.out.p.cs 1 _ rfl
     have c2 := HM2.out.p.cs 2 _ rfl
     have c3 := HM2.out.p.cs 3 _ rfl
     have c4 := HM2.out.p.cs 4 _ rfl
     have c5 := HM2.out.p.cs 5 _ rfl
     have c6 := HM2.out.p.cs 6 _ rfl
     have cl := HM2.out.p.lt
     go_wp2_with fail
     go_ret
     exact ⟨ret_nat (by rw [HD.out]; rfl), HM2.out.B⟩
    ·by_cases k5 : 4 < x.hops
     ·have HD := hid (show x.code = 7 by rw [HC.out]; simp [k4, k5])
      have h20 : ¬ 256 < (ofL x.body).size := by omega
      have h21 : decide ((4 : Int) < (x.hops : Int)) = true := decide_eq_true (by omega)
      clear hz k4 k5 HC
      go_enter Tryz.func50, Tryz.ntmps50
      go_wp2_with fail
      refine (HN.out _).mono ?_
      rintro e w1 ⟨rfl, rfl⟩
      go_wp2_with fail
      refine (HK.out _).mono ?_
      rintro e w2 ⟨rfl, b2⟩
      have HM1 := hid (HM0.out.on b2)
      clear b2
      have c0 := HM1.out.p.cs 0 _ rfl
      have c1 := HM1.out.p.cs 1 _ rfl
      have c2 := HM1.out.p.cs 2 _ rfl
      have c3 := HM1.out.p.cs 3 _ rfl
      have c4 := HM1.out.p.cs 4 _ rfl
      have c5 := HM1.out.p.cs 5 _ rfl
      have c6 := HM1.out.p.cs 6 _ rfl
      have cl := HM1.out.p.lt
      go_wp2_with fail
      refine (HH.out _ HM1.out.ra).mono ?_
      rintro e w3 ⟨rfl, b3⟩
      have HM2 := hid (HM1.out.on b3)
      clear b3 c0 c1 c2 c3 c4 c5 c6 cl
      have c0 := HM2.out.p.cs 0 _ rfl
      have c1 := HM2.out.p.cs 1 _ rfl
      have c2 := HM2.out.p.cs 2 _ rfl
      have c3 := HM2.out.p.cs 3 _ rfl
      have c4 := HM2.out.p.cs 4 _ rfl
      have c5 := HM2.out.p.cs 5 _ rfl
      have c6 := HM2.out.p.cs 6 _ rfl
      have cl := HM2.out.p.lt
      go_wp2_with fail
      go_ret
      exact ⟨ret_nat (by rw [HD.out]; rfl), HM2.out.B⟩
     ·have HD := hid (show x.code = 0 by rw [HC.out]; simp [k4, k5])
      have h20 : ¬ 256 < (ofL x.body).size := by omega
      have h21 : decide ((4 : Int) < (x.hops : Int)) = false := decide_eq_false (by omega)
      clear hz k4 k5 HC
      go_enter Tryz.func50, Tryz.ntmps50
      go_wp2_with fail
      refine (HN.out _).mono ?_
      rintro e w1 ⟨rfl, rfl⟩
      go_wp2_with fail
      refine (HK.out _).mono ?_
      rintro e w2 ⟨rfl, b2⟩
      have HM1 := hid (HM0.out.on b2)
      clear b2
      have c0 := HM1.out.p.cs 0 _ rfl
      have c1 := HM1.out.p.cs 1 _ rfl
      have c2 := HM1.out.p.cs 2 _ rfl
      have c3 := HM1.out.p.cs 3 _ rfl
      have c4 := HM1.out.p.cs 4 _ rfl
      have c5 := HM1.out.p.cs 5 _ rfl
      have c6 := HM1.out.p.cs 6 _ rfl
      have cl := HM1.out.p.lt
      go_wp2_with fail
      refine (HH.out _ HM1.out.ra).mono ?_
      rintro e w3 ⟨rfl, b3⟩
      have HM2 := hid (HM1.out.on b3)
      clear b3 c0 c1 c2 c3 c4 c5 c6 cl
      have c0 := HM2.out.p.cs 0 _ rfl
      have c1 := HM2.out.p.cs 1 _ rfl
      have c2 := HM2.out.p.cs 2 _ rfl
      have c3 := HM2.out.p.cs 3 _ rfl
      have c4 := HM2.out.p.cs 4 _ rfl
      have c5 := HM2.out.p.cs 5 _ rfl
      have c6 := HM2.out.p.cs 6 _ rfl
      have cl := HM2.out.p.lt
      go_wp2_with fail
      go_ret
      exact ⟨ret_nat (by rw [HD.out]; rfl), HM2.out.B⟩
   ·have HD := hid (show x.code = C3 by rw [HC.out]; simp [k3])
    have hk0 : ((C3 : Int) == 0) = false := beq_eq_false_iff_ne.2 (by omega)
    clear hz k3 HC
    go_enter Tryz.func50, Tryz.ntmps50
    go_wp2_with fail
    refine (HN.out _).mono ?_
    rintro e w1 ⟨rfl, rfl⟩
    go_wp2_with fail
    refine (HK.out _).mono ?_
    rintro e w2 ⟨rfl, b2⟩
    have HM1 := hid (HM0.out.on b2)
    clear b2
    have c0 := HM1.out.p.cs 0 _ rfl
    have c1 := HM1.out.p.cs 1 _ rfl
    have c2 := HM1.out.p.cs 2 _ rfl
    have c3 := HM1.out.p.cs 3 _ rfl
    have c4 := HM1.out.p.cs 4 _ rfl
    have c5 := HM1.out.p.cs 5 _ rfl
    have c6 := HM1.out.p.cs 6 _ rfl
    have cl := HM1.out.p.lt
    go_wp2_with fail
    refine (HH.out _ HM1.out.ra).mono ?_
    rintro e w3 ⟨rfl, b3⟩
    have HM2 := hid (HM1.out.on b3)
    clear b3 c0 c1 c2 c3 c4 c5 c6 cl
    have c0 := HM2.out.p.cs 0 _ rfl
    have c1 := HM2.out.p.cs 1 _ rfl
    have c2 := HM2.out.p.cs 2 _ rfl
    have c3 := HM2.out.p.cs 3 _ rfl
    have c4 := HM2.out.p.cs 4 _ rfl
    have c5 := HM2.out.p.cs 5 _ rfl
    have c6 := HM2.out.p.cs 6 _ rfl
    have cl := HM2.out.p.lt
    go_wp2_with fail
    go_ret
    exact ⟨ret_nat (by rw [HD.out]), HM2.out.B⟩
  ·have HD := hid (show x.code = C2 by rw [HC.out]; simp [k2])
   have hk0 : ((C2 : Int) == 0) = false := beq_eq_false_iff_ne.2 (by omega)
   clear hz k2 HC
   go_enter Tryz.func50, Tryz.ntmps50
   go_wp2_with fail
   refine (HN.out _).mono ?_
   rintro e w1 ⟨rfl, rfl⟩
   go_wp2_with fail
   refine (HK.out _).mono ?_
   rintro e w2 ⟨rfl, b2⟩
   have HM1 := hid (HM0.out.on b2)
   clear b2
   have c0 := HM1.out.p.cs 0 _ rfl
   have c1 := HM1.out.p.cs 1 _ rfl
   have c2 := HM1.out.p.cs 2 _ rfl
   have c3 := HM1.out.p.cs 3 _ rfl
   have c4 := HM1.out.p.cs 4 _ rfl
   have c5 := HM1.out.p.cs 5 _ rfl
   have c6 := HM1.out.p.cs 6 _ rfl
   have cl := HM1.out.p.lt
   go_wp2_with fail
   go_ret
   exact ⟨ret_nat (by rw [HD.out]), HM1.out.B⟩
 ·have HD := hid (show x.code = C1 by rw [HC.out]; simp [k1])
  have hk0 : ((C1 : Int) == 0) = false := beq_eq_false_iff_ne.2 (by omega)
  clear hz k1 HC
  go_enter Tryz.func50, Tryz.ntmps50
  go_wp2_with fail
  refine (HN.out _).mono ?_
  rintro e w1 ⟨rfl, rfl⟩
  go_wp2_with fail
  go_ret
  exact ⟨ret_nat (by rw [HD.out]), HM0.out.B⟩
end Go.Proofs.YtaikigponkjkgaaGreatDoor
end
