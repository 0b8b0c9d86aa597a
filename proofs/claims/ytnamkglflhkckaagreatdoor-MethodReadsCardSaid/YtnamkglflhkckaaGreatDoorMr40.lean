/-
  WHETHER A METHOD MAY BE, as the document has it: walked, class by class of its kinds.
-/
import Derived.Test.YtnamkglflhkckaaGreatDoorMr27
import Derived.Deep.DeepCutAuto
section
namespace Go.Proofs.YtnamkglflhkckaaGreatDoor
open Go.ChangeShapes Go.WideShapes Go.ChangeAt Go.RowKit
set_option maxRecDepth 100000 in
set_option maxHeartbeats 32000000 in
theorem r11Check_p_4 (x : Me) (A : Option Addr) (c : Nat) (w : World) (h : MeOk w x A c) (hk : x.kd.toNat = 11) (a_name : Hid (x.name ≠ [])) (a_key : Hid (x.key ≠ [])) (a_head : Hid (x.head.length = 0)) : Calls Tryz.prog 11 #[meV x A c] w fun e w' => e = .returned (.int .i64 (x.code : Int)) ∧ Below w.heap.size w w' := by
  have h20 : ¬ 20 < x.kd.toNat := by omega
  have HST := Lib.hid (fun W (hb : Below (w.alloc (.cells #[.int .u8 (x.ch.toNat : Int), .int .u8 (x.kd.toNat : Int), .string (ofL x.name), .string (ofL x.other), .string (ofL x.key), .slice A x.head.length c, .string (ofL x.body), .int .u64 (x.n : Int), .int .u64 (x.m : Int), .bool x.yes] 29)).heap.size (w.alloc (.cells #[.int .u8 (x.ch.toNat : Int), .int .u8 (x.kd.toNat : Int), .string (ofL x.name), .string (ofL x.other), .string (ofL x.key), .slice A x.head.length c, .string (ofL x.body), .int .u64 (x.n : Int), .int .u64 (x.m : Int), .bool x.yes] 29)) W) => MkC.start (w := w) (W := W) (x := x) (A := A) (c := c) h.row hb #[.bool true, .bool false, .bool false, .bool true, .bool false, .bool true, .bool true, .bool false, .bool true, .bool false] 108)
  have HOF := Lib.hid (fun W => r11Of_any x.kd.toNat (by omega) W)
  rw [show Me.has x.kd.toNat = ⟨true, false, false, true, false, true, true, false, true, false⟩ by (rw [hk]; rfl)] at HOF
  have HCO : Hid (x.code = if x.more then 4 else Me.firstc x.pcode (Me.tells x.kd.toNat)) := Lib.hid (by unfold Me.code; rw [if_neg h20])
  have HMO : Hid (x.more = ((!true && !(x.name == [])) || ((!false && !(x.other == [])) || ((!true && !(x.key == [])) || ((!true && !(x.head.length == 0)) || ((!true && !(x.body == [])) || ((!false && !(x.n == 0)) || ((!true && !(x.m == 0)) || ((!false && !(!x.yes)) || false))))))))) := Lib.hid (by unfold Me.more; (rw [hk]; rfl))
  have HNN := Lib.hid (fun W => rname_any x.name W (by have := h.name; omega))
  have HNK := Lib.hid (fun W => rkey_any x.key false W (by have := h.key; omega))
  rw [show wildIf false = [] from rfl] at HNK
  have HNH := Lib.hid (fun W g => rCheck9_any x.head A c W h.len h.cap h.lite g)
  have HFC : Hid (Me.firstc x.pcode (Me.tells x.kd.toNat) = if Wrd.nameCode x.name ≠ 0 then Wrd.nameCode x.name else if x.kcode ≠ 0 then x.kcode else if Hd.hcode x.head ≠ 0 then Hd.hcode x.head else if (if 256 < x.body.length then 5 else 0) ≠ 0 then (if 256 < x.body.length then 5 else 0) else 0) := Lib.hid (by
    rw [show Me.tells x.kd.toNat = [0, 2, 3, 6, 4] by (rw [hk]; rfl)]
    have p0 : x.pcode 0 = Wrd.nameCode x.name := rfl
    have p2 : x.pcode 2 = x.kcode := rfl
    have p3 : x.pcode 3 = Hd.hcode x.head := rfl
    have p6 : x.pcode 6 = 0 := rfl
    have p4 : x.pcode 4 = (if 256 < x.body.length then 5 else 0) := rfl
    simp only [Me.firstc, p0, p2, p3, p6, p4, ne_eq, not_true_eq_false, if_false])
  have HKC : Hid (x.kcode = Wrd.keyCode [] x.key) := Lib.hid (by unfold Me.kcode; rw [if_pos hk])
  rw [HKC.out] at HFC
  have hz : (ofL x.body).size = x.body.length := ofL_size x.body
  have hk2 : decide ((20 : Int) < (x.kd.toNat : Int)) = false := decide_eq_false (by omega)
  have hB0 : Below w.heap.size w (w.alloc (.cells #[.int .u8 (x.ch.toNat : Int), .int .u8 (x.kd.toNat : Int), .string (ofL x.name), .string (ofL x.other), .string (ofL x.key), .slice A x.head.length c, .string (ofL x.body), .int .u64 (x.n : Int), .int .u64 (x.m : Int), .bool x.yes] 29)) := (Below.refl _ _).alloc (Nat.le_refl _) _
  have HB0 := Lib.hid hB0
  clear hB0
  clear h hk h20
  obtain ⟨C, hC⟩ : ∃ C, C = x.code := ⟨_, rfl⟩
  have HC := Lib.hid hC
  rw [← hC]
  clear hC
  rw [HCO.out, HFC.out] at HC
  clear HCO HFC
  generalize x.more = BB at *
  generalize Wrd.nameCode x.name = CN at *
  generalize Wrd.keyCode [] x.key = CK at *
  generalize Hd.hcode x.head = CH at *
  simp only [meV]
  simp only [hasV] at HOF
  obtain ⟨xch, xkd, xname, xother, xkey, xhead, xbody, xn, xm, xyes⟩ := x
  dsimp only at *
  generalize xkd.toNat = kn at *
  go_enter Tryz.func11, Tryz.ntmps11
  go_wp2_with fail
  refine (HOF.out _).mono ?_
  rintro e w1 ⟨rfl, b1⟩
  have HD := Lib.hid (HST.out w1 b1)
  clear b1 HST HOF
  have d := HD.out.p.cs
  clear d
  go_upto_region 4 with fail
  simp only [List.append_eq, List.cons_append, List.nil_append]
  generalize w1.alloc (.cells #[.bool true, .bool false, .bool false, .bool true, .bool false, .bool true, .bool true, .bool false, .bool true, .bool false] 108) = w2 at *
  generalize w1.heap.size = g at *
  have c2 := HD.out.p.cs 2 _ rfl
  have c3 := HD.out.p.cs 3 _ rfl
  have c4 := HD.out.p.cs 4 _ rfl
  have c5 := HD.out.p.cs 5 _ rfl
  have c6 := HD.out.p.cs 6 _ rfl
  have c7 := HD.out.p.cs 7 _ rfl
  have c8 := HD.out.p.cs 8 _ rfl
  have c9 := HD.out.p.cs 9 _ rfl
  have cl := HD.out.p.lt
  have h0 := HD.out.h.cs 0 _ rfl
  have h1 := HD.out.h.cs 1 _ rfl
  have h2 := HD.out.h.cs 2 _ rfl
  have h3 := HD.out.h.cs 3 _ rfl
  have h4 := HD.out.h.cs 4 _ rfl
  have h5 := HD.out.h.cs 5 _ rfl
  have h6 := HD.out.h.cs 6 _ rfl
  have h7 := HD.out.h.cs 7 _ rfl
  have h8 := HD.out.h.cs 8 _ rfl
  have h9 := HD.out.h.cs 9 _ rfl
  have hl := HD.out.h.lt
  go_cut [88] (fun s88 wx => s88 = .bool BB ∧ wx = w2)
  case first =>
    clear HD
    (try clear HNN)
    (try clear HNO)
    (try clear HNK)
    (try clear HNH)
    (try clear HOC)
    (try clear HKC)
    clear hz HB0
    have z_name := a_name.out
    obtain ⟨n_name, p_name, q_name, e_name⟩ := txt_y z_name
    by_cases z_other : xother = []
    · skip
      obtain ⟨n_other, p_other, q_other, e_other⟩ := txt_n z_other
      have z_key := a_key.out
      obtain ⟨n_key, p_key, q_key, e_key⟩ := txt_y z_key
      have z_head := a_head.out
      have n_head : decide ((0 : Int) < (xhead.length : Int)) = false := decide_eq_false (by omega)
      have m_head : decide (0 < xhead.length) = false := decide_eq_false (by omega)
      have e_head : (xhead.length == 0) = true := by rw [z_head]; rfl
      by_cases z_body : xbody = []
      · skip
        obtain ⟨n_body, p_body, q_body, e_body⟩ := txt_n z_body
        by_cases z_n : xn = 0
        · skip
          obtain ⟨n_n, e_n⟩ := num_n z_n
          by_cases z_m : xm = 0
          · skip
            obtain ⟨n_m, e_m⟩ := num_n z_m
            cases xyes with
            | false =>
              clear z_name z_other z_key z_head z_body z_n z_m
              have hb : BB = false := by rw [HMO.out, e_name, e_other, e_key, e_head, e_body, e_n, e_m]; rfl
              have HBB := Lib.hid hb
              clear hb HMO
              go_wp2_with fail
              go_meet
              exact ⟨by rw [HBB.out], rfl⟩
            | true =>
              clear z_name z_other z_key z_head z_body z_n z_m
              have hb : BB = true := by rw [HMO.out, e_name, e_other, e_key, e_head, e_body, e_n, e_m]; rfl
              have HBB := Lib.hid hb
              clear hb HMO
              go_wp2_with fail
              go_meet
              exact ⟨by rw [HBB.out], rfl⟩
          · skip
            obtain ⟨n_m, e_m⟩ := num_y z_m
            cases xyes with
            | false =>
              clear z_name z_other z_key z_head z_body z_n z_m
              have hb : BB = false := by rw [HMO.out, e_name, e_other, e_key, e_head, e_body, e_n, e_m]; rfl
              have HBB := Lib.hid hb
              clear hb HMO
              go_wp2_with fail
              go_meet
              exact ⟨by rw [HBB.out], rfl⟩
            | true =>
              clear z_name z_other z_key z_head z_body z_n z_m
              have hb : BB = true := by rw [HMO.out, e_name, e_other, e_key, e_head, e_body, e_n, e_m]; rfl
              have HBB := Lib.hid hb
              clear hb HMO
              go_wp2_with fail
              go_meet
              exact ⟨by rw [HBB.out], rfl⟩
        · skip
          obtain ⟨n_n, e_n⟩ := num_y z_n
          clear z_name z_other z_key z_head z_body z_n
          have hb : BB = true := by rw [HMO.out, e_name, e_other, e_key, e_head, e_body, e_n]; rfl
          have HBB := Lib.hid hb
          clear hb HMO
          go_wp2_with fail
          go_meet
          exact ⟨by rw [HBB.out], rfl⟩
      · skip
        obtain ⟨n_body, p_body, q_body, e_body⟩ := txt_y z_body
        by_cases z_n : xn = 0
        · skip
          obtain ⟨n_n, e_n⟩ := num_n z_n
          by_cases z_m : xm = 0
          · skip
            obtain ⟨n_m, e_m⟩ := num_n z_m
            cases xyes with
            | false =>
              clear z_name z_other z_key z_head z_body z_n z_m
              have hb : BB = false := by rw [HMO.out, e_name, e_other, e_key, e_head, e_body, e_n, e_m]; rfl
              have HBB := Lib.hid hb
              clear hb HMO
              go_wp2_with fail
              go_meet
              exact ⟨by rw [HBB.out], rfl⟩
            | true =>
              clear z_name z_other z_key z_head z_body z_n z_m
              have hb : BB = true := by rw [HMO.out, e_name, e_other, e_key, e_head, e_body, e_n, e_m]; rfl
              have HBB := Lib.hid hb
              clear hb HMO
              go_wp2_with fail
              go_meet
              exact ⟨by rw [HBB.out], rfl⟩
          · skip
            obtain ⟨n_m, e_m⟩ := num_y z_m
            cases xyes with
            | false =>
              clear z_name z_other z_key z_head z_body z_n z_m
              have hb : BB = false := by rw [HMO.out, e_name, e_other, e_key, e_head, e_body, e_n, e_m]; rfl
              have HBB := Lib.hid hb
              clear hb HMO
              go_wp2_with fail
              go_meet
              exact ⟨by rw [HBB.out], rfl⟩
            | true =>
              clear z_name z_other z_key z_head z_body z_n z_m
              have hb : BB = true := by rw [HMO.out, e_name, e_other, e_key, e_head, e_body, e_n, e_m]; rfl
              have HBB := Lib.hid hb
              clear hb HMO
              go_wp2_with fail
              go_meet
              exact ⟨by rw [HBB.out], rfl⟩
        · skip
          obtain ⟨n_n, e_n⟩ := num_y z_n
          clear z_name z_other z_key z_head z_body z_n
          have hb : BB = true := by rw [HMO.out, e_name, e_other, e_key, e_head, e_body, e_n]; rfl
          have HBB := Lib.hid hb
          clear hb HMO
          go_wp2_with fail
          go_meet
          exact ⟨by rw [HBB.out], rfl⟩
    · skip
      obtain ⟨n_other, p_other, q_other, e_other⟩ := txt_y z_other
      clear z_name z_other
      have hb : BB = true := by rw [HMO.out, e_name, e_other]; rfl
      have HBB := Lib.hid hb
      clear hb HMO
      go_wp2_with fail
      go_meet
      exact ⟨by rw [HBB.out], rfl⟩
  case rest =>
    obtain ⟨rfl, rfl⟩ := hcut
    clear HMO a_name a_key a_head
    cases BB with
    | true =>
      go_wp2_with fail
      go_ret
      exact ⟨ret_nat (by rw [HC.out]; rfl), HD.out.B⟩
    | false =>
      have HC := Lib.hid (HC.out.trans (if_neg (by decide)))
      by_cases k_name : CN = 0
      · subst k_name
        by_cases k_key : CK = 0
        · subst k_key
          by_cases k_head : CH = 0
          · subst k_head
            by_cases k5 : 256 < xbody.length
            · have h20 : 256 < (ofL xbody).size := by omega
              have g20 : decide ((256 : Int) < ((ofL xbody).size : Int)) = true := decide_eq_true (by omega)
              clear hz
              go_wp2_with fail
              refine (HNN.out _).mono ?_
              rintro e w3 ⟨rfl, rfl⟩
              go_wp2_with fail
              refine (HNK.out _).mono ?_
              rintro e w4 ⟨rfl, b4⟩
              have HD4 := Lib.hid (HD.out.on b4)
              clear b4 c2 c3 c4 c5 c6 c7 c8 c9 cl h0 h1 h2 h3 h4 h5 h6 h7 h8 h9 hl
              have c2 := HD4.out.p.cs 2 _ rfl
              have c3 := HD4.out.p.cs 3 _ rfl
              have c4 := HD4.out.p.cs 4 _ rfl
              have c5 := HD4.out.p.cs 5 _ rfl
              have c6 := HD4.out.p.cs 6 _ rfl
              have c7 := HD4.out.p.cs 7 _ rfl
              have c8 := HD4.out.p.cs 8 _ rfl
              have c9 := HD4.out.p.cs 9 _ rfl
              have cl := HD4.out.p.lt
              have h0 := HD4.out.h.cs 0 _ rfl
              have h1 := HD4.out.h.cs 1 _ rfl
              have h2 := HD4.out.h.cs 2 _ rfl
              have h3 := HD4.out.h.cs 3 _ rfl
              have h4 := HD4.out.h.cs 4 _ rfl
              have h5 := HD4.out.h.cs 5 _ rfl
              have h6 := HD4.out.h.cs 6 _ rfl
              have h7 := HD4.out.h.cs 7 _ rfl
              have h8 := HD4.out.h.cs 8 _ rfl
              have h9 := HD4.out.h.cs 9 _ rfl
              have hl := HD4.out.h.lt
              go_wp2_with fail
              refine (HNH.out _ HD4.out.ra).mono ?_
              rintro e w5 ⟨rfl, b5⟩
              have HD5 := Lib.hid (HD4.out.on b5)
              clear b5 c2 c3 c4 c5 c6 c7 c8 c9 cl h0 h1 h2 h3 h4 h5 h6 h7 h8 h9 hl
              have c2 := HD5.out.p.cs 2 _ rfl
              have c3 := HD5.out.p.cs 3 _ rfl
              have c4 := HD5.out.p.cs 4 _ rfl
              have c5 := HD5.out.p.cs 5 _ rfl
              have c6 := HD5.out.p.cs 6 _ rfl
              have c7 := HD5.out.p.cs 7 _ rfl
              have c8 := HD5.out.p.cs 8 _ rfl
              have c9 := HD5.out.p.cs 9 _ rfl
              have cl := HD5.out.p.lt
              have h0 := HD5.out.h.cs 0 _ rfl
              have h1 := HD5.out.h.cs 1 _ rfl
              have h2 := HD5.out.h.cs 2 _ rfl
              have h3 := HD5.out.h.cs 3 _ rfl
              have h4 := HD5.out.h.cs 4 _ rfl
              have h5 := HD5.out.h.cs 5 _ rfl
              have h6 := HD5.out.h.cs 6 _ rfl
              have h7 := HD5.out.h.cs 7 _ rfl
              have h8 := HD5.out.h.cs 8 _ rfl
              have h9 := HD5.out.h.cs 9 _ rfl
              have hl := HD5.out.h.lt
              go_wp2_with fail
              go_ret
              exact ⟨ret_nat (by rw [HC.out]; simp [k5]), HD5.out.B⟩
            · have h20 : ¬ 256 < (ofL xbody).size := by omega
              have g20 : decide ((256 : Int) < ((ofL xbody).size : Int)) = false := decide_eq_false (by omega)
              clear hz
              go_wp2_with fail
              refine (HNN.out _).mono ?_
              rintro e w3 ⟨rfl, rfl⟩
              go_wp2_with fail
              refine (HNK.out _).mono ?_
              rintro e w4 ⟨rfl, b4⟩
              have HD4 := Lib.hid (HD.out.on b4)
              clear b4 c2 c3 c4 c5 c6 c7 c8 c9 cl h0 h1 h2 h3 h4 h5 h6 h7 h8 h9 hl
              have c2 := HD4.out.p.cs 2 _ rfl
              have c3 := HD4.out.p.cs 3 _ rfl
              have c4 := HD4.out.p.cs 4 _ rfl
              have c5 := HD4.out.p.cs 5 _ rfl
              have c6 := HD4.out.p.cs 6 _ rfl
              have c7 := HD4.out.p.cs 7 _ rfl
              have c8 := HD4.out.p.cs 8 _ rfl
              have c9 := HD4.out.p.cs 9 _ rfl
              have cl := HD4.out.p.lt
              have h0 := HD4.out.h.cs 0 _ rfl
              have h1 := HD4.out.h.cs 1 _ rfl
              have h2 := HD4.out.h.cs 2 _ rfl
              have h3 := HD4.out.h.cs 3 _ rfl
              have h4 := HD4.out.h.cs 4 _ rfl
              have h5 := HD4.out.h.cs 5 _ rfl
              have h6 := HD4.out.h.cs 6 _ rfl
              have h7 := HD4.out.h.cs 7 _ rfl
              have h8 := HD4.out.h.cs 8 _ rfl
              have h9 := HD4.out.h.cs 9 _ rfl
              have hl := HD4.out.h.lt
              go_wp2_with fail
              refine (HNH.out _ HD4.out.ra).mono ?_
              rintro e w5 ⟨rfl, b5⟩
              have HD5 := Lib.hid (HD4.out.on b5)
              clear b5 c2 c3 c4 c5 c6 c7 c8 c9 cl h0 h1 h2 h3 h4 h5 h6 h7 h8 h9 hl
              have c2 := HD5.out.p.cs 2 _ rfl
              have c3 := HD5.out.p.cs 3 _ rfl
              have c4 := HD5.out.p.cs 4 _ rfl
              have c5 := HD5.out.p.cs 5 _ rfl
              have c6 := HD5.out.p.cs 6 _ rfl
              have c7 := HD5.out.p.cs 7 _ rfl
              have c8 := HD5.out.p.cs 8 _ rfl
              have c9 := HD5.out.p.cs 9 _ rfl
              have cl := HD5.out.p.lt
              have h0 := HD5.out.h.cs 0 _ rfl
              have h1 := HD5.out.h.cs 1 _ rfl
              have h2 := HD5.out.h.cs 2 _ rfl
              have h3 := HD5.out.h.cs 3 _ rfl
              have h4 := HD5.out.h.cs 4 _ rfl
              have h5 := HD5.out.h.cs 5 _ rfl
              have h6 := HD5.out.h.cs 6 _ rfl
              have h7 := HD5.out.h.cs 7 _ rfl
              have h8 := HD5.out.h.cs 8 _ rfl
              have h9 := HD5.out.h.cs 9 _ rfl
              have hl := HD5.out.h.lt
              go_wp2_with fail
              go_ret
              exact ⟨ret_nat (by rw [HC.out]; simp [k5]), HD5.out.B⟩
          · have f_head : ((CH : Int) == 0) = false := beq_eq_false_iff_ne.2 (by omega)
            clear hz
            go_wp2_with fail
            refine (HNN.out _).mono ?_
            rintro e w3 ⟨rfl, rfl⟩
            go_wp2_with fail
            refine (HNK.out _).mono ?_
            rintro e w4 ⟨rfl, b4⟩
            have HD4 := Lib.hid (HD.out.on b4)
            clear b4 c2 c3 c4 c5 c6 c7 c8 c9 cl h0 h1 h2 h3 h4 h5 h6 h7 h8 h9 hl
            have c2 := HD4.out.p.cs 2 _ rfl
            have c3 := HD4.out.p.cs 3 _ rfl
            have c4 := HD4.out.p.cs 4 _ rfl
            have c5 := HD4.out.p.cs 5 _ rfl
            have c6 := HD4.out.p.cs 6 _ rfl
            have c7 := HD4.out.p.cs 7 _ rfl
            have c8 := HD4.out.p.cs 8 _ rfl
            have c9 := HD4.out.p.cs 9 _ rfl
            have cl := HD4.out.p.lt
            have h0 := HD4.out.h.cs 0 _ rfl
            have h1 := HD4.out.h.cs 1 _ rfl
            have h2 := HD4.out.h.cs 2 _ rfl
            have h3 := HD4.out.h.cs 3 _ rfl
            have h4 := HD4.out.h.cs 4 _ rfl
            have h5 := HD4.out.h.cs 5 _ rfl
            have h6 := HD4.out.h.cs 6 _ rfl
            have h7 := HD4.out.h.cs 7 _ rfl
            have h8 := HD4.out.h.cs 8 _ rfl
            have h9 := HD4.out.h.cs 9 _ rfl
            have hl := HD4.out.h.lt
            go_wp2_with fail
            refine (HNH.out _ HD4.out.ra).mono ?_
            rintro e w5 ⟨rfl, b5⟩
            have HD5 := Lib.hid (HD4.out.on b5)
            clear b5 c2 c3 c4 c5 c6 c7 c8 c9 cl h0 h1 h2 h3 h4 h5 h6 h7 h8 h9 hl
            have c2 := HD5.out.p.cs 2 _ rfl
            have c3 := HD5.out.p.cs 3 _ rfl
            have c4 := HD5.out.p.cs 4 _ rfl
            have c5 := HD5.out.p.cs 5 _ rfl
            have c6 := HD5.out.p.cs 6 _ rfl
            have c7 := HD5.out.p.cs 7 _ rfl
            have c8 := HD5.out.p.cs 8 _ rfl
            have c9 := HD5.out.p.cs 9 _ rfl
            have cl := HD5.out.p.lt
            have h0 := HD5.out.h.cs 0 _ rfl
            have h1 := HD5.out.h.cs 1 _ rfl
            have h2 := HD5.out.h.cs 2 _ rfl
            have h3 := HD5.out.h.cs 3 _ rfl
            have h4 := HD5.out.h.cs 4 _ rfl
            have h5 := HD5.out.h.cs 5 _ rfl
            have h6 := HD5.out.h.cs 6 _ rfl
            have h7 := HD5.out.h.cs 7 _ rfl
            have h8 := HD5.out.h.cs 8 _ rfl
            have h9 := HD5.out.h.cs 9 _ rfl
            have hl := HD5.out.h.lt
            go_wp2_with fail
            go_ret
            exact ⟨ret_nat (by rw [HC.out]; simp [k_head]), HD5.out.B⟩
        · have f_key : ((CK : Int) == 0) = false := beq_eq_false_iff_ne.2 (by omega)
          clear hz
          go_wp2_with fail
          refine (HNN.out _).mono ?_
          rintro e w3 ⟨rfl, rfl⟩
          go_wp2_with fail
          refine (HNK.out _).mono ?_
          rintro e w4 ⟨rfl, b4⟩
          have HD4 := Lib.hid (HD.out.on b4)
          clear b4 c2 c3 c4 c5 c6 c7 c8 c9 cl h0 h1 h2 h3 h4 h5 h6 h7 h8 h9 hl
          have c2 := HD4.out.p.cs 2 _ rfl
          have c3 := HD4.out.p.cs 3 _ rfl
          have c4 := HD4.out.p.cs 4 _ rfl
          have c5 := HD4.out.p.cs 5 _ rfl
          have c6 := HD4.out.p.cs 6 _ rfl
          have c7 := HD4.out.p.cs 7 _ rfl
          have c8 := HD4.out.p.cs 8 _ rfl
          have c9 := HD4.out.p.cs 9 _ rfl
          have cl := HD4.out.p.lt
          have h0 := HD4.out.h.cs 0 _ rfl
          have h1 := HD4.out.h.cs 1 _ rfl
          have h2 := HD4.out.h.cs 2 _ rfl
          have h3 := HD4.out.h.cs 3 _ rfl
          have h4 := HD4.out.h.cs 4 _ rfl
          have h5 := HD4.out.h.cs 5 _ rfl
          have h6 := HD4.out.h.cs 6 _ rfl
          have h7 := HD4.out.h.cs 7 _ rfl
          have h8 := HD4.out.h.cs 8 _ rfl
          have h9 := HD4.out.h.cs 9 _ rfl
          have hl := HD4.out.h.lt
          go_wp2_with fail
          go_ret
          exact ⟨ret_nat (by rw [HC.out]; simp [k_key]), HD4.out.B⟩
      · have f_name : ((CN : Int) == 0) = false := beq_eq_false_iff_ne.2 (by omega)
        clear hz
        go_wp2_with fail
        refine (HNN.out _).mono ?_
        rintro e w3 ⟨rfl, rfl⟩
        go_wp2_with fail
        go_ret
        exact ⟨ret_nat (by rw [HC.out]; simp [k_name]), HD.out.B⟩
end Go.Proofs.YtnamkglflhkckaaGreatDoor
end
