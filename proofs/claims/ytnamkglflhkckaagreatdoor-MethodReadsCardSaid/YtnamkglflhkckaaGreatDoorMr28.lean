/-
  WHETHER A METHOD MAY BE, as the document has it: walked, class by class of its kinds.
-/
import Derived.Test.YtnamkglflhkckaaGreatDoorMr27
import Derived.Deep.DeepCutAuto
section
namespace Go.Proofs.YtnamkglflhkckaaGreatDoor
open Go.ChangeShapes Go.WideShapes Go.ChangeAt Go.RowKit
set_option maxRecDepth 100000 in
set_option maxHeartbeats 32000000 in
theorem r11Check_nno (x : Me) (A : Option Addr) (c : Nat) (w : World) (h : MeOk w x A c) (hk : x.kd.toNat = 3) : Calls Tryz.prog 11 #[meV x A c] w fun e w' => e = .returned (.int .i64 (x.code : Int)) ∧ Below w.heap.size w w' := by
  have h20 : ¬ 20 < x.kd.toNat := by omega
  have HST := Lib.hid (fun W (hb : Below (w.alloc (.cells #[.int .u8 (x.ch.toNat : Int), .int .u8 (x.kd.toNat : Int), .string (ofL x.name), .string (ofL x.other), .string (ofL x.key), .slice A x.head.length c, .string (ofL x.body), .int .u64 (x.n : Int), .int .u64 (x.m : Int), .bool x.yes] 29)).heap.size (w.alloc (.cells #[.int .u8 (x.ch.toNat : Int), .int .u8 (x.kd.toNat : Int), .string (ofL x.name), .string (ofL x.other), .string (ofL x.key), .slice A x.head.length c, .string (ofL x.body), .int .u64 (x.n : Int), .int .u64 (x.m : Int), .bool x.yes] 29)) W) => MkC.start (w := w) (W := W) (x := x) (A := A) (c := c) h.row hb #[.bool true, .bool true, .bool true, .bool false, .bool false, .bool false, .bool false, .bool true, .bool false, .bool false] 108)
  have HOF := Lib.hid (fun W => r11Of_any x.kd.toNat (by omega) W)
  rw [show Me.has x.kd.toNat = ⟨true, true, true, false, false, false, false, true, false, false⟩ by (rw [hk]; rfl)] at HOF
  have HCO : Hid (x.code = if x.more then 4 else Me.firstc x.pcode (Me.tells x.kd.toNat)) := Lib.hid (by unfold Me.code; rw [if_neg h20])
  have HMO : Hid (x.more = ((!true && !(x.name == [])) || ((!true && !(x.other == [])) || ((!false && !(x.key == [])) || ((!false && !(x.head.length == 0)) || ((!false && !(x.body == [])) || ((!true && !(x.n == 0)) || ((!false && !(x.m == 0)) || ((!false && !(!x.yes)) || false))))))))) := Lib.hid (by unfold Me.more; (rw [hk]; rfl))
  have HNN := Lib.hid (fun W => rname_any x.name W (by have := h.name; omega))
  have HNO := Lib.hid (fun W => rname_any x.other W (by have := h.other; omega))
  have HFC : Hid (Me.firstc x.pcode (Me.tells x.kd.toNat) = if Wrd.nameCode x.name ≠ 0 then Wrd.nameCode x.name else if x.ocode ≠ 0 then x.ocode else 0) := Lib.hid (by
    rw [show Me.tells x.kd.toNat = [0, 5, 1] by (rw [hk]; rfl)]
    have p0 : x.pcode 0 = Wrd.nameCode x.name := rfl
    have p5 : x.pcode 5 = 0 := rfl
    have p1 : x.pcode 1 = x.ocode := rfl
    simp only [Me.firstc, p0, p5, p1, ne_eq, not_true_eq_false, if_false])
  have HOC : Hid (x.ocode = if x.other = [] then 0 else Wrd.nameCode x.other) := Lib.hid (by unfold Me.ocode; simp only [hk]; simp)
  have HNB := Lib.hid (show x.more = false → (ofL x.body).size = 0 from fun g => by
    have hb := Me.more_no g (p := 4) (by decide) (by (rw [hk]; rfl))
    have hb2 : (x.body == []) = true := hb
    rw [ofL_size, beq_iff_eq.1 hb2]; rfl)
  have hz : (ofL x.body).size = x.body.length := ofL_size x.body
  have hk2 : decide ((20 : Int) < (x.kd.toNat : Int)) = false := decide_eq_false (by omega)
  have hB0 : Below w.heap.size w (w.alloc (.cells #[.int .u8 (x.ch.toNat : Int), .int .u8 (x.kd.toNat : Int), .string (ofL x.name), .string (ofL x.other), .string (ofL x.key), .slice A x.head.length c, .string (ofL x.body), .int .u64 (x.n : Int), .int .u64 (x.m : Int), .bool x.yes] 29)) := (Below.refl _ _).alloc (Nat.le_refl _) _
  have HB0 := Lib.hid hB0
  clear hB0
  clear h hk h20
  obtain ⟨C, hC⟩ : ∃ C, C = x.code := ⟨_, rfl⟩
  have HC := Lib.hid hC
  rw [← hC]
  clear hC
  rw [HCO.out, HFC.out] at HC
  clear HCO HFC
  generalize x.more = BB at *
  generalize Wrd.nameCode x.name = CN at *
  generalize Wrd.nameCode x.other = CO at *
  generalize x.ocode = OC at *
  simp only [meV]
  simp only [hasV] at HOF
  obtain ⟨xch, xkd, xname, xother, xkey, xhead, xbody, xn, xm, xyes⟩ := x
  dsimp only at *
  generalize xkd.toNat = kn at *
  go_enter Tryz.func11, Tryz.ntmps11
  go_wp2_with fail
  refine (HOF.out _).mono ?_
  rintro e w1 ⟨rfl, b1⟩
  have HD := Lib.hid (HST.out w1 b1)
  clear b1 HST HOF
  have d := HD.out.p.cs
  clear d
  go_upto_region 4 with fail
  simp only [List.append_eq, List.cons_append, List.nil_append]
  generalize w1.alloc (.cells #[.bool true, .bool true, .bool true, .bool false, .bool false, .bool false, .bool false, .bool true, .bool false, .bool false] 108) = w2 at *
  generalize w1.heap.size = g at *
  have c2 := HD.out.p.cs 2 _ rfl
  have c3 := HD.out.p.cs 3 _ rfl
  have c4 := HD.out.p.cs 4 _ rfl
  have c5 := HD.out.p.cs 5 _ rfl
  have c6 := HD.out.p.cs 6 _ rfl
  have c7 := HD.out.p.cs 7 _ rfl
  have c8 := HD.out.p.cs 8 _ rfl
  have c9 := HD.out.p.cs 9 _ rfl
  have cl := HD.out.p.lt
  have h0 := HD.out.h.cs 0 _ rfl
  have h1 := HD.out.h.cs 1 _ rfl
  have h2 := HD.out.h.cs 2 _ rfl
  have h3 := HD.out.h.cs 3 _ rfl
  have h4 := HD.out.h.cs 4 _ rfl
  have h5 := HD.out.h.cs 5 _ rfl
  have h6 := HD.out.h.cs 6 _ rfl
  have h7 := HD.out.h.cs 7 _ rfl
  have h8 := HD.out.h.cs 8 _ rfl
  have h9 := HD.out.h.cs 9 _ rfl
  have hl := HD.out.h.lt
  go_cut [88] (fun s88 wx => s88 = .bool BB ∧ wx = w2)
  case first =>
    clear HD
    (try clear HNN)
    (try clear HNO)
    (try clear HNK)
    (try clear HNH)
    (try clear HOC)
    (try clear HKC)
    clear hz HB0 HNB
    by_cases z_name : xname = []
    · skip
      obtain ⟨n_name, p_name, q_name, e_name⟩ := txt_n z_name
      by_cases z_other : xother = []
      · skip
        obtain ⟨n_other, p_other, q_other, e_other⟩ := txt_n z_other
        by_cases z_key : xkey = []
        · skip
          obtain ⟨n_key, p_key, q_key, e_key⟩ := txt_n z_key
          by_cases z_head : xhead.length = 0
          · skip
            have n_head : decide ((0 : Int) < (xhead.length : Int)) = false := decide_eq_false (by omega)
            have m_head : decide (0 < xhead.length) = false := decide_eq_false (by omega)
            have e_head : (xhead.length == 0) = true := by rw [z_head]; rfl
            by_cases z_body : xbody = []
            · skip
              obtain ⟨n_body, p_body, q_body, e_body⟩ := txt_n z_body
              by_cases z_n : xn = 0
              · skip
                obtain ⟨n_n, e_n⟩ := num_n z_n
                by_cases z_m : xm = 0
                · skip
                  obtain ⟨n_m, e_m⟩ := num_n z_m
                  cases xyes with
                  | false =>
                    clear z_name z_other z_key z_head z_body z_n z_m
                    have hb : BB = false := by rw [HMO.out, e_name, e_other, e_key, e_head, e_body, e_n, e_m]; rfl
                    have HBB := Lib.hid hb
                    clear hb HMO
                    go_wp2_with fail
                    go_meet
                    exact ⟨by rw [HBB.out], rfl⟩
                  | true =>
                    clear z_name z_other z_key z_head z_body z_n z_m
                    have hb : BB = true := by rw [HMO.out, e_name, e_other, e_key, e_head, e_body, e_n, e_m]; rfl
                    have HBB := Lib.hid hb
                    clear hb HMO
                    go_wp2_with fail
                    go_meet
                    exact ⟨by rw [HBB.out], rfl⟩
                · skip
                  obtain ⟨n_m, e_m⟩ := num_y z_m
                  clear z_name z_other z_key z_head z_body z_n z_m
                  have hb : BB = true := by rw [HMO.out, e_name, e_other, e_key, e_head, e_body, e_n, e_m]; rfl
                  have HBB := Lib.hid hb
                  clear hb HMO
                  go_wp2_with fail
                  go_meet
                  exact ⟨by rw [HBB.out], rfl⟩
              · skip
                obtain ⟨n_n, e_n⟩ := num_y z_n
                by_cases z_m : xm = 0
                · skip
                  obtain ⟨n_m, e_m⟩ := num_n z_m
                  cases xyes with
                  | false =>
                    clear z_name z_other z_key z_head z_body z_n z_m
                    have hb : BB = false := by rw [HMO.out, e_name, e_other, e_key, e_head, e_body, e_n, e_m]; rfl
                    have HBB := Lib.hid hb
                    clear hb HMO
                    go_wp2_with fail
                    go_meet
                    exact ⟨by rw [HBB.out], rfl⟩
                  | true =>
                    clear z_name z_other z_key z_head z_body z_n z_m
                    have hb : BB = true := by rw [HMO.out, e_name, e_other, e_key, e_head, e_body, e_n, e_m]; rfl
                    have HBB := Lib.hid hb
                    clear hb HMO
                    go_wp2_with fail
                    go_meet
                    exact ⟨by rw [HBB.out], rfl⟩
                · skip
                  obtain ⟨n_m, e_m⟩ := num_y z_m
                  clear z_name z_other z_key z_head z_body z_n z_m
                  have hb : BB = true := by rw [HMO.out, e_name, e_other, e_key, e_head, e_body, e_n, e_m]; rfl
                  have HBB := Lib.hid hb
                  clear hb HMO
                  go_wp2_with fail
                  go_meet
                  exact ⟨by rw [HBB.out], rfl⟩
            · skip
              obtain ⟨n_body, p_body, q_body, e_body⟩ := txt_y z_body
              clear z_name z_other z_key z_head z_body
              have hb : BB = true := by rw [HMO.out, e_name, e_other, e_key, e_head, e_body]; rfl
              have HBB := Lib.hid hb
              clear hb HMO
              go_wp2_with fail
              go_meet
              exact ⟨by rw [HBB.out], rfl⟩
          · skip
            have n_head : decide ((0 : Int) < (xhead.length : Int)) = true := decide_eq_true (by omega)
            have m_head : decide (0 < xhead.length) = true := decide_eq_true (by omega)
            have e_head : (xhead.length == 0) = false := beq_eq_false_iff_ne.2 z_head
            clear z_name z_other z_key z_head
            have hb : BB = true := by rw [HMO.out, e_name, e_other, e_key, e_head]; rfl
            have HBB := Lib.hid hb
            clear hb HMO
            go_wp2_with fail
            go_meet
            exact ⟨by rw [HBB.out], rfl⟩
        · skip
          obtain ⟨n_key, p_key, q_key, e_key⟩ := txt_y z_key
          clear z_name z_other z_key
          have hb : BB = true := by rw [HMO.out, e_name, e_other, e_key]; rfl
          have HBB := Lib.hid hb
          clear hb HMO
          go_wp2_with fail
          go_meet
          exact ⟨by rw [HBB.out], rfl⟩
      · skip
        obtain ⟨n_other, p_other, q_other, e_other⟩ := txt_y z_other
        by_cases z_key : xkey = []
        · skip
          obtain ⟨n_key, p_key, q_key, e_key⟩ := txt_n z_key
          by_cases z_head : xhead.length = 0
          · skip
            have n_head : decide ((0 : Int) < (xhead.length : Int)) = false := decide_eq_false (by omega)
            have m_head : decide (0 < xhead.length) = false := decide_eq_false (by omega)
            have e_head : (xhead.length == 0) = true := by rw [z_head]; rfl
            by_cases z_body : xbody = []
            · skip
              obtain ⟨n_body, p_body, q_body, e_body⟩ := txt_n z_body
              by_cases z_n : xn = 0
              · skip
                obtain ⟨n_n, e_n⟩ := num_n z_n
                by_cases z_m : xm = 0
                · skip
                  obtain ⟨n_m, e_m⟩ := num_n z_m
                  cases xyes with
                  | false =>
                    clear z_name z_other z_key z_head z_body z_n z_m
                    have hb : BB = false := by rw [HMO.out, e_name, e_other, e_key, e_head, e_body, e_n, e_m]; rfl
                    have HBB := Lib.hid hb
                    clear hb HMO
                    go_wp2_with fail
                    go_meet
                    exact ⟨by rw [HBB.out], rfl⟩
                  | true =>
                    clear z_name z_other z_key z_head z_body z_n z_m
                    have hb : BB = true := by rw [HMO.out, e_name, e_other, e_key, e_head, e_body, e_n, e_m]; rfl
                    have HBB := Lib.hid hb
                    clear hb HMO
                    go_wp2_with fail
                    go_meet
                    exact ⟨by rw [HBB.out], rfl⟩
                · skip
                  obtain ⟨n_m, e_m⟩ := num_y z_m
                  clear z_name z_other z_key z_head z_body z_n z_m
                  have hb : BB = true := by rw [HMO.out, e_name, e_other, e_key, e_head, e_body, e_n, e_m]; rfl
                  have HBB := Lib.hid hb
                  clear hb HMO
                  go_wp2_with fail
                  go_meet
                  exact ⟨by rw [HBB.out], rfl⟩
              · skip
                obtain ⟨n_n, e_n⟩ := num_y z_n
                by_cases z_m : xm = 0
                · skip
                  obtain ⟨n_m, e_m⟩ := num_n z_m
                  cases xyes with
                  | false =>
                    clear z_name z_other z_key z_head z_body z_n z_m
                    have hb : BB = false := by rw [HMO.out, e_name, e_other, e_key, e_head, e_body, e_n, e_m]; rfl
                    have HBB := Lib.hid hb
                    clear hb HMO
                    go_wp2_with fail
                    go_meet
                    exact ⟨by rw [HBB.out], rfl⟩
                  | true =>
                    clear z_name z_other z_key z_head z_body z_n z_m
                    have hb : BB = true := by rw [HMO.out, e_name, e_other, e_key, e_head, e_body, e_n, e_m]; rfl
                    have HBB := Lib.hid hb
                    clear hb HMO
                    go_wp2_with fail
                    go_meet
                    exact ⟨by rw [HBB.out], rfl⟩
                · skip
                  obtain ⟨n_m, e_m⟩ := num_y z_m
                  clear z_name z_other z_key z_head z_body z_n z_m
                  have hb : BB = true := by rw [HMO.out, e_name, e_other, e_key, e_head, e_body, e_n, e_m]; rfl
                  have HBB := Lib.hid hb
                  clear hb HMO
                  go_wp2_with fail
                  go_meet
                  exact ⟨by rw [HBB.out], rfl⟩
            · skip
              obtain ⟨n_body, p_body, q_body, e_body⟩ := txt_y z_body
              clear z_name z_other z_key z_head z_body
              have hb : BB = true := by rw [HMO.out, e_name, e_other, e_key, e_head, e_body]; rfl
              have HBB := Lib.hid hb
              clear hb HMO
              go_wp2_with fail
              go_meet
              exact ⟨by rw [HBB.out], rfl⟩
          · skip
            have n_head : decide ((0 : Int) < (xhead.length : Int)) = true := decide_eq_true (by omega)
            have m_head : decide (0 < xhead.length) = true := decide_eq_true (by omega)
            have e_head : (xhead.length == 0) = false := beq_eq_false_iff_ne.2 z_head
            clear z_name z_other z_key z_head
            have hb : BB = true := by rw [HMO.out, e_name, e_other, e_key, e_head]; rfl
            have HBB := Lib.hid hb
            clear hb HMO
            go_wp2_with fail
            go_meet
            exact ⟨by rw [HBB.out], rfl⟩
        · skip
          obtain ⟨n_key, p_key, q_key, e_key⟩ := txt_y z_key
          clear z_name z_other z_key
          have hb : BB = true := by rw [HMO.out, e_name, e_other, e_key]; rfl
          have HBB := Lib.hid hb
          clear hb HMO
          go_wp2_with fail
          go_meet
          exact ⟨by rw [HBB.out], rfl⟩
    · skip
      obtain ⟨n_name, p_name, q_name, e_name⟩ := txt_y z_name
      by_cases z_other : xother = []
      · skip
        obtain ⟨n_other, p_other, q_other, e_other⟩ := txt_n z_other
        by_cases z_key : xkey = []
        · skip
          obtain ⟨n_key, p_key, q_key, e_key⟩ := txt_n z_key
          by_cases z_head : xhead.length = 0
          · skip
            have n_head : decide ((0 : Int) < (xhead.length : Int)) = false := decide_eq_false (by omega)
            have m_head : decide (0 < xhead.length) = false := decide_eq_false (by omega)
            have e_head : (xhead.length == 0) = true := by rw [z_head]; rfl
            by_cases z_body : xbody = []
            · skip
              obtain ⟨n_body, p_body, q_body, e_body⟩ := txt_n z_body
              by_cases z_n : xn = 0
              · skip
                obtain ⟨n_n, e_n⟩ := num_n z_n
                by_cases z_m : xm = 0
                · skip
                  obtain ⟨n_m, e_m⟩ := num_n z_m
                  cases xyes with
                  | false =>
                    clear z_name z_other z_key z_head z_body z_n z_m
                    have hb : BB = false := by rw [HMO.out, e_name, e_other, e_key, e_head, e_body, e_n, e_m]; rfl
                    have HBB := Lib.hid hb
                    clear hb HMO
                    go_wp2_with fail
                    go_meet
                    exact ⟨by rw [HBB.out], rfl⟩
                  | true =>
                    clear z_name z_other z_key z_head z_body z_n z_m
                    have hb : BB = true := by rw [HMO.out, e_name, e_other, e_key, e_head, e_body, e_n, e_m]; rfl
                    have HBB := Lib.hid hb
                    clear hb HMO
                    go_wp2_with fail
                    go_meet
                    exact ⟨by rw [HBB.out], rfl⟩
                · skip
                  obtain ⟨n_m, e_m⟩ := num_y z_m
                  clear z_name z_other z_key z_head z_body z_n z_m
                  have hb : BB = true := by rw [HMO.out, e_name, e_other, e_key, e_head, e_body, e_n, e_m]; rfl
                  have HBB := Lib.hid hb
                  clear hb HMO
                  go_wp2_with fail
                  go_meet
                  exact ⟨by rw [HBB.out], rfl⟩
              · skip
                obtain ⟨n_n, e_n⟩ := num_y z_n
                by_cases z_m : xm = 0
                · skip
                  obtain ⟨n_m, e_m⟩ := num_n z_m
                  cases xyes with
                  | false =>
                    clear z_name z_other z_key z_head z_body z_n z_m
                    have hb : BB = false := by rw [HMO.out, e_name, e_other, e_key, e_head, e_body, e_n, e_m]; rfl
                    have HBB := Lib.hid hb
                    clear hb HMO
                    go_wp2_with fail
                    go_meet
                    exact ⟨by rw [HBB.out], rfl⟩
                  | true =>
                    clear z_name z_other z_key z_head z_body z_n z_m
                    have hb : BB = true := by rw [HMO.out, e_name, e_other, e_key, e_head, e_body, e_n, e_m]; rfl
                    have HBB := Lib.hid hb
                    clear hb HMO
                    go_wp2_with fail
                    go_meet
                    exact ⟨by rw [HBB.out], rfl⟩
                · skip
                  obtain ⟨n_m, e_m⟩ := num_y z_m
                  clear z_name z_other z_key z_head z_body z_n z_m
                  have hb : BB = true := by rw [HMO.out, e_name, e_other, e_key, e_head, e_body, e_n, e_m]; rfl
                  have HBB := Lib.hid hb
                  clear hb HMO
                  go_wp2_with fail
                  go_meet
                  exact ⟨by rw [HBB.out], rfl⟩
            · skip
              obtain ⟨n_body, p_body, q_body, e_body⟩ := txt_y z_body
              clear z_name z_other z_key z_head z_body
              have hb : BB = true := by rw [HMO.out, e_name, e_other, e_key, e_head, e_body]; rfl
              have HBB := Lib.hid hb
              clear hb HMO
              go_wp2_with fail
              go_meet
              exact ⟨by rw [HBB.out], rfl⟩
          · skip
            have n_head : decide ((0 : Int) < (xhead.length : Int)) = true := decide_eq_true (by omega)
            have m_head : decide (0 < xhead.length) = true := decide_eq_true (by omega)
            have e_head : (xhead.length == 0) = false := beq_eq_false_iff_ne.2 z_head
            clear z_name z_other z_key z_head
            have hb : BB = true := by rw [HMO.out, e_name, e_other, e_key, e_head]; rfl
            have HBB := Lib.hid hb
            clear hb HMO
            go_wp2_with fail
            go_meet
            exact ⟨by rw [HBB.out], rfl⟩
        · skip
          obtain ⟨n_key, p_key, q_key, e_key⟩ := txt_y z_key
          clear z_name z_other z_key
          have hb : BB = true := by rw [HMO.out, e_name, e_other, e_key]; rfl
          have HBB := Lib.hid hb
          clear hb HMO
          go_wp2_with fail
          go_meet
          exact ⟨by rw [HBB.out], rfl⟩
      · skip
        obtain ⟨n_other, p_other, q_other, e_other⟩ := txt_y z_other
        by_cases z_key : xkey = []
        · skip
          obtain ⟨n_key, p_key, q_key, e_key⟩ := txt_n z_key
          by_cases z_head : xhead.length = 0
          · skip
            have n_head : decide ((0 : Int) < (xhead.length : Int)) = false := decide_eq_false (by omega)
            have m_head : decide (0 < xhead.length) = false := decide_eq_false (by omega)
            have e_head : (xhead.length == 0) = true := by rw [z_head]; rfl
            by_cases z_body : xbody = []
            · skip
              obtain ⟨n_body, p_body, q_body, e_body⟩ := txt_n z_body
              by_cases z_n : xn = 0
              · skip
                obtain ⟨n_n, e_n⟩ := num_n z_n
                by_cases z_m : xm = 0
                · skip
                  obtain ⟨n_m, e_m⟩ := num_n z_m
                  cases xyes with
                  | false =>
                    clear z_name z_other z_key z_head z_body z_n z_m
                    have hb : BB = false := by rw [HMO.out, e_name, e_other, e_key, e_head, e_body, e_n, e_m]; rfl
                    have HBB := Lib.hid hb
                    clear hb HMO
                    go_wp2_with fail
                    go_meet
                    exact ⟨by rw [HBB.out], rfl⟩
                  | true =>
                    clear z_name z_other z_key z_head z_body z_n z_m
                    have hb : BB = true := by rw [HMO.out, e_name, e_other, e_key, e_head, e_body, e_n, e_m]; rfl
                    have HBB := Lib.hid hb
                    clear hb HMO
                    go_wp2_with fail
                    go_meet
                    exact ⟨by rw [HBB.out], rfl⟩
                · skip
                  obtain ⟨n_m, e_m⟩ := num_y z_m
                  clear z_name z_other z_key z_head z_body z_n z_m
                  have hb : BB = true := by rw [HMO.out, e_name, e_other, e_key, e_head, e_body, e_n, e_m]; rfl
                  have HBB := Lib.hid hb
                  clear hb HMO
                  go_wp2_with fail
                  go_meet
                  exact ⟨by rw [HBB.out], rfl⟩
              · skip
                obtain ⟨n_n, e_n⟩ := num_y z_n
                by_cases z_m : xm = 0
                · skip
                  obtain ⟨n_m, e_m⟩ := num_n z_m
                  cases xyes with
                  | false =>
                    clear z_name z_other z_key z_head z_body z_n z_m
                    have hb : BB = false := by rw [HMO.out, e_name, e_other, e_key, e_head, e_body, e_n, e_m]; rfl
                    have HBB := Lib.hid hb
                    clear hb HMO
                    go_wp2_with fail
                    go_meet
                    exact ⟨by rw [HBB.out], rfl⟩
                  | true =>
                    clear z_name z_other z_key z_head z_body z_n z_m
                    have hb : BB = true := by rw [HMO.out, e_name, e_other, e_key, e_head, e_body, e_n, e_m]; rfl
                    have HBB := Lib.hid hb
                    clear hb HMO
                    go_wp2_with fail
                    go_meet
                    exact ⟨by rw [HBB.out], rfl⟩
                · skip
                  obtain ⟨n_m, e_m⟩ := num_y z_m
                  clear z_name z_other z_key z_head z_body z_n z_m
                  have hb : BB = true := by rw [HMO.out, e_name, e_other, e_key, e_head, e_body, e_n, e_m]; rfl
                  have HBB := Lib.hid hb
                  clear hb HMO
                  go_wp2_with fail
                  go_meet
                  exact ⟨by rw [HBB.out], rfl⟩
            · skip
              obtain ⟨n_body, p_body, q_body, e_body⟩ := txt_y z_body
              clear z_name z_other z_key z_head z_body
              have hb : BB = true := by rw [HMO.out, e_name, e_other, e_key, e_head, e_body]; rfl
              have HBB := Lib.hid hb
              clear hb HMO
              go_wp2_with fail
              go_meet
              exact ⟨by rw [HBB.out], rfl⟩
          · skip
            have n_head : decide ((0 : Int) < (xhead.length : Int)) = true := decide_eq_true (by omega)
            have m_head : decide (0 < xhead.length) = true := decide_eq_true (by omega)
            have e_head : (xhead.length == 0) = false := beq_eq_false_iff_ne.2 z_head
            clear z_name z_other z_key z_head
            have hb : BB = true := by rw [HMO.out, e_name, e_other, e_key, e_head]; rfl
            have HBB := Lib.hid hb
            clear hb HMO
            go_wp2_with fail
            go_meet
            exact ⟨by rw [HBB.out], rfl⟩
        · skip
          obtain ⟨n_key, p_key, q_key, e_key⟩ := txt_y z_key
          clear z_name z_other z_key
          have hb : BB = true := by rw [HMO.out, e_name, e_other, e_key]; rfl
          have HBB := Lib.hid hb
          clear hb HMO
          go_wp2_with fail
          go_meet
          exact ⟨by rw [HBB.out], rfl⟩
  case rest =>
    obtain ⟨rfl, rfl⟩ := hcut
    clear HMO
    cases hBB : BB with
    | true =>
      rw [hBB] at HC
      clear hBB HNB
      go_wp2_with fail
      go_ret
      exact ⟨ret_nat (by rw [HC.out]; rfl), HD.out.B⟩
    | false =>
      rw [hBB] at HNB HC
      have HNB := Lib.hid (HNB.out rfl)
      clear hBB
      have HC := Lib.hid (HC.out.trans (if_neg (by decide)))
      by_cases k_name : CN = 0
      · subst k_name
        by_cases z_other : xother = []
        · skip
          have n_other : ((ofL xother).toList == []) = true := by rw [str_list, z_other]; rfl
          have p_other : (ofL xother).toList = [] := by rw [str_list, z_other]
          have q_other : (ofL xother).toList.isEmpty = true := by rw [str_list, z_other]; rfl
          have e_other : (xother == ([] : List UInt8)) = true := by rw [z_other]; rfl
          rw [HOC.out, if_pos z_other] at HC
          clear z_other HOC
          have h20 : ¬ 256 < (ofL xbody).size := by have := HNB.out; omega
          have g20 : decide ((256 : Int) < ((ofL xbody).size : Int)) = false := decide_eq_false (by have := HNB.out; omega)
          clear hz
          go_wp2_with fail
          refine (HNN.out _).mono ?_
          rintro e w3 ⟨rfl, rfl⟩
          go_wp2_with fail
          go_ret
          exact ⟨ret_nat (by rw [HC.out]; simp []), HD.out.B⟩
        · skip
          have n_other : ((ofL xother).toList == []) = false := by rw [str_list]; exact beq_eq_false_iff_ne.2 z_other
          have p_other : ¬ (ofL xother).toList = [] := by rw [str_list]; exact z_other
          have q_other : (ofL xother).toList.isEmpty = false := by rw [str_list]; exact List.isEmpty_eq_false_iff.2 z_other
          have e_other : (xother == ([] : List UInt8)) = false := beq_eq_false_iff_ne.2 z_other
          rw [HOC.out, if_neg z_other] at HC
          clear z_other HOC
          by_cases k_other : CO = 0
          · subst k_other
            have h20 : ¬ 256 < (ofL xbody).size := by have := HNB.out; omega
            have g20 : decide ((256 : Int) < ((ofL xbody).size : Int)) = false := decide_eq_false (by have := HNB.out; omega)
            clear hz
            go_wp2_with fail
            refine (HNN.out _).mono ?_
            rintro e w3 ⟨rfl, rfl⟩
            go_wp2_with fail
            refine (HNO.out _).mono ?_
            rintro e w4 ⟨rfl, rfl⟩
            go_wp2_with fail
            go_ret
            exact ⟨ret_nat (by rw [HC.out]; simp []), HD.out.B⟩
          · have f_other : ((CO : Int) == 0) = false := beq_eq_false_iff_ne.2 (by omega)
            clear hz
            go_wp2_with fail
            refine (HNN.out _).mono ?_
            rintro e w3 ⟨rfl, rfl⟩
            go_wp2_with fail
            refine (HNO.out _).mono ?_
            rintro e w4 ⟨rfl, rfl⟩
            go_wp2_with fail
            go_ret
            exact ⟨ret_nat (by rw [HC.out]; simp [k_other]), HD.out.B⟩
      · have f_name : ((CN : Int) == 0) = false := beq_eq_false_iff_ne.2 (by omega)
        clear hz
        go_wp2_with fail
        refine (HNN.out _).mono ?_
        rintro e w3 ⟨rfl, rfl⟩
        go_wp2_with fail
        go_ret
        exact ⟨ret_nat (by rw [HC.out]; simp [k_name]), HD.out.B⟩
end Go.Proofs.YtnamkglflhkckaaGreatDoor
end
