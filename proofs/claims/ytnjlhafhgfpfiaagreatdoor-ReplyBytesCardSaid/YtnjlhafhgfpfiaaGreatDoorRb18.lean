/-
  WHETHER A REPLY MAY BE, as the document has it: walked.
-/
import Derived.Test.YtnjlhafhgfpfiaaGreatDoorRb17
import Derived.Deep.DeepCutAuto
section
namespace Go.Proofs.YtnjlhafhgfpfiaaGreatDoor
open Go.ChangeShapes Go.WideShapes Go.ChangeAt Go.RowKit
set_option maxRecDepth 100000 in
set_option maxHeartbeats 32000000 in
theorem r12Check_any (x : Re) (A : Option Addr) (c : Nat) (w : World) (h : ReOk w x A c) : Calls Tryz.prog 6 #[reV x A c] w fun e w' => e = .returned (.int .i64 (x.code : Int)) ∧ Below w.heap.size w w' := by
  have HB1 := Lib.hid (show Below w.heap.size w (w.alloc (.cells #[.int .u8 (x.ch.toNat : Int), .int .u8 (x.kd.toNat : Int), .int .u64 (x.n : Int), .int .u64 (x.m : Int), .bool x.yes, .string (ofL x.name), .int .u64 (x.id : Int), .string (ofL x.shop), .string (ofL x.key), .slice A x.head.length c, .string (ofL x.body), .int .u64 (x.due : Int), .int .u8 (x.hops : Int)] 33)) from (Below.refl _ _).alloc (Nat.le_refl _) _)
  have HB2 := Lib.hid (show Below w.heap.size w ((w.alloc (.cells #[.int .u8 (x.ch.toNat : Int), .int .u8 (x.kd.toNat : Int), .int .u64 (x.n : Int), .int .u64 (x.m : Int), .bool x.yes, .string (ofL x.name), .int .u64 (x.id : Int), .string (ofL x.shop), .string (ofL x.key), .slice A x.head.length c, .string (ofL x.body), .int .u64 (x.due : Int), .int .u8 (x.hops : Int)] 33)).alloc (.cells #[.int .u64 (x.id : Int), .string (ofL x.shop), .string (ofL x.key), .slice A x.head.length c, .string (ofL x.body), .int .u64 (x.due : Int), .int .u8 (x.hops : Int)] 28)) from HB1.out.alloc HB1.out.size _)
  have HX2 := Lib.hid (show Cels ((w.alloc (.cells #[.int .u8 (x.ch.toNat : Int), .int .u8 (x.kd.toNat : Int), .int .u64 (x.n : Int), .int .u64 (x.m : Int), .bool x.yes, .string (ofL x.name), .int .u64 (x.id : Int), .string (ofL x.shop), .string (ofL x.key), .slice A x.head.length c, .string (ofL x.body), .int .u64 (x.due : Int), .int .u8 (x.hops : Int)] 33)).alloc (.cells #[.int .u64 (x.id : Int), .string (ofL x.shop), .string (ofL x.key), .slice A x.head.length c, .string (ofL x.body), .int .u64 (x.due : Int), .int .u8 (x.hops : Int)] 28)) (w.heap.size + 1) [.int .u64 (x.id : Int), .string (ofL x.shop), .string (ofL x.key), .slice A x.head.length c, .string (ofL x.body), .int .u64 (x.due : Int), .int .u8 (x.hops : Int)] by
    have := Cels.new (w.alloc (.cells #[.int .u8 (x.ch.toNat : Int), .int .u8 (x.kd.toNat : Int), .int .u64 (x.n : Int), .int .u64 (x.m : Int), .bool x.yes, .string (ofL x.name), .int .u64 (x.id : Int), .string (ofL x.shop), .string (ofL x.key), .slice A x.head.length c, .string (ofL x.body), .int .u64 (x.due : Int), .int .u8 (x.hops : Int)] 33)) #[.int .u64 (x.id : Int), .string (ofL x.shop), .string (ofL x.key), .slice A x.head.length c, .string (ofL x.body), .int .u64 (x.due : Int), .int .u8 (x.hops : Int)] 28
    simpa using this)
  have HP2 := Lib.hid (h.row.on HB2.out)
  have HTN := Lib.hid (fun W => tellsN_any x.kd.toNat W)
  have HTM := Lib.hid (fun W => tellsM_any x.kd.toNat W)
  have HNN := Lib.hid (fun W => rname_any x.name W (by have := h.name; omega))
  have HNS := Lib.hid (fun W => rname_any x.shop W (by have := h.shop; omega))
  have HNK := Lib.hid (fun W => rkey_any x.key false W (by have := h.key; omega))
  rw [show wildIf false = [] from rfl] at HNK
  have HNH := Lib.hid (fun W g => rCheck9_any x.head A c W h.len h.cap h.lite g)
  have H8 := Lib.hid (fun g => Re.code_kind (x := x) g)
  have H41 := Lib.hid (fun g g2 => Re.code_wrong1 (x := x) g g2)
  have H42 := Lib.hid (fun g g2 g3 => Re.code_wrong2 (x := x) g g2 g3)
  have HNA := Lib.hid (fun g g2 g3 => Re.code_name (x := x) g g2 g3)
  have HNO := Lib.hid (fun g g1 g2 g3 g4 => Re.code_none (x := x) g g1 g2 g3 g4)
  have HSE := Lib.hid (fun g g3 => Re.code_sent (x := x) g g3)
  have HD1 : Hid (Re.wrong1 x = (x.id ≠ 0 ∨ x.due ≠ 0 ∨ x.hops ≠ 0 ∨ (x.n ≠ 0 ∧ Re.tellsN x.kd.toNat = false) ∨ (x.m ≠ 0 ∧ Re.tellsM x.kd.toNat = false) ∨ (x.name ≠ [] ∧ x.kd.toNat ≠ 0))) := rfl
  have HD2 : Hid (Re.wrong2 x = (x.yes = true ∨ x.shop ≠ [] ∨ x.key ≠ [] ∨ 0 < x.head.length ∨ x.body ≠ [])) := rfl
  have hz : (ofL x.body).size = x.body.length := ofL_size x.body
  clear h
  simp only [reV]
  obtain ⟨C, hC⟩ : ∃ C, C = x.code := ⟨_, rfl⟩
  have HC := Lib.hid hC
  rw [← hC]
  clear hC
  generalize Wrd.nameCode x.name = CN at *
  generalize Wrd.nameCode x.shop = CS at *
  generalize Wrd.keyCode [] x.key = CK at *
  generalize Hd.hcode x.head = CH at *
  generalize Re.wrong1 x = P1 at *
  generalize Re.wrong2 x = P2 at *
  obtain ⟨xch, xkd, xn, xm, xyes, xname, xid, xshop, xkey, xhead, xbody, xdue, xhops⟩ := x
  dsimp only at *
  generalize xkd.toNat = kn at *
  by_cases h7 : 7 < kn
  · have HC8 := Lib.hid (show C = 8 by rw [HC.out]; exact H8.out h7)
    have hk : decide ((7 : Int) < (kn : Int)) = true := decide_eq_true (by omega)
    (try clear h7)
    (try clear hz)
    go_enter Tryz.func6, Tryz.ntmps6
    go_wp2_with fail
    go_ret
    exact ⟨ret_nat (by rw [HC8.out]; rfl), HB1.out⟩
  · have hk : decide ((7 : Int) < (kn : Int)) = false := decide_eq_false (by omega)
    by_cases z_id : xid = 0
    · skip
      have n_id : ((xid : Int) != 0) = false := code_eq z_id
      by_cases z_due : xdue = 0
      · skip
        have n_due : ((xdue : Int) != 0) = false := code_eq z_due
        by_cases z_hops : xhops = 0
        · skip
          have n_hops : ((xhops : Int) != 0) = false := code_eq z_hops
          by_cases hw : P1
          · have HC4 := Lib.hid (show C = 4 by rw [HC.out]; exact H41.out h7 hw)
            rw [HD1.out] at hw
            have hw2 : (xn ≠ 0 ∧ Re.tellsN kn = false) ∨ (xm ≠ 0 ∧ Re.tellsM kn = false) ∨ (xname ≠ [] ∧ kn ≠ 0) := by
              rcases hw with h | h | h | h
              · exact absurd z_id h
              · exact absurd z_due h
              · exact absurd z_hops h
              · exact h
            (try clear hw)
            (try clear h7)
            (try clear hz)
            (try clear z_id)
            (try clear z_due)
            (try clear z_hops)
            go_enter Tryz.func6, Tryz.ntmps6
            go_upto_region 4 with fail
            go_cut [54] (fun s54 wx => s54 = .bool true ∧ wx = ((w.alloc (.cells #[.int .u8 (xch.toNat : Int), .int .u8 (kn : Int), .int .u64 (xn : Int), .int .u64 (xm : Int), .bool xyes, .string (ofL xname), .int .u64 (xid : Int), .string (ofL xshop), .string (ofL xkey), .slice A xhead.length c, .string (ofL xbody), .int .u64 (xdue : Int), .int .u8 (xhops : Int)] 33)).alloc (.cells #[.int .u64 (xid : Int), .string (ofL xshop), .string (ofL xkey), .slice A xhead.length c, .string (ofL xbody), .int .u64 (xdue : Int), .int .u8 (xhops : Int)] 28)))
            case first =>
              by_cases z_n : xn = 0
              · skip
                have n_n : ((xn : Int) != 0) = false := code_eq z_n
                by_cases z_m : xm = 0
                · skip
                  have n_m : ((xm : Int) != 0) = false := code_eq z_m
                  by_cases z_name : xname = []
                  · skip
                    have n_name : ((ofL xname).toList != []) = false := by rw [str_list, z_name]; rfl
                    have p_name : (ofL xname).toList = [] := by rw [str_list, z_name]
                    have q_name : (ofL xname).toList.isEmpty = true := by rw [str_list, z_name]; rfl
                    exact absurd hw2 (by grind)
                  · skip
                    have n_name : ((ofL xname).toList != []) = true := by rw [str_list]; exact bne_iff_ne.2 z_name
                    have p_name : ¬ (ofL xname).toList = [] := by rw [str_list]; exact z_name
                    have q_name : (ofL xname).toList.isEmpty = false := by rw [str_list]; exact List.isEmpty_eq_false_iff.2 z_name
                    by_cases h0 : kn = 0
                    · have k0 : ((kn : Int) == 0) = true := by rw [h0]; rfl
                      have k0n : ((kn : Int) != 0) = false := by rw [h0]; rfl
                      exact absurd hw2 (by grind)
                    · have k0 : ((kn : Int) == 0) = false := beq_eq_false_iff_ne.2 (by omega)
                      have k0n : ((kn : Int) != 0) = true := bne_iff_ne.2 (by omega)
                      (try clear hw2)
                      (try clear z_n)
                      (try clear z_m)
                      (try clear h0)
                      (try clear z_name)
                      go_wp2_with fail
                      go_meet
                      exact ⟨rfl, rfl⟩
                · skip
                  have n_m : ((xm : Int) != 0) = true := code_ne z_m
                  cases htm : Re.tellsM kn with
                  | true =>
                    rw [htm] at HTM
                    by_cases z_name : xname = []
                    · skip
                      have n_name : ((ofL xname).toList != []) = false := by rw [str_list, z_name]; rfl
                      have p_name : (ofL xname).toList = [] := by rw [str_list, z_name]
                      have q_name : (ofL xname).toList.isEmpty = true := by rw [str_list, z_name]; rfl
                      exact absurd hw2 (by grind)
                    · skip
                      have n_name : ((ofL xname).toList != []) = true := by rw [str_list]; exact bne_iff_ne.2 z_name
                      have p_name : ¬ (ofL xname).toList = [] := by rw [str_list]; exact z_name
                      have q_name : (ofL xname).toList.isEmpty = false := by rw [str_list]; exact List.isEmpty_eq_false_iff.2 z_name
                      by_cases h0 : kn = 0
                      · have k0 : ((kn : Int) == 0) = true := by rw [h0]; rfl
                        have k0n : ((kn : Int) != 0) = false := by rw [h0]; rfl
                        exact absurd hw2 (by grind)
                      · have k0 : ((kn : Int) == 0) = false := beq_eq_false_iff_ne.2 (by omega)
                        have k0n : ((kn : Int) != 0) = true := bne_iff_ne.2 (by omega)
                        (try clear hw2)
                        (try clear z_n)
                        (try clear z_m)
                        (try clear h0)
                        (try clear z_name)
                        go_wp2_with fail
                        refine (HTM.out _).mono ?_
                        rintro e w' ⟨rfl, rfl⟩
                        go_wp2_with fail
                        go_meet
                        exact ⟨rfl, rfl⟩
                  | false =>
                    rw [htm] at HTM
                    (try clear hw2)
                    (try clear z_n)
                    (try clear z_m)
                    go_wp2_with fail
                    refine (HTM.out _).mono ?_
                    rintro e w' ⟨rfl, rfl⟩
                    go_wp2_with fail
                    go_meet
                    exact ⟨rfl, rfl⟩
              · skip
                have n_n : ((xn : Int) != 0) = true := code_ne z_n
                cases htn : Re.tellsN kn with
                | true =>
                  rw [htn] at HTN
                  by_cases z_m : xm = 0
                  · skip
                    have n_m : ((xm : Int) != 0) = false := code_eq z_m
                    by_cases z_name : xname = []
                    · skip
                      have n_name : ((ofL xname).toList != []) = false := by rw [str_list, z_name]; rfl
                      have p_name : (ofL xname).toList = [] := by rw [str_list, z_name]
                      have q_name : (ofL xname).toList.isEmpty = true := by rw [str_list, z_name]; rfl
                      exact absurd hw2 (by grind)
                    · skip
                      have n_name : ((ofL xname).toList != []) = true := by rw [str_list]; exact bne_iff_ne.2 z_name
                      have p_name : ¬ (ofL xname).toList = [] := by rw [str_list]; exact z_name
                      have q_name : (ofL xname).toList.isEmpty = false := by rw [str_list]; exact List.isEmpty_eq_false_iff.2 z_name
                      by_cases h0 : kn = 0
                      · have k0 : ((kn : Int) == 0) = true := by rw [h0]; rfl
                        have k0n : ((kn : Int) != 0) = false := by rw [h0]; rfl
                        exact absurd hw2 (by grind)
                      · have k0 : ((kn : Int) == 0) = false := beq_eq_false_iff_ne.2 (by omega)
                        have k0n : ((kn : Int) != 0) = true := bne_iff_ne.2 (by omega)
                        (try clear hw2)
                        (try clear z_n)
                        (try clear z_m)
                        (try clear h0)
                        (try clear z_name)
                        go_wp2_with fail
                        refine (HTN.out _).mono ?_
                        rintro e w' ⟨rfl, rfl⟩
                        go_wp2_with fail
                        go_meet
                        exact ⟨rfl, rfl⟩
                  · skip
                    have n_m : ((xm : Int) != 0) = true := code_ne z_m
                    cases htm : Re.tellsM kn with
                    | true =>
                      rw [htm] at HTM
                      by_cases z_name : xname = []
                      · skip
                        have n_name : ((ofL xname).toList != []) = false := by rw [str_list, z_name]; rfl
                        have p_name : (ofL xname).toList = [] := by rw [str_list, z_name]
                        have q_name : (ofL xname).toList.isEmpty = true := by rw [str_list, z_name]; rfl
                        exact absurd hw2 (by grind)
                      · skip
                        have n_name : ((ofL xname).toList != []) = true := by rw [str_list]; exact bne_iff_ne.2 z_name
                        have p_name : ¬ (ofL xname).toList = [] := by rw [str_list]; exact z_name
                        have q_name : (ofL xname).toList.isEmpty = false := by rw [str_list]; exact List.isEmpty_eq_false_iff.2 z_name
                        by_cases h0 : kn = 0
                        · have k0 : ((kn : Int) == 0) = true := by rw [h0]; rfl
                          have k0n : ((kn : Int) != 0) = false := by rw [h0]; rfl
                          exact absurd hw2 (by grind)
                        · have k0 : ((kn : Int) == 0) = false := beq_eq_false_iff_ne.2 (by omega)
                          have k0n : ((kn : Int) != 0) = true := bne_iff_ne.2 (by omega)
                          (try clear hw2)
                          (try clear z_n)
                          (try clear z_m)
                          (try clear h0)
                          (try clear z_name)
                          go_wp2_with fail
                          refine (HTN.out _).mono ?_
                          rintro e w' ⟨rfl, rfl⟩
                          go_wp2_with fail
                          refine (HTM.out _).mono ?_
                          rintro e w' ⟨rfl, rfl⟩
                          go_wp2_with fail
                          go_meet
                          exact ⟨rfl, rfl⟩
                    | false =>
                      rw [htm] at HTM
                      (try clear hw2)
                      (try clear z_n)
                      (try clear z_m)
                      go_wp2_with fail
                      refine (HTN.out _).mono ?_
                      rintro e w' ⟨rfl, rfl⟩
                      go_wp2_with fail
                      refine (HTM.out _).mono ?_
                      rintro e w' ⟨rfl, rfl⟩
                      go_wp2_with fail
                      go_meet
                      exact ⟨rfl, rfl⟩
                | false =>
                  rw [htn] at HTN
                  (try clear hw2)
                  (try clear z_n)
                  go_wp2_with fail
                  refine (HTN.out _).mono ?_
                  rintro e w' ⟨rfl, rfl⟩
                  go_wp2_with fail
                  go_meet
                  exact ⟨rfl, rfl⟩
            case rest =>
              obtain ⟨rfl, rfl⟩ := hcut
              go_wp2_with fail
              go_ret
              exact ⟨ret_nat (by rw [HC4.out]; rfl), HB2.out⟩
          · have hw0 := hw
            rw [HD1.out] at hw0
            have hwn : ¬ (xn ≠ 0 ∧ Re.tellsN kn = false) := fun h => hw0 (Or.inr (Or.inr (Or.inr (Or.inl h))))
            have hwm : ¬ (xm ≠ 0 ∧ Re.tellsM kn = false) := fun h => hw0 (Or.inr (Or.inr (Or.inr (Or.inr (Or.inl h)))))
            have hwk : ¬ (xname ≠ [] ∧ kn ≠ 0) := fun h => hw0 (Or.inr (Or.inr (Or.inr (Or.inr (Or.inr h)))))
            have HW := Lib.hid hw
            (try clear hw)
            (try clear hw0)
            (try clear z_id)
            (try clear z_due)
            (try clear z_hops)
            go_enter Tryz.func6, Tryz.ntmps6
            go_upto_region 4 with fail
            go_cut [54] (fun s54 wx => s54 = .bool false ∧ wx = ((w.alloc (.cells #[.int .u8 (xch.toNat : Int), .int .u8 (kn : Int), .int .u64 (xn : Int), .int .u64 (xm : Int), .bool xyes, .string (ofL xname), .int .u64 (xid : Int), .string (ofL xshop), .string (ofL xkey), .slice A xhead.length c, .string (ofL xbody), .int .u64 (xdue : Int), .int .u8 (xhops : Int)] 33)).alloc (.cells #[.int .u64 (xid : Int), .string (ofL xshop), .string (ofL xkey), .slice A xhead.length c, .string (ofL xbody), .int .u64 (xdue : Int), .int .u8 (xhops : Int)] 28)))
            case first =>
              (try clear hz)
              (try clear h7)
              by_cases z_n : xn = 0
              · skip
                have n_n : ((xn : Int) != 0) = false := code_eq z_n
                by_cases z_m : xm = 0
                · skip
                  have n_m : ((xm : Int) != 0) = false := code_eq z_m
                  by_cases z_name : xname = []
                  · skip
                    have n_name : ((ofL xname).toList != []) = false := by rw [str_list, z_name]; rfl
                    have p_name : (ofL xname).toList = [] := by rw [str_list, z_name]
                    have q_name : (ofL xname).toList.isEmpty = true := by rw [str_list, z_name]; rfl
                    (try clear hwn)
                    (try clear hwm)
                    (try clear hwk)
                    (try clear z_n)
                    (try clear z_m)
                    (try clear z_name)
                    go_wp2_with fail
                    go_meet
                    exact ⟨rfl, rfl⟩
                  · skip
                    have n_name : ((ofL xname).toList != []) = true := by rw [str_list]; exact bne_iff_ne.2 z_name
                    have p_name : ¬ (ofL xname).toList = [] := by rw [str_list]; exact z_name
                    have q_name : (ofL xname).toList.isEmpty = false := by rw [str_list]; exact List.isEmpty_eq_false_iff.2 z_name
                    by_cases h0 : kn = 0
                    · have k0 : ((kn : Int) == 0) = true := by rw [h0]; rfl
                      have k0n : ((kn : Int) != 0) = false := by rw [h0]; rfl
                      (try clear hwn)
                      (try clear hwm)
                      (try clear hwk)
                      (try clear z_n)
                      (try clear z_m)
                      (try clear h0)
                      (try clear z_name)
                      go_wp2_with fail
                      go_meet
                      exact ⟨rfl, rfl⟩
                    · have k0 : ((kn : Int) == 0) = false := beq_eq_false_iff_ne.2 (by omega)
                      have k0n : ((kn : Int) != 0) = true := bne_iff_ne.2 (by omega)
                      exact absurd ⟨z_name, h0⟩ hwk
                · skip
                  have n_m : ((xm : Int) != 0) = true := code_ne z_m
                  cases htm : Re.tellsM kn with
                  | true =>
                    rw [htm] at HTM
                    by_cases z_name : xname = []
                    · skip
                      have n_name : ((ofL xname).toList != []) = false := by rw [str_list, z_name]; rfl
                      have p_name : (ofL xname).toList = [] := by rw [str_list, z_name]
                      have q_name : (ofL xname).toList.isEmpty = true := by rw [str_list, z_name]; rfl
                      (try clear hwn)
                      (try clear hwm)
                      (try clear hwk)
                      (try clear z_n)
                      (try clear z_m)
                      (try clear z_name)
                      go_wp2_with fail
                      refine (HTM.out _).mono ?_
                      rintro e w' ⟨rfl, rfl⟩
                      go_wp2_with fail
                      go_meet
                      exact ⟨rfl, rfl⟩
                    · skip
                      have n_name : ((ofL xname).toList != []) = true := by rw [str_list]; exact bne_iff_ne.2 z_name
                      have p_name : ¬ (ofL xname).toList = [] := by rw [str_list]; exact z_name
                      have q_name : (ofL xname).toList.isEmpty = false := by rw [str_list]; exact List.isEmpty_eq_false_iff.2 z_name
                      by_cases h0 : kn = 0
                      · have k0 : ((kn : Int) == 0) = true := by rw [h0]; rfl
                        have k0n : ((kn : Int) != 0) = false := by rw [h0]; rfl
                        (try clear hwn)
                        (try clear hwm)
                        (try clear hwk)
                        (try clear z_n)
                        (try clear z_m)
                        (try clear h0)
                        (try clear z_name)
                        go_wp2_with fail
                        refine (HTM.out _).mono ?_
                        rintro e w' ⟨rfl, rfl⟩
                        go_wp2_with fail
                        go_meet
                        exact ⟨rfl, rfl⟩
                      · have k0 : ((kn : Int) == 0) = false := beq_eq_false_iff_ne.2 (by omega)
                        have k0n : ((kn : Int) != 0) = true := bne_iff_ne.2 (by omega)
                        exact absurd ⟨z_name, h0⟩ hwk
                  | false =>
                    rw [htm] at HTM
                    exact absurd ⟨z_m, htm⟩ hwm
              · skip
                have n_n : ((xn : Int) != 0) = true := code_ne z_n
                cases htn : Re.tellsN kn with
                | true =>
                  rw [htn] at HTN
                  by_cases z_m : xm = 0
                  · skip
                    have n_m : ((xm : Int) != 0) = false := code_eq z_m
                    by_cases z_name : xname = []
                    · skip
                      have n_name : ((ofL xname).toList != []) = false := by rw [str_list, z_name]; rfl
                      have p_name : (ofL xname).toList = [] := by rw [str_list, z_name]
                      have q_name : (ofL xname).toList.isEmpty = true := by rw [str_list, z_name]; rfl
                      (try clear hwn)
                      (try clear hwm)
                      (try clear hwk)
                      (try clear z_n)
                      (try clear z_m)
                      (try clear z_name)
                      go_wp2_with fail
                      refine (HTN.out _).mono ?_
                      rintro e w' ⟨rfl, rfl⟩
                      go_wp2_with fail
                      go_meet
                      exact ⟨rfl, rfl⟩
                    · skip
                      have n_name : ((ofL xname).toList != []) = true := by rw [str_list]; exact bne_iff_ne.2 z_name
                      have p_name : ¬ (ofL xname).toList = [] := by rw [str_list]; exact z_name
                      have q_name : (ofL xname).toList.isEmpty = false := by rw [str_list]; exact List.isEmpty_eq_false_iff.2 z_name
                      by_cases h0 : kn = 0
                      · have k0 : ((kn : Int) == 0) = true := by rw [h0]; rfl
                        have k0n : ((kn : Int) != 0) = false := by rw [h0]; rfl
                        (try clear hwn)
                        (try clear hwm)
                        (try clear hwk)
                        (try clear z_n)
                        (try clear z_m)
                        (try clear h0)
                        (try clear z_name)
                        go_wp2_with fail
                        refine (HTN.out _).mono ?_
                        rintro e w' ⟨rfl, rfl⟩
                        go_wp2_with fail
                        go_meet
                        exact ⟨rfl, rfl⟩
                      · have k0 : ((kn : Int) == 0) = false := beq_eq_false_iff_ne.2 (by omega)
                        have k0n : ((kn : Int) != 0) = true := bne_iff_ne.2 (by omega)
                        exact absurd ⟨z_name, h0⟩ hwk
                  · skip
                    have n_m : ((xm : Int) != 0) = true := code_ne z_m
                    cases htm : Re.tellsM kn with
                    | true =>
                      rw [htm] at HTM
                      by_cases z_name : xname = []
                      · skip
                        have n_name : ((ofL xname).toList != []) = false := by rw [str_list, z_name]; rfl
                        have p_name : (ofL xname).toList = [] := by rw [str_list, z_name]
                        have q_name : (ofL xname).toList.isEmpty = true := by rw [str_list, z_name]; rfl
                        (try clear hwn)
                        (try clear hwm)
                        (try clear hwk)
                        (try clear z_n)
                        (try clear z_m)
                        (try clear z_name)
                        go_wp2_with fail
                        refine (HTN.out _).mono ?_
                        rintro e w' ⟨rfl, rfl⟩
                        go_wp2_with fail
                        refine (HTM.out _).mono ?_
                        rintro e w' ⟨rfl, rfl⟩
                        go_wp2_with fail
                        go_meet
                        exact ⟨rfl, rfl⟩
                      · skip
                        have n_name : ((ofL xname).toList != []) = true := by rw [str_list]; exact bne_iff_ne.2 z_name
                        have p_name : ¬ (ofL xname).toList = [] := by rw [str_list]; exact z_name
                        have q_name : (ofL xname).toList.isEmpty = false := by rw [str_list]; exact List.isEmpty_eq_false_iff.2 z_name
                        by_cases h0 : kn = 0
                        · have k0 : ((kn : Int) == 0) = true := by rw [h0]; rfl
                          have k0n : ((kn : Int) != 0) = false := by rw [h0]; rfl
                          (try clear hwn)
                          (try clear hwm)
                          (try clear hwk)
                          (try clear z_n)
                          (try clear z_m)
                          (try clear h0)
                          (try clear z_name)
                          go_wp2_with fail
                          refine (HTN.out _).mono ?_
                          rintro e w' ⟨rfl, rfl⟩
                          go_wp2_with fail
                          refine (HTM.out _).mono ?_
                          rintro e w' ⟨rfl, rfl⟩
                          go_wp2_with fail
                          go_meet
                          exact ⟨rfl, rfl⟩
                        · have k0 : ((kn : Int) == 0) = false := beq_eq_false_iff_ne.2 (by omega)
                          have k0n : ((kn : Int) != 0) = true := bne_iff_ne.2 (by omega)
                          exact absurd ⟨z_name, h0⟩ hwk
                    | false =>
                      rw [htm] at HTM
                      exact absurd ⟨z_m, htm⟩ hwm
                | false =>
                  rw [htn] at HTN
                  exact absurd ⟨z_n, htn⟩ hwn
            case rest =>
              obtain ⟨rfl, rfl⟩ := hcut
              (try clear hwn)
              (try clear hwm)
              (try clear hwk)
              by_cases h3 : kn = 3
              · have HS := Lib.hid (HSE.out HW.out h3)
                have k3 : ((kn : Int) == 3) = true := by rw [h3]; rfl
                have k3n : ((kn : Int) != 3) = false := by rw [h3]; rfl
                have h30 : kn ≠ 0 := by omega
                (try clear h3)
                (try clear h7)
                by_cases e1 : CS = 0
                · have f1 : ((CS : Int) == 0) = true := by rw [e1]; rfl
                  by_cases e2 : CK = 0
                  · have f2 : ((CK : Int) == 0) = true := by rw [e2]; rfl
                    by_cases e3 : CH = 0
                    · have f3 : ((CH : Int) == 0) = true := by rw [e3]; rfl
                      by_cases e4 : 256 < xbody.length
                      · have HCC := Lib.hid (show C = 5 by rw [HC.out, HS.out, if_neg (by omega), if_neg (by omega), if_neg (by omega), if_pos e4])
                        have g4 : 256 < (ofL xbody).size := by omega
                        rw [e1] at HNS
                        rw [e2] at HNK
                        rw [e3] at HNH
                        (try clear e1)
                        (try clear e2)
                        (try clear e3)
                        (try clear e4)
                        (try clear hz)
                        (try clear f1)
                        (try clear f2)
                        (try clear f3)
                        (try clear h30)
                        go_wp2_with fail
                        refine (HNS.out _).mono ?_
                        rintro e w3 ⟨rfl, rfl⟩
                        go_wp2_with fail
                        refine (HNK.out _).mono ?_
                        rintro e w4 ⟨rfl, b4⟩
                        have HB4 := Lib.hid (bthen HB2.out b4 (Nat.le_refl _))
                        have HX4 := Lib.hid (HX2.out.on b4 (by simp))
                        have HP4 := Lib.hid (HP2.out.on b4)
                        have l4 : w.heap.size + 1 < w4.heap.size := by have := b4.size; simp at this; omega
                        (try clear b4)
                        have d3 := HX4.out 3 _ rfl
                        have d4 := HX4.out 4 _ rfl
                        go_wp2_with fail
                        refine (HNH.out _ HP4.out).mono ?_
                        rintro e w5 ⟨rfl, b5⟩
                        have HB5 := Lib.hid (bthen HB4.out b5 (Nat.le_refl _))
                        have HX5 := Lib.hid (HX4.out.on b5 l4)
                        have l5 : w.heap.size + 1 < w5.heap.size := Nat.lt_of_lt_of_le l4 b5.size
                        (try clear b5)
                        (try clear d3)
                        (try clear d4)
                        have d4 := HX5.out 4 _ rfl
                        go_wp2_with fail
                        go_ret
                        exact ⟨ret_nat (by rw [HCC.out]; rfl), HB5.out⟩
                      · have HCC := Lib.hid (show C = 0 by rw [HC.out, HS.out, if_neg (by omega), if_neg (by omega), if_neg (by omega), if_neg e4])
                        have g4 : ¬ 256 < (ofL xbody).size := by omega
                        rw [e1] at HNS
                        rw [e2] at HNK
                        rw [e3] at HNH
                        (try clear e1)
                        (try clear e2)
                        (try clear e3)
                        (try clear e4)
                        (try clear hz)
                        (try clear f1)
                        (try clear f2)
                        (try clear f3)
                        (try clear h30)
                        go_wp2_with fail
                        refine (HNS.out _).mono ?_
                        rintro e w3 ⟨rfl, rfl⟩
                        go_wp2_with fail
                        refine (HNK.out _).mono ?_
                        rintro e w4 ⟨rfl, b4⟩
                        have HB4 := Lib.hid (bthen HB2.out b4 (Nat.le_refl _))
                        have HX4 := Lib.hid (HX2.out.on b4 (by simp))
                        have HP4 := Lib.hid (HP2.out.on b4)
                        have l4 : w.heap.size + 1 < w4.heap.size := by have := b4.size; simp at this; omega
                        (try clear b4)
                        have d3 := HX4.out 3 _ rfl
                        have d4 := HX4.out 4 _ rfl
                        go_wp2_with fail
                        refine (HNH.out _ HP4.out).mono ?_
                        rintro e w5 ⟨rfl, b5⟩
                        have HB5 := Lib.hid (bthen HB4.out b5 (Nat.le_refl _))
                        have HX5 := Lib.hid (HX4.out.on b5 l4)
                        have l5 : w.heap.size + 1 < w5.heap.size := Nat.lt_of_lt_of_le l4 b5.size
                        (try clear b5)
                        (try clear d3)
                        (try clear d4)
                        have d4 := HX5.out 4 _ rfl
                        go_wp2_with fail
                        go_ret
                        exact ⟨ret_nat (by rw [HCC.out]; rfl), HB5.out⟩
                    · have HCC := Lib.hid (show C = CH by rw [HC.out, HS.out, if_neg (by omega), if_neg (by omega), if_pos e3])
                      have f3 : ((CH : Int) == 0) = false := beq_eq_false_iff_ne.2 (by omega)
                      rw [e1] at HNS
                      rw [e2] at HNK
                      (try clear e1)
                      (try clear e2)
                      (try clear e3)
                      (try clear hz)
                      (try clear f1)
                      (try clear f2)
                      (try clear h30)
                      go_wp2_with fail
                      refine (HNS.out _).mono ?_
                      rintro e w3 ⟨rfl, rfl⟩
                      go_wp2_with fail
                      refine (HNK.out _).mono ?_
                      rintro e w4 ⟨rfl, b4⟩
                      have HB4 := Lib.hid (bthen HB2.out b4 (Nat.le_refl _))
                      have HX4 := Lib.hid (HX2.out.on b4 (by simp))
                      have HP4 := Lib.hid (HP2.out.on b4)
                      have l4 : w.heap.size + 1 < w4.heap.size := by have := b4.size; simp at this; omega
                      (try clear b4)
                      have d3 := HX4.out 3 _ rfl
                      have d4 := HX4.out 4 _ rfl
                      go_wp2_with fail
                      refine (HNH.out _ HP4.out).mono ?_
                      rintro e w5 ⟨rfl, b5⟩
                      have HB5 := Lib.hid (bthen HB4.out b5 (Nat.le_refl _))
                      have HX5 := Lib.hid (HX4.out.on b5 l4)
                      have l5 : w.heap.size + 1 < w5.heap.size := Nat.lt_of_lt_of_le l4 b5.size
                      (try clear b5)
                      (try clear d3)
                      (try clear d4)
                      have d4 := HX5.out 4 _ rfl
                      go_wp2_with fail
                      go_ret
                      exact ⟨ret_nat (by rw [HCC.out]), HB5.out⟩
                  · have HCC := Lib.hid (show C = CK by rw [HC.out, HS.out, if_neg (by omega), if_pos e2])
                    have f2 : ((CK : Int) == 0) = false := beq_eq_false_iff_ne.2 (by omega)
                    rw [e1] at HNS
                    (try clear e1)
                    (try clear e2)
                    (try clear hz)
                    (try clear f1)
                    (try clear h30)
                    go_wp2_with fail
                    refine (HNS.out _).mono ?_
                    rintro e w3 ⟨rfl, rfl⟩
                    go_wp2_with fail
                    refine (HNK.out _).mono ?_
                    rintro e w4 ⟨rfl, b4⟩
                    have HB4 := Lib.hid (bthen HB2.out b4 (Nat.le_refl _))
                    have HX4 := Lib.hid (HX2.out.on b4 (by simp))
                    have HP4 := Lib.hid (HP2.out.on b4)
                    have l4 : w.heap.size + 1 < w4.heap.size := by have := b4.size; simp at this; omega
                    (try clear b4)
                    have d3 := HX4.out 3 _ rfl
                    have d4 := HX4.out 4 _ rfl
                    go_wp2_with fail
                    go_ret
                    exact ⟨ret_nat (by rw [HCC.out]), HB4.out⟩
                · have HCC := Lib.hid (show C = CS by rw [HC.out, HS.out, if_pos e1])
                  have f1 : ((CS : Int) == 0) = false := beq_eq_false_iff_ne.2 (by omega)
                  (try clear e1)
                  (try clear hz)
                  (try clear h30)
                  go_wp2_with fail
                  refine (HNS.out _).mono ?_
                  rintro e w3 ⟨rfl, rfl⟩
                  go_wp2_with fail
                  go_ret
                  exact ⟨ret_nat (by rw [HCC.out]), HB2.out⟩
              · have k3 : ((kn : Int) == 3) = false := beq_eq_false_iff_ne.2 (by omega)
                have k3n : ((kn : Int) != 3) = true := bne_iff_ne.2 (by omega)
                (try clear hz)
                cases xyes with
                | true =>
                  have HC4 := Lib.hid (show C = 4 by rw [HC.out]; exact H42.out h7 h3 (by rw [HD2.out]; exact Or.inl rfl))
                  (try clear h7)
                  (try clear h3)
                  go_wp2_with fail
                  go_ret
                  exact ⟨ret_nat (by rw [HC4.out]; rfl), ((Below.refl _ _).alloc (Nat.le_refl _) _).alloc (by simp) _⟩
                | false =>
                  by_cases z_shop : xshop = []
                  · have HSH := Lib.hid z_shop
                    have n_shop : ((ofL xshop).toList != []) = false := by rw [str_list, z_shop]; rfl
                    have p_shop : (ofL xshop).toList = [] := by rw [str_list, z_shop]
                    have q_shop : (ofL xshop).toList.isEmpty = true := by rw [str_list, z_shop]; rfl
                    by_cases z_key : xkey = []
                    · have HKE := Lib.hid z_key
                      have n_key : ((ofL xkey).toList != []) = false := by rw [str_list, z_key]; rfl
                      have p_key : (ofL xkey).toList = [] := by rw [str_list, z_key]
                      have q_key : (ofL xkey).toList.isEmpty = true := by rw [str_list, z_key]; rfl
                      by_cases z_head : xhead ≠ []
                      · have z_hl : 0 < xhead.length := List.length_pos_iff.2 z_head
                        have HC4 := Lib.hid (show C = 4 by rw [HC.out]; exact H42.out h7 h3 (by rw [HD2.out]; exact Or.inr (Or.inr (Or.inr (Or.inl z_hl)))))
                        (try clear h7)
                        (try clear h3)
                        (try clear z_shop)
                        (try clear z_key)
                        (try clear z_head)
                        go_wp2_with fail
                        go_ret
                        exact ⟨ret_nat (by rw [HC4.out]; rfl), ((Below.refl _ _).alloc (Nat.le_refl _) _).alloc (by simp) _⟩
                      · have z_head := Decidable.not_not.1 z_head
                        have HHE := Lib.hid (show ¬ 0 < xhead.length by rw [z_head]; simp)
                        by_cases z_body : xbody = []
                        · have HBO := Lib.hid z_body
                          have n_body : ((ofL xbody).toList != []) = false := by rw [str_list, z_body]; rfl
                          have p_body : (ofL xbody).toList = [] := by rw [str_list, z_body]
                          have q_body : (ofL xbody).toList.isEmpty = true := by rw [str_list, z_body]; rfl
                          have HN2 := Lib.hid (show ¬ P2 from fun hh => by
                            rw [HD2.out] at hh
                            rcases hh with h | h | h | h | h
                            · exact absurd h (by decide)
                            · exact h HSH.out
                            · exact h HKE.out
                            · exact HHE.out h
                            · exact h HBO.out)
                          by_cases h00 : kn = 0
                          · have HCC := Lib.hid (show C = CN by rw [HC.out]; exact HNA.out HW.out HN2.out h00)
                            have k00 : ((kn : Int) == 0) = true := by rw [h00]; rfl
                            have h00 := Lib.hid h00
                            (try clear h3)
                            (try clear h7)
                            (try clear z_shop)
                            (try clear z_key)
                            (try clear z_body)
                            (try clear z_head)
                            go_wp2_with fail
                            refine (HNN.out _).mono ?_
                            rintro e w3 ⟨rfl, rfl⟩
                            go_wp2_with fail
                            go_ret
                            exact ⟨ret_nat (by rw [HCC.out]), ((Below.refl _ _).alloc (Nat.le_refl _) _).alloc (by simp) _⟩
                          · have HCC := Lib.hid (show C = 0 by rw [HC.out]; exact HNO.out h7 HW.out HN2.out h00 h3)
                            have k00 : ((kn : Int) == 0) = false := beq_eq_false_iff_ne.2 (by omega)
                            have h00 := Lib.hid h00
                            (try clear h3)
                            (try clear h7)
                            (try clear z_shop)
                            (try clear z_key)
                            (try clear z_body)
                            (try clear z_head)
                            go_wp2_with fail
                            go_ret
                            exact ⟨ret_nat (by rw [HCC.out]; rfl), ((Below.refl _ _).alloc (Nat.le_refl _) _).alloc (by simp) _⟩
                        · skip
                          have n_body : ((ofL xbody).toList != []) = true := by rw [str_list]; exact bne_iff_ne.2 z_body
                          have p_body : ¬ (ofL xbody).toList = [] := by rw [str_list]; exact z_body
                          have q_body : (ofL xbody).toList.isEmpty = false := by rw [str_list]; exact List.isEmpty_eq_false_iff.2 z_body
                          have HBO := Lib.hid z_body
                          have HC4 := Lib.hid (show C = 4 by rw [HC.out]; exact H42.out h7 h3 (by rw [HD2.out]; exact Or.inr (Or.inr (Or.inr (Or.inr HBO.out)))))
                          (try clear h7)
                          (try clear h3)
                          (try clear z_shop)
                          (try clear z_key)
                          (try clear z_body)
                          go_wp2_with fail
                          go_ret
                          exact ⟨ret_nat (by rw [HC4.out]; rfl), ((Below.refl _ _).alloc (Nat.le_refl _) _).alloc (by simp) _⟩
                    · skip
                      have n_key : ((ofL xkey).toList != []) = true := by rw [str_list]; exact bne_iff_ne.2 z_key
                      have p_key : ¬ (ofL xkey).toList = [] := by rw [str_list]; exact z_key
                      have q_key : (ofL xkey).toList.isEmpty = false := by rw [str_list]; exact List.isEmpty_eq_false_iff.2 z_key
                      have HKE := Lib.hid z_key
                      have HC4 := Lib.hid (show C = 4 by rw [HC.out]; exact H42.out h7 h3 (by rw [HD2.out]; exact Or.inr (Or.inr (Or.inl HKE.out))))
                      (try clear h7)
                      (try clear h3)
                      (try clear z_shop)
                      (try clear z_key)
                      go_wp2_with fail
                      go_ret
                      exact ⟨ret_nat (by rw [HC4.out]; rfl), ((Below.refl _ _).alloc (Nat.le_refl _) _).alloc (by simp) _⟩
                  · skip
                    have n_shop : ((ofL xshop).toList != []) = true := by rw [str_list]; exact bne_iff_ne.2 z_shop
                    have p_shop : ¬ (ofL xshop).toList = [] := by rw [str_list]; exact z_shop
                    have q_shop : (ofL xshop).toList.isEmpty = false := by rw [str_list]; exact List.isEmpty_eq_false_iff.2 z_shop
                    have HSH := Lib.hid z_shop
                    have HC4 := Lib.hid (show C = 4 by rw [HC.out]; exact H42.out h7 h3 (by rw [HD2.out]; exact Or.inr (Or.inl HSH.out)))
                    (try clear h7)
                    (try clear h3)
                    (try clear z_shop)
                    go_wp2_with fail
                    go_ret
                    exact ⟨ret_nat (by rw [HC4.out]; rfl), ((Below.refl _ _).alloc (Nat.le_refl _) _).alloc (by simp) _⟩
        · skip
          have n_hops : ((xhops : Int) != 0) = true := code_ne z_hops
          have HC4 := Lib.hid (show C = 4 by rw [HC.out]; exact H41.out h7 (by rw [HD1.out]; exact Or.inr (Or.inr (Or.inl z_hops))))
          (try clear h7)
          (try clear hz)
          (try clear z_hops)
          (try clear z_id)
          (try clear z_due)
          go_enter Tryz.func6, Tryz.ntmps6
          go_wp2_with fail
          go_ret
          exact ⟨ret_nat (by rw [HC4.out]; rfl), HB2.out⟩
      · skip
        have n_due : ((xdue : Int) != 0) = true := code_ne z_due
        have HC4 := Lib.hid (show C = 4 by rw [HC.out]; exact H41.out h7 (by rw [HD1.out]; exact Or.inr (Or.inl z_due)))
        (try clear h7)
        (try clear hz)
        (try clear z_due)
        (try clear z_id)
        go_enter Tryz.func6, Tryz.ntmps6
        go_wp2_with fail
        go_ret
        exact ⟨ret_nat (by rw [HC4.out]; rfl), HB2.out⟩
    · skip
      have n_id : ((xid : Int) != 0) = true := code_ne z_id
      have HC4 := Lib.hid (show C = 4 by rw [HC.out]; exact H41.out h7 (by rw [HD1.out]; exact Or.inl z_id))
      (try clear h7)
      (try clear hz)
      (try clear z_id)
      go_enter Tryz.func6, Tryz.ntmps6
      go_wp2_with fail
      go_ret
      exact ⟨ret_nat (by rw [HC4.out]; rfl), HB2.out⟩
end Go.Proofs.YtnjlhafhgfpfiaaGreatDoor
end
