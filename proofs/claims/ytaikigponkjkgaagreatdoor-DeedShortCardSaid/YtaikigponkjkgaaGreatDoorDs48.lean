/-
  CHECK AND BYTES OF A DEED of the kind of the chapter's example: walked.
-/
import Derived.Test.YtaikigponkjkgaaGreatDoorDs33

section
namespace Go.Proofs.YtaikigponkjkgaaGreatDoor
open Go.ChangeShapes Go.WideShapes Go.ChangeAt Go.RowKit
theorem qds48a (l : List Value) (i : Nat) (v : Value) : l.toArray.setIfInBounds i v = (l.set i v).toArray := by simp
theorem qds48b (v u : Value) (l : List Value) : (v :: l).set 0 u = u :: l := rfl
theorem qds48c (v u : Value) (n : Nat) (l : List Value) : (v :: l).set (n + 1) u = v :: l.set n u := rfl
theorem ddTold_11w (x : De) (A : Option Addr) (c : Nat) (B : Option Addr) (d : Nat) (w : World) (h : x.kd = 11) : Calls Tryz.prog 72 #[deV x A c B d] w (ToldPost x A B w) := by
  · refine (ddTold_11 x A c B d w h).mono ?_
    rintro e w' ⟨rfl, hb⟩
    refine ⟨none, 0, none, 0, rfl, ?_, ?_, ?_, ?_, hb⟩ <;> rw [De.told_11 h]
    · exact fun W _ => Prs.nil W _
    · exact fun W _ => Prs.nil W _
    · exact Nat.zero_le _
    · exact Nat.zero_le _
set_option maxRecDepth 100000 in
set_option maxHeartbeats 16000000 in
theorem ddCheck11_any (x : De) (A : Option Addr) (c : Nat) (B : Option Addr) (d : Nat) (w : World) (h : DeOk w x A c B d) (hk11 : x.kd = 11) (hx : x = x.told) :
    Calls Tryz.prog 33 #[deV x A c B d] w fun e w' => e = .returned (.int .i64 (x.code : Int)) ∧ Below w.heap.size w w' := by
  have HB1 := Lib.hid (rtOne w (.cells #[.int .u8 (x.kd : Int), .int .u64 (x.tick : Int), .string (ofL x.shop.name), .int .u8 (x.shop.sort : Int), .string (ofL x.shop.to), .string (ofL x.q.name), .int .u64 (x.q.most : Int), .int .u64 (x.q.life : Int), .string (ofL x.q.dead), .string (ofL x.bind.shop), .string (ofL x.bind.to), .bool x.bind.up, .string (ofL x.bind.key), .slice A x.bind.want.length c, .bool x.bind.all, .string (ofL x.name), .int .u64 (x.id : Int), .int .u8 (x.how : Int), .int .u8 (x.frm : Int), .int .u8 (x.cd : Int), .int .u64 (x.num : Int), .int .u64 (x.mail.id : Int), .string (ofL x.mail.shop), .string (ofL x.mail.key), .slice B x.mail.head.length d, .string (ofL x.mail.body), .int .u64 (x.mail.due : Int), .int .u8 (x.mail.hops : Int), .string (ofL x.text)] 52))
  have HX1 := Lib.hid (DeX.start w x A c B d h.bind.row h.mail.row 52)
  have HOK := Lib.hid h
  have HTO := Lib.hid (fun W (_ : ¬ 12 < x.kd) => ddTold_11w x A c B d W hk11)
  have HSM := Lib.hid (fun W A' c' B' d' g1 g2 => ddSame_any x x.told A c B d A' c' B' d' W h.bind.len g1 h.mail.len g2)
  have HKD := Lib.hid hk11
  have HXX := Lib.hid hx
  clear h hk11 hx
  simp only [deV]
  go_enter Tryz.func33, Tryz.ntmps33
  go_upto_region 1 with fail
  generalize w.alloc (.cells #[.int .u8 (x.kd : Int), .int .u64 (x.tick : Int), .string (ofL x.shop.name), .int .u8 (x.shop.sort : Int), .string (ofL x.shop.to), .string (ofL x.q.name), .int .u64 (x.q.most : Int), .int .u64 (x.q.life : Int), .string (ofL x.q.dead), .string (ofL x.bind.shop), .string (ofL x.bind.to), .bool x.bind.up, .string (ofL x.bind.key), .slice A x.bind.want.length c, .bool x.bind.all, .string (ofL x.name), .int .u64 (x.id : Int), .int .u8 (x.how : Int), .int .u8 (x.frm : Int), .int .u8 (x.cd : Int), .int .u64 (x.num : Int), .int .u64 (x.mail.id : Int), .string (ofL x.mail.shop), .string (ofL x.mail.key), .slice B x.mail.head.length d, .string (ofL x.mail.body), .int .u64 (x.mail.due : Int), .int .u8 (x.mail.hops : Int), .string (ofL x.text)] 52) = W1 at *
  have c0 := HX1.out.p.cs 0 _ rfl
  have cl := HX1.out.p.lt
  by_cases h12 : 12 < x.kd
  · exact absurd h12 (by have := HKD.out; omega)
  · have hz : decide ((x.kd : Int) > 12) = false := decide_eq_false (by omega)
    have hz' : decide ((12 : Int) < (x.kd : Int)) = false := decide_eq_false (by omega)
    have HTO := Lib.hid (fun W => HTO.out W h12)
    have H12 := Lib.hid h12
    clear h12
    have HEB := Lib.hid (fun hs => De.code_body (x := x) H12.out hs)
    go_upto_region 3 with fail
    clear c0 cl hz hz'
    cases hs : decide (x = x.told) with
    | false => exact absurd HXX.out (of_decide_eq_false hs)
    | true =>
      have HE := Lib.hid (HEB.out (of_decide_eq_true hs))
      rw [hs] at HSM
      clear hs
      refine wp_region_held_drew (S := fun a => Below (W1.heap.size) W1 a) (by kernel_rfl) (by (try dsimp only); exact (Below.refl _ _).drew) (fun hHeld => ?_)
      refine wpAnyH_take (i := 0) (oi := ⟨some 8, .load 52 (.tmp 1), 52, "deed.go:94", #[], none⟩) (v := .agg (deL x A c B d).toArray) rfl (by kernel_rfl) (by kernel_rfl) (by kernel_rfl) (fun _ _ _ h => h) (yieldsIf_load_mid (by rfl) 52 _ (by rfl) w.heap.size 0 (by rfl) (deL x A c B d) _ (fun W9 h9 => (HX1.out.p.cs.on h9 HX1.out.p.lt).range) Tryz.underlying52 rfl (by rw [de_size, deL_len])) (by assumption) ?_
      try simp only [Act.put, qds48a, qds48b, qds48c]
      refine wpAnyH_take (i := 1) (oi := ⟨some 9, .load 52 (.tmp 1), 52, "deed.go:94", #[], none⟩) (v := .agg (deL x A c B d).toArray) rfl (by kernel_rfl) (by kernel_rfl) (by kernel_rfl) (fun _ _ _ h => h) (yieldsIf_load_mid (by rfl) 52 _ (by rfl) w.heap.size 0 (by rfl) (deL x A c B d) _ (fun W9 h9 => (HX1.out.p.cs.on h9 HX1.out.p.lt).range) Tryz.underlying52 rfl (by rw [de_size, deL_len])) (by assumption) ?_
      try simp only [Act.put, qds48a, qds48b, qds48c]
      refine wpAnyH_ready (rs := [2]) (by kernel_rfl) (by simp) ?_
      refine AllReadyH.cons (o := ⟨some 10, .call { callee := .value (.func 72), args := #[.tmp 9], argTypes := #[52] }, 52, "deed.go:94", #[⟨1, .data⟩], none⟩) rfl (fun K hK => ?_) (AllReadyH.nil)
      go_simp
      go_at_call 72
      refine (HTO.out _).mono ?_
      rintro e wx ⟨A5, c5, B5, d5, rfl, ha5, hb5, la5, lb5, hb2⟩
      have HA5 := Lib.hid ha5
      have HB5 := Lib.hid hb5
      have LA5 := Lib.hid la5
      have LB5 := Lib.hid lb5
      clear ha5 hb5 la5 lb5
      refine hK.out _ _ (bthen hHeld hb2 (Nat.le_refl _)) (fun hHeld2 => ?_)
      clear hK K hHeld hb2
      have hHeld := hHeld2
      clear hHeld2
      try simp only [Act.put, qds48a, qds48b, qds48c]
      refine wpAnyH_ready (rs := [3]) (by kernel_rfl) (by simp) ?_
      refine AllReadyH.cons (o := ⟨some 11, .call { callee := .value (.func 71), args := #[.tmp 8, .tmp 10], argTypes := #[52, 52] }, 4, "deed.go:94", #[⟨0, .data⟩, ⟨2, .data⟩, ⟨2, .chain⟩], none⟩) rfl (fun K hK => ?_) (AllReadyH.nil)
      go_simp
      go_at_call 71
      refine (HSM.out _ A5 c5 B5 d5 (Nat.le_trans LA5.out HOK.out.bind.len) (Nat.le_trans LB5.out HOK.out.mail.len) (HX1.out.ra.on hHeld) (HX1.out.rb.on hHeld) (HA5.out _ (HX1.out.ra.on hHeld)) (HB5.out _ (HX1.out.rb.on hHeld))).mono ?_
      rintro e wx ⟨rfl, hb2⟩
      refine hK.out _ _ (bthen hHeld hb2 (Nat.le_refl _)) (fun hHeld2 => ?_)
      clear hK K hHeld hb2
      have hHeld := hHeld2
      clear hHeld2
      try simp only [Act.put, qds48a, qds48b, qds48c]
      refine wpAnyH_take (i := 4) (oi := ⟨some 12, .unOp .not 4 (.tmp 11), 4, "deed.go:94", #[⟨3, .data⟩], none⟩) (v := ?_) rfl (by kernel_rfl) (by kernel_rfl) (by kernel_rfl) (fun _ _ _ h => h) (Or.inl ⟨by rfl, ?_⟩) (by assumption) ?_
      rotate_left 1
      · intro wS hSw; (try dsimp only at hSw); go_simp; try with_reducible rfl
      try simp only [Act.put, qds48a, qds48b, qds48c]
      refine wpAnyH_take (i := 5) (oi := ⟨some 7, .assign (.tmp 12), 4, "deed.go:94", #[⟨4, .data⟩, ⟨3, .chain⟩], none⟩) (v := ?_) rfl (by kernel_rfl) (by kernel_rfl) (by kernel_rfl) (fun _ _ _ h => h) (Or.inl ⟨by rfl, ?_⟩) (by assumption) ?_
      rotate_left 1
      · intro wS hSw; (try dsimp only at hSw); go_simp; try with_reducible rfl
      try simp only [Act.put, qds48a, qds48b, qds48c]
      refine wpAnyH_done (by kernel_rfl) ?_ _
      have hZ := hHeld
      clear hHeld
      have HB4 := Lib.hid (bthen HB1.out hZ (Nat.le_refl _))
      have HB14 := Lib.hid hZ
      have HX4 := Lib.hid (HX1.out.on hZ)
      clear hZ HX1
      go_upto_region 5 with fail
      generalize hW4 : wx = W4 at *
      have hk := HKD.out
      · have HK := Lib.hid (De.body_11 hk)
        have c0 : W4.cell? ⟨w.heap.size, 0, none⟩ = some (.int .u8 11) := by have g := HX4.out.p.cs 0 _ rfl; rw [hk] at g; exact g
        clear hk
        have cl := HX4.out.p.lt
        go_wp2_with fail
        go_ret
        exact ⟨ret_nat (by rw [HE.out, HK.out]; rfl), HB4.out⟩
set_option maxRecDepth 100000 in
set_option maxHeartbeats 16000000 in
theorem ddBytes11_any (x : De) (A : Option Addr) (c : Nat) (B : Option Addr) (d : Nat) (w : World) (h : DeOk w x A c B d) (hf : De.Fits x) (hk11 : x.kd = 11) (hx : x = x.told) :
    Calls Tryz.prog 13 #[deV x A c B d] w fun e w' => e = .returned (deBytesV x) ∧ Below w.heap.size w w' := by
  have HB1 := Lib.hid (rtOne w (.cells #[.int .u8 (x.kd : Int), .int .u64 (x.tick : Int), .string (ofL x.shop.name), .int .u8 (x.shop.sort : Int), .string (ofL x.shop.to), .string (ofL x.q.name), .int .u64 (x.q.most : Int), .int .u64 (x.q.life : Int), .string (ofL x.q.dead), .string (ofL x.bind.shop), .string (ofL x.bind.to), .bool x.bind.up, .string (ofL x.bind.key), .slice A x.bind.want.length c, .bool x.bind.all, .string (ofL x.name), .int .u64 (x.id : Int), .int .u8 (x.how : Int), .int .u8 (x.frm : Int), .int .u8 (x.cd : Int), .int .u64 (x.num : Int), .int .u64 (x.mail.id : Int), .string (ofL x.mail.shop), .string (ofL x.mail.key), .slice B x.mail.head.length d, .string (ofL x.mail.body), .int .u64 (x.mail.due : Int), .int .u8 (x.mail.hops : Int), .string (ofL x.text)] 52))
  have HX1 := Lib.hid (DeX.start w x A c B d h.bind.row h.mail.row 52)
  have HOK := Lib.hid h
  have HF := Lib.hid hf
  have HCK := Lib.hid (fun W (g : DeOk W x A c B d) => ddCheck11_any x A c B d W g hk11 hx)
  have HV : Hid (deBytesV x = if x.code = 0 then .tuple #[.string (ofL x.enc), .int .i64 0] else .tuple #[.string ⟨#[]⟩, .int .i64 (x.code : Int)]) := rfl
  have HRA := Lib.hid h.bind.row
  have HRB := Lib.hid h.mail.row
  have HKD := Lib.hid hk11
  clear h hf hx hk11
  generalize deBytesV x = V at *
  simp only [deV]
  go_enter Tryz.func13, Tryz.ntmps13
  go_upto_region 1 with fail
  generalize w.alloc (.cells #[.int .u8 (x.kd : Int), .int .u64 (x.tick : Int), .string (ofL x.shop.name), .int .u8 (x.shop.sort : Int), .string (ofL x.shop.to), .string (ofL x.q.name), .int .u64 (x.q.most : Int), .int .u64 (x.q.life : Int), .string (ofL x.q.dead), .string (ofL x.bind.shop), .string (ofL x.bind.to), .bool x.bind.up, .string (ofL x.bind.key), .slice A x.bind.want.length c, .bool x.bind.all, .string (ofL x.name), .int .u64 (x.id : Int), .int .u8 (x.how : Int), .int .u8 (x.frm : Int), .int .u8 (x.cd : Int), .int .u64 (x.num : Int), .int .u64 (x.mail.id : Int), .string (ofL x.mail.shop), .string (ofL x.mail.key), .slice B x.mail.head.length d, .string (ofL x.mail.body), .int .u64 (x.mail.due : Int), .int .u8 (x.mail.hops : Int), .string (ofL x.text)] 52) = W1 at *
  by_cases h0 : x.code = 0
  · have HVV := Lib.hid (show V = .tuple #[.string (ofL x.enc), .int .i64 0] by rw [HV.out, if_pos h0])
    rw [h0] at HCK
    clear h0 HV
    obtain ⟨y0, hy0⟩ : ∃ z, [] ++ Oct.be 1 x.kd = z := ⟨_, rfl⟩
    obtain ⟨E1, hE1⟩ : ∃ z, De.E1 x = z := ⟨_, rfl⟩
    have hE2 : y0 ++ Oct.be 8 x.tick = E1 := by rw [← hy0, ← hE1]; rfl
    have z0 : y0.length = 1 := by rw [← hy0]; simp [Oct.length_be]
    have z1 : E1.length = 9 := by rw [← hE2]; simp [Oct.length_be, z0]
    have HS0 := Lib.hid (fun W => ddSmall_any [] x.kd W HF.out.kd (by simp))
    rw [show ofL [] = ⟨#[]⟩ from rfl, hy0] at HS0
    have HS1 := Lib.hid (fun W => num_l y0 x.tick 8 8 W HF.out.tick (by omega) rfl (by omega))
    rw [hE2] at HS1
    have HE1 := Lib.hid hE1
    have HZ1 := Lib.hid z1
    clear hy0 hE2 z0 z1 hE1
    go_wp2_with (refine wpList_load_mid (by rfl) 52 _ (by rfl) w.heap.size 0 (by rfl) (deL x A c B d) _ HX1.out.p.cs.range Tryz.underlying52 rfl (by rw [de_size, deL_len]) ?_)
    refine (HCK.out _ (HOK.out.on HB1.out)).mono ?_
    rintro e w2 ⟨rfl, b2⟩
    have HB2 := Lib.hid (bthen HB1.out b2 (Nat.le_refl _))
    have HX2 := Lib.hid (HX1.out.on b2)
    clear b2 HX1 HB1 HCK
    go_upto_region 4 with fail
    go_cut [5] (fun s5 wx => ∃ g, s5 = .pointer (some ⟨g, 0, none⟩) ∧ DbS w x A c B d g (ofL E1) wx)
    case first =>
      have c0 := HX2.out.p.cs 0 _ rfl
      have c1 := HX2.out.p.cs 1 _ rfl
      have cl := HX2.out.p.lt
      refine wp_region_held_drew (S := fun a => Below (w2.heap.size) w2 a) (by kernel_rfl) (by (try dsimp only); exact (Below.refl _ _).drew) (fun hHeld => ?_)
      refine wpAnyH_take (i := 0) (oi := ⟨some 11, .build 70 #[], 70, "bytes.go:25", #[], none⟩) (v := ?_) rfl (by kernel_rfl) (by kernel_rfl) (by kernel_rfl) (fun _ _ _ h => h) (Or.inl ⟨by rfl, ?_⟩) (by assumption) ?_
      rotate_left 1
      · intro wS hSw; (try dsimp only at hSw); go_simp; try with_reducible rfl
      try simp only [Act.put, qds48a, qds48b, qds48c]
      refine wpAnyH_take (i := 1) (oi := ⟨some 12, .fieldAddr 52 (.tmp 1) 0, 0, "bytes.go:25", #[], none⟩) (v := ?_) rfl (by kernel_rfl) (by kernel_rfl) (by kernel_rfl) (fun _ _ _ h => h) (Or.inl ⟨by rfl, ?_⟩) (by assumption) ?_
      rotate_left 1
      · intro wS hSw; (try dsimp only at hSw); go_simp; try with_reducible rfl
      try simp only [Act.put, qds48a, qds48b, qds48c]
      refine wpAnyH_take (i := 2) (oi := ⟨some 13, .load 5 (.tmp 12), 5, "bytes.go:25", #[⟨1, .data⟩], none⟩) (v := ?_) rfl (by kernel_rfl) (by kernel_rfl) (by kernel_rfl) (fun _ _ _ h => h) (Or.inl ⟨by rfl, ?_⟩) (by assumption) ?_
      rotate_left 1
      · intro wS hSw; (try dsimp only at hSw); have c0 := cell_on hSw c0; have c1 := cell_on hSw c1; go_simp; try with_reducible rfl
      try simp only [Act.put, qds48a, qds48b, qds48c]
      refine wpAnyH_take (i := 4) (oi := ⟨some 15, .fieldAddr 52 (.tmp 1) 1, 0, "bytes.go:25", #[], none⟩) (v := ?_) rfl (by kernel_rfl) (by kernel_rfl) (by kernel_rfl) (fun _ _ _ h => h) (Or.inl ⟨by rfl, ?_⟩) (by assumption) ?_
      rotate_left 1
      · intro wS hSw; (try dsimp only at hSw); go_simp; try with_reducible rfl
      try simp only [Act.put, qds48a, qds48b, qds48c]
      refine wpAnyH_take (i := 5) (oi := ⟨some 16, .load 41 (.tmp 15), 41, "bytes.go:25", #[⟨4, .data⟩], none⟩) (v := ?_) rfl (by kernel_rfl) (by kernel_rfl) (by kernel_rfl) (fun _ _ _ h => h) (Or.inl ⟨by rfl, ?_⟩) (by assumption) ?_
      rotate_left 1
      · intro wS hSw; (try dsimp only at hSw); have c0 := cell_on hSw c0; have c1 := cell_on hSw c1; go_simp; try with_reducible rfl
      try simp only [Act.put, qds48a, qds48b, qds48c]
      refine wpAnyH_ready (rs := [3, 7]) (by kernel_rfl) (by simp) ?_
      refine AllReadyH.cons (o := ⟨some 14, .call { callee := .value (.func 34), args := #[.tmp 11, .tmp 13], argTypes := #[70, 5] }, 70, "bytes.go:25", #[⟨0, .data⟩, ⟨2, .data⟩], none⟩) rfl (fun K hK => ?_) (AllReadyH.cons (o := ⟨some 5, .alloc 70, 0, "bytes.go:25", #[], none⟩) rfl (fun K hK => ?_) (AllReadyH.nil))
      · skip
        go_simp
        go_at_call 34
        refine (HS0.out _).mono ?_
        rintro e wx ⟨rfl, hb2⟩
        generalize wx = wa at *
        try replace HNB := Lib.hid (HNB.out.on hb2)
        refine hK.out _ _ (bthen hHeld hb2 (Nat.le_refl _)) (fun hHeld2 => ?_)
        clear hK K hHeld hb2
        have hHeld := hHeld2
        clear hHeld2
        try simp only [Act.put, qds48a, qds48b, qds48c]
        refine wpAnyH_ready (rs := [6, 7]) (by kernel_rfl) (by simp) ?_
        refine AllReadyH.cons (o := ⟨some 17, .call { callee := .value (.func 19), args := #[.tmp 14, .tmp 16, .const (.int .i64 8)], argTypes := #[70, 41, 3] }, 70, "bytes.go:25", #[⟨3, .data⟩, ⟨5, .data⟩, ⟨3, .chain⟩], none⟩) rfl (fun K hK => ?_) (AllReadyH.cons (o := ⟨some 5, .alloc 70, 0, "bytes.go:25", #[], none⟩) rfl (fun K hK => ?_) (AllReadyH.nil))
        · skip
          go_simp
          go_at_call 19
          refine (HS1.out _).mono ?_
          rintro e wx ⟨rfl, hb2⟩
          generalize wx = wb at *
          try replace HNB := Lib.hid (HNB.out.on hb2)
          refine hK.out _ _ (bthen hHeld hb2 (Nat.le_refl _)) (fun hHeld2 => ?_)
          clear hK K hHeld hb2
          have hHeld := hHeld2
          clear hHeld2
          try simp only [Act.put, qds48a, qds48b, qds48c]
          refine wpAnyH_ready (rs := [7]) (by kernel_rfl) (by simp) ?_
          refine AllReadyH.cons (o := ⟨some 5, .alloc 70, 0, "bytes.go:25", #[], none⟩) rfl (fun K hK => ?_) (AllReadyH.nil)
          go_simp
          have HNB := Lib.hid (BoxC.new (w := w2) (W := _) hHeld.size #[.string ⟨#[]⟩, .int .i64 0] 70)
          have HNA := Lib.hid (BoxC.new (w := w2) (W := _) hHeld.size #[.string (ofL E1), .int .i64 0] 70)
          have hPre := hHeld
          refine hK.out _ _ (hHeld.alloc hHeld.size _) (fun hHeld2 => ?_)
          clear hK K hHeld
          have hHeld := hHeld2
          clear hHeld2
          try simp only [Act.put, qds48a, qds48b, qds48c]
          refine wpAnyH_ready (rs := [8]) (by kernel_rfl) (by simp) ?_
          refine AllReadyH.cons (o := ⟨none, .store 70 (.tmp 5) (.tmp 17), 0, "bytes.go:25", #[⟨7, .data⟩, ⟨6, .data⟩, ⟨6, .chain⟩, ⟨0, .phase⟩, ⟨1, .phase⟩, ⟨2, .phase⟩, ⟨3, .phase⟩, ⟨4, .phase⟩, ⟨5, .phase⟩, ⟨6, .phase⟩, ⟨7, .phase⟩], none⟩) rfl (fun K hK => ?_) (AllReadyH.nil)
          have n0 := HNB.out.cs 0 _ rfl
          have n1 := HNB.out.cs 1 _ rfl
          have nf := HNB.out.s
          unfold Soft at nf
          have nl := HNB.out.lt
          have nge := HNB.out.ge
          have hfl := HNB.out.fill [.string (ofL E1), .int .i64 0] rfl
          simp only [putAll] at hfl
          have HNF := Lib.hid hfl
          clear hfl
          try simp only [show w2.drew.heap.size = w2.heap.size from rfl] at n0 n1 nf nl nge
          go_simp
          refine hK.out _ _ ?_ (fun hHeld2 => ?_)
          · (try dsimp only); first | with_reducible exact hPre.alloc hPre.size _ | ((repeat with_reducible refine below_put nge ?_); with_reducible exact hHeld)
          clear n0 n1 nf nl nge HNB hPre
          clear hK K hHeld
          have hHeld := hHeld2
          clear hHeld2
          try simp only [Act.put, qds48a, qds48b, qds48c]
          refine wpAnyH_done (by kernel_rfl) ?_ _
          have hZ := hHeld
          clear hHeld
          have HZ := Lib.hid hZ
          clear hZ c0 c1 cl
          go_wp2_with fail
          go_meet
          exact ⟨_, rfl, ⟨by first | exact HNF.out.wk HB2.out.size | exact HNA.out.wk HB2.out.size, HX2.out.on HZ.out, by first | exact Nat.lt_of_lt_of_le HX2.out.p.lt HNF.out.ge | exact Nat.lt_of_lt_of_le HX2.out.p.lt HNA.out.ge, bthen HB2.out HZ.out (Nat.le_refl _)⟩⟩
        · skip
          go_simp
          have HNB := Lib.hid (BoxC.new (w := w2) (W := _) hHeld.size #[.string ⟨#[]⟩, .int .i64 0] 70)
          have HNA := Lib.hid (BoxC.new (w := w2) (W := _) hHeld.size #[.string (ofL E1), .int .i64 0] 70)
          have hPre := hHeld
          refine hK.out _ _ (hHeld.alloc hHeld.size _) (fun hHeld2 => ?_)
          clear hK K hHeld
          have hHeld := hHeld2
          clear hHeld2
          try simp only [Act.put, qds48a, qds48b, qds48c]
          refine wpAnyH_ready (rs := [6]) (by kernel_rfl) (by simp) ?_
          refine AllReadyH.cons (o := ⟨some 17, .call { callee := .value (.func 19), args := #[.tmp 14, .tmp 16, .const (.int .i64 8)], argTypes := #[70, 41, 3] }, 70, "bytes.go:25", #[⟨3, .data⟩, ⟨5, .data⟩, ⟨3, .chain⟩], none⟩) rfl (fun K hK => ?_) (AllReadyH.nil)
          go_simp
          go_at_call 19
          refine (HS1.out _).mono ?_
          rintro e wx ⟨rfl, hb2⟩
          generalize wx = wb at *
          try replace HNB := Lib.hid (HNB.out.on hb2)
          refine hK.out _ _ (bthen hHeld hb2 (Nat.le_refl _)) (fun hHeld2 => ?_)
          clear hK K hHeld hb2
          have hHeld := hHeld2
          clear hHeld2
          try simp only [Act.put, qds48a, qds48b, qds48c]
          refine wpAnyH_ready (rs := [8]) (by kernel_rfl) (by simp) ?_
          refine AllReadyH.cons (o := ⟨none, .store 70 (.tmp 5) (.tmp 17), 0, "bytes.go:25", #[⟨7, .data⟩, ⟨6, .data⟩, ⟨6, .chain⟩, ⟨0, .phase⟩, ⟨1, .phase⟩, ⟨2, .phase⟩, ⟨3, .phase⟩, ⟨4, .phase⟩, ⟨5, .phase⟩, ⟨6, .phase⟩, ⟨7, .phase⟩], none⟩) rfl (fun K hK => ?_) (AllReadyH.nil)
          have n0 := HNB.out.cs 0 _ rfl
          have n1 := HNB.out.cs 1 _ rfl
          have nf := HNB.out.s
          unfold Soft at nf
          have nl := HNB.out.lt
          have nge := HNB.out.ge
          have hfl := HNB.out.fill [.string (ofL E1), .int .i64 0] rfl
          simp only [putAll] at hfl
          have HNF := Lib.hid hfl
          clear hfl
          try simp only [show w2.drew.heap.size = w2.heap.size from rfl] at n0 n1 nf nl nge
          go_simp
          refine hK.out _ _ ?_ (fun hHeld2 => ?_)
          · (try dsimp only); first | with_reducible exact hPre.alloc hPre.size _ | ((repeat with_reducible refine below_put nge ?_); with_reducible exact hHeld)
          clear n0 n1 nf nl nge HNB hPre
          clear hK K hHeld
          have hHeld := hHeld2
          clear hHeld2
          try simp only [Act.put, qds48a, qds48b, qds48c]
          refine wpAnyH_done (by kernel_rfl) ?_ _
          have hZ := hHeld
          clear hHeld
          have HZ := Lib.hid hZ
          clear hZ c0 c1 cl
          go_wp2_with fail
          go_meet
          exact ⟨_, rfl, ⟨by first | exact HNF.out.wk HB2.out.size | exact HNA.out.wk HB2.out.size, HX2.out.on HZ.out, by first | exact Nat.lt_of_lt_of_le HX2.out.p.lt HNF.out.ge | exact Nat.lt_of_lt_of_le HX2.out.p.lt HNA.out.ge, bthen HB2.out HZ.out (Nat.le_refl _)⟩⟩
      · skip
        go_simp
        have HNB := Lib.hid (BoxC.new (w := w2) (W := _) hHeld.size #[.string ⟨#[]⟩, .int .i64 0] 70)
        have HNA := Lib.hid (BoxC.new (w := w2) (W := _) hHeld.size #[.string (ofL E1), .int .i64 0] 70)
        have hPre := hHeld
        refine hK.out _ _ (hHeld.alloc hHeld.size _) (fun hHeld2 => ?_)
        clear hK K hHeld
        have hHeld := hHeld2
        clear hHeld2
        try simp only [Act.put, qds48a, qds48b, qds48c]
        refine wpAnyH_ready (rs := [3]) (by kernel_rfl) (by simp) ?_
        refine AllReadyH.cons (o := ⟨some 14, .call { callee := .value (.func 34), args := #[.tmp 11, .tmp 13], argTypes := #[70, 5] }, 70, "bytes.go:25", #[⟨0, .data⟩, ⟨2, .data⟩], none⟩) rfl (fun K hK => ?_) (AllReadyH.nil)
        go_simp
        go_at_call 34
        refine (HS0.out _).mono ?_
        rintro e wx ⟨rfl, hb2⟩
        generalize wx = wa at *
        try replace HNB := Lib.hid (HNB.out.on hb2)
        refine hK.out _ _ (bthen hHeld hb2 (Nat.le_refl _)) (fun hHeld2 => ?_)
        clear hK K hHeld hb2
        have hHeld := hHeld2
        clear hHeld2
        try simp only [Act.put, qds48a, qds48b, qds48c]
        refine wpAnyH_ready (rs := [6]) (by kernel_rfl) (by simp) ?_
        refine AllReadyH.cons (o := ⟨some 17, .call { callee := .value (.func 19), args := #[.tmp 14, .tmp 16, .const (.int .i64 8)], argTypes := #[70, 41, 3] }, 70, "bytes.go:25", #[⟨3, .data⟩, ⟨5, .data⟩, ⟨3, .chain⟩], none⟩) rfl (fun K hK => ?_) (AllReadyH.nil)
        go_simp
        go_at_call 19
        refine (HS1.out _).mono ?_
        rintro e wx ⟨rfl, hb2⟩
        generalize wx = wb at *
        try replace HNB := Lib.hid (HNB.out.on hb2)
        refine hK.out _ _ (bthen hHeld hb2 (Nat.le_refl _)) (fun hHeld2 => ?_)
        clear hK K hHeld hb2
        have hHeld := hHeld2
        clear hHeld2
        try simp only [Act.put, qds48a, qds48b, qds48c]
        refine wpAnyH_ready (rs := [8]) (by kernel_rfl) (by simp) ?_
        refine AllReadyH.cons (o := ⟨none, .store 70 (.tmp 5) (.tmp 17), 0, "bytes.go:25", #[⟨7, .data⟩, ⟨6, .data⟩, ⟨6, .chain⟩, ⟨0, .phase⟩, ⟨1, .phase⟩, ⟨2, .phase⟩, ⟨3, .phase⟩, ⟨4, .phase⟩, ⟨5, .phase⟩, ⟨6, .phase⟩, ⟨7, .phase⟩], none⟩) rfl (fun K hK => ?_) (AllReadyH.nil)
        have n0 := HNB.out.cs 0 _ rfl
        have n1 := HNB.out.cs 1 _ rfl
        have nf := HNB.out.s
        unfold Soft at nf
        have nl := HNB.out.lt
        have nge := HNB.out.ge
        have hfl := HNB.out.fill [.string (ofL E1), .int .i64 0] rfl
        simp only [putAll] at hfl
        have HNF := Lib.hid hfl
        clear hfl
        try simp only [show w2.drew.heap.size = w2.heap.size from rfl] at n0 n1 nf nl nge
        go_simp
        refine hK.out _ _ ?_ (fun hHeld2 => ?_)
        · (try dsimp only); first | with_reducible exact hPre.alloc hPre.size _ | ((repeat with_reducible refine below_put nge ?_); with_reducible exact hHeld)
        clear n0 n1 nf nl nge HNB hPre
        clear hK K hHeld
        have hHeld := hHeld2
        clear hHeld2
        try simp only [Act.put, qds48a, qds48b, qds48c]
        refine wpAnyH_done (by kernel_rfl) ?_ _
        have hZ := hHeld
        clear hHeld
        have HZ := Lib.hid hZ
        clear hZ c0 c1 cl
        go_wp2_with fail
        go_meet
        exact ⟨_, rfl, ⟨by first | exact HNF.out.wk HB2.out.size | exact HNA.out.wk HB2.out.size, HX2.out.on HZ.out, by first | exact Nat.lt_of_lt_of_le HX2.out.p.lt HNF.out.ge | exact Nat.lt_of_lt_of_le HX2.out.p.lt HNA.out.ge, bthen HB2.out HZ.out (Nat.le_refl _)⟩⟩
    case rest =>
      obtain ⟨g, rfl, hD⟩ := hcut
      have HD := Lib.hid hD
      clear hD HS0 HS1 HX2 HB2
      have hk := HKD.out
      · have HEV := Lib.hid (De.enc_11 hk)
        have hz1 := HZ1.out
        have c0 : wc.cell? ⟨w.heap.size, 0, none⟩ = some (.int .u8 11) := by have q := HD.out.p.p.cs 0 _ rfl; rw [hk] at q; exact q
        have cl := HD.out.p.p.lt
        have HEQ := Lib.hid (show x.enc = E1 by rw [HEV.out, HE1.out])
        clear hk hz1
        have d0 := HD.out.o.cs 0 _ rfl
        have d1 := HD.out.o.cs 1 _ rfl
        have dl := HD.out.o.lt
        go_wp2_with fail
        refine (str_any (ofL E1) 0 _).mono ?_
        rintro e w9 ⟨rfl, b9⟩
        have HB9 := Lib.hid (bthen HD.out.B b9 (Nat.le_refl _))
        clear b9
        go_wp2_with fail
        exact bodyPost_ret (v := .tuple #[.string (ofL E1), .int .i64 0]) (by simp [results, Tryz.results13, go_sem]) rfl ⟨by rw [HVV.out, HEQ.out], HB9.out⟩
  · have HVV := Lib.hid (show V = .tuple #[.string ⟨#[]⟩, .int .i64 (x.code : Int)] by rw [HV.out, if_neg h0])
    have hz : ((x.code : Int) != 0) = true := by rw [bne_iff_ne]; omega
    go_wp2_with (refine wpList_load_mid (by rfl) 52 _ (by rfl) w.heap.size 0 (by rfl) (deL x A c B d) _ HX1.out.p.cs.range Tryz.underlying52 rfl (by rw [de_size, deL_len]) ?_)
    refine (HCK.out _ (HOK.out.on HB1.out)).mono ?_
    rintro e w2 ⟨rfl, b2⟩
    have HB2 := Lib.hid (bthen HB1.out b2 (Nat.le_refl _))
    clear b2
    go_wp2_with fail
    exact bodyPost_ret (v := .tuple #[.string ⟨#[]⟩, .int .i64 (x.code : Int)]) (by simp [results, Tryz.results13, go_sem]) rfl ⟨by rw [HVV.out], HB2.out⟩
end Go.Proofs.YtaikigponkjkgaaGreatDoor
end
