/-
  THE LAW DeedSame, walked.
-/
import Derived.Test.YtgponfdcagnhhaaGreatDoorDs34
import Derived.Test.YtgponfdcagnhhaaGreatDoorDs38
import Derived.Test.YtgponfdcagnhhaaGreatDoorDs43
import Derived.Test.YtgponfdcagnhhaaGreatDoorDs47
import Derived.Test.YtgponfdcagnhhaaGreatDoorDs48
import Derived.BigFrame
section
namespace Go.Proofs.YtgponfdcagnhhaaGreatDoor
open Go.ChangeShapes Go.WideShapes Go.ChangeAt Go.RowKit
set_option maxRecDepth 100000 in
set_option maxHeartbeats 16000000 in
theorem deedSame_walk (x y : De) (A : Option Addr) (c : Nat) (B : Option Addr) (d : Nat) (C : Option Addr) (e : Nat) (D : Option Addr) (f : Nat) (w : World) (hx : DeIn w x A c B d) (hy : DeIn w y C e D f) (hL : Len w) :
    Calls Tryz.prog 4 #[deV x A c B d, deV y C e D f] w fun r w' => r = .returned (.bool true) ∧ Below w.heap.size w w' := by
  have HB2 := Lib.hid (rtTwo w (.cells #[.int .u8 (x.kd : Int), .int .u64 (x.tick : Int), .string (ofL x.shop.name), .int .u8 (x.shop.sort : Int), .string (ofL x.shop.to), .string (ofL x.q.name), .int .u64 (x.q.most : Int), .int .u64 (x.q.life : Int), .string (ofL x.q.dead), .string (ofL x.bind.shop), .string (ofL x.bind.to), .bool x.bind.up, .string (ofL x.bind.key), .slice A x.bind.want.length c, .bool x.bind.all, .string (ofL x.name), .int .u64 (x.id : Int), .int .u8 (x.how : Int), .int .u8 (x.frm : Int), .int .u8 (x.cd : Int), .int .u64 (x.num : Int), .int .u64 (x.mail.id : Int), .string (ofL x.mail.shop), .string (ofL x.mail.key), .slice B x.mail.head.length d, .string (ofL x.mail.body), .int .u64 (x.mail.due : Int), .int .u8 (x.mail.hops : Int), .string (ofL x.text)] 33) (.cells #[.int .u8 (y.kd : Int), .int .u64 (y.tick : Int), .string (ofL y.shop.name), .int .u8 (y.shop.sort : Int), .string (ofL y.shop.to), .string (ofL y.q.name), .int .u64 (y.q.most : Int), .int .u64 (y.q.life : Int), .string (ofL y.q.dead), .string (ofL y.bind.shop), .string (ofL y.bind.to), .bool y.bind.up, .string (ofL y.bind.key), .slice C y.bind.want.length e, .bool y.bind.all, .string (ofL y.name), .int .u64 (y.id : Int), .int .u8 (y.how : Int), .int .u8 (y.frm : Int), .int .u8 (y.cd : Int), .int .u64 (y.num : Int), .int .u64 (y.mail.id : Int), .string (ofL y.mail.shop), .string (ofL y.mail.key), .slice D y.mail.head.length f, .string (ofL y.mail.body), .int .u64 (y.mail.due : Int), .int .u8 (y.mail.hops : Int), .string (ofL y.text)] 33))
  have HX2 := Lib.hid ((DeX.start w x A c B d hx.ra hx.rb 33).on (rtOne _ (.cells #[.int .u8 (y.kd : Int), .int .u64 (y.tick : Int), .string (ofL y.shop.name), .int .u8 (y.shop.sort : Int), .string (ofL y.shop.to), .string (ofL y.q.name), .int .u64 (y.q.most : Int), .int .u64 (y.q.life : Int), .string (ofL y.q.dead), .string (ofL y.bind.shop), .string (ofL y.bind.to), .bool y.bind.up, .string (ofL y.bind.key), .slice C y.bind.want.length e, .bool y.bind.all, .string (ofL y.name), .int .u64 (y.id : Int), .int .u8 (y.how : Int), .int .u8 (y.frm : Int), .int .u8 (y.cd : Int), .int .u64 (y.num : Int), .int .u64 (y.mail.id : Int), .string (ofL y.mail.shop), .string (ofL y.mail.key), .slice D y.mail.head.length f, .string (ofL y.mail.body), .int .u64 (y.mail.due : Int), .int .u8 (y.mail.hops : Int), .string (ofL y.text)] 33)))
  have HY2 := Lib.hid (DeX.next (w := w) (.cells #[.int .u8 (x.kd : Int), .int .u64 (x.tick : Int), .string (ofL x.shop.name), .int .u8 (x.shop.sort : Int), .string (ofL x.shop.to), .string (ofL x.q.name), .int .u64 (x.q.most : Int), .int .u64 (x.q.life : Int), .string (ofL x.q.dead), .string (ofL x.bind.shop), .string (ofL x.bind.to), .bool x.bind.up, .string (ofL x.bind.key), .slice A x.bind.want.length c, .bool x.bind.all, .string (ofL x.name), .int .u64 (x.id : Int), .int .u8 (x.how : Int), .int .u8 (x.frm : Int), .int .u8 (x.cd : Int), .int .u64 (x.num : Int), .int .u64 (x.mail.id : Int), .string (ofL x.mail.shop), .string (ofL x.mail.key), .slice B x.mail.head.length d, .string (ofL x.mail.body), .int .u64 (x.mail.due : Int), .int .u8 (x.mail.hops : Int), .string (ofL x.text)] 33) y C e D f hy.ra hy.rb 33)
  have HIX := Lib.hid hx
  have HIY := Lib.hid hy
  have HL0 := Lib.hid hL
  have HLX := Lib.hid (fun W g => ddLight_any x A c B d W g)
  have HLY := Lib.hid (fun W g => ddLight_any y C e D f W g)
  clear hx hy hL
  simp only [deV]
  go_enter Tryz.func4, Tryz.ntmps4
  go_upto_region 1 with fail
  generalize (w.alloc (.cells #[.int .u8 (x.kd : Int), .int .u64 (x.tick : Int), .string (ofL x.shop.name), .int .u8 (x.shop.sort : Int), .string (ofL x.shop.to), .string (ofL x.q.name), .int .u64 (x.q.most : Int), .int .u64 (x.q.life : Int), .string (ofL x.q.dead), .string (ofL x.bind.shop), .string (ofL x.bind.to), .bool x.bind.up, .string (ofL x.bind.key), .slice A x.bind.want.length c, .bool x.bind.all, .string (ofL x.name), .int .u64 (x.id : Int), .int .u8 (x.how : Int), .int .u8 (x.frm : Int), .int .u8 (x.cd : Int), .int .u64 (x.num : Int), .int .u64 (x.mail.id : Int), .string (ofL x.mail.shop), .string (ofL x.mail.key), .slice B x.mail.head.length d, .string (ofL x.mail.body), .int .u64 (x.mail.due : Int), .int .u8 (x.mail.hops : Int), .string (ofL x.text)] 33)).alloc (.cells #[.int .u8 (y.kd : Int), .int .u64 (y.tick : Int), .string (ofL y.shop.name), .int .u8 (y.shop.sort : Int), .string (ofL y.shop.to), .string (ofL y.q.name), .int .u64 (y.q.most : Int), .int .u64 (y.q.life : Int), .string (ofL y.q.dead), .string (ofL y.bind.shop), .string (ofL y.bind.to), .bool y.bind.up, .string (ofL y.bind.key), .slice C y.bind.want.length e, .bool y.bind.all, .string (ofL y.name), .int .u64 (y.id : Int), .int .u8 (y.how : Int), .int .u8 (y.frm : Int), .int .u8 (y.cd : Int), .int .u64 (y.num : Int), .int .u64 (y.mail.id : Int), .string (ofL y.mail.shop), .string (ofL y.mail.key), .slice D y.mail.head.length f, .string (ofL y.mail.body), .int .u64 (y.mail.due : Int), .int .u8 (y.mail.hops : Int), .string (ofL y.text)] 33) = W2 at *
  go_wp2_with fail
  refine (law22awake_any _ (HL0.out.on HB2.out)).mono ?_
  rintro r w3 ⟨rfl, b3⟩
  have HB3 := Lib.hid (bthen HB2.out b3 (Nat.le_refl _))
  have HX3 := Lib.hid (HX2.out.on b3)
  have HY3 := Lib.hid (HY2.out.on b3)
  clear b3 HX2 HY2 HB2
  cases hlx : deLight x with
  | false =>
    rw [hlx] at HLX
    go_wp2_with (refine wpList_load_mid (by rfl) 33 _ (by rfl) w.heap.size 0 (by rfl) (deL x A c B d) _ HX3.out.p.cs.range Tryz.underlying33 rfl (by rw [de_size, deL_len]) ?_)
    refine (HLX.out _ (HIX.out.on HB3.out)).mono ?_
    rintro r w4 ⟨rfl, b4⟩
    have HB4 := Lib.hid (bthen HB3.out b4 (Nat.le_refl _))
    clear b4
    go_wp2_with fail
    go_ret
    exact ⟨rfl, HB4.out⟩
  | true =>
    rw [hlx] at HLX
    have HOX := Lib.hid (de_light_Ok hlx HIX.out)
    go_wp2_with (refine wpList_load_mid (by rfl) 33 _ (by rfl) w.heap.size 0 (by rfl) (deL x A c B d) _ HX3.out.p.cs.range Tryz.underlying33 rfl (by rw [de_size, deL_len]) ?_)
    refine (HLX.out _ (HIX.out.on HB3.out)).mono ?_
    rintro r w4 ⟨rfl, b4⟩
    have HB4 := Lib.hid (bthen HB3.out b4 (Nat.le_refl _))
    have HX4 := Lib.hid (HX3.out.on b4)
    have HY4 := Lib.hid (HY3.out.on b4)
    clear b4 HX3 HY3 HB3
    cases hly : deLight y with
    | false =>
      rw [hly] at HLY
      go_wp2_with (refine Go.BigFrame.wpList_want (by rfl) (fun K hK => wp_load_mid 33 _ (by rfl) (w.heap.size + 1) 0 (by rfl) (deL y C e D f) _ HY4.out.p.cs.range Tryz.underlying33 rfl (by rw [de_size, deL_len]) (hK _ _ ?_)))
      refine (HLY.out _ (HIY.out.on HB4.out)).mono ?_
      rintro r w5 ⟨rfl, b5⟩
      have HB5 := Lib.hid (bthen HB4.out b5 (Nat.le_refl _))
      clear b5
      go_wp2_with fail
      go_ret
      exact ⟨rfl, HB5.out⟩
    | true =>
      rw [hly] at HLY
      have HOY := Lib.hid (de_light_Ok hly HIY.out)
      go_wp2_with (refine Go.BigFrame.wpList_want (by rfl) (fun K hK => wp_load_mid 33 _ (by rfl) (w.heap.size + 1) 0 (by rfl) (deL y C e D f) _ HY4.out.p.cs.range Tryz.underlying33 rfl (by rw [de_size, deL_len]) (hK _ _ ?_)))
      refine (HLY.out _ (HIY.out.on HB4.out)).mono ?_
      rintro r W5 ⟨rfl, b5⟩
      replace HB4 := Lib.hid (bthen HB4.out b5 (Nat.le_refl _))
      replace HX4 := Lib.hid (HX4.out.on b5)
      replace HY4 := Lib.hid (HY4.out.on b5)
      clear b5
      generalize W5 = W4 at *
      have HTX := Lib.hid (fun W g => to22_any x A c B d W HOX.out.bind.len HOX.out.bind.cap g)
      have HTY := Lib.hid (fun W g => to22_any y C e D f W HOY.out.bind.len HOY.out.bind.cap g)
      have HS1 := Lib.hid (fun W h1 h2 h3 h4 => ddSame_any x y A c B d C e D f W HOX.out.bind.len HOY.out.bind.len HOX.out.mail.len HOY.out.mail.len h1 h2 h3 h4)
      have HS2 := Lib.hid (fun W A' c' C' e' h1 h2 h3 h4 => r22Same_any x y A' c' B d C' e' D f W HOX.out.bind.len HOY.out.bind.len HOX.out.mail.len HOY.out.mail.len h1 h2 h3 h4)
      have HS3 := Lib.hid (fun W h1 h2 h3 h4 => ddSame_any x x A c B d A c B d W HOX.out.bind.len HOX.out.bind.len HOX.out.mail.len HOX.out.mail.len h1 h2 h3 h4)
      have HS4 := Lib.hid (fun W h1 h2 h3 h4 => ddSame_any y x C e D f A c B d W HOY.out.bind.len HOX.out.bind.len HOY.out.mail.len HOX.out.mail.len h1 h2 h3 h4)
      rw [decide_eq_true (show x = x from rfl)] at HS3
      rw [show decide (y = x) = decide (x = y) from decide_eq_decide.2 ⟨Eq.symm, Eq.symm⟩] at HS4
      clear hlx hly
      generalize decide (x = y) = DB at *
      have hDD : (DB == DB) = true := by cases DB <;> rfl
      go_upto_region 5 with fail
      refine wp_region_held_drew (S := fun a => Below (W4.heap.size) W4 a) (by kernel_rfl) (by (try dsimp only); exact (Below.refl _ _).drew) (fun hHeld => ?_)
      refine wpAnyH_take (i := 0) (oi := { dst := some 15, op := Go.Op.load 33 (Go.Operand.tmp 2), type := 33, pos := "law.go:111", after := #[], guard := none }) (v := .agg (deL x A c B d).toArray) rfl (by kernel_rfl) (by kernel_rfl) (by kernel_rfl) (fun _ _ _ h => h) (yieldsIf_load_mid (by rfl) 33 _ (by rfl) w.heap.size 0 (by rfl) (deL x A c B d) _ (fun W9 h9 => (HX4.out.p.cs.on h9 HX4.out.p.lt).range) Tryz.underlying33 rfl (by rw [de_size, deL_len])) (by assumption) ?_
      try simp only [Act.put, List.setIfInBounds_toArray, List.set_cons_zero, List.set_cons_succ]
      refine wpAnyH_take (i := 1) (oi := { dst := some 16, op := Go.Op.load 33 (Go.Operand.tmp 3), type := 33, pos := "law.go:111", after := #[], guard := none }) (v := .agg (deL y C e D f).toArray) rfl (by kernel_rfl) (by kernel_rfl) (by kernel_rfl) (fun _ _ _ h => h) (yieldsIf_load_mid (by rfl) 33 _ (by rfl) (w.heap.size + 1) 0 (by rfl) (deL y C e D f) _ (fun W9 h9 => (HY4.out.p.cs.on h9 HY4.out.p.lt).range) Tryz.underlying33 rfl (by rw [de_size, deL_len])) (by assumption) ?_
      try simp only [Act.put, List.setIfInBounds_toArray, List.set_cons_zero, List.set_cons_succ]
      refine wpAnyH_take (i := 3) (oi := { dst := some 18, op := Go.Op.load 33 (Go.Operand.tmp 2), type := 33, pos := "law.go:111", after := #[], guard := none }) (v := .agg (deL x A c B d).toArray) rfl (by kernel_rfl) (by kernel_rfl) (by kernel_rfl) (fun _ _ _ h => h) (yieldsIf_load_mid (by rfl) 33 _ (by rfl) w.heap.size 0 (by rfl) (deL x A c B d) _ (fun W9 h9 => (HX4.out.p.cs.on h9 HX4.out.p.lt).range) Tryz.underlying33 rfl (by rw [de_size, deL_len])) (by assumption) ?_
      try simp only [Act.put, List.setIfInBounds_toArray, List.set_cons_zero, List.set_cons_succ]
      refine wpAnyH_take (i := 5) (oi := { dst := some 20, op := Go.Op.load 33 (Go.Operand.tmp 3), type := 33, pos := "law.go:111", after := #[], guard := none }) (v := .agg (deL y C e D f).toArray) rfl (by kernel_rfl) (by kernel_rfl) (by kernel_rfl) (fun _ _ _ h => h) (yieldsIf_load_mid (by rfl) 33 _ (by rfl) (w.heap.size + 1) 0 (by rfl) (deL y C e D f) _ (fun W9 h9 => (HY4.out.p.cs.on h9 HY4.out.p.lt).range) Tryz.underlying33 rfl (by rw [de_size, deL_len])) (by assumption) ?_
      try simp only [Act.put, List.setIfInBounds_toArray, List.set_cons_zero, List.set_cons_succ]
      refine wpAnyH_ready (rs := [2]) (by kernel_rfl) (by simp) ?_
      refine AllReadyH.cons (o := { dst := some 17, op := Go.Op.call { callee := Go.Callee.value (Go.Operand.func 13), args := #[Go.Operand.tmp 15, Go.Operand.tmp 16], argTypes := #[33, 33] }, type := 4, pos := "law.go:111", after := #[{ on := 0, ground := Go.Ground.data }, { on := 1, ground := Go.Ground.data }], guard := none }) rfl (fun K hK => ?_) (AllReadyH.nil)
      go_simp
      go_at_call 13
      refine (HS1.out _ (HX4.out.ra.on hHeld) (HX4.out.rb.on hHeld) (HY4.out.ra.on hHeld) (HY4.out.rb.on hHeld)).mono ?_
      rintro e wx ⟨rfl, hb2⟩
      refine hK.out _ _ (bthen hHeld hb2 (Nat.le_refl _)) (fun hHeld2 => ?_)
      clear hK K hHeld hb2
      have hHeld := hHeld2
      clear hHeld2
      try simp only [Act.put, List.setIfInBounds_toArray, List.set_cons_zero, List.set_cons_succ]
      refine wpAnyH_ready (rs := [4]) (by kernel_rfl) (by simp) ?_
      refine AllReadyH.cons (o := { dst := some 19, op := Go.Op.call { callee := Go.Callee.value (Go.Operand.func 8), args := #[Go.Operand.tmp 18], argTypes := #[33] }, type := 40, pos := "law.go:111", after := #[{ on := 3, ground := Go.Ground.data }, { on := 2, ground := Go.Ground.chain }], guard := none }) rfl (fun K hK => ?_) (AllReadyH.nil)
      go_simp
      go_at_call 8
      refine (HTX.out _ (HX4.out.ra.on hHeld)).mono ?_
      rintro e wx ⟨A5, c5, rfl, hp5, hc5, hb2⟩
      have HP5 := Lib.hid hp5
      clear hp5 hc5
      refine hK.out _ _ (bthen hHeld hb2 (Nat.le_refl _)) (fun hHeld2 => ?_)
      clear hK K hHeld hb2
      have hHeld := hHeld2
      clear hHeld2
      try simp only [Act.put, List.setIfInBounds_toArray, List.set_cons_zero, List.set_cons_succ]
      refine wpAnyH_ready (rs := [6]) (by kernel_rfl) (by simp) ?_
      refine AllReadyH.cons (o := { dst := some 21, op := Go.Op.call { callee := Go.Callee.value (Go.Operand.func 8), args := #[Go.Operand.tmp 20], argTypes := #[33] }, type := 40, pos := "law.go:111", after := #[{ on := 5, ground := Go.Ground.data }, { on := 4, ground := Go.Ground.chain }], guard := none }) rfl (fun K hK => ?_) (AllReadyH.nil)
      go_simp
      go_at_call 8
      refine (HTY.out _ (HY4.out.ra.on hHeld)).mono ?_
      rintro e wx ⟨A6, c6, rfl, hp6, hc6, hb2⟩
      have HP6 := Lib.hid hp6
      replace HP5 := Lib.hid (HP5.out.on hb2)
      clear hp6 hc6
      refine hK.out _ _ (bthen hHeld hb2 (Nat.le_refl _)) (fun hHeld2 => ?_)
      clear hK K hHeld hb2
      have hHeld := hHeld2
      clear hHeld2
      try simp only [Act.put, List.setIfInBounds_toArray, List.set_cons_zero, List.set_cons_succ]
      refine wpAnyH_ready (rs := [7]) (by kernel_rfl) (by simp) ?_
      refine AllReadyH.cons (o := { dst := some 22, op := Go.Op.call { callee := Go.Callee.value (Go.Operand.func 14), args := #[Go.Operand.tmp 19, Go.Operand.tmp 21], argTypes := #[40, 40] }, type := 4, pos := "law.go:111", after := #[{ on := 4, ground := Go.Ground.data }, { on := 6, ground := Go.Ground.data }, { on := 6, ground := Go.Ground.chain }], guard := none }) rfl (fun K hK => ?_) (AllReadyH.nil)
      go_simp
      go_at_call 14
      refine (HS2.out _ A5 c5 A6 c6 HP5.out (HX4.out.rb.on hHeld) HP6.out (HY4.out.rb.on hHeld)).mono ?_
      rintro e wx ⟨rfl, hb2⟩
      clear HP5 HP6
      refine hK.out _ _ (bthen hHeld hb2 (Nat.le_refl _)) (fun hHeld2 => ?_)
      clear hK K hHeld hb2
      have hHeld := hHeld2
      clear hHeld2
      try simp only [Act.put, List.setIfInBounds_toArray, List.set_cons_zero, List.set_cons_succ]
      refine wpAnyH_take (i := 8) (oi := { dst := some 23, op := Go.Op.binOp Go.BinOp.eql 4 (Go.Operand.tmp 17) (Go.Operand.tmp 22) 4, type := 4, pos := "law.go:111", after := #[{ on := 2, ground := Go.Ground.data }, { on := 7, ground := Go.Ground.data }], guard := none }) (v := ?_) rfl (by kernel_rfl) (by kernel_rfl) (by kernel_rfl) (fun _ _ _ h => h) (Or.inl ⟨by rfl, ?_⟩) (by assumption) ?_
      rotate_left 1
      · intro wS hSw; (try dsimp only at hSw); go_simp; try with_reducible rfl
      try simp only [Act.put, List.setIfInBounds_toArray, List.set_cons_zero, List.set_cons_succ]
      refine wpAnyH_take (i := 9) (oi := { dst := some 24, op := Go.Op.move (Go.Operand.tmp 23), type := 4, pos := "law.go:111", after := #[{ on := 8, ground := Go.Ground.data }, { on := 7, ground := Go.Ground.chain }], guard := none }) (v := ?_) rfl (by kernel_rfl) (by kernel_rfl) (by kernel_rfl) (fun _ _ _ h => h) (Or.inl ⟨by rfl, ?_⟩) (by assumption) ?_
      rotate_left 1
      · intro wS hSw; (try dsimp only at hSw); go_simp; try with_reducible rfl
      try simp only [Act.put, List.setIfInBounds_toArray, List.set_cons_zero, List.set_cons_succ]
      refine wpAnyH_take (i := 10) (oi := { dst := some 25, op := Go.Op.load 33 (Go.Operand.tmp 2), type := 33, pos := "law.go:111", after := #[{ on := 9, ground := Go.Ground.guard }], guard := some (9, true) }) (v := .agg (deL x A c B d).toArray) rfl (by kernel_rfl) (by kernel_rfl) (by kernel_rfl) (fun _ _ _ h => h) (yieldsIf_load_mid (by rfl) 33 _ (by rfl) w.heap.size 0 (by rfl) (deL x A c B d) _ (fun W9 h9 => (HX4.out.p.cs.on h9 HX4.out.p.lt).range) Tryz.underlying33 rfl (by rw [de_size, deL_len])) (by assumption) ?_
      try simp only [Act.put, List.setIfInBounds_toArray, List.set_cons_zero, List.set_cons_succ]
      refine wpAnyH_take (i := 11) (oi := { dst := some 26, op := Go.Op.load 33 (Go.Operand.tmp 2), type := 33, pos := "law.go:111", after := #[{ on := 9, ground := Go.Ground.guard }], guard := some (9, true) }) (v := .agg (deL x A c B d).toArray) rfl (by kernel_rfl) (by kernel_rfl) (by kernel_rfl) (fun _ _ _ h => h) (yieldsIf_load_mid (by rfl) 33 _ (by rfl) w.heap.size 0 (by rfl) (deL x A c B d) _ (fun W9 h9 => (HX4.out.p.cs.on h9 HX4.out.p.lt).range) Tryz.underlying33 rfl (by rw [de_size, deL_len])) (by assumption) ?_
      try simp only [Act.put, List.setIfInBounds_toArray, List.set_cons_zero, List.set_cons_succ]
      refine wpAnyH_ready (rs := [12]) (by kernel_rfl) (by simp) ?_
      refine AllReadyH.cons (o := { dst := some 27, op := Go.Op.call { callee := Go.Callee.value (Go.Operand.func 13), args := #[Go.Operand.tmp 25, Go.Operand.tmp 26], argTypes := #[33, 33] }, type := 4, pos := "law.go:111", after := #[{ on := 10, ground := Go.Ground.data }, { on := 11, ground := Go.Ground.data }, { on := 9, ground := Go.Ground.chain }, { on := 9, ground := Go.Ground.guard }], guard := some (9, true) }) rfl (fun K hK => ?_) (AllReadyH.nil)
      go_simp
      go_at_call 13
      refine (HS3.out _ (HX4.out.ra.on hHeld) (HX4.out.rb.on hHeld) (HX4.out.ra.on hHeld) (HX4.out.rb.on hHeld)).mono ?_
      rintro e wx ⟨rfl, hb2⟩
      refine hK.out _ _ (bthen hHeld hb2 (Nat.le_refl _)) (fun hHeld2 => ?_)
      clear hK K hHeld hb2
      have hHeld := hHeld2
      clear hHeld2
      try simp only [Act.put, List.setIfInBounds_toArray, List.set_cons_zero, List.set_cons_succ]
      refine wpAnyH_take (i := 13) (oi := { dst := some 28, op := Go.Op.pick (Go.Operand.tmp 24) (Go.Operand.tmp 27) (Go.Operand.const (Go.Value.bool false)), type := 4, pos := "law.go:111", after := #[{ on := 9, ground := Go.Ground.data }, { on := 12, ground := Go.Ground.data }], guard := none }) (v := ?_) rfl (by kernel_rfl) (by kernel_rfl) (by kernel_rfl) (fun _ _ _ h => h) (Or.inl ⟨by rfl, ?_⟩) (by assumption) ?_
      rotate_left 1
      · intro wS hSw; (try dsimp only at hSw); go_simp; try with_reducible rfl
      try simp only [Act.put, List.setIfInBounds_toArray, List.set_cons_zero, List.set_cons_succ]
      refine wpAnyH_take (i := 14) (oi := { dst := some 29, op := Go.Op.move (Go.Operand.tmp 28), type := 4, pos := "law.go:111", after := #[{ on := 13, ground := Go.Ground.data }, { on := 12, ground := Go.Ground.chain }], guard := none }) (v := ?_) rfl (by kernel_rfl) (by kernel_rfl) (by kernel_rfl) (fun _ _ _ h => h) (Or.inl ⟨by rfl, ?_⟩) (by assumption) ?_
      rotate_left 1
      · intro wS hSw; (try dsimp only at hSw); go_simp; try with_reducible rfl
      try simp only [Act.put, List.setIfInBounds_toArray, List.set_cons_zero, List.set_cons_succ]
      refine wpAnyH_take (i := 15) (oi := { dst := some 30, op := Go.Op.load 33 (Go.Operand.tmp 3), type := 33, pos := "law.go:111", after := #[{ on := 14, ground := Go.Ground.guard }], guard := some (14, true) }) (v := .agg (deL y C e D f).toArray) rfl (by kernel_rfl) (by kernel_rfl) (by kernel_rfl) (fun _ _ _ h => h) (yieldsIf_load_mid (by rfl) 33 _ (by rfl) (w.heap.size + 1) 0 (by rfl) (deL y C e D f) _ (fun W9 h9 => (HY4.out.p.cs.on h9 HY4.out.p.lt).range) Tryz.underlying33 rfl (by rw [de_size, deL_len])) (by assumption) ?_
      try simp only [Act.put, List.setIfInBounds_toArray, List.set_cons_zero, List.set_cons_succ]
      refine wpAnyH_take (i := 16) (oi := { dst := some 31, op := Go.Op.load 33 (Go.Operand.tmp 2), type := 33, pos := "law.go:111", after := #[{ on := 14, ground := Go.Ground.guard }], guard := some (14, true) }) (v := .agg (deL x A c B d).toArray) rfl (by kernel_rfl) (by kernel_rfl) (by kernel_rfl) (fun _ _ _ h => h) (yieldsIf_load_mid (by rfl) 33 _ (by rfl) w.heap.size 0 (by rfl) (deL x A c B d) _ (fun W9 h9 => (HX4.out.p.cs.on h9 HX4.out.p.lt).range) Tryz.underlying33 rfl (by rw [de_size, deL_len])) (by assumption) ?_
      try simp only [Act.put, List.setIfInBounds_toArray, List.set_cons_zero, List.set_cons_succ]
      refine wpAnyH_take (i := 18) (oi := { dst := some 33, op := Go.Op.load 33 (Go.Operand.tmp 2), type := 33, pos := "law.go:111", after := #[{ on := 14, ground := Go.Ground.guard }], guard := some (14, true) }) (v := .agg (deL x A c B d).toArray) rfl (by kernel_rfl) (by kernel_rfl) (by kernel_rfl) (fun _ _ _ h => h) (yieldsIf_load_mid (by rfl) 33 _ (by rfl) w.heap.size 0 (by rfl) (deL x A c B d) _ (fun W9 h9 => (HX4.out.p.cs.on h9 HX4.out.p.lt).range) Tryz.underlying33 rfl (by rw [de_size, deL_len])) (by assumption) ?_
      try simp only [Act.put, List.setIfInBounds_toArray, List.set_cons_zero, List.set_cons_succ]
      refine wpAnyH_take (i := 19) (oi := { dst := some 34, op := Go.Op.load 33 (Go.Operand.tmp 3), type := 33, pos := "law.go:111", after := #[{ on := 14, ground := Go.Ground.guard }], guard := some (14, true) }) (v := .agg (deL y C e D f).toArray) rfl (by kernel_rfl) (by kernel_rfl) (by kernel_rfl) (fun _ _ _ h => h) (yieldsIf_load_mid (by rfl) 33 _ (by rfl) (w.heap.size + 1) 0 (by rfl) (deL y C e D f) _ (fun W9 h9 => (HY4.out.p.cs.on h9 HY4.out.p.lt).range) Tryz.underlying33 rfl (by rw [de_size, deL_len])) (by assumption) ?_
      try simp only [Act.put, List.setIfInBounds_toArray, List.set_cons_zero, List.set_cons_succ]
      refine wpAnyH_ready (rs := [17]) (by kernel_rfl) (by simp) ?_
      refine AllReadyH.cons (o := { dst := some 32, op := Go.Op.call { callee := Go.Callee.value (Go.Operand.func 13), args := #[Go.Operand.tmp 30, Go.Operand.tmp 31], argTypes := #[33, 33] }, type := 4, pos := "law.go:111", after := #[{ on := 15, ground := Go.Ground.data }, { on := 16, ground := Go.Ground.data }, { on := 14, ground := Go.Ground.chain }, { on := 14, ground := Go.Ground.guard }], guard := some (14, true) }) rfl (fun K hK => ?_) (AllReadyH.nil)
      go_simp
      go_at_call 13
      refine (HS4.out _ (HY4.out.ra.on hHeld) (HY4.out.rb.on hHeld) (HX4.out.ra.on hHeld) (HX4.out.rb.on hHeld)).mono ?_
      rintro e wx ⟨rfl, hb2⟩
      refine hK.out _ _ (bthen hHeld hb2 (Nat.le_refl _)) (fun hHeld2 => ?_)
      clear hK K hHeld hb2
      have hHeld := hHeld2
      clear hHeld2
      try simp only [Act.put, List.setIfInBounds_toArray, List.set_cons_zero, List.set_cons_succ]
      refine wpAnyH_ready (rs := [20]) (by kernel_rfl) (by simp) ?_
      refine AllReadyH.cons (o := { dst := some 35, op := Go.Op.call { callee := Go.Callee.value (Go.Operand.func 13), args := #[Go.Operand.tmp 33, Go.Operand.tmp 34], argTypes := #[33, 33] }, type := 4, pos := "law.go:111", after := #[{ on := 18, ground := Go.Ground.data }, { on := 19, ground := Go.Ground.data }, { on := 17, ground := Go.Ground.chain }, { on := 14, ground := Go.Ground.guard }], guard := some (14, true) }) rfl (fun K hK => ?_) (AllReadyH.nil)
      go_simp
      go_at_call 13
      refine (HS1.out _ (HX4.out.ra.on hHeld) (HX4.out.rb.on hHeld) (HY4.out.ra.on hHeld) (HY4.out.rb.on hHeld)).mono ?_
      rintro e wx ⟨rfl, hb2⟩
      refine hK.out _ _ (bthen hHeld hb2 (Nat.le_refl _)) (fun hHeld2 => ?_)
      clear hK K hHeld hb2
      have hHeld := hHeld2
      clear hHeld2
      try simp only [Act.put, List.setIfInBounds_toArray, List.set_cons_zero, List.set_cons_succ]
      refine wpAnyH_take (i := 21) (oi := { dst := some 36, op := Go.Op.binOp Go.BinOp.eql 4 (Go.Operand.tmp 32) (Go.Operand.tmp 35) 4, type := 4, pos := "law.go:111", after := #[{ on := 17, ground := Go.Ground.data }, { on := 20, ground := Go.Ground.data }, { on := 14, ground := Go.Ground.guard }], guard := some (14, true) }) (v := ?_) rfl (by kernel_rfl) (by kernel_rfl) (by kernel_rfl) (fun _ _ _ h => h) (Or.inl ⟨by rfl, ?_⟩) (by assumption) ?_
      rotate_left 1
      · intro wS hSw; (try dsimp only at hSw); go_simp; try with_reducible rfl
      try simp only [Act.put, List.setIfInBounds_toArray, List.set_cons_zero, List.set_cons_succ]
      refine wpAnyH_take (i := 22) (oi := { dst := some 37, op := Go.Op.pick (Go.Operand.tmp 29) (Go.Operand.tmp 36) (Go.Operand.const (Go.Value.bool false)), type := 4, pos := "law.go:111", after := #[{ on := 14, ground := Go.Ground.data }, { on := 21, ground := Go.Ground.data }], guard := none }) (v := ?_) rfl (by kernel_rfl) (by kernel_rfl) (by kernel_rfl) (fun _ _ _ h => h) (Or.inl ⟨by rfl, ?_⟩) (by assumption) ?_
      rotate_left 1
      · intro wS hSw; (try dsimp only at hSw); go_simp; try with_reducible rfl
      try simp only [Act.put, List.setIfInBounds_toArray, List.set_cons_zero, List.set_cons_succ]
      refine wpAnyH_take (i := 23) (oi := { dst := some 4, op := Go.Op.assign (Go.Operand.tmp 37), type := 4, pos := "law.go:111", after := #[{ on := 22, ground := Go.Ground.data }, { on := 20, ground := Go.Ground.chain }, { on := 0, ground := Go.Ground.phase }, { on := 1, ground := Go.Ground.phase }, { on := 2, ground := Go.Ground.phase }, { on := 3, ground := Go.Ground.phase }, { on := 4, ground := Go.Ground.phase }, { on := 5, ground := Go.Ground.phase }, { on := 6, ground := Go.Ground.phase }, { on := 7, ground := Go.Ground.phase }, { on := 8, ground := Go.Ground.phase }, { on := 9, ground := Go.Ground.phase }, { on := 10, ground := Go.Ground.phase }, { on := 11, ground := Go.Ground.phase }, { on := 12, ground := Go.Ground.phase }, { on := 13, ground := Go.Ground.phase }, { on := 14, ground := Go.Ground.phase }, { on := 15, ground := Go.Ground.phase }, { on := 16, ground := Go.Ground.phase }, { on := 17, ground := Go.Ground.phase }, { on := 18, ground := Go.Ground.phase }, { on := 19, ground := Go.Ground.phase }, { on := 20, ground := Go.Ground.phase }, { on := 21, ground := Go.Ground.phase }, { on := 22, ground := Go.Ground.phase }], guard := none }) (v := ?_) rfl (by kernel_rfl) (by kernel_rfl) (by kernel_rfl) (fun _ _ _ h => h) (Or.inl ⟨by rfl, ?_⟩) (by assumption) ?_
      rotate_left 1
      · intro wS hSw; (try dsimp only at hSw); go_simp; try with_reducible rfl
      try simp only [Act.put, List.setIfInBounds_toArray, List.set_cons_zero, List.set_cons_succ]
      refine wpAnyH_done (by kernel_rfl) ?_ _
      have hZ := hHeld
      clear hHeld
      have HB5 := Lib.hid (bthen HB4.out hZ (Nat.le_refl _))
      clear hZ
      go_wp2_with fail
      go_ret
      exact ⟨rfl, HB5.out⟩
end Go.Proofs.YtgponfdcagnhhaaGreatDoor
end
