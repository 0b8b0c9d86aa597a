/-
  A DEED's BYTES, as the document has them: walked.
-/
import Derived.Test.YtgponfdcagnhhaaGreatDoorDb17
import Derived.Test.YtgponfdcagnhhaaGreatDoorDb42
import Derived.Test.YtgponfdcagnhhaaGreatDoorDb44
import Derived.Test.YtgponfdcagnhhaaGreatDoorDb47
import Derived.Deep.RegionHeld3
import Derived.Deep.DeepCutAuto
section
namespace Go.Proofs.YtgponfdcagnhhaaGreatDoor
open Go.ChangeShapes Go.WideShapes Go.ChangeAt Go.RowKit
theorem r22bit_any (b : Bool) (w : World) : Calls Tryz.prog 45 #[.bool b] w fun e w' => e = .returned (.string (ofL (Oct.be 1 (bitN b)))) ∧ Below w.heap.size w w' := by
  cases b
  · go_enter Tryz.func45, Tryz.ntmps45
    go_wp2_with fail
    go_ret
    exact ⟨rfl, Below.refl _ _⟩
  · go_enter Tryz.func45, Tryz.ntmps45
    go_wp2_with fail
    go_ret
    exact ⟨rfl, Below.refl _ _⟩
set_option maxRecDepth 100000 in
set_option maxHeartbeats 16000000 in
theorem r22Bytes_any (x : De) (A : Option Addr) (c : Nat) (B : Option Addr) (d : Nat) (w : World) (hA : Prs w A x.bind.want) (hB : Prs w B x.mail.head) (hf : De.Fits x) (h0 : x.code = 0) :
    Calls Tryz.prog 12 #[deV x A c B d] w fun e w' => e = .returned (.string (ofL x.enc)) ∧ Below w.heap.size w w' := by
  have HB1 := Lib.hid (rtOne w (.cells #[.int .u8 (x.kd : Int), .int .u64 (x.tick : Int), .string (ofL x.shop.name), .int .u8 (x.shop.sort : Int), .string (ofL x.shop.to), .string (ofL x.q.name), .int .u64 (x.q.most : Int), .int .u64 (x.q.life : Int), .string (ofL x.q.dead), .string (ofL x.bind.shop), .string (ofL x.bind.to), .bool x.bind.up, .string (ofL x.bind.key), .slice A x.bind.want.length c, .bool x.bind.all, .string (ofL x.name), .int .u64 (x.id : Int), .int .u8 (x.how : Int), .int .u8 (x.frm : Int), .int .u8 (x.cd : Int), .int .u64 (x.num : Int), .int .u64 (x.mail.id : Int), .string (ofL x.mail.shop), .string (ofL x.mail.key), .slice B x.mail.head.length d, .string (ofL x.mail.body), .int .u64 (x.mail.due : Int), .int .u8 (x.mail.hops : Int), .string (ofL x.text)] 40))
  have HX1 := Lib.hid (DeX.start w x A c B d hA hB 40)
  have HF := Lib.hid hf
  have HC0 := Lib.hid (De.code_zero h0)
  have HQ0 := Lib.hid (fun W => hrnum_l x.kd 1 1 W (by have := hf.kd; omega) (by omega) rfl)
  have HQ1 := Lib.hid (fun W => hrnum_l x.tick 8 8 W hf.tick (by omega) rfl)
  have hwk : IntKind.u64.wrap (x.kd : Int) = (x.kd : Int) := by rw [IntKind.wrap_u64]; have := hf.kd; omega
  have HSM1 := Lib.hid (show ofL (Oct.be 1 x.kd) ++ ofL (Oct.be 8 x.tick) = ofL (De.E1 x) by unfold De.E1; rw [ofL_app])
  have u0 : (ofL (Oct.be 1 x.kd)).size ≤ 100 := by rw [ofL_size, Oct.length_be]; omega
  have u1 : (ofL (Oct.be 8 x.tick)).size ≤ 100 := by rw [ofL_size, Oct.length_be]; omega
  clear hA hB hf h0
  generalize ofL (Oct.be 1 x.kd) = Q0 at *
  generalize ofL (Oct.be 8 x.tick) = Q1 at *
  simp only [deV]
  go_enter Tryz.func12, Tryz.ntmps12
  go_upto_region 1 with fail
  generalize w.alloc (.cells #[.int .u8 (x.kd : Int), .int .u64 (x.tick : Int), .string (ofL x.shop.name), .int .u8 (x.shop.sort : Int), .string (ofL x.shop.to), .string (ofL x.q.name), .int .u64 (x.q.most : Int), .int .u64 (x.q.life : Int), .string (ofL x.q.dead), .string (ofL x.bind.shop), .string (ofL x.bind.to), .bool x.bind.up, .string (ofL x.bind.key), .slice A x.bind.want.length c, .bool x.bind.all, .string (ofL x.name), .int .u64 (x.id : Int), .int .u8 (x.how : Int), .int .u8 (x.frm : Int), .int .u8 (x.cd : Int), .int .u64 (x.num : Int), .int .u64 (x.mail.id : Int), .string (ofL x.mail.shop), .string (ofL x.mail.key), .slice B x.mail.head.length d, .string (ofL x.mail.body), .int .u64 (x.mail.due : Int), .int .u8 (x.mail.hops : Int), .string (ofL x.text)] 40) = W1 at *
  go_cut [3] (fun s3 wx => s3 = .string (ofL (De.E1 x)) ∧ DeX w x A c B d w.heap.size wx ∧ Below w.heap.size w wx)
  case first =>
    have c0 := HX1.out.p.cs 0 _ rfl
    have c1 := HX1.out.p.cs 1 _ rfl
    have cl := HX1.out.p.lt
    refine wp_region_held_drew (S := fun a => Below (W1.heap.size) W1 a) (by kernel_rfl) (by (try dsimp only); exact (Below.refl _ _).drew) (fun hHeld => ?_)
    refine wpAnyH_take (i := 0) (oi := { dst := some 5, op := Go.Op.fieldAddr 40 (Go.Operand.tmp 1) 0, type := 0, pos := "ref.go:148", after := #[], guard := none }) (v := ?_) rfl (by kernel_rfl) (by kernel_rfl) (by kernel_rfl) (fun _ _ _ h => h) (Or.inl ⟨by rfl, ?_⟩) (by assumption) ?_
    rotate_left 1
    · intro wS hSw; (try dsimp only at hSw); go_simp; (try rw [if_neg (by first | omega | (simp [ByteArray.size_append]; omega))]); try with_reducible rfl
    try simp only [Act.put, List.setIfInBounds_toArray, List.set_cons_zero, List.set_cons_succ]
    refine wpAnyH_take (i := 1) (oi := { dst := some 6, op := Go.Op.load 5 (Go.Operand.tmp 5), type := 5, pos := "ref.go:148", after := #[{ on := 0, ground := Go.Ground.data }], guard := none }) (v := ?_) rfl (by kernel_rfl) (by kernel_rfl) (by kernel_rfl) (fun _ _ _ h => h) (Or.inl ⟨by rfl, ?_⟩) (by assumption) ?_
    rotate_left 1
    · intro wS hSw; (try dsimp only at hSw); have c0 := cell_on hSw c0; have c1 := cell_on hSw c1; go_simp; (try rw [if_neg (by first | omega | (simp [ByteArray.size_append]; omega))]); try with_reducible rfl
    try simp only [Act.put, List.setIfInBounds_toArray, List.set_cons_zero, List.set_cons_succ]
    refine wpAnyH_take (i := 2) (oi := { dst := some 7, op := Go.Op.convert 5 22 (Go.Operand.tmp 6), type := 22, pos := "ref.go:148", after := #[{ on := 1, ground := Go.Ground.data }], guard := none }) (v := ?_) rfl (by kernel_rfl) (by kernel_rfl) (by kernel_rfl) (fun _ _ _ h => h) (Or.inl ⟨by rfl, ?_⟩) (by assumption) ?_
    rotate_left 1
    · intro wS hSw; (try dsimp only at hSw); go_simp; (try rw [if_neg (by first | omega | (simp [ByteArray.size_append]; omega))]); try with_reducible rfl
    try simp only [Act.put, List.setIfInBounds_toArray, List.set_cons_zero, List.set_cons_succ]
    refine wpAnyH_take (i := 4) (oi := { dst := some 9, op := Go.Op.fieldAddr 40 (Go.Operand.tmp 1) 1, type := 0, pos := "ref.go:148", after := #[], guard := none }) (v := ?_) rfl (by kernel_rfl) (by kernel_rfl) (by kernel_rfl) (fun _ _ _ h => h) (Or.inl ⟨by rfl, ?_⟩) (by assumption) ?_
    rotate_left 1
    · intro wS hSw; (try dsimp only at hSw); go_simp; (try rw [if_neg (by first | omega | (simp [ByteArray.size_append]; omega))]); try with_reducible rfl
    try simp only [Act.put, List.setIfInBounds_toArray, List.set_cons_zero, List.set_cons_succ]
    refine wpAnyH_take (i := 5) (oi := { dst := some 10, op := Go.Op.load 22 (Go.Operand.tmp 9), type := 22, pos := "ref.go:148", after := #[{ on := 4, ground := Go.Ground.data }], guard := none }) (v := ?_) rfl (by kernel_rfl) (by kernel_rfl) (by kernel_rfl) (fun _ _ _ h => h) (Or.inl ⟨by rfl, ?_⟩) (by assumption) ?_
    rotate_left 1
    · intro wS hSw; (try dsimp only at hSw); have c0 := cell_on hSw c0; have c1 := cell_on hSw c1; go_simp; (try rw [if_neg (by first | omega | (simp [ByteArray.size_append]; omega))]); try with_reducible rfl
    try simp only [Act.put, List.setIfInBounds_toArray, List.set_cons_zero, List.set_cons_succ]
    refine wpAnyH_ready (rs := [3]) (by kernel_rfl) (by simp) ?_
    refine AllReadyH.cons (o := { dst := some 8, op := Go.Op.call { callee := Go.Callee.value (Go.Operand.func 43), args := #[Go.Operand.tmp 7, Go.Operand.const (Go.Value.int Go.IntKind.i64 1)], argTypes := #[22, 3] }, type := 9, pos := "ref.go:148", after := #[{ on := 2, ground := Go.Ground.data }], guard := none }) rfl (fun K hK => ?_) (AllReadyH.nil)
    go_simp
    go_at_call 43
    refine (HQ0.out _).mono ?_
    rintro e wx ⟨rfl, hb2⟩
    refine hK.out _ _ (bthen hHeld hb2 (Nat.le_refl _)) (fun hHeld2 => ?_)
    clear hK K hHeld hb2
    have hHeld := hHeld2
    clear hHeld2
    try simp only [Act.put, List.setIfInBounds_toArray, List.set_cons_zero, List.set_cons_succ]
    refine wpAnyH_ready (rs := [6]) (by kernel_rfl) (by simp) ?_
    refine AllReadyH.cons (o := { dst := some 11, op := Go.Op.call { callee := Go.Callee.value (Go.Operand.func 43), args := #[Go.Operand.tmp 10, Go.Operand.const (Go.Value.int Go.IntKind.i64 8)], argTypes := #[22, 3] }, type := 9, pos := "ref.go:148", after := #[{ on := 5, ground := Go.Ground.data }, { on := 3, ground := Go.Ground.chain }], guard := none }) rfl (fun K hK => ?_) (AllReadyH.nil)
    go_simp
    go_at_call 43
    refine (HQ1.out _).mono ?_
    rintro e wx ⟨rfl, hb2⟩
    refine hK.out _ _ (bthen hHeld hb2 (Nat.le_refl _)) (fun hHeld2 => ?_)
    clear hK K hHeld hb2
    have hHeld := hHeld2
    clear hHeld2
    try simp only [Act.put, List.setIfInBounds_toArray, List.set_cons_zero, List.set_cons_succ]
    refine wpAnyH_take (i := 7) (oi := { dst := some 12, op := Go.Op.binOp Go.BinOp.add 9 (Go.Operand.tmp 8) (Go.Operand.tmp 11) 9, type := 9, pos := "ref.go:148", after := #[{ on := 3, ground := Go.Ground.data }, { on := 6, ground := Go.Ground.data }], guard := none }) (v := ?_) rfl (by kernel_rfl) (by kernel_rfl) (by kernel_rfl) (fun _ _ _ h => h) (Or.inl ⟨by rfl, ?_⟩) (by assumption) ?_
    rotate_left 1
    · intro wS hSw; (try dsimp only at hSw); go_simp; (try rw [if_neg (by first | omega | (simp [ByteArray.size_append]; omega))]); try with_reducible rfl
    try simp only [Act.put, List.setIfInBounds_toArray, List.set_cons_zero, List.set_cons_succ]
    refine wpAnyH_take (i := 8) (oi := { dst := some 3, op := Go.Op.assign (Go.Operand.tmp 12), type := 9, pos := "ref.go:148", after := #[{ on := 7, ground := Go.Ground.data }, { on := 6, ground := Go.Ground.chain }, { on := 0, ground := Go.Ground.phase }, { on := 1, ground := Go.Ground.phase }, { on := 2, ground := Go.Ground.phase }, { on := 3, ground := Go.Ground.phase }, { on := 4, ground := Go.Ground.phase }, { on := 5, ground := Go.Ground.phase }, { on := 6, ground := Go.Ground.phase }, { on := 7, ground := Go.Ground.phase }], guard := none }) (v := ?_) rfl (by kernel_rfl) (by kernel_rfl) (by kernel_rfl) (fun _ _ _ h => h) (Or.inl ⟨by rfl, ?_⟩) (by assumption) ?_
    rotate_left 1
    · intro wS hSw; (try dsimp only at hSw); go_simp; (try rw [if_neg (by first | omega | (simp [ByteArray.size_append]; omega))]); try with_reducible rfl
    try simp only [Act.put, List.setIfInBounds_toArray, List.set_cons_zero, List.set_cons_succ]
    refine wpAnyH_done (by kernel_rfl) ?_ _
    have hZ := hHeld
    clear hHeld
    have HBZ := Lib.hid (bthen HB1.out hZ (Nat.le_refl _))
    have HXZ := Lib.hid (HX1.out.on hZ)
    clear hZ c0 c1 cl
    rw [HSM1.out]
    go_wp2_with fail
    go_meet
    exact ⟨rfl, HXZ.out, HBZ.out⟩
  case rest =>
    obtain ⟨rfl, hX, hB⟩ := hcut
    have HX := Lib.hid hX
    have HB := Lib.hid hB
    clear hX hB HX1 HB1 HQ0 HQ1 hwk HSM1 u0 u1
    have h13 : x.kd = 0 ∨ x.kd = 1 ∨ x.kd = 2 ∨ x.kd = 3 ∨ x.kd = 4 ∨ x.kd = 5 ∨ x.kd = 6 ∨ x.kd = 7 ∨ x.kd = 8 ∨ x.kd = 9 ∨ x.kd = 10 ∨ x.kd = 11 ∨ x.kd = 12 := by have := HC0.out.1; omega
    rcases h13 with hk | hk | hk | hk | hk | hk | hk | hk | hk | hk | hk | hk | hk
    · have HEV := Lib.hid (De.enc_0 hk)
      have hl := De.shc_len (x := x.shop) (by rw [← De.body_0 hk]; exact HC0.out.2.2)
      have c0 : wc.cell? ⟨w.heap.size, 0, none⟩ = some (.int .u8 0) := by have q := HX.out.p.cs 0 _ rfl; rw [hk] at q; exact q
      have cl := HX.out.p.lt
      have e0 : (ofL (De.E1 x)).size ≤ 100 := by rw [ofL_size]; unfold De.E1; rw [List.length_append, Oct.length_be, Oct.length_be]; omega
      have HP0 := Lib.hid (fun W => hrtext_l x.shop.name W (by omega))
      have t0 : (ofL (Oct.text x.shop.name)).size ≤ 300 := by rw [ofL_size]; unfold Oct.text; rw [List.length_append, Oct.length_be]; omega
      have HP1 := Lib.hid (fun W => hrnum_l x.shop.sort 1 1 W (by have := HF.out.sort; omega) (by omega) rfl)
      have t1 : (ofL (Oct.be 1 x.shop.sort)).size ≤ 300 := by rw [ofL_size, Oct.length_be]; omega
      have HP2 := Lib.hid (fun W => hrtext_l x.shop.to W (by omega))
      have t2 : (ofL (Oct.text x.shop.to)).size ≤ 300 := by rw [ofL_size]; unfold Oct.text; rw [List.length_append, Oct.length_be]; omega
      have hw9 : IntKind.u64.wrap (x.shop.sort : Int) = (x.shop.sort : Int) := by rw [IntKind.wrap_u64]; have := HF.out.sort; omega
      have HSM := Lib.hid (show ofL (De.E1 x) ++ ofL (Oct.text x.shop.name) ++ ofL (Oct.be 1 x.shop.sort) ++ ofL (Oct.text x.shop.to) = ofL x.enc by rw [HEV.out]; rw [ofL_app, ofL_app, ofL_app]; all_goals rfl)
      clear hk hl
      generalize ofL (De.E1 x) = E0 at *
      generalize ofL (Oct.text x.shop.name) = P0 at *
      generalize ofL (Oct.be 1 x.shop.sort) = P1 at *
      generalize ofL (Oct.text x.shop.to) = P2 at *
      have c2 := HX.out.p.cs 2 _ rfl
      have c3 := HX.out.p.cs 3 _ rfl
      have c4 := HX.out.p.cs 4 _ rfl
      go_upto_region 4 with fail
      refine wp_region_held_drew (S := fun a => Below (wc.heap.size) wc a) (by kernel_rfl) (by (try dsimp only); exact (Below.refl _ _).drew) (fun hHeld => ?_)
      refine wpAnyH_take (i := 0) (oi := { dst := some 17, op := Go.Op.move (Go.Operand.tmp 3), type := 9, pos := "ref.go:151", after := #[], guard := none }) (v := ?_) rfl (by kernel_rfl) (by kernel_rfl) (by kernel_rfl) (fun _ _ _ h => h) (Or.inl ⟨by rfl, ?_⟩) (by assumption) ?_
      rotate_left 1
      · intro wS hSw; (try dsimp only at hSw); go_simp; (try rw [if_neg (by first | omega | (simp [ByteArray.size_append]; omega))]); try with_reducible rfl
      try simp only [Act.put, List.setIfInBounds_toArray, List.set_cons_zero, List.set_cons_succ]
      refine wpAnyH_take (i := 1) (oi := { dst := some 18, op := Go.Op.fieldAddr 40 (Go.Operand.tmp 1) 2, type := 0, pos := "ref.go:151", after := #[], guard := none }) (v := ?_) rfl (by kernel_rfl) (by kernel_rfl) (by kernel_rfl) (fun _ _ _ h => h) (Or.inl ⟨by rfl, ?_⟩) (by assumption) ?_
      rotate_left 1
      · intro wS hSw; (try dsimp only at hSw); go_simp; (try rw [if_neg (by first | omega | (simp [ByteArray.size_append]; omega))]); try with_reducible rfl
      try simp only [Act.put, List.setIfInBounds_toArray, List.set_cons_zero, List.set_cons_succ]
      refine wpAnyH_take (i := 2) (oi := { dst := some 19, op := Go.Op.fieldAddr 36 (Go.Operand.tmp 18) 0, type := 0, pos := "ref.go:151", after := #[{ on := 1, ground := Go.Ground.data }], guard := none }) (v := ?_) rfl (by kernel_rfl) (by kernel_rfl) (by kernel_rfl) (fun _ _ _ h => h) (Or.inl ⟨by rfl, ?_⟩) (by assumption) ?_
      rotate_left 1
      · intro wS hSw; (try dsimp only at hSw); go_simp; (try rw [if_neg (by first | omega | (simp [ByteArray.size_append]; omega))]); try with_reducible rfl
      try simp only [Act.put, List.setIfInBounds_toArray, List.set_cons_zero, List.set_cons_succ]
      refine wpAnyH_take (i := 3) (oi := { dst := some 20, op := Go.Op.load 9 (Go.Operand.tmp 19), type := 9, pos := "ref.go:151", after := #[{ on := 2, ground := Go.Ground.data }], guard := none }) (v := ?_) rfl (by kernel_rfl) (by kernel_rfl) (by kernel_rfl) (fun _ _ _ h => h) (Or.inl ⟨by rfl, ?_⟩) (by assumption) ?_
      rotate_left 1
      · intro wS hSw; (try dsimp only at hSw); have c2 := cell_on hSw c2; have c3 := cell_on hSw c3; have c4 := cell_on hSw c4; go_simp; (try rw [if_neg (by first | omega | (simp [ByteArray.size_append]; omega))]); try with_reducible rfl
      try simp only [Act.put, List.setIfInBounds_toArray, List.set_cons_zero, List.set_cons_succ]
      refine wpAnyH_take (i := 6) (oi := { dst := some 23, op := Go.Op.fieldAddr 40 (Go.Operand.tmp 1) 2, type := 0, pos := "ref.go:151", after := #[], guard := none }) (v := ?_) rfl (by kernel_rfl) (by kernel_rfl) (by kernel_rfl) (fun _ _ _ h => h) (Or.inl ⟨by rfl, ?_⟩) (by assumption) ?_
      rotate_left 1
      · intro wS hSw; (try dsimp only at hSw); go_simp; (try rw [if_neg (by first | omega | (simp [ByteArray.size_append]; omega))]); try with_reducible rfl
      try simp only [Act.put, List.setIfInBounds_toArray, List.set_cons_zero, List.set_cons_succ]
      refine wpAnyH_take (i := 7) (oi := { dst := some 24, op := Go.Op.fieldAddr 36 (Go.Operand.tmp 23) 1, type := 0, pos := "ref.go:151", after := #[{ on := 6, ground := Go.Ground.data }], guard := none }) (v := ?_) rfl (by kernel_rfl) (by kernel_rfl) (by kernel_rfl) (fun _ _ _ h => h) (Or.inl ⟨by rfl, ?_⟩) (by assumption) ?_
      rotate_left 1
      · intro wS hSw; (try dsimp only at hSw); go_simp; (try rw [if_neg (by first | omega | (simp [ByteArray.size_append]; omega))]); try with_reducible rfl
      try simp only [Act.put, List.setIfInBounds_toArray, List.set_cons_zero, List.set_cons_succ]
      refine wpAnyH_take (i := 8) (oi := { dst := some 25, op := Go.Op.load 5 (Go.Operand.tmp 24), type := 5, pos := "ref.go:151", after := #[{ on := 7, ground := Go.Ground.data }], guard := none }) (v := ?_) rfl (by kernel_rfl) (by kernel_rfl) (by kernel_rfl) (fun _ _ _ h => h) (Or.inl ⟨by rfl, ?_⟩) (by assumption) ?_
      rotate_left 1
      · intro wS hSw; (try dsimp only at hSw); have c2 := cell_on hSw c2; have c3 := cell_on hSw c3; have c4 := cell_on hSw c4; go_simp; (try rw [if_neg (by first | omega | (simp [ByteArray.size_append]; omega))]); try with_reducible rfl
      try simp only [Act.put, List.setIfInBounds_toArray, List.set_cons_zero, List.set_cons_succ]
      refine wpAnyH_take (i := 9) (oi := { dst := some 26, op := Go.Op.convert 5 22 (Go.Operand.tmp 25), type := 22, pos := "ref.go:151", after := #[{ on := 8, ground := Go.Ground.data }], guard := none }) (v := ?_) rfl (by kernel_rfl) (by kernel_rfl) (by kernel_rfl) (fun _ _ _ h => h) (Or.inl ⟨by rfl, ?_⟩) (by assumption) ?_
      rotate_left 1
      · intro wS hSw; (try dsimp only at hSw); go_simp; (try rw [if_neg (by first | omega | (simp [ByteArray.size_append]; omega))]); try with_reducible rfl
      try simp only [Act.put, List.setIfInBounds_toArray, List.set_cons_zero, List.set_cons_succ]
      refine wpAnyH_take (i := 12) (oi := { dst := some 29, op := Go.Op.fieldAddr 40 (Go.Operand.tmp 1) 2, type := 0, pos := "ref.go:151", after := #[], guard := none }) (v := ?_) rfl (by kernel_rfl) (by kernel_rfl) (by kernel_rfl) (fun _ _ _ h => h) (Or.inl ⟨by rfl, ?_⟩) (by assumption) ?_
      rotate_left 1
      · intro wS hSw; (try dsimp only at hSw); go_simp; (try rw [if_neg (by first | omega | (simp [ByteArray.size_append]; omega))]); try with_reducible rfl
      try simp only [Act.put, List.setIfInBounds_toArray, List.set_cons_zero, List.set_cons_succ]
      refine wpAnyH_take (i := 13) (oi := { dst := some 30, op := Go.Op.fieldAddr 36 (Go.Operand.tmp 29) 2, type := 0, pos := "ref.go:151", after := #[{ on := 12, ground := Go.Ground.data }], guard := none }) (v := ?_) rfl (by kernel_rfl) (by kernel_rfl) (by kernel_rfl) (fun _ _ _ h => h) (Or.inl ⟨by rfl, ?_⟩) (by assumption) ?_
      rotate_left 1
      · intro wS hSw; (try dsimp only at hSw); go_simp; (try rw [if_neg (by first | omega | (simp [ByteArray.size_append]; omega))]); try with_reducible rfl
      try simp only [Act.put, List.setIfInBounds_toArray, List.set_cons_zero, List.set_cons_succ]
      refine wpAnyH_take (i := 14) (oi := { dst := some 31, op := Go.Op.load 9 (Go.Operand.tmp 30), type := 9, pos := "ref.go:151", after := #[{ on := 13, ground := Go.Ground.data }], guard := none }) (v := ?_) rfl (by kernel_rfl) (by kernel_rfl) (by kernel_rfl) (fun _ _ _ h => h) (Or.inl ⟨by rfl, ?_⟩) (by assumption) ?_
      rotate_left 1
      · intro wS hSw; (try dsimp only at hSw); have c2 := cell_on hSw c2; have c3 := cell_on hSw c3; have c4 := cell_on hSw c4; go_simp; (try rw [if_neg (by first | omega | (simp [ByteArray.size_append]; omega))]); try with_reducible rfl
      try simp only [Act.put, List.setIfInBounds_toArray, List.set_cons_zero, List.set_cons_succ]
      refine wpAnyH_ready (rs := [4]) (by kernel_rfl) (by simp) ?_
      refine AllReadyH.cons (o := { dst := some 21, op := Go.Op.call { callee := Go.Callee.value (Go.Operand.func 44), args := #[Go.Operand.tmp 20], argTypes := #[9] }, type := 9, pos := "ref.go:151", after := #[{ on := 3, ground := Go.Ground.data }], guard := none }) rfl (fun K hK => ?_) (AllReadyH.nil)
      go_simp
      go_at_call 44
      refine (HP0.out _).mono ?_
      rintro e wx ⟨rfl, hb2⟩
      refine hK.out _ _ (bthen hHeld hb2 (Nat.le_refl _)) (fun hHeld2 => ?_)
      clear hK K hHeld hb2
      have hHeld := hHeld2
      clear hHeld2
      try simp only [Act.put, List.setIfInBounds_toArray, List.set_cons_zero, List.set_cons_succ]
      refine wpAnyH_take (i := 5) (oi := { dst := some 22, op := Go.Op.binOp Go.BinOp.add 9 (Go.Operand.tmp 17) (Go.Operand.tmp 21) 9, type := 9, pos := "ref.go:151", after := #[{ on := 0, ground := Go.Ground.data }, { on := 4, ground := Go.Ground.data }], guard := none }) (v := ?_) rfl (by kernel_rfl) (by kernel_rfl) (by kernel_rfl) (fun _ _ _ h => h) (Or.inl ⟨by rfl, ?_⟩) (by assumption) ?_
      rotate_left 1
      · intro wS hSw; (try dsimp only at hSw); go_simp; (try rw [if_neg (by first | omega | (simp [ByteArray.size_append]; omega))]); try with_reducible rfl
      try simp only [Act.put, List.setIfInBounds_toArray, List.set_cons_zero, List.set_cons_succ]
      refine wpAnyH_ready (rs := [10]) (by kernel_rfl) (by simp) ?_
      refine AllReadyH.cons (o := { dst := some 27, op := Go.Op.call { callee := Go.Callee.value (Go.Operand.func 43), args := #[Go.Operand.tmp 26, Go.Operand.const (Go.Value.int Go.IntKind.i64 1)], argTypes := #[22, 3] }, type := 9, pos := "ref.go:151", after := #[{ on := 9, ground := Go.Ground.data }, { on := 4, ground := Go.Ground.chain }], guard := none }) rfl (fun K hK => ?_) (AllReadyH.nil)
      go_simp
      go_at_call 43
      refine (HP1.out _).mono ?_
      rintro e wx ⟨rfl, hb2⟩
      refine hK.out _ _ (bthen hHeld hb2 (Nat.le_refl _)) (fun hHeld2 => ?_)
      clear hK K hHeld hb2
      have hHeld := hHeld2
      clear hHeld2
      try simp only [Act.put, List.setIfInBounds_toArray, List.set_cons_zero, List.set_cons_succ]
      refine wpAnyH_take (i := 11) (oi := { dst := some 28, op := Go.Op.binOp Go.BinOp.add 9 (Go.Operand.tmp 22) (Go.Operand.tmp 27) 9, type := 9, pos := "ref.go:151", after := #[{ on := 5, ground := Go.Ground.data }, { on := 10, ground := Go.Ground.data }], guard := none }) (v := ?_) rfl (by kernel_rfl) (by kernel_rfl) (by kernel_rfl) (fun _ _ _ h => h) (Or.inl ⟨by rfl, ?_⟩) (by assumption) ?_
      rotate_left 1
      · intro wS hSw; (try dsimp only at hSw); go_simp; (try rw [if_neg (by first | omega | (simp [ByteArray.size_append]; omega))]); try with_reducible rfl
      try simp only [Act.put, List.setIfInBounds_toArray, List.set_cons_zero, List.set_cons_succ]
      refine wpAnyH_ready (rs := [15]) (by kernel_rfl) (by simp) ?_
      refine AllReadyH.cons (o := { dst := some 32, op := Go.Op.call { callee := Go.Callee.value (Go.Operand.func 44), args := #[Go.Operand.tmp 31], argTypes := #[9] }, type := 9, pos := "ref.go:151", after := #[{ on := 14, ground := Go.Ground.data }, { on := 10, ground := Go.Ground.chain }], guard := none }) rfl (fun K hK => ?_) (AllReadyH.nil)
      go_simp
      go_at_call 44
      refine (HP2.out _).mono ?_
      rintro e wx ⟨rfl, hb2⟩
      refine hK.out _ _ (bthen hHeld hb2 (Nat.le_refl _)) (fun hHeld2 => ?_)
      clear hK K hHeld hb2
      have hHeld := hHeld2
      clear hHeld2
      try simp only [Act.put, List.setIfInBounds_toArray, List.set_cons_zero, List.set_cons_succ]
      refine wpAnyH_take (i := 16) (oi := { dst := some 33, op := Go.Op.binOp Go.BinOp.add 9 (Go.Operand.tmp 28) (Go.Operand.tmp 32) 9, type := 9, pos := "ref.go:151", after := #[{ on := 11, ground := Go.Ground.data }, { on := 15, ground := Go.Ground.data }], guard := none }) (v := ?_) rfl (by kernel_rfl) (by kernel_rfl) (by kernel_rfl) (fun _ _ _ h => h) (Or.inl ⟨by rfl, ?_⟩) (by assumption) ?_
      rotate_left 1
      · intro wS hSw; (try dsimp only at hSw); go_simp; (try rw [if_neg (by first | omega | (simp [ByteArray.size_append]; omega))]); try with_reducible rfl
      try simp only [Act.put, List.setIfInBounds_toArray, List.set_cons_zero, List.set_cons_succ]
      refine wpAnyH_take (i := 17) (oi := { dst := some 2, op := Go.Op.assign (Go.Operand.tmp 33), type := 9, pos := "ref.go:151", after := #[{ on := 16, ground := Go.Ground.data }, { on := 15, ground := Go.Ground.chain }, { on := 0, ground := Go.Ground.phase }, { on := 1, ground := Go.Ground.phase }, { on := 2, ground := Go.Ground.phase }, { on := 3, ground := Go.Ground.phase }, { on := 4, ground := Go.Ground.phase }, { on := 5, ground := Go.Ground.phase }, { on := 6, ground := Go.Ground.phase }, { on := 7, ground := Go.Ground.phase }, { on := 8, ground := Go.Ground.phase }, { on := 9, ground := Go.Ground.phase }, { on := 10, ground := Go.Ground.phase }, { on := 11, ground := Go.Ground.phase }, { on := 12, ground := Go.Ground.phase }, { on := 13, ground := Go.Ground.phase }, { on := 14, ground := Go.Ground.phase }, { on := 15, ground := Go.Ground.phase }, { on := 16, ground := Go.Ground.phase }], guard := none }) (v := ?_) rfl (by kernel_rfl) (by kernel_rfl) (by kernel_rfl) (fun _ _ _ h => h) (Or.inl ⟨by rfl, ?_⟩) (by assumption) ?_
      rotate_left 1
      · intro wS hSw; (try dsimp only at hSw); go_simp; (try rw [if_neg (by first | omega | (simp [ByteArray.size_append]; omega))]); try with_reducible rfl
      try simp only [Act.put, List.setIfInBounds_toArray, List.set_cons_zero, List.set_cons_succ]
      refine wpAnyH_done (by kernel_rfl) ?_ _
      have hZ := hHeld
      clear hHeld
      have HB9 := Lib.hid (bthen HB.out hZ (Nat.le_refl _))
      clear hZ
      rw [HSM.out]
      go_wp2_with fail
      go_ret
      exact ⟨rfl, HB9.out⟩
    · have HEV := Lib.hid (De.enc_1 hk)
      have hl : x.name.length ≤ 16 := (Hd.name_ok_len (by rw [← De.body_1 hk]; exact HC0.out.2.2)).1
      have c0 : wc.cell? ⟨w.heap.size, 0, none⟩ = some (.int .u8 1) := by have q := HX.out.p.cs 0 _ rfl; rw [hk] at q; exact q
      have cl := HX.out.p.lt
      have e0 : (ofL (De.E1 x)).size ≤ 100 := by rw [ofL_size]; unfold De.E1; rw [List.length_append, Oct.length_be, Oct.length_be]; omega
      have HP0 := Lib.hid (fun W => hrtext_l x.name W (by omega))
      have t0 : (ofL (Oct.text x.name)).size ≤ 300 := by rw [ofL_size]; unfold Oct.text; rw [List.length_append, Oct.length_be]; omega
      have HSM := Lib.hid (show ofL (De.E1 x) ++ ofL (Oct.text x.name) = ofL x.enc by rw [HEV.out]; rw [ofL_app]; all_goals rfl)
      clear hk hl
      generalize ofL (De.E1 x) = E0 at *
      generalize ofL (Oct.text x.name) = P0 at *
      have c15 := HX.out.p.cs 15 _ rfl
      have hcat : ¬ (9223372036854775807 < E0.size + P0.size) := by omega
      go_wp2_with fail
      refine (HP0.out _).mono ?_
      rintro e w5 ⟨rfl, b5⟩
      have HB5 := Lib.hid (bthen HB.out b5 (Nat.le_refl _))
      clear b5
      go_wp2_with fail
      go_ret
      exact ⟨by rw [HSM.out]; rfl, HB5.out⟩
    · have HEV := Lib.hid (De.enc_2 hk)
      have hl := De.quc_len (x := x.q) (by rw [← De.body_2 hk]; exact HC0.out.2.2)
      have c0 : wc.cell? ⟨w.heap.size, 0, none⟩ = some (.int .u8 2) := by have q := HX.out.p.cs 0 _ rfl; rw [hk] at q; exact q
      have cl := HX.out.p.lt
      have e0 : (ofL (De.E1 x)).size ≤ 100 := by rw [ofL_size]; unfold De.E1; rw [List.length_append, Oct.length_be, Oct.length_be]; omega
      have HP0 := Lib.hid (fun W => hrtext_l x.q.name W (by omega))
      have t0 : (ofL (Oct.text x.q.name)).size ≤ 300 := by rw [ofL_size]; unfold Oct.text; rw [List.length_append, Oct.length_be]; omega
      have HP1 := Lib.hid (fun W => hrnum_l x.q.most 8 8 W HF.out.most (by omega) rfl)
      have t1 : (ofL (Oct.be 8 x.q.most)).size ≤ 300 := by rw [ofL_size, Oct.length_be]; omega
      have HP2 := Lib.hid (fun W => hrnum_l x.q.life 8 8 W HF.out.life (by omega) rfl)
      have t2 : (ofL (Oct.be 8 x.q.life)).size ≤ 300 := by rw [ofL_size, Oct.length_be]; omega
      have HP3 := Lib.hid (fun W => hrtext_l x.q.dead W (by omega))
      have t3 : (ofL (Oct.text x.q.dead)).size ≤ 300 := by rw [ofL_size]; unfold Oct.text; rw [List.length_append, Oct.length_be]; omega
      have HSM := Lib.hid (show ofL (De.E1 x) ++ ofL (Oct.text x.q.name) ++ ofL (Oct.be 8 x.q.most) ++ ofL (Oct.be 8 x.q.life) ++ ofL (Oct.text x.q.dead) = ofL x.enc by rw [HEV.out]; rw [ofL_app, ofL_app, ofL_app, ofL_app]; all_goals rfl)
      clear hk hl
      generalize ofL (De.E1 x) = E0 at *
      generalize ofL (Oct.text x.q.name) = P0 at *
      generalize ofL (Oct.be 8 x.q.most) = P1 at *
      generalize ofL (Oct.be 8 x.q.life) = P2 at *
      generalize ofL (Oct.text x.q.dead) = P3 at *
      have c5 := HX.out.p.cs 5 _ rfl
      have c6 := HX.out.p.cs 6 _ rfl
      have c7 := HX.out.p.cs 7 _ rfl
      have c8 := HX.out.p.cs 8 _ rfl
      go_upto_region 6 with fail
      refine wp_region_held_drew (S := fun a => Below (wc.heap.size) wc a) (by kernel_rfl) (by (try dsimp only); exact (Below.refl _ _).drew) (fun hHeld => ?_)
      refine wpAnyH_take (i := 0) (oi := { dst := some 36, op := Go.Op.move (Go.Operand.tmp 3), type := 9, pos := "ref.go:153", after := #[], guard := none }) (v := ?_) rfl (by kernel_rfl) (by kernel_rfl) (by kernel_rfl) (fun _ _ _ h => h) (Or.inl ⟨by rfl, ?_⟩) (by assumption) ?_
      rotate_left 1
      · intro wS hSw; (try dsimp only at hSw); go_simp; (try rw [if_neg (by first | omega | (simp [ByteArray.size_append]; omega))]); try with_reducible rfl
      try simp only [Act.put, List.setIfInBounds_toArray, List.set_cons_zero, List.set_cons_succ]
      refine wpAnyH_take (i := 1) (oi := { dst := some 37, op := Go.Op.fieldAddr 40 (Go.Operand.tmp 1) 3, type := 0, pos := "ref.go:153", after := #[], guard := none }) (v := ?_) rfl (by kernel_rfl) (by kernel_rfl) (by kernel_rfl) (fun _ _ _ h => h) (Or.inl ⟨by rfl, ?_⟩) (by assumption) ?_
      rotate_left 1
      · intro wS hSw; (try dsimp only at hSw); go_simp; (try rw [if_neg (by first | omega | (simp [ByteArray.size_append]; omega))]); try with_reducible rfl
      try simp only [Act.put, List.setIfInBounds_toArray, List.set_cons_zero, List.set_cons_succ]
      refine wpAnyH_take (i := 2) (oi := { dst := some 38, op := Go.Op.fieldAddr 37 (Go.Operand.tmp 37) 0, type := 0, pos := "ref.go:153", after := #[{ on := 1, ground := Go.Ground.data }], guard := none }) (v := ?_) rfl (by kernel_rfl) (by kernel_rfl) (by kernel_rfl) (fun _ _ _ h => h) (Or.inl ⟨by rfl, ?_⟩) (by assumption) ?_
      rotate_left 1
      · intro wS hSw; (try dsimp only at hSw); go_simp; (try rw [if_neg (by first | omega | (simp [ByteArray.size_append]; omega))]); try with_reducible rfl
      try simp only [Act.put, List.setIfInBounds_toArray, List.set_cons_zero, List.set_cons_succ]
      refine wpAnyH_take (i := 3) (oi := { dst := some 39, op := Go.Op.load 9 (Go.Operand.tmp 38), type := 9, pos := "ref.go:153", after := #[{ on := 2, ground := Go.Ground.data }], guard := none }) (v := ?_) rfl (by kernel_rfl) (by kernel_rfl) (by kernel_rfl) (fun _ _ _ h => h) (Or.inl ⟨by rfl, ?_⟩) (by assumption) ?_
      rotate_left 1
      · intro wS hSw; (try dsimp only at hSw); have c5 := cell_on hSw c5; have c6 := cell_on hSw c6; have c7 := cell_on hSw c7; have c8 := cell_on hSw c8; go_simp; (try rw [if_neg (by first | omega | (simp [ByteArray.size_append]; omega))]); try with_reducible rfl
      try simp only [Act.put, List.setIfInBounds_toArray, List.set_cons_zero, List.set_cons_succ]
      refine wpAnyH_take (i := 6) (oi := { dst := some 42, op := Go.Op.fieldAddr 40 (Go.Operand.tmp 1) 3, type := 0, pos := "ref.go:153", after := #[], guard := none }) (v := ?_) rfl (by kernel_rfl) (by kernel_rfl) (by kernel_rfl) (fun _ _ _ h => h) (Or.inl ⟨by rfl, ?_⟩) (by assumption) ?_
      rotate_left 1
      · intro wS hSw; (try dsimp only at hSw); go_simp; (try rw [if_neg (by first | omega | (simp [ByteArray.size_append]; omega))]); try with_reducible rfl
      try simp only [Act.put, List.setIfInBounds_toArray, List.set_cons_zero, List.set_cons_succ]
      refine wpAnyH_take (i := 7) (oi := { dst := some 43, op := Go.Op.fieldAddr 37 (Go.Operand.tmp 42) 1, type := 0, pos := "ref.go:153", after := #[{ on := 6, ground := Go.Ground.data }], guard := none }) (v := ?_) rfl (by kernel_rfl) (by kernel_rfl) (by kernel_rfl) (fun _ _ _ h => h) (Or.inl ⟨by rfl, ?_⟩) (by assumption) ?_
      rotate_left 1
      · intro wS hSw; (try dsimp only at hSw); go_simp; (try rw [if_neg (by first | omega | (simp [ByteArray.size_append]; omega))]); try with_reducible rfl
      try simp only [Act.put, List.setIfInBounds_toArray, List.set_cons_zero, List.set_cons_succ]
      refine wpAnyH_take (i := 8) (oi := { dst := some 44, op := Go.Op.load 22 (Go.Operand.tmp 43), type := 22, pos := "ref.go:153", after := #[{ on := 7, ground := Go.Ground.data }], guard := none }) (v := ?_) rfl (by kernel_rfl) (by kernel_rfl) (by kernel_rfl) (fun _ _ _ h => h) (Or.inl ⟨by rfl, ?_⟩) (by assumption) ?_
      rotate_left 1
      · intro wS hSw; (try dsimp only at hSw); have c5 := cell_on hSw c5; have c6 := cell_on hSw c6; have c7 := cell_on hSw c7; have c8 := cell_on hSw c8; go_simp; (try rw [if_neg (by first | omega | (simp [ByteArray.size_append]; omega))]); try with_reducible rfl
      try simp only [Act.put, List.setIfInBounds_toArray, List.set_cons_zero, List.set_cons_succ]
      refine wpAnyH_take (i := 11) (oi := { dst := some 47, op := Go.Op.fieldAddr 40 (Go.Operand.tmp 1) 3, type := 0, pos := "ref.go:153", after := #[], guard := none }) (v := ?_) rfl (by kernel_rfl) (by kernel_rfl) (by kernel_rfl) (fun _ _ _ h => h) (Or.inl ⟨by rfl, ?_⟩) (by assumption) ?_
      rotate_left 1
      · intro wS hSw; (try dsimp only at hSw); go_simp; (try rw [if_neg (by first | omega | (simp [ByteArray.size_append]; omega))]); try with_reducible rfl
      try simp only [Act.put, List.setIfInBounds_toArray, List.set_cons_zero, List.set_cons_succ]
      refine wpAnyH_take (i := 12) (oi := { dst := some 48, op := Go.Op.fieldAddr 37 (Go.Operand.tmp 47) 2, type := 0, pos := "ref.go:153", after := #[{ on := 11, ground := Go.Ground.data }], guard := none }) (v := ?_) rfl (by kernel_rfl) (by kernel_rfl) (by kernel_rfl) (fun _ _ _ h => h) (Or.inl ⟨by rfl, ?_⟩) (by assumption) ?_
      rotate_left 1
      · intro wS hSw; (try dsimp only at hSw); go_simp; (try rw [if_neg (by first | omega | (simp [ByteArray.size_append]; omega))]); try with_reducible rfl
      try simp only [Act.put, List.setIfInBounds_toArray, List.set_cons_zero, List.set_cons_succ]
      refine wpAnyH_take (i := 13) (oi := { dst := some 49, op := Go.Op.load 22 (Go.Operand.tmp 48), type := 22, pos := "ref.go:153", after := #[{ on := 12, ground := Go.Ground.data }], guard := none }) (v := ?_) rfl (by kernel_rfl) (by kernel_rfl) (by kernel_rfl) (fun _ _ _ h => h) (Or.inl ⟨by rfl, ?_⟩) (by assumption) ?_
      rotate_left 1
      · intro wS hSw; (try dsimp only at hSw); have c5 := cell_on hSw c5; have c6 := cell_on hSw c6; have c7 := cell_on hSw c7; have c8 := cell_on hSw c8; go_simp; (try rw [if_neg (by first | omega | (simp [ByteArray.size_append]; omega))]); try with_reducible rfl
      try simp only [Act.put, List.setIfInBounds_toArray, List.set_cons_zero, List.set_cons_succ]
      refine wpAnyH_take (i := 16) (oi := { dst := some 52, op := Go.Op.fieldAddr 40 (Go.Operand.tmp 1) 3, type := 0, pos := "ref.go:153", after := #[], guard := none }) (v := ?_) rfl (by kernel_rfl) (by kernel_rfl) (by kernel_rfl) (fun _ _ _ h => h) (Or.inl ⟨by rfl, ?_⟩) (by assumption) ?_
      rotate_left 1
      · intro wS hSw; (try dsimp only at hSw); go_simp; (try rw [if_neg (by first | omega | (simp [ByteArray.size_append]; omega))]); try with_reducible rfl
      try simp only [Act.put, List.setIfInBounds_toArray, List.set_cons_zero, List.set_cons_succ]
      refine wpAnyH_take (i := 17) (oi := { dst := some 53, op := Go.Op.fieldAddr 37 (Go.Operand.tmp 52) 3, type := 0, pos := "ref.go:153", after := #[{ on := 16, ground := Go.Ground.data }], guard := none }) (v := ?_) rfl (by kernel_rfl) (by kernel_rfl) (by kernel_rfl) (fun _ _ _ h => h) (Or.inl ⟨by rfl, ?_⟩) (by assumption) ?_
      rotate_left 1
      · intro wS hSw; (try dsimp only at hSw); go_simp; (try rw [if_neg (by first | omega | (simp [ByteArray.size_append]; omega))]); try with_reducible rfl
      try simp only [Act.put, List.setIfInBounds_toArray, List.set_cons_zero, List.set_cons_succ]
      refine wpAnyH_take (i := 18) (oi := { dst := some 54, op := Go.Op.load 9 (Go.Operand.tmp 53), type := 9, pos := "ref.go:153", after := #[{ on := 17, ground := Go.Ground.data }], guard := none }) (v := ?_) rfl (by kernel_rfl) (by kernel_rfl) (by kernel_rfl) (fun _ _ _ h => h) (Or.inl ⟨by rfl, ?_⟩) (by assumption) ?_
      rotate_left 1
      · intro wS hSw; (try dsimp only at hSw); have c5 := cell_on hSw c5; have c6 := cell_on hSw c6; have c7 := cell_on hSw c7; have c8 := cell_on hSw c8; go_simp; (try rw [if_neg (by first | omega | (simp [ByteArray.size_append]; omega))]); try with_reducible rfl
      try simp only [Act.put, List.setIfInBounds_toArray, List.set_cons_zero, List.set_cons_succ]
      refine wpAnyH_ready (rs := [4]) (by kernel_rfl) (by simp) ?_
      refine AllReadyH.cons (o := { dst := some 40, op := Go.Op.call { callee := Go.Callee.value (Go.Operand.func 44), args := #[Go.Operand.tmp 39], argTypes := #[9] }, type := 9, pos := "ref.go:153", after := #[{ on := 3, ground := Go.Ground.data }], guard := none }) rfl (fun K hK => ?_) (AllReadyH.nil)
      go_simp
      go_at_call 44
      refine (HP0.out _).mono ?_
      rintro e wx ⟨rfl, hb2⟩
      refine hK.out _ _ (bthen hHeld hb2 (Nat.le_refl _)) (fun hHeld2 => ?_)
      clear hK K hHeld hb2
      have hHeld := hHeld2
      clear hHeld2
      try simp only [Act.put, List.setIfInBounds_toArray, List.set_cons_zero, List.set_cons_succ]
      refine wpAnyH_take (i := 5) (oi := { dst := some 41, op := Go.Op.binOp Go.BinOp.add 9 (Go.Operand.tmp 36) (Go.Operand.tmp 40) 9, type := 9, pos := "ref.go:153", after := #[{ on := 0, ground := Go.Ground.data }, { on := 4, ground := Go.Ground.data }], guard := none }) (v := ?_) rfl (by kernel_rfl) (by kernel_rfl) (by kernel_rfl) (fun _ _ _ h => h) (Or.inl ⟨by rfl, ?_⟩) (by assumption) ?_
      rotate_left 1
      · intro wS hSw; (try dsimp only at hSw); go_simp; (try rw [if_neg (by first | omega | (simp [ByteArray.size_append]; omega))]); try with_reducible rfl
      try simp only [Act.put, List.setIfInBounds_toArray, List.set_cons_zero, List.set_cons_succ]
      refine wpAnyH_ready (rs := [9]) (by kernel_rfl) (by simp) ?_
      refine AllReadyH.cons (o := { dst := some 45, op := Go.Op.call { callee := Go.Callee.value (Go.Operand.func 43), args := #[Go.Operand.tmp 44, Go.Operand.const (Go.Value.int Go.IntKind.i64 8)], argTypes := #[22, 3] }, type := 9, pos := "ref.go:153", after := #[{ on := 8, ground := Go.Ground.data }, { on := 4, ground := Go.Ground.chain }], guard := none }) rfl (fun K hK => ?_) (AllReadyH.nil)
      go_simp
      go_at_call 43
      refine (HP1.out _).mono ?_
      rintro e wx ⟨rfl, hb2⟩
      refine hK.out _ _ (bthen hHeld hb2 (Nat.le_refl _)) (fun hHeld2 => ?_)
      clear hK K hHeld hb2
      have hHeld := hHeld2
      clear hHeld2
      try simp only [Act.put, List.setIfInBounds_toArray, List.set_cons_zero, List.set_cons_succ]
      refine wpAnyH_take (i := 10) (oi := { dst := some 46, op := Go.Op.binOp Go.BinOp.add 9 (Go.Operand.tmp 41) (Go.Operand.tmp 45) 9, type := 9, pos := "ref.go:153", after := #[{ on := 5, ground := Go.Ground.data }, { on := 9, ground := Go.Ground.data }], guard := none }) (v := ?_) rfl (by kernel_rfl) (by kernel_rfl) (by kernel_rfl) (fun _ _ _ h => h) (Or.inl ⟨by rfl, ?_⟩) (by assumption) ?_
      rotate_left 1
      · intro wS hSw; (try dsimp only at hSw); go_simp; (try rw [if_neg (by first | omega | (simp [ByteArray.size_append]; omega))]); try with_reducible rfl
      try simp only [Act.put, List.setIfInBounds_toArray, List.set_cons_zero, List.set_cons_succ]
      refine wpAnyH_ready (rs := [14]) (by kernel_rfl) (by simp) ?_
      refine AllReadyH.cons (o := { dst := some 50, op := Go.Op.call { callee := Go.Callee.value (Go.Operand.func 43), args := #[Go.Operand.tmp 49, Go.Operand.const (Go.Value.int Go.IntKind.i64 8)], argTypes := #[22, 3] }, type := 9, pos := "ref.go:153", after := #[{ on := 13, ground := Go.Ground.data }, { on := 9, ground := Go.Ground.chain }], guard := none }) rfl (fun K hK => ?_) (AllReadyH.nil)
      go_simp
      go_at_call 43
      refine (HP2.out _).mono ?_
      rintro e wx ⟨rfl, hb2⟩
      refine hK.out _ _ (bthen hHeld hb2 (Nat.le_refl _)) (fun hHeld2 => ?_)
      clear hK K hHeld hb2
      have hHeld := hHeld2
      clear hHeld2
      try simp only [Act.put, List.setIfInBounds_toArray, List.set_cons_zero, List.set_cons_succ]
      refine wpAnyH_take (i := 15) (oi := { dst := some 51, op := Go.Op.binOp Go.BinOp.add 9 (Go.Operand.tmp 46) (Go.Operand.tmp 50) 9, type := 9, pos := "ref.go:153", after := #[{ on := 10, ground := Go.Ground.data }, { on := 14, ground := Go.Ground.data }], guard := none }) (v := ?_) rfl (by kernel_rfl) (by kernel_rfl) (by kernel_rfl) (fun _ _ _ h => h) (Or.inl ⟨by rfl, ?_⟩) (by assumption) ?_
      rotate_left 1
      · intro wS hSw; (try dsimp only at hSw); go_simp; (try rw [if_neg (by first | omega | (simp [ByteArray.size_append]; omega))]); try with_reducible rfl
      try simp only [Act.put, List.setIfInBounds_toArray, List.set_cons_zero, List.set_cons_succ]
      refine wpAnyH_ready (rs := [19]) (by kernel_rfl) (by simp) ?_
      refine AllReadyH.cons (o := { dst := some 55, op := Go.Op.call { callee := Go.Callee.value (Go.Operand.func 44), args := #[Go.Operand.tmp 54], argTypes := #[9] }, type := 9, pos := "ref.go:153", after := #[{ on := 18, ground := Go.Ground.data }, { on := 14, ground := Go.Ground.chain }], guard := none }) rfl (fun K hK => ?_) (AllReadyH.nil)
      go_simp
      go_at_call 44
      refine (HP3.out _).mono ?_
      rintro e wx ⟨rfl, hb2⟩
      refine hK.out _ _ (bthen hHeld hb2 (Nat.le_refl _)) (fun hHeld2 => ?_)
      clear hK K hHeld hb2
      have hHeld := hHeld2
      clear hHeld2
      try simp only [Act.put, List.setIfInBounds_toArray, List.set_cons_zero, List.set_cons_succ]
      refine wpAnyH_take (i := 20) (oi := { dst := some 56, op := Go.Op.binOp Go.BinOp.add 9 (Go.Operand.tmp 51) (Go.Operand.tmp 55) 9, type := 9, pos := "ref.go:153", after := #[{ on := 15, ground := Go.Ground.data }, { on := 19, ground := Go.Ground.data }], guard := none }) (v := ?_) rfl (by kernel_rfl) (by kernel_rfl) (by kernel_rfl) (fun _ _ _ h => h) (Or.inl ⟨by rfl, ?_⟩) (by assumption) ?_
      rotate_left 1
      · intro wS hSw; (try dsimp only at hSw); go_simp; (try rw [if_neg (by first | omega | (simp [ByteArray.size_append]; omega))]); try with_reducible rfl
      try simp only [Act.put, List.setIfInBounds_toArray, List.set_cons_zero, List.set_cons_succ]
      refine wpAnyH_take (i := 21) (oi := { dst := some 2, op := Go.Op.assign (Go.Operand.tmp 56), type := 9, pos := "ref.go:153", after := #[{ on := 20, ground := Go.Ground.data }, { on := 19, ground := Go.Ground.chain }, { on := 0, ground := Go.Ground.phase }, { on := 1, ground := Go.Ground.phase }, { on := 2, ground := Go.Ground.phase }, { on := 3, ground := Go.Ground.phase }, { on := 4, ground := Go.Ground.phase }, { on := 5, ground := Go.Ground.phase }, { on := 6, ground := Go.Ground.phase }, { on := 7, ground := Go.Ground.phase }, { on := 8, ground := Go.Ground.phase }, { on := 9, ground := Go.Ground.phase }, { on := 10, ground := Go.Ground.phase }, { on := 11, ground := Go.Ground.phase }, { on := 12, ground := Go.Ground.phase }, { on := 13, ground := Go.Ground.phase }, { on := 14, ground := Go.Ground.phase }, { on := 15, ground := Go.Ground.phase }, { on := 16, ground := Go.Ground.phase }, { on := 17, ground := Go.Ground.phase }, { on := 18, ground := Go.Ground.phase }, { on := 19, ground := Go.Ground.phase }, { on := 20, ground := Go.Ground.phase }], guard := none }) (v := ?_) rfl (by kernel_rfl) (by kernel_rfl) (by kernel_rfl) (fun _ _ _ h => h) (Or.inl ⟨by rfl, ?_⟩) (by assumption) ?_
      rotate_left 1
      · intro wS hSw; (try dsimp only at hSw); go_simp; (try rw [if_neg (by first | omega | (simp [ByteArray.size_append]; omega))]); try with_reducible rfl
      try simp only [Act.put, List.setIfInBounds_toArray, List.set_cons_zero, List.set_cons_succ]
      refine wpAnyH_done (by kernel_rfl) ?_ _
      have hZ := hHeld
      clear hHeld
      have HB9 := Lib.hid (bthen HB.out hZ (Nat.le_refl _))
      clear hZ
      rw [HSM.out]
      go_wp2_with fail
      go_ret
      exact ⟨rfl, HB9.out⟩
    · have HEV := Lib.hid (De.enc_3 hk)
      have hl : x.name.length ≤ 16 := (Hd.name_ok_len (by rw [← De.body_3 hk]; exact HC0.out.2.2)).1
      have c0 : wc.cell? ⟨w.heap.size, 0, none⟩ = some (.int .u8 3) := by have q := HX.out.p.cs 0 _ rfl; rw [hk] at q; exact q
      have cl := HX.out.p.lt
      have e0 : (ofL (De.E1 x)).size ≤ 100 := by rw [ofL_size]; unfold De.E1; rw [List.length_append, Oct.length_be, Oct.length_be]; omega
      have HP0 := Lib.hid (fun W => hrtext_l x.name W (by omega))
      have t0 : (ofL (Oct.text x.name)).size ≤ 300 := by rw [ofL_size]; unfold Oct.text; rw [List.length_append, Oct.length_be]; omega
      have HSM := Lib.hid (show ofL (De.E1 x) ++ ofL (Oct.text x.name) = ofL x.enc by rw [HEV.out]; rw [ofL_app]; all_goals rfl)
      clear hk hl
      generalize ofL (De.E1 x) = E0 at *
      generalize ofL (Oct.text x.name) = P0 at *
      have c15 := HX.out.p.cs 15 _ rfl
      have hcat : ¬ (9223372036854775807 < E0.size + P0.size) := by omega
      go_wp2_with fail
      refine (HP0.out _).mono ?_
      rintro e w5 ⟨rfl, b5⟩
      have HB5 := Lib.hid (bthen HB.out b5 (Nat.le_refl _))
      clear b5
      go_wp2_with fail
      go_ret
      exact ⟨by rw [HSM.out]; rfl, HB5.out⟩
    · have HEV := Lib.hid (De.enc_4 hk)
      have hl := De.bdc_len (x := x.bind) (by rw [← De.body_4 hk]; exact HC0.out.2.2)
      have c0 : wc.cell? ⟨w.heap.size, 0, none⟩ = some (.int .u8 4) := by have q := HX.out.p.cs 0 _ rfl; rw [hk] at q; exact q
      have cl := HX.out.p.lt
      have e0 : (ofL (De.E1 x)).size ≤ 100 := by rw [ofL_size]; unfold De.E1; rw [List.length_append, Oct.length_be, Oct.length_be]; omega
      have l3 : (Hd.henc x.bind.want).length ≤ 1000 := by have := (hfine_of hl.2.2.2).pre x.bind.want.length; rw [hpre_all (Nat.le_refl _)] at this; exact this
      have HP0 := Lib.hid (fun W => hrtext_l x.bind.shop W (by have := hl.1; omega))
      have t0 : (ofL (Oct.text x.bind.shop)).size ≤ 1000 := by rw [ofL_size]; unfold Oct.text; rw [List.length_append, Oct.length_be]; have := hl.1; omega
      have HP1 := Lib.hid (fun W => hrtext_l x.bind.to W (by have := hl.2.1; omega))
      have t1 : (ofL (Oct.text x.bind.to)).size ≤ 1000 := by rw [ofL_size]; unfold Oct.text; rw [List.length_append, Oct.length_be]; have := hl.2.1; omega
      have HP2 := Lib.hid (fun W => r22bit_any x.bind.up W)
      have t2 : (ofL (Oct.be 1 (bitN x.bind.up))).size ≤ 1000 := by rw [ofL_size]; rw [Oct.length_be]; omega
      have HP3 := Lib.hid (fun W => hrtext_l x.bind.key W (by have := hl.2.2.1; omega))
      have t3 : (ofL (Oct.text x.bind.key)).size ≤ 1000 := by rw [ofL_size]; unfold Oct.text; rw [List.length_append, Oct.length_be]; have := hl.2.2.1; omega
      have HP4 := Lib.hid (fun W (q1 : Prs W A x.bind.want) => rbytes9_any x.bind.want A c W hl.2.2.2 q1)
      have t4 : (ofL (Hd.henc x.bind.want)).size ≤ 1000 := by rw [ofL_size]; omega
      have HP5 := Lib.hid (fun W => r22bit_any x.bind.all W)
      have t5 : (ofL (Oct.be 1 (bitN x.bind.all))).size ≤ 1000 := by rw [ofL_size]; rw [Oct.length_be]; omega
      have HSM := Lib.hid (show ofL (De.E1 x) ++ ofL (Oct.text x.bind.shop) ++ ofL (Oct.text x.bind.to) ++ ofL (Oct.be 1 (bitN x.bind.up)) ++ ofL (Oct.text x.bind.key) ++ ofL (Hd.henc x.bind.want) ++ ofL (Oct.be 1 (bitN x.bind.all)) = ofL x.enc by rw [HEV.out]; unfold bdE; rw [ofL_app, ofL_app, ofL_app, ofL_app, ofL_app, ofL_app]; rfl)
      clear hk hl l3
      generalize ofL (De.E1 x) = E0 at *
      generalize ofL (Oct.text x.bind.shop) = P0 at *
      generalize ofL (Oct.text x.bind.to) = P1 at *
      generalize ofL (Oct.be 1 (bitN x.bind.up)) = P2 at *
      generalize ofL (Oct.text x.bind.key) = P3 at *
      generalize ofL (Hd.henc x.bind.want) = P4 at *
      generalize ofL (Oct.be 1 (bitN x.bind.all)) = P5 at *
      have HXB := Lib.hid (BoxC.new (w := w) (W := wc) HB.out.size #[.string (ofL x.bind.shop), .string (ofL x.bind.to), .bool x.bind.up, .string (ofL x.bind.key), .slice A x.bind.want.length c, .bool x.bind.all] 38)
      have HBN := Lib.hid (bthen HB.out (rtOne wc (.cells #[.string (ofL x.bind.shop), .string (ofL x.bind.to), .bool x.bind.up, .string (ofL x.bind.key), .slice A x.bind.want.length c, .bool x.bind.all] 38)) (Nat.le_refl _))
      have HRN := Lib.hid (HX.out.ra.on (rtOne wc (.cells #[.string (ofL x.bind.shop), .string (ofL x.bind.to), .bool x.bind.up, .string (ofL x.bind.key), .slice A x.bind.want.length c, .bool x.bind.all] 38)))
      have c9 := HX.out.p.cs 9 _ rfl
      have c10 := HX.out.p.cs 10 _ rfl
      have c11 := HX.out.p.cs 11 _ rfl
      have c12 := HX.out.p.cs 12 _ rfl
      have c13 := HX.out.p.cs 13 _ rfl
      have c14 := HX.out.p.cs 14 _ rfl
      go_upto_region 10 with fail
      generalize wc.alloc (.cells #[.string (ofL x.bind.shop), .string (ofL x.bind.to), .bool x.bind.up, .string (ofL x.bind.key), .slice A x.bind.want.length c, .bool x.bind.all] 38) = wd at *
      clear c0 cl c9 c10 c11 c12 c13 c14
      have c0 := HXB.out.cs 0 _ rfl
      have c1 := HXB.out.cs 1 _ rfl
      have c2 := HXB.out.cs 2 _ rfl
      have c3 := HXB.out.cs 3 _ rfl
      have c4 := HXB.out.cs 4 _ rfl
      have c5 := HXB.out.cs 5 _ rfl
      have cl := HXB.out.lt
      refine wp_region_held_drew (S := fun a => Below (wd.heap.size) wd a) (by kernel_rfl) (by (try dsimp only); exact (Below.refl _ _).drew) (fun hHeld => ?_)
      refine wpAnyH_take (i := 0) (oi := { dst := some 62, op := Go.Op.move (Go.Operand.tmp 3), type := 9, pos := "ref.go:156", after := #[], guard := none }) (v := ?_) rfl (by kernel_rfl) (by kernel_rfl) (by kernel_rfl) (fun _ _ _ h => h) (Or.inl ⟨by rfl, ?_⟩) (by assumption) ?_
      rotate_left 1
      · intro wS hSw; (try dsimp only at hSw); go_simp; (try rw [if_neg (by first | omega | (simp [ByteArray.size_append]; omega))]); try with_reducible rfl
      try simp only [Act.put, List.setIfInBounds_toArray, List.set_cons_zero, List.set_cons_succ]
      refine wpAnyH_take (i := 1) (oi := { dst := some 63, op := Go.Op.fieldAddr 38 (Go.Operand.tmp 4) 0, type := 0, pos := "ref.go:156", after := #[], guard := none }) (v := ?_) rfl (by kernel_rfl) (by kernel_rfl) (by kernel_rfl) (fun _ _ _ h => h) (Or.inl ⟨by rfl, ?_⟩) (by assumption) ?_
      rotate_left 1
      · intro wS hSw; (try dsimp only at hSw); go_simp; (try rw [if_neg (by first | omega | (simp [ByteArray.size_append]; omega))]); try with_reducible rfl
      try simp only [Act.put, List.setIfInBounds_toArray, List.set_cons_zero, List.set_cons_succ]
      refine wpAnyH_take (i := 2) (oi := { dst := some 64, op := Go.Op.load 9 (Go.Operand.tmp 63), type := 9, pos := "ref.go:156", after := #[{ on := 1, ground := Go.Ground.data }], guard := none }) (v := ?_) rfl (by kernel_rfl) (by kernel_rfl) (by kernel_rfl) (fun _ _ _ h => h) (Or.inl ⟨by rfl, ?_⟩) (by assumption) ?_
      rotate_left 1
      · intro wS hSw; (try dsimp only at hSw); have c0 := cell_on hSw c0; have c1 := cell_on hSw c1; have c2 := cell_on hSw c2; have c3 := cell_on hSw c3; have c4 := cell_on hSw c4; have c5 := cell_on hSw c5; go_simp; (try rw [if_neg (by first | omega | (simp [ByteArray.size_append]; omega))]); try with_reducible rfl
      try simp only [Act.put, List.setIfInBounds_toArray, List.set_cons_zero, List.set_cons_succ]
      refine wpAnyH_take (i := 5) (oi := { dst := some 67, op := Go.Op.fieldAddr 38 (Go.Operand.tmp 4) 1, type := 0, pos := "ref.go:156", after := #[], guard := none }) (v := ?_) rfl (by kernel_rfl) (by kernel_rfl) (by kernel_rfl) (fun _ _ _ h => h) (Or.inl ⟨by rfl, ?_⟩) (by assumption) ?_
      rotate_left 1
      · intro wS hSw; (try dsimp only at hSw); go_simp; (try rw [if_neg (by first | omega | (simp [ByteArray.size_append]; omega))]); try with_reducible rfl
      try simp only [Act.put, List.setIfInBounds_toArray, List.set_cons_zero, List.set_cons_succ]
      refine wpAnyH_take (i := 6) (oi := { dst := some 68, op := Go.Op.load 9 (Go.Operand.tmp 67), type := 9, pos := "ref.go:156", after := #[{ on := 5, ground := Go.Ground.data }], guard := none }) (v := ?_) rfl (by kernel_rfl) (by kernel_rfl) (by kernel_rfl) (fun _ _ _ h => h) (Or.inl ⟨by rfl, ?_⟩) (by assumption) ?_
      rotate_left 1
      · intro wS hSw; (try dsimp only at hSw); have c0 := cell_on hSw c0; have c1 := cell_on hSw c1; have c2 := cell_on hSw c2; have c3 := cell_on hSw c3; have c4 := cell_on hSw c4; have c5 := cell_on hSw c5; go_simp; (try rw [if_neg (by first | omega | (simp [ByteArray.size_append]; omega))]); try with_reducible rfl
      try simp only [Act.put, List.setIfInBounds_toArray, List.set_cons_zero, List.set_cons_succ]
      refine wpAnyH_take (i := 9) (oi := { dst := some 71, op := Go.Op.fieldAddr 38 (Go.Operand.tmp 4) 2, type := 0, pos := "ref.go:156", after := #[], guard := none }) (v := ?_) rfl (by kernel_rfl) (by kernel_rfl) (by kernel_rfl) (fun _ _ _ h => h) (Or.inl ⟨by rfl, ?_⟩) (by assumption) ?_
      rotate_left 1
      · intro wS hSw; (try dsimp only at hSw); go_simp; (try rw [if_neg (by first | omega | (simp [ByteArray.size_append]; omega))]); try with_reducible rfl
      try simp only [Act.put, List.setIfInBounds_toArray, List.set_cons_zero, List.set_cons_succ]
      refine wpAnyH_take (i := 10) (oi := { dst := some 72, op := Go.Op.load 4 (Go.Operand.tmp 71), type := 4, pos := "ref.go:156", after := #[{ on := 9, ground := Go.Ground.data }], guard := none }) (v := ?_) rfl (by kernel_rfl) (by kernel_rfl) (by kernel_rfl) (fun _ _ _ h => h) (Or.inl ⟨by rfl, ?_⟩) (by assumption) ?_
      rotate_left 1
      · intro wS hSw; (try dsimp only at hSw); have c0 := cell_on hSw c0; have c1 := cell_on hSw c1; have c2 := cell_on hSw c2; have c3 := cell_on hSw c3; have c4 := cell_on hSw c4; have c5 := cell_on hSw c5; go_simp; (try rw [if_neg (by first | omega | (simp [ByteArray.size_append]; omega))]); try with_reducible rfl
      try simp only [Act.put, List.setIfInBounds_toArray, List.set_cons_zero, List.set_cons_succ]
      refine wpAnyH_take (i := 13) (oi := { dst := some 75, op := Go.Op.fieldAddr 38 (Go.Operand.tmp 4) 3, type := 0, pos := "ref.go:156", after := #[], guard := none }) (v := ?_) rfl (by kernel_rfl) (by kernel_rfl) (by kernel_rfl) (fun _ _ _ h => h) (Or.inl ⟨by rfl, ?_⟩) (by assumption) ?_
      rotate_left 1
      · intro wS hSw; (try dsimp only at hSw); go_simp; (try rw [if_neg (by first | omega | (simp [ByteArray.size_append]; omega))]); try with_reducible rfl
      try simp only [Act.put, List.setIfInBounds_toArray, List.set_cons_zero, List.set_cons_succ]
      refine wpAnyH_take (i := 14) (oi := { dst := some 76, op := Go.Op.load 9 (Go.Operand.tmp 75), type := 9, pos := "ref.go:156", after := #[{ on := 13, ground := Go.Ground.data }], guard := none }) (v := ?_) rfl (by kernel_rfl) (by kernel_rfl) (by kernel_rfl) (fun _ _ _ h => h) (Or.inl ⟨by rfl, ?_⟩) (by assumption) ?_
      rotate_left 1
      · intro wS hSw; (try dsimp only at hSw); have c0 := cell_on hSw c0; have c1 := cell_on hSw c1; have c2 := cell_on hSw c2; have c3 := cell_on hSw c3; have c4 := cell_on hSw c4; have c5 := cell_on hSw c5; go_simp; (try rw [if_neg (by first | omega | (simp [ByteArray.size_append]; omega))]); try with_reducible rfl
      try simp only [Act.put, List.setIfInBounds_toArray, List.set_cons_zero, List.set_cons_succ]
      refine wpAnyH_take (i := 17) (oi := { dst := some 79, op := Go.Op.fieldAddr 38 (Go.Operand.tmp 4) 4, type := 0, pos := "ref.go:156", after := #[], guard := none }) (v := ?_) rfl (by kernel_rfl) (by kernel_rfl) (by kernel_rfl) (fun _ _ _ h => h) (Or.inl ⟨by rfl, ?_⟩) (by assumption) ?_
      rotate_left 1
      · intro wS hSw; (try dsimp only at hSw); go_simp; (try rw [if_neg (by first | omega | (simp [ByteArray.size_append]; omega))]); try with_reducible rfl
      try simp only [Act.put, List.setIfInBounds_toArray, List.set_cons_zero, List.set_cons_succ]
      refine wpAnyH_take (i := 18) (oi := { dst := some 80, op := Go.Op.load 27 (Go.Operand.tmp 79), type := 27, pos := "ref.go:156", after := #[{ on := 17, ground := Go.Ground.data }], guard := none }) (v := ?_) rfl (by kernel_rfl) (by kernel_rfl) (by kernel_rfl) (fun _ _ _ h => h) (Or.inl ⟨by rfl, ?_⟩) (by assumption) ?_
      rotate_left 1
      · intro wS hSw; (try dsimp only at hSw); have c0 := cell_on hSw c0; have c1 := cell_on hSw c1; have c2 := cell_on hSw c2; have c3 := cell_on hSw c3; have c4 := cell_on hSw c4; have c5 := cell_on hSw c5; go_simp; (try rw [if_neg (by first | omega | (simp [ByteArray.size_append]; omega))]); try with_reducible rfl
      try simp only [Act.put, List.setIfInBounds_toArray, List.set_cons_zero, List.set_cons_succ]
      refine wpAnyH_take (i := 21) (oi := { dst := some 83, op := Go.Op.fieldAddr 38 (Go.Operand.tmp 4) 5, type := 0, pos := "ref.go:156", after := #[], guard := none }) (v := ?_) rfl (by kernel_rfl) (by kernel_rfl) (by kernel_rfl) (fun _ _ _ h => h) (Or.inl ⟨by rfl, ?_⟩) (by assumption) ?_
      rotate_left 1
      · intro wS hSw; (try dsimp only at hSw); go_simp; (try rw [if_neg (by first | omega | (simp [ByteArray.size_append]; omega))]); try with_reducible rfl
      try simp only [Act.put, List.setIfInBounds_toArray, List.set_cons_zero, List.set_cons_succ]
      refine wpAnyH_take (i := 22) (oi := { dst := some 84, op := Go.Op.load 4 (Go.Operand.tmp 83), type := 4, pos := "ref.go:156", after := #[{ on := 21, ground := Go.Ground.data }], guard := none }) (v := ?_) rfl (by kernel_rfl) (by kernel_rfl) (by kernel_rfl) (fun _ _ _ h => h) (Or.inl ⟨by rfl, ?_⟩) (by assumption) ?_
      rotate_left 1
      · intro wS hSw; (try dsimp only at hSw); have c0 := cell_on hSw c0; have c1 := cell_on hSw c1; have c2 := cell_on hSw c2; have c3 := cell_on hSw c3; have c4 := cell_on hSw c4; have c5 := cell_on hSw c5; go_simp; (try rw [if_neg (by first | omega | (simp [ByteArray.size_append]; omega))]); try with_reducible rfl
      try simp only [Act.put, List.setIfInBounds_toArray, List.set_cons_zero, List.set_cons_succ]
      refine wpAnyH_ready (rs := [3]) (by kernel_rfl) (by simp) ?_
      refine AllReadyH.cons (o := { dst := some 65, op := Go.Op.call { callee := Go.Callee.value (Go.Operand.func 44), args := #[Go.Operand.tmp 64], argTypes := #[9] }, type := 9, pos := "ref.go:156", after := #[{ on := 2, ground := Go.Ground.data }], guard := none }) rfl (fun K hK => ?_) (AllReadyH.nil)
      go_simp
      go_at_call 44
      refine (HP0.out _).mono ?_
      rintro e wx ⟨rfl, hb2⟩
      refine hK.out _ _ (bthen hHeld hb2 (Nat.le_refl _)) (fun hHeld2 => ?_)
      clear hK K hHeld hb2
      have hHeld := hHeld2
      clear hHeld2
      try simp only [Act.put, List.setIfInBounds_toArray, List.set_cons_zero, List.set_cons_succ]
      refine wpAnyH_take (i := 4) (oi := { dst := some 66, op := Go.Op.binOp Go.BinOp.add 9 (Go.Operand.tmp 62) (Go.Operand.tmp 65) 9, type := 9, pos := "ref.go:156", after := #[{ on := 0, ground := Go.Ground.data }, { on := 3, ground := Go.Ground.data }], guard := none }) (v := ?_) rfl (by kernel_rfl) (by kernel_rfl) (by kernel_rfl) (fun _ _ _ h => h) (Or.inl ⟨by rfl, ?_⟩) (by assumption) ?_
      rotate_left 1
      · intro wS hSw; (try dsimp only at hSw); go_simp; (try rw [if_neg (by first | omega | (simp [ByteArray.size_append]; omega))]); try with_reducible rfl
      try simp only [Act.put, List.setIfInBounds_toArray, List.set_cons_zero, List.set_cons_succ]
      refine wpAnyH_ready (rs := [7]) (by kernel_rfl) (by simp) ?_
      refine AllReadyH.cons (o := { dst := some 69, op := Go.Op.call { callee := Go.Callee.value (Go.Operand.func 44), args := #[Go.Operand.tmp 68], argTypes := #[9] }, type := 9, pos := "ref.go:156", after := #[{ on := 6, ground := Go.Ground.data }, { on := 3, ground := Go.Ground.chain }], guard := none }) rfl (fun K hK => ?_) (AllReadyH.nil)
      go_simp
      go_at_call 44
      refine (HP1.out _).mono ?_
      rintro e wx ⟨rfl, hb2⟩
      refine hK.out _ _ (bthen hHeld hb2 (Nat.le_refl _)) (fun hHeld2 => ?_)
      clear hK K hHeld hb2
      have hHeld := hHeld2
      clear hHeld2
      try simp only [Act.put, List.setIfInBounds_toArray, List.set_cons_zero, List.set_cons_succ]
      refine wpAnyH_take (i := 8) (oi := { dst := some 70, op := Go.Op.binOp Go.BinOp.add 9 (Go.Operand.tmp 66) (Go.Operand.tmp 69) 9, type := 9, pos := "ref.go:156", after := #[{ on := 4, ground := Go.Ground.data }, { on := 7, ground := Go.Ground.data }], guard := none }) (v := ?_) rfl (by kernel_rfl) (by kernel_rfl) (by kernel_rfl) (fun _ _ _ h => h) (Or.inl ⟨by rfl, ?_⟩) (by assumption) ?_
      rotate_left 1
      · intro wS hSw; (try dsimp only at hSw); go_simp; (try rw [if_neg (by first | omega | (simp [ByteArray.size_append]; omega))]); try with_reducible rfl
      try simp only [Act.put, List.setIfInBounds_toArray, List.set_cons_zero, List.set_cons_succ]
      refine wpAnyH_ready (rs := [11]) (by kernel_rfl) (by simp) ?_
      refine AllReadyH.cons (o := { dst := some 73, op := Go.Op.call { callee := Go.Callee.value (Go.Operand.func 45), args := #[Go.Operand.tmp 72], argTypes := #[4] }, type := 9, pos := "ref.go:156", after := #[{ on := 10, ground := Go.Ground.data }, { on := 7, ground := Go.Ground.chain }], guard := none }) rfl (fun K hK => ?_) (AllReadyH.nil)
      go_simp
      go_at_call 45
      refine (HP2.out _).mono ?_
      rintro e wx ⟨rfl, hb2⟩
      refine hK.out _ _ (bthen hHeld hb2 (Nat.le_refl _)) (fun hHeld2 => ?_)
      clear hK K hHeld hb2
      have hHeld := hHeld2
      clear hHeld2
      try simp only [Act.put, List.setIfInBounds_toArray, List.set_cons_zero, List.set_cons_succ]
      refine wpAnyH_take (i := 12) (oi := { dst := some 74, op := Go.Op.binOp Go.BinOp.add 9 (Go.Operand.tmp 70) (Go.Operand.tmp 73) 9, type := 9, pos := "ref.go:156", after := #[{ on := 8, ground := Go.Ground.data }, { on := 11, ground := Go.Ground.data }], guard := none }) (v := ?_) rfl (by kernel_rfl) (by kernel_rfl) (by kernel_rfl) (fun _ _ _ h => h) (Or.inl ⟨by rfl, ?_⟩) (by assumption) ?_
      rotate_left 1
      · intro wS hSw; (try dsimp only at hSw); go_simp; (try rw [if_neg (by first | omega | (simp [ByteArray.size_append]; omega))]); try with_reducible rfl
      try simp only [Act.put, List.setIfInBounds_toArray, List.set_cons_zero, List.set_cons_succ]
      refine wpAnyH_ready (rs := [15]) (by kernel_rfl) (by simp) ?_
      refine AllReadyH.cons (o := { dst := some 77, op := Go.Op.call { callee := Go.Callee.value (Go.Operand.func 44), args := #[Go.Operand.tmp 76], argTypes := #[9] }, type := 9, pos := "ref.go:156", after := #[{ on := 14, ground := Go.Ground.data }, { on := 11, ground := Go.Ground.chain }], guard := none }) rfl (fun K hK => ?_) (AllReadyH.nil)
      go_simp
      go_at_call 44
      refine (HP3.out _).mono ?_
      rintro e wx ⟨rfl, hb2⟩
      refine hK.out _ _ (bthen hHeld hb2 (Nat.le_refl _)) (fun hHeld2 => ?_)
      clear hK K hHeld hb2
      have hHeld := hHeld2
      clear hHeld2
      try simp only [Act.put, List.setIfInBounds_toArray, List.set_cons_zero, List.set_cons_succ]
      refine wpAnyH_take (i := 16) (oi := { dst := some 78, op := Go.Op.binOp Go.BinOp.add 9 (Go.Operand.tmp 74) (Go.Operand.tmp 77) 9, type := 9, pos := "ref.go:156", after := #[{ on := 12, ground := Go.Ground.data }, { on := 15, ground := Go.Ground.data }], guard := none }) (v := ?_) rfl (by kernel_rfl) (by kernel_rfl) (by kernel_rfl) (fun _ _ _ h => h) (Or.inl ⟨by rfl, ?_⟩) (by assumption) ?_
      rotate_left 1
      · intro wS hSw; (try dsimp only at hSw); go_simp; (try rw [if_neg (by first | omega | (simp [ByteArray.size_append]; omega))]); try with_reducible rfl
      try simp only [Act.put, List.setIfInBounds_toArray, List.set_cons_zero, List.set_cons_succ]
      refine wpAnyH_ready (rs := [19]) (by kernel_rfl) (by simp) ?_
      refine AllReadyH.cons (o := { dst := some 81, op := Go.Op.call { callee := Go.Callee.value (Go.Operand.func 46), args := #[Go.Operand.tmp 80], argTypes := #[27] }, type := 9, pos := "ref.go:156", after := #[{ on := 18, ground := Go.Ground.data }, { on := 15, ground := Go.Ground.chain }], guard := none }) rfl (fun K hK => ?_) (AllReadyH.nil)
      go_simp
      go_at_call 46
      refine (HP4.out _ (HRN.out.on hHeld)).mono ?_
      rintro e wx ⟨rfl, hb2⟩
      refine hK.out _ _ (bthen hHeld hb2 (Nat.le_refl _)) (fun hHeld2 => ?_)
      clear hK K hHeld hb2
      have hHeld := hHeld2
      clear hHeld2
      try simp only [Act.put, List.setIfInBounds_toArray, List.set_cons_zero, List.set_cons_succ]
      refine wpAnyH_take (i := 20) (oi := { dst := some 82, op := Go.Op.binOp Go.BinOp.add 9 (Go.Operand.tmp 78) (Go.Operand.tmp 81) 9, type := 9, pos := "ref.go:156", after := #[{ on := 16, ground := Go.Ground.data }, { on := 19, ground := Go.Ground.data }], guard := none }) (v := ?_) rfl (by kernel_rfl) (by kernel_rfl) (by kernel_rfl) (fun _ _ _ h => h) (Or.inl ⟨by rfl, ?_⟩) (by assumption) ?_
      rotate_left 1
      · intro wS hSw; (try dsimp only at hSw); go_simp; (try rw [if_neg (by first | omega | (simp [ByteArray.size_append]; omega))]); try with_reducible rfl
      try simp only [Act.put, List.setIfInBounds_toArray, List.set_cons_zero, List.set_cons_succ]
      refine wpAnyH_ready (rs := [23]) (by kernel_rfl) (by simp) ?_
      refine AllReadyH.cons (o := { dst := some 85, op := Go.Op.call { callee := Go.Callee.value (Go.Operand.func 45), args := #[Go.Operand.tmp 84], argTypes := #[4] }, type := 9, pos := "ref.go:156", after := #[{ on := 22, ground := Go.Ground.data }, { on := 19, ground := Go.Ground.chain }], guard := none }) rfl (fun K hK => ?_) (AllReadyH.nil)
      go_simp
      go_at_call 45
      refine (HP5.out _).mono ?_
      rintro e wx ⟨rfl, hb2⟩
      refine hK.out _ _ (bthen hHeld hb2 (Nat.le_refl _)) (fun hHeld2 => ?_)
      clear hK K hHeld hb2
      have hHeld := hHeld2
      clear hHeld2
      try simp only [Act.put, List.setIfInBounds_toArray, List.set_cons_zero, List.set_cons_succ]
      refine wpAnyH_take (i := 24) (oi := { dst := some 86, op := Go.Op.binOp Go.BinOp.add 9 (Go.Operand.tmp 82) (Go.Operand.tmp 85) 9, type := 9, pos := "ref.go:156", after := #[{ on := 20, ground := Go.Ground.data }, { on := 23, ground := Go.Ground.data }], guard := none }) (v := ?_) rfl (by kernel_rfl) (by kernel_rfl) (by kernel_rfl) (fun _ _ _ h => h) (Or.inl ⟨by rfl, ?_⟩) (by assumption) ?_
      rotate_left 1
      · intro wS hSw; (try dsimp only at hSw); go_simp; (try rw [if_neg (by first | omega | (simp [ByteArray.size_append]; omega))]); try with_reducible rfl
      try simp only [Act.put, List.setIfInBounds_toArray, List.set_cons_zero, List.set_cons_succ]
      refine wpAnyH_take (i := 25) (oi := { dst := some 2, op := Go.Op.assign (Go.Operand.tmp 86), type := 9, pos := "ref.go:156", after := #[{ on := 24, ground := Go.Ground.data }, { on := 23, ground := Go.Ground.chain }, { on := 0, ground := Go.Ground.phase }, { on := 1, ground := Go.Ground.phase }, { on := 2, ground := Go.Ground.phase }, { on := 3, ground := Go.Ground.phase }, { on := 4, ground := Go.Ground.phase }, { on := 5, ground := Go.Ground.phase }, { on := 6, ground := Go.Ground.phase }, { on := 7, ground := Go.Ground.phase }, { on := 8, ground := Go.Ground.phase }, { on := 9, ground := Go.Ground.phase }, { on := 10, ground := Go.Ground.phase }, { on := 11, ground := Go.Ground.phase }, { on := 12, ground := Go.Ground.phase }, { on := 13, ground := Go.Ground.phase }, { on := 14, ground := Go.Ground.phase }, { on := 15, ground := Go.Ground.phase }, { on := 16, ground := Go.Ground.phase }, { on := 17, ground := Go.Ground.phase }, { on := 18, ground := Go.Ground.phase }, { on := 19, ground := Go.Ground.phase }, { on := 20, ground := Go.Ground.phase }, { on := 21, ground := Go.Ground.phase }, { on := 22, ground := Go.Ground.phase }, { on := 23, ground := Go.Ground.phase }, { on := 24, ground := Go.Ground.phase }], guard := none }) (v := ?_) rfl (by kernel_rfl) (by kernel_rfl) (by kernel_rfl) (fun _ _ _ h => h) (Or.inl ⟨by rfl, ?_⟩) (by assumption) ?_
      rotate_left 1
      · intro wS hSw; (try dsimp only at hSw); go_simp; (try rw [if_neg (by first | omega | (simp [ByteArray.size_append]; omega))]); try with_reducible rfl
      try simp only [Act.put, List.setIfInBounds_toArray, List.set_cons_zero, List.set_cons_succ]
      refine wpAnyH_done (by kernel_rfl) ?_ _
      have hZ := hHeld
      clear hHeld
      have HB9 := Lib.hid (bthen HBN.out hZ (Nat.le_refl _))
      clear hZ
      rw [HSM.out]
      go_wp2_with fail
      go_ret
      exact ⟨rfl, HB9.out⟩
    · have HEV := Lib.hid (De.enc_5 hk)
      have hl := De.bdc_len (x := x.bind) (by rw [← De.body_5 hk]; exact HC0.out.2.2)
      have c0 : wc.cell? ⟨w.heap.size, 0, none⟩ = some (.int .u8 5) := by have q := HX.out.p.cs 0 _ rfl; rw [hk] at q; exact q
      have cl := HX.out.p.lt
      have e0 : (ofL (De.E1 x)).size ≤ 100 := by rw [ofL_size]; unfold De.E1; rw [List.length_append, Oct.length_be, Oct.length_be]; omega
      have l3 : (Hd.henc x.bind.want).length ≤ 1000 := by have := (hfine_of hl.2.2.2).pre x.bind.want.length; rw [hpre_all (Nat.le_refl _)] at this; exact this
      have HP0 := Lib.hid (fun W => hrtext_l x.bind.shop W (by have := hl.1; omega))
      have t0 : (ofL (Oct.text x.bind.shop)).size ≤ 1000 := by rw [ofL_size]; unfold Oct.text; rw [List.length_append, Oct.length_be]; have := hl.1; omega
      have HP1 := Lib.hid (fun W => hrtext_l x.bind.to W (by have := hl.2.1; omega))
      have t1 : (ofL (Oct.text x.bind.to)).size ≤ 1000 := by rw [ofL_size]; unfold Oct.text; rw [List.length_append, Oct.length_be]; have := hl.2.1; omega
      have HP2 := Lib.hid (fun W => r22bit_any x.bind.up W)
      have t2 : (ofL (Oct.be 1 (bitN x.bind.up))).size ≤ 1000 := by rw [ofL_size]; rw [Oct.length_be]; omega
      have HP3 := Lib.hid (fun W => hrtext_l x.bind.key W (by have := hl.2.2.1; omega))
      have t3 : (ofL (Oct.text x.bind.key)).size ≤ 1000 := by rw [ofL_size]; unfold Oct.text; rw [List.length_append, Oct.length_be]; have := hl.2.2.1; omega
      have HP4 := Lib.hid (fun W (q1 : Prs W A x.bind.want) => rbytes9_any x.bind.want A c W hl.2.2.2 q1)
      have t4 : (ofL (Hd.henc x.bind.want)).size ≤ 1000 := by rw [ofL_size]; omega
      have HP5 := Lib.hid (fun W => r22bit_any x.bind.all W)
      have t5 : (ofL (Oct.be 1 (bitN x.bind.all))).size ≤ 1000 := by rw [ofL_size]; rw [Oct.length_be]; omega
      have HSM := Lib.hid (show ofL (De.E1 x) ++ ofL (Oct.text x.bind.shop) ++ ofL (Oct.text x.bind.to) ++ ofL (Oct.be 1 (bitN x.bind.up)) ++ ofL (Oct.text x.bind.key) ++ ofL (Hd.henc x.bind.want) ++ ofL (Oct.be 1 (bitN x.bind.all)) = ofL x.enc by rw [HEV.out]; unfold bdE; rw [ofL_app, ofL_app, ofL_app, ofL_app, ofL_app, ofL_app]; rfl)
      clear hk hl l3
      generalize ofL (De.E1 x) = E0 at *
      generalize ofL (Oct.text x.bind.shop) = P0 at *
      generalize ofL (Oct.text x.bind.to) = P1 at *
      generalize ofL (Oct.be 1 (bitN x.bind.up)) = P2 at *
      generalize ofL (Oct.text x.bind.key) = P3 at *
      generalize ofL (Hd.henc x.bind.want) = P4 at *
      generalize ofL (Oct.be 1 (bitN x.bind.all)) = P5 at *
      have HXB := Lib.hid (BoxC.new (w := w) (W := wc) HB.out.size #[.string (ofL x.bind.shop), .string (ofL x.bind.to), .bool x.bind.up, .string (ofL x.bind.key), .slice A x.bind.want.length c, .bool x.bind.all] 38)
      have HBN := Lib.hid (bthen HB.out (rtOne wc (.cells #[.string (ofL x.bind.shop), .string (ofL x.bind.to), .bool x.bind.up, .string (ofL x.bind.key), .slice A x.bind.want.length c, .bool x.bind.all] 38)) (Nat.le_refl _))
      have HRN := Lib.hid (HX.out.ra.on (rtOne wc (.cells #[.string (ofL x.bind.shop), .string (ofL x.bind.to), .bool x.bind.up, .string (ofL x.bind.key), .slice A x.bind.want.length c, .bool x.bind.all] 38)))
      have c9 := HX.out.p.cs 9 _ rfl
      have c10 := HX.out.p.cs 10 _ rfl
      have c11 := HX.out.p.cs 11 _ rfl
      have c12 := HX.out.p.cs 12 _ rfl
      have c13 := HX.out.p.cs 13 _ rfl
      have c14 := HX.out.p.cs 14 _ rfl
      go_upto_region 10 with fail
      generalize wc.alloc (.cells #[.string (ofL x.bind.shop), .string (ofL x.bind.to), .bool x.bind.up, .string (ofL x.bind.key), .slice A x.bind.want.length c, .bool x.bind.all] 38) = wd at *
      clear c0 cl c9 c10 c11 c12 c13 c14
      have c0 := HXB.out.cs 0 _ rfl
      have c1 := HXB.out.cs 1 _ rfl
      have c2 := HXB.out.cs 2 _ rfl
      have c3 := HXB.out.cs 3 _ rfl
      have c4 := HXB.out.cs 4 _ rfl
      have c5 := HXB.out.cs 5 _ rfl
      have cl := HXB.out.lt
      refine wp_region_held_drew (S := fun a => Below (wd.heap.size) wd a) (by kernel_rfl) (by (try dsimp only); exact (Below.refl _ _).drew) (fun hHeld => ?_)
      refine wpAnyH_take (i := 0) (oi := { dst := some 62, op := Go.Op.move (Go.Operand.tmp 3), type := 9, pos := "ref.go:156", after := #[], guard := none }) (v := ?_) rfl (by kernel_rfl) (by kernel_rfl) (by kernel_rfl) (fun _ _ _ h => h) (Or.inl ⟨by rfl, ?_⟩) (by assumption) ?_
      rotate_left 1
      · intro wS hSw; (try dsimp only at hSw); go_simp; (try rw [if_neg (by first | omega | (simp [ByteArray.size_append]; omega))]); try with_reducible rfl
      try simp only [Act.put, List.setIfInBounds_toArray, List.set_cons_zero, List.set_cons_succ]
      refine wpAnyH_take (i := 1) (oi := { dst := some 63, op := Go.Op.fieldAddr 38 (Go.Operand.tmp 4) 0, type := 0, pos := "ref.go:156", after := #[], guard := none }) (v := ?_) rfl (by kernel_rfl) (by kernel_rfl) (by kernel_rfl) (fun _ _ _ h => h) (Or.inl ⟨by rfl, ?_⟩) (by assumption) ?_
      rotate_left 1
      · intro wS hSw; (try dsimp only at hSw); go_simp; (try rw [if_neg (by first | omega | (simp [ByteArray.size_append]; omega))]); try with_reducible rfl
      try simp only [Act.put, List.setIfInBounds_toArray, List.set_cons_zero, List.set_cons_succ]
      refine wpAnyH_take (i := 2) (oi := { dst := some 64, op := Go.Op.load 9 (Go.Operand.tmp 63), type := 9, pos := "ref.go:156", after := #[{ on := 1, ground := Go.Ground.data }], guard := none }) (v := ?_) rfl (by kernel_rfl) (by kernel_rfl) (by kernel_rfl) (fun _ _ _ h => h) (Or.inl ⟨by rfl, ?_⟩) (by assumption) ?_
      rotate_left 1
      · intro wS hSw; (try dsimp only at hSw); have c0 := cell_on hSw c0; have c1 := cell_on hSw c1; have c2 := cell_on hSw c2; have c3 := cell_on hSw c3; have c4 := cell_on hSw c4; have c5 := cell_on hSw c5; go_simp; (try rw [if_neg (by first | omega | (simp [ByteArray.size_append]; omega))]); try with_reducible rfl
      try simp only [Act.put, List.setIfInBounds_toArray, List.set_cons_zero, List.set_cons_succ]
      refine wpAnyH_take (i := 5) (oi := { dst := some 67, op := Go.Op.fieldAddr 38 (Go.Operand.tmp 4) 1, type := 0, pos := "ref.go:156", after := #[], guard := none }) (v := ?_) rfl (by kernel_rfl) (by kernel_rfl) (by kernel_rfl) (fun _ _ _ h => h) (Or.inl ⟨by rfl, ?_⟩) (by assumption) ?_
      rotate_left 1
      · intro wS hSw; (try dsimp only at hSw); go_simp; (try rw [if_neg (by first | omega | (simp [ByteArray.size_append]; omega))]); try with_reducible rfl
      try simp only [Act.put, List.setIfInBounds_toArray, List.set_cons_zero, List.set_cons_succ]
      refine wpAnyH_take (i := 6) (oi := { dst := some 68, op := Go.Op.load 9 (Go.Operand.tmp 67), type := 9, pos := "ref.go:156", after := #[{ on := 5, ground := Go.Ground.data }], guard := none }) (v := ?_) rfl (by kernel_rfl) (by kernel_rfl) (by kernel_rfl) (fun _ _ _ h => h) (Or.inl ⟨by rfl, ?_⟩) (by assumption) ?_
      rotate_left 1
      · intro wS hSw; (try dsimp only at hSw); have c0 := cell_on hSw c0; have c1 := cell_on hSw c1; have c2 := cell_on hSw c2; have c3 := cell_on hSw c3; have c4 := cell_on hSw c4; have c5 := cell_on hSw c5; go_simp; (try rw [if_neg (by first | omega | (simp [ByteArray.size_append]; omega))]); try with_reducible rfl
      try simp only [Act.put, List.setIfInBounds_toArray, List.set_cons_zero, List.set_cons_succ]
      refine wpAnyH_take (i := 9) (oi := { dst := some 71, op := Go.Op.fieldAddr 38 (Go.Operand.tmp 4) 2, type := 0, pos := "ref.go:156", after := #[], guard := none }) (v := ?_) rfl (by kernel_rfl) (by kernel_rfl) (by kernel_rfl) (fun _ _ _ h => h) (Or.inl ⟨by rfl, ?_⟩) (by assumption) ?_
      rotate_left 1
      · intro wS hSw; (try dsimp only at hSw); go_simp; (try rw [if_neg (by first | omega | (simp [ByteArray.size_append]; omega))]); try with_reducible rfl
      try simp only [Act.put, List.setIfInBounds_toArray, List.set_cons_zero, List.set_cons_succ]
      refine wpAnyH_take (i := 10) (oi := { dst := some 72, op := Go.Op.load 4 (Go.Operand.tmp 71), type := 4, pos := "ref.go:156", after := #[{ on := 9, ground := Go.Ground.data }], guard := none }) (v := ?_) rfl (by kernel_rfl) (by kernel_rfl) (by kernel_rfl) (fun _ _ _ h => h) (Or.inl ⟨by rfl, ?_⟩) (by assumption) ?_
      rotate_left 1
      · intro wS hSw; (try dsimp only at hSw); have c0 := cell_on hSw c0; have c1 := cell_on hSw c1; have c2 := cell_on hSw c2; have c3 := cell_on hSw c3; have c4 := cell_on hSw c4; have c5 := cell_on hSw c5; go_simp; (try rw [if_neg (by first | omega | (simp [ByteArray.size_append]; omega))]); try with_reducible rfl
      try simp only [Act.put, List.setIfInBounds_toArray, List.set_cons_zero, List.set_cons_succ]
      refine wpAnyH_take (i := 13) (oi := { dst := some 75, op := Go.Op.fieldAddr 38 (Go.Operand.tmp 4) 3, type := 0, pos := "ref.go:156", after := #[], guard := none }) (v := ?_) rfl (by kernel_rfl) (by kernel_rfl) (by kernel_rfl) (fun _ _ _ h => h) (Or.inl ⟨by rfl, ?_⟩) (by assumption) ?_
      rotate_left 1
      · intro wS hSw; (try dsimp only at hSw); go_simp; (try rw [if_neg (by first | omega | (simp [ByteArray.size_append]; omega))]); try with_reducible rfl
      try simp only [Act.put, List.setIfInBounds_toArray, List.set_cons_zero, List.set_cons_succ]
      refine wpAnyH_take (i := 14) (oi := { dst := some 76, op := Go.Op.load 9 (Go.Operand.tmp 75), type := 9, pos := "ref.go:156", after := #[{ on := 13, ground := Go.Ground.data }], guard := none }) (v := ?_) rfl (by kernel_rfl) (by kernel_rfl) (by kernel_rfl) (fun _ _ _ h => h) (Or.inl ⟨by rfl, ?_⟩) (by assumption) ?_
      rotate_left 1
      · intro wS hSw; (try dsimp only at hSw); have c0 := cell_on hSw c0; have c1 := cell_on hSw c1; have c2 := cell_on hSw c2; have c3 := cell_on hSw c3; have c4 := cell_on hSw c4; have c5 := cell_on hSw c5; go_simp; (try rw [if_neg (by first | omega | (simp [ByteArray.size_append]; omega))]); try with_reducible rfl
      try simp only [Act.put, List.setIfInBounds_toArray, List.set_cons_zero, List.set_cons_succ]
      refine wpAnyH_take (i := 17) (oi := { dst := some 79, op := Go.Op.fieldAddr 38 (Go.Operand.tmp 4) 4, type := 0, pos := "ref.go:156", after := #[], guard := none }) (v := ?_) rfl (by kernel_rfl) (by kernel_rfl) (by kernel_rfl) (fun _ _ _ h => h) (Or.inl ⟨by rfl, ?_⟩) (by assumption) ?_
      rotate_left 1
      · intro wS hSw; (try dsimp only at hSw); go_simp; (try rw [if_neg (by first | omega | (simp [ByteArray.size_append]; omega))]); try with_reducible rfl
      try simp only [Act.put, List.setIfInBounds_toArray, List.set_cons_zero, List.set_cons_succ]
      refine wpAnyH_take (i := 18) (oi := { dst := some 80, op := Go.Op.load 27 (Go.Operand.tmp 79), type := 27, pos := "ref.go:156", after := #[{ on := 17, ground := Go.Ground.data }], guard := none }) (v := ?_) rfl (by kernel_rfl) (by kernel_rfl) (by kernel_rfl) (fun _ _ _ h => h) (Or.inl ⟨by rfl, ?_⟩) (by assumption) ?_
      rotate_left 1
      · intro wS hSw; (try dsimp only at hSw); have c0 := cell_on hSw c0; have c1 := cell_on hSw c1; have c2 := cell_on hSw c2; have c3 := cell_on hSw c3; have c4 := cell_on hSw c4; have c5 := cell_on hSw c5; go_simp; (try rw [if_neg (by first | omega | (simp [ByteArray.size_append]; omega))]); try with_reducible rfl
      try simp only [Act.put, List.setIfInBounds_toArray, List.set_cons_zero, List.set_cons_succ]
      refine wpAnyH_take (i := 21) (oi := { dst := some 83, op := Go.Op.fieldAddr 38 (Go.Operand.tmp 4) 5, type := 0, pos := "ref.go:156", after := #[], guard := none }) (v := ?_) rfl (by kernel_rfl) (by kernel_rfl) (by kernel_rfl) (fun _ _ _ h => h) (Or.inl ⟨by rfl, ?_⟩) (by assumption) ?_
      rotate_left 1
      · intro wS hSw; (try dsimp only at hSw); go_simp; (try rw [if_neg (by first | omega | (simp [ByteArray.size_append]; omega))]); try with_reducible rfl
      try simp only [Act.put, List.setIfInBounds_toArray, List.set_cons_zero, List.set_cons_succ]
      refine wpAnyH_take (i := 22) (oi := { dst := some 84, op := Go.Op.load 4 (Go.Operand.tmp 83), type := 4, pos := "ref.go:156", after := #[{ on := 21, ground := Go.Ground.data }], guard := none }) (v := ?_) rfl (by kernel_rfl) (by kernel_rfl) (by kernel_rfl) (fun _ _ _ h => h) (Or.inl ⟨by rfl, ?_⟩) (by assumption) ?_
      rotate_left 1
      · intro wS hSw; (try dsimp only at hSw); have c0 := cell_on hSw c0; have c1 := cell_on hSw c1; have c2 := cell_on hSw c2; have c3 := cell_on hSw c3; have c4 := cell_on hSw c4; have c5 := cell_on hSw c5; go_simp; (try rw [if_neg (by first | omega | (simp [ByteArray.size_append]; omega))]); try with_reducible rfl
      try simp only [Act.put, List.setIfInBounds_toArray, List.set_cons_zero, List.set_cons_succ]
      refine wpAnyH_ready (rs := [3]) (by kernel_rfl) (by simp) ?_
      refine AllReadyH.cons (o := { dst := some 65, op := Go.Op.call { callee := Go.Callee.value (Go.Operand.func 44), args := #[Go.Operand.tmp 64], argTypes := #[9] }, type := 9, pos := "ref.go:156", after := #[{ on := 2, ground := Go.Ground.data }], guard := none }) rfl (fun K hK => ?_) (AllReadyH.nil)
      go_simp
      go_at_call 44
      refine (HP0.out _).mono ?_
      rintro e wx ⟨rfl, hb2⟩
      refine hK.out _ _ (bthen hHeld hb2 (Nat.le_refl _)) (fun hHeld2 => ?_)
      clear hK K hHeld hb2
      have hHeld := hHeld2
      clear hHeld2
      try simp only [Act.put, List.setIfInBounds_toArray, List.set_cons_zero, List.set_cons_succ]
      refine wpAnyH_take (i := 4) (oi := { dst := some 66, op := Go.Op.binOp Go.BinOp.add 9 (Go.Operand.tmp 62) (Go.Operand.tmp 65) 9, type := 9, pos := "ref.go:156", after := #[{ on := 0, ground := Go.Ground.data }, { on := 3, ground := Go.Ground.data }], guard := none }) (v := ?_) rfl (by kernel_rfl) (by kernel_rfl) (by kernel_rfl) (fun _ _ _ h => h) (Or.inl ⟨by rfl, ?_⟩) (by assumption) ?_
      rotate_left 1
      · intro wS hSw; (try dsimp only at hSw); go_simp; (try rw [if_neg (by first | omega | (simp [ByteArray.size_append]; omega))]); try with_reducible rfl
      try simp only [Act.put, List.setIfInBounds_toArray, List.set_cons_zero, List.set_cons_succ]
      refine wpAnyH_ready (rs := [7]) (by kernel_rfl) (by simp) ?_
      refine AllReadyH.cons (o := { dst := some 69, op := Go.Op.call { callee := Go.Callee.value (Go.Operand.func 44), args := #[Go.Operand.tmp 68], argTypes := #[9] }, type := 9, pos := "ref.go:156", after := #[{ on := 6, ground := Go.Ground.data }, { on := 3, ground := Go.Ground.chain }], guard := none }) rfl (fun K hK => ?_) (AllReadyH.nil)
      go_simp
      go_at_call 44
      refine (HP1.out _).mono ?_
      rintro e wx ⟨rfl, hb2⟩
      refine hK.out _ _ (bthen hHeld hb2 (Nat.le_refl _)) (fun hHeld2 => ?_)
      clear hK K hHeld hb2
      have hHeld := hHeld2
      clear hHeld2
      try simp only [Act.put, List.setIfInBounds_toArray, List.set_cons_zero, List.set_cons_succ]
      refine wpAnyH_take (i := 8) (oi := { dst := some 70, op := Go.Op.binOp Go.BinOp.add 9 (Go.Operand.tmp 66) (Go.Operand.tmp 69) 9, type := 9, pos := "ref.go:156", after := #[{ on := 4, ground := Go.Ground.data }, { on := 7, ground := Go.Ground.data }], guard := none }) (v := ?_) rfl (by kernel_rfl) (by kernel_rfl) (by kernel_rfl) (fun _ _ _ h => h) (Or.inl ⟨by rfl, ?_⟩) (by assumption) ?_
      rotate_left 1
      · intro wS hSw; (try dsimp only at hSw); go_simp; (try rw [if_neg (by first | omega | (simp [ByteArray.size_append]; omega))]); try with_reducible rfl
      try simp only [Act.put, List.setIfInBounds_toArray, List.set_cons_zero, List.set_cons_succ]
      refine wpAnyH_ready (rs := [11]) (by kernel_rfl) (by simp) ?_
      refine AllReadyH.cons (o := { dst := some 73, op := Go.Op.call { callee := Go.Callee.value (Go.Operand.func 45), args := #[Go.Operand.tmp 72], argTypes := #[4] }, type := 9, pos := "ref.go:156", after := #[{ on := 10, ground := Go.Ground.data }, { on := 7, ground := Go.Ground.chain }], guard := none }) rfl (fun K hK => ?_) (AllReadyH.nil)
      go_simp
      go_at_call 45
      refine (HP2.out _).mono ?_
      rintro e wx ⟨rfl, hb2⟩
      refine hK.out _ _ (bthen hHeld hb2 (Nat.le_refl _)) (fun hHeld2 => ?_)
      clear hK K hHeld hb2
      have hHeld := hHeld2
      clear hHeld2
      try simp only [Act.put, List.setIfInBounds_toArray, List.set_cons_zero, List.set_cons_succ]
      refine wpAnyH_take (i := 12) (oi := { dst := some 74, op := Go.Op.binOp Go.BinOp.add 9 (Go.Operand.tmp 70) (Go.Operand.tmp 73) 9, type := 9, pos := "ref.go:156", after := #[{ on := 8, ground := Go.Ground.data }, { on := 11, ground := Go.Ground.data }], guard := none }) (v := ?_) rfl (by kernel_rfl) (by kernel_rfl) (by kernel_rfl) (fun _ _ _ h => h) (Or.inl ⟨by rfl, ?_⟩) (by assumption) ?_
      rotate_left 1
      · intro wS hSw; (try dsimp only at hSw); go_simp; (try rw [if_neg (by first | omega | (simp [ByteArray.size_append]; omega))]); try with_reducible rfl
      try simp only [Act.put, List.setIfInBounds_toArray, List.set_cons_zero, List.set_cons_succ]
      refine wpAnyH_ready (rs := [15]) (by kernel_rfl) (by simp) ?_
      refine AllReadyH.cons (o := { dst := some 77, op := Go.Op.call { callee := Go.Callee.value (Go.Operand.func 44), args := #[Go.Operand.tmp 76], argTypes := #[9] }, type := 9, pos := "ref.go:156", after := #[{ on := 14, ground := Go.Ground.data }, { on := 11, ground := Go.Ground.chain }], guard := none }) rfl (fun K hK => ?_) (AllReadyH.nil)
      go_simp
      go_at_call 44
      refine (HP3.out _).mono ?_
      rintro e wx ⟨rfl, hb2⟩
      refine hK.out _ _ (bthen hHeld hb2 (Nat.le_refl _)) (fun hHeld2 => ?_)
      clear hK K hHeld hb2
      have hHeld := hHeld2
      clear hHeld2
      try simp only [Act.put, List.setIfInBounds_toArray, List.set_cons_zero, List.set_cons_succ]
      refine wpAnyH_take (i := 16) (oi := { dst := some 78, op := Go.Op.binOp Go.BinOp.add 9 (Go.Operand.tmp 74) (Go.Operand.tmp 77) 9, type := 9, pos := "ref.go:156", after := #[{ on := 12, ground := Go.Ground.data }, { on := 15, ground := Go.Ground.data }], guard := none }) (v := ?_) rfl (by kernel_rfl) (by kernel_rfl) (by kernel_rfl) (fun _ _ _ h => h) (Or.inl ⟨by rfl, ?_⟩) (by assumption) ?_
      rotate_left 1
      · intro wS hSw; (try dsimp only at hSw); go_simp; (try rw [if_neg (by first | omega | (simp [ByteArray.size_append]; omega))]); try with_reducible rfl
      try simp only [Act.put, List.setIfInBounds_toArray, List.set_cons_zero, List.set_cons_succ]
      refine wpAnyH_ready (rs := [19]) (by kernel_rfl) (by simp) ?_
      refine AllReadyH.cons (o := { dst := some 81, op := Go.Op.call { callee := Go.Callee.value (Go.Operand.func 46), args := #[Go.Operand.tmp 80], argTypes := #[27] }, type := 9, pos := "ref.go:156", after := #[{ on := 18, ground := Go.Ground.data }, { on := 15, ground := Go.Ground.chain }], guard := none }) rfl (fun K hK => ?_) (AllReadyH.nil)
      go_simp
      go_at_call 46
      refine (HP4.out _ (HRN.out.on hHeld)).mono ?_
      rintro e wx ⟨rfl, hb2⟩
      refine hK.out _ _ (bthen hHeld hb2 (Nat.le_refl _)) (fun hHeld2 => ?_)
      clear hK K hHeld hb2
      have hHeld := hHeld2
      clear hHeld2
      try simp only [Act.put, List.setIfInBounds_toArray, List.set_cons_zero, List.set_cons_succ]
      refine wpAnyH_take (i := 20) (oi := { dst := some 82, op := Go.Op.binOp Go.BinOp.add 9 (Go.Operand.tmp 78) (Go.Operand.tmp 81) 9, type := 9, pos := "ref.go:156", after := #[{ on := 16, ground := Go.Ground.data }, { on := 19, ground := Go.Ground.data }], guard := none }) (v := ?_) rfl (by kernel_rfl) (by kernel_rfl) (by kernel_rfl) (fun _ _ _ h => h) (Or.inl ⟨by rfl, ?_⟩) (by assumption) ?_
      rotate_left 1
      · intro wS hSw; (try dsimp only at hSw); go_simp; (try rw [if_neg (by first | omega | (simp [ByteArray.size_append]; omega))]); try with_reducible rfl
      try simp only [Act.put, List.setIfInBounds_toArray, List.set_cons_zero, List.set_cons_succ]
      refine wpAnyH_ready (rs := [23]) (by kernel_rfl) (by simp) ?_
      refine AllReadyH.cons (o := { dst := some 85, op := Go.Op.call { callee := Go.Callee.value (Go.Operand.func 45), args := #[Go.Operand.tmp 84], argTypes := #[4] }, type := 9, pos := "ref.go:156", after := #[{ on := 22, ground := Go.Ground.data }, { on := 19, ground := Go.Ground.chain }], guard := none }) rfl (fun K hK => ?_) (AllReadyH.nil)
      go_simp
      go_at_call 45
      refine (HP5.out _).mono ?_
      rintro e wx ⟨rfl, hb2⟩
      refine hK.out _ _ (bthen hHeld hb2 (Nat.le_refl _)) (fun hHeld2 => ?_)
      clear hK K hHeld hb2
      have hHeld := hHeld2
      clear hHeld2
      try simp only [Act.put, List.setIfInBounds_toArray, List.set_cons_zero, List.set_cons_succ]
      refine wpAnyH_take (i := 24) (oi := { dst := some 86, op := Go.Op.binOp Go.BinOp.add 9 (Go.Operand.tmp 82) (Go.Operand.tmp 85) 9, type := 9, pos := "ref.go:156", after := #[{ on := 20, ground := Go.Ground.data }, { on := 23, ground := Go.Ground.data }], guard := none }) (v := ?_) rfl (by kernel_rfl) (by kernel_rfl) (by kernel_rfl) (fun _ _ _ h => h) (Or.inl ⟨by rfl, ?_⟩) (by assumption) ?_
      rotate_left 1
      · intro wS hSw; (try dsimp only at hSw); go_simp; (try rw [if_neg (by first | omega | (simp [ByteArray.size_append]; omega))]); try with_reducible rfl
      try simp only [Act.put, List.setIfInBounds_toArray, List.set_cons_zero, List.set_cons_succ]
      refine wpAnyH_take (i := 25) (oi := { dst := some 2, op := Go.Op.assign (Go.Operand.tmp 86), type := 9, pos := "ref.go:156", after := #[{ on := 24, ground := Go.Ground.data }, { on := 23, ground := Go.Ground.chain }, { on := 0, ground := Go.Ground.phase }, { on := 1, ground := Go.Ground.phase }, { on := 2, ground := Go.Ground.phase }, { on := 3, ground := Go.Ground.phase }, { on := 4, ground := Go.Ground.phase }, { on := 5, ground := Go.Ground.phase }, { on := 6, ground := Go.Ground.phase }, { on := 7, ground := Go.Ground.phase }, { on := 8, ground := Go.Ground.phase }, { on := 9, ground := Go.Ground.phase }, { on := 10, ground := Go.Ground.phase }, { on := 11, ground := Go.Ground.phase }, { on := 12, ground := Go.Ground.phase }, { on := 13, ground := Go.Ground.phase }, { on := 14, ground := Go.Ground.phase }, { on := 15, ground := Go.Ground.phase }, { on := 16, ground := Go.Ground.phase }, { on := 17, ground := Go.Ground.phase }, { on := 18, ground := Go.Ground.phase }, { on := 19, ground := Go.Ground.phase }, { on := 20, ground := Go.Ground.phase }, { on := 21, ground := Go.Ground.phase }, { on := 22, ground := Go.Ground.phase }, { on := 23, ground := Go.Ground.phase }, { on := 24, ground := Go.Ground.phase }], guard := none }) (v := ?_) rfl (by kernel_rfl) (by kernel_rfl) (by kernel_rfl) (fun _ _ _ h => h) (Or.inl ⟨by rfl, ?_⟩) (by assumption) ?_
      rotate_left 1
      · intro wS hSw; (try dsimp only at hSw); go_simp; (try rw [if_neg (by first | omega | (simp [ByteArray.size_append]; omega))]); try with_reducible rfl
      try simp only [Act.put, List.setIfInBounds_toArray, List.set_cons_zero, List.set_cons_succ]
      refine wpAnyH_done (by kernel_rfl) ?_ _
      have hZ := hHeld
      clear hHeld
      have HB9 := Lib.hid (bthen HBN.out hZ (Nat.le_refl _))
      clear hZ
      rw [HSM.out]
      go_wp2_with fail
      go_ret
      exact ⟨rfl, HB9.out⟩
    · have HEV := Lib.hid (De.enc_6 hk)
      have hc : x.mail.code = 0 := by rw [← De.body_6 hk]; exact HC0.out.2.2
      have hl := De.mail_len hc
      have c0 : wc.cell? ⟨w.heap.size, 0, none⟩ = some (.int .u8 6) := by have q := HX.out.p.cs 0 _ rfl; rw [hk] at q; exact q
      have cl := HX.out.p.lt
      have e0 : (ofL (De.E1 x)).size ≤ 100 := by rw [ofL_size]; unfold De.E1; rw [List.length_append, Oct.length_be, Oct.length_be]; omega
      have HP0 := Lib.hid (fun W (q1 : Prs W B x.mail.head) => r13Bytes_any x.mail B d W q1 HF.out.mail hc)
      have t0 : (ofL x.mail.enc).size ≤ 3000 := by rw [ofL_size]; omega
      have HSM := Lib.hid (show ofL (De.E1 x) ++ ofL x.mail.enc = ofL x.enc by rw [HEV.out]; rw [ofL_app]; all_goals rfl)
      clear hk hl hc
      generalize ofL (De.E1 x) = E0 at *
      generalize ofL x.mail.enc = P0 at *
      simp only [maV] at *
      have c21 := HX.out.p.cs 21 _ rfl
      have c22 := HX.out.p.cs 22 _ rfl
      have c23 := HX.out.p.cs 23 _ rfl
      have c24 := HX.out.p.cs 24 _ rfl
      have c25 := HX.out.p.cs 25 _ rfl
      have c26 := HX.out.p.cs 26 _ rfl
      have c27 := HX.out.p.cs 27 _ rfl
      have hcat : ¬ (9223372036854775807 < E0.size + P0.size) := by omega
      go_wp2_with fail
      refine (HP0.out _ HX.out.rb).mono ?_
      rintro e w5 ⟨rfl, b5⟩
      have HB5 := Lib.hid (bthen HB.out b5 (Nat.le_refl _))
      clear b5
      go_wp2_with fail
      go_ret
      exact ⟨by rw [HSM.out]; rfl, HB5.out⟩
    · have HEV := Lib.hid (De.enc_7 hk)
      have hl : x.name.length ≤ 16 := (Hd.name_ok_len (by rw [← De.body_7 hk]; exact HC0.out.2.2)).1
      have c0 : wc.cell? ⟨w.heap.size, 0, none⟩ = some (.int .u8 7) := by have q := HX.out.p.cs 0 _ rfl; rw [hk] at q; exact q
      have cl := HX.out.p.lt
      have e0 : (ofL (De.E1 x)).size ≤ 100 := by rw [ofL_size]; unfold De.E1; rw [List.length_append, Oct.length_be, Oct.length_be]; omega
      have HP0 := Lib.hid (fun W => hrtext_l x.name W (by omega))
      have t0 : (ofL (Oct.text x.name)).size ≤ 300 := by rw [ofL_size]; unfold Oct.text; rw [List.length_append, Oct.length_be]; omega
      have HSM := Lib.hid (show ofL (De.E1 x) ++ ofL (Oct.text x.name) = ofL x.enc by rw [HEV.out]; rw [ofL_app]; all_goals rfl)
      clear hk hl
      generalize ofL (De.E1 x) = E0 at *
      generalize ofL (Oct.text x.name) = P0 at *
      have c15 := HX.out.p.cs 15 _ rfl
      have hcat : ¬ (9223372036854775807 < E0.size + P0.size) := by omega
      go_wp2_with fail
      refine (HP0.out _).mono ?_
      rintro e w5 ⟨rfl, b5⟩
      have HB5 := Lib.hid (bthen HB.out b5 (Nat.le_refl _))
      clear b5
      go_wp2_with fail
      go_ret
      exact ⟨by rw [HSM.out]; rfl, HB5.out⟩
    · have HEV := Lib.hid (De.enc_8 hk)
      have hl := De.stc_len (x := x) (by rw [← De.body_8 hk]; exact HC0.out.2.2)
      have c0 : wc.cell? ⟨w.heap.size, 0, none⟩ = some (.int .u8 8) := by have q := HX.out.p.cs 0 _ rfl; rw [hk] at q; exact q
      have cl := HX.out.p.lt
      have e0 : (ofL (De.E1 x)).size ≤ 100 := by rw [ofL_size]; unfold De.E1; rw [List.length_append, Oct.length_be, Oct.length_be]; omega
      have HP0 := Lib.hid (fun W => hrtext_l x.name W (by omega))
      have t0 : (ofL (Oct.text x.name)).size ≤ 300 := by rw [ofL_size]; unfold Oct.text; rw [List.length_append, Oct.length_be]; omega
      have HP1 := Lib.hid (fun W => hrnum_l x.id 8 8 W HF.out.id (by omega) rfl)
      have t1 : (ofL (Oct.be 8 x.id)).size ≤ 300 := by rw [ofL_size, Oct.length_be]; omega
      have HP2 := Lib.hid (fun W => hrnum_l x.how 1 1 W (by have := HF.out.how; omega) (by omega) rfl)
      have t2 : (ofL (Oct.be 1 x.how)).size ≤ 300 := by rw [ofL_size, Oct.length_be]; omega
      have hw11 : IntKind.u64.wrap (x.how : Int) = (x.how : Int) := by rw [IntKind.wrap_u64]; have := HF.out.how; omega
      have HSM := Lib.hid (show ofL (De.E1 x) ++ ofL (Oct.text x.name) ++ ofL (Oct.be 8 x.id) ++ ofL (Oct.be 1 x.how) = ofL x.enc by rw [HEV.out]; rw [ofL_app, ofL_app, ofL_app]; all_goals rfl)
      clear hk hl
      generalize ofL (De.E1 x) = E0 at *
      generalize ofL (Oct.text x.name) = P0 at *
      generalize ofL (Oct.be 8 x.id) = P1 at *
      generalize ofL (Oct.be 1 x.how) = P2 at *
      have c15 := HX.out.p.cs 15 _ rfl
      have c16 := HX.out.p.cs 16 _ rfl
      have c17 := HX.out.p.cs 17 _ rfl
      go_upto_region 14 with fail
      refine wp_region_held_drew (S := fun a => Below (wc.heap.size) wc a) (by kernel_rfl) (by (try dsimp only); exact (Below.refl _ _).drew) (fun hHeld => ?_)
      refine wpAnyH_take (i := 0) (oi := { dst := some 96, op := Go.Op.move (Go.Operand.tmp 3), type := 9, pos := "ref.go:160", after := #[], guard := none }) (v := ?_) rfl (by kernel_rfl) (by kernel_rfl) (by kernel_rfl) (fun _ _ _ h => h) (Or.inl ⟨by rfl, ?_⟩) (by assumption) ?_
      rotate_left 1
      · intro wS hSw; (try dsimp only at hSw); go_simp; (try rw [if_neg (by first | omega | (simp [ByteArray.size_append]; omega))]); try with_reducible rfl
      try simp only [Act.put, List.setIfInBounds_toArray, List.set_cons_zero, List.set_cons_succ]
      refine wpAnyH_take (i := 1) (oi := { dst := some 97, op := Go.Op.fieldAddr 40 (Go.Operand.tmp 1) 5, type := 0, pos := "ref.go:160", after := #[], guard := none }) (v := ?_) rfl (by kernel_rfl) (by kernel_rfl) (by kernel_rfl) (fun _ _ _ h => h) (Or.inl ⟨by rfl, ?_⟩) (by assumption) ?_
      rotate_left 1
      · intro wS hSw; (try dsimp only at hSw); go_simp; (try rw [if_neg (by first | omega | (simp [ByteArray.size_append]; omega))]); try with_reducible rfl
      try simp only [Act.put, List.setIfInBounds_toArray, List.set_cons_zero, List.set_cons_succ]
      refine wpAnyH_take (i := 2) (oi := { dst := some 98, op := Go.Op.load 9 (Go.Operand.tmp 97), type := 9, pos := "ref.go:160", after := #[{ on := 1, ground := Go.Ground.data }], guard := none }) (v := ?_) rfl (by kernel_rfl) (by kernel_rfl) (by kernel_rfl) (fun _ _ _ h => h) (Or.inl ⟨by rfl, ?_⟩) (by assumption) ?_
      rotate_left 1
      · intro wS hSw; (try dsimp only at hSw); have c15 := cell_on hSw c15; have c16 := cell_on hSw c16; have c17 := cell_on hSw c17; go_simp; (try rw [if_neg (by first | omega | (simp [ByteArray.size_append]; omega))]); try with_reducible rfl
      try simp only [Act.put, List.setIfInBounds_toArray, List.set_cons_zero, List.set_cons_succ]
      refine wpAnyH_take (i := 5) (oi := { dst := some 101, op := Go.Op.fieldAddr 40 (Go.Operand.tmp 1) 6, type := 0, pos := "ref.go:160", after := #[], guard := none }) (v := ?_) rfl (by kernel_rfl) (by kernel_rfl) (by kernel_rfl) (fun _ _ _ h => h) (Or.inl ⟨by rfl, ?_⟩) (by assumption) ?_
      rotate_left 1
      · intro wS hSw; (try dsimp only at hSw); go_simp; (try rw [if_neg (by first | omega | (simp [ByteArray.size_append]; omega))]); try with_reducible rfl
      try simp only [Act.put, List.setIfInBounds_toArray, List.set_cons_zero, List.set_cons_succ]
      refine wpAnyH_take (i := 6) (oi := { dst := some 102, op := Go.Op.load 22 (Go.Operand.tmp 101), type := 22, pos := "ref.go:160", after := #[{ on := 5, ground := Go.Ground.data }], guard := none }) (v := ?_) rfl (by kernel_rfl) (by kernel_rfl) (by kernel_rfl) (fun _ _ _ h => h) (Or.inl ⟨by rfl, ?_⟩) (by assumption) ?_
      rotate_left 1
      · intro wS hSw; (try dsimp only at hSw); have c15 := cell_on hSw c15; have c16 := cell_on hSw c16; have c17 := cell_on hSw c17; go_simp; (try rw [if_neg (by first | omega | (simp [ByteArray.size_append]; omega))]); try with_reducible rfl
      try simp only [Act.put, List.setIfInBounds_toArray, List.set_cons_zero, List.set_cons_succ]
      refine wpAnyH_take (i := 9) (oi := { dst := some 105, op := Go.Op.fieldAddr 40 (Go.Operand.tmp 1) 7, type := 0, pos := "ref.go:160", after := #[], guard := none }) (v := ?_) rfl (by kernel_rfl) (by kernel_rfl) (by kernel_rfl) (fun _ _ _ h => h) (Or.inl ⟨by rfl, ?_⟩) (by assumption) ?_
      rotate_left 1
      · intro wS hSw; (try dsimp only at hSw); go_simp; (try rw [if_neg (by first | omega | (simp [ByteArray.size_append]; omega))]); try with_reducible rfl
      try simp only [Act.put, List.setIfInBounds_toArray, List.set_cons_zero, List.set_cons_succ]
      refine wpAnyH_take (i := 10) (oi := { dst := some 106, op := Go.Op.load 5 (Go.Operand.tmp 105), type := 5, pos := "ref.go:160", after := #[{ on := 9, ground := Go.Ground.data }], guard := none }) (v := ?_) rfl (by kernel_rfl) (by kernel_rfl) (by kernel_rfl) (fun _ _ _ h => h) (Or.inl ⟨by rfl, ?_⟩) (by assumption) ?_
      rotate_left 1
      · intro wS hSw; (try dsimp only at hSw); have c15 := cell_on hSw c15; have c16 := cell_on hSw c16; have c17 := cell_on hSw c17; go_simp; (try rw [if_neg (by first | omega | (simp [ByteArray.size_append]; omega))]); try with_reducible rfl
      try simp only [Act.put, List.setIfInBounds_toArray, List.set_cons_zero, List.set_cons_succ]
      refine wpAnyH_take (i := 11) (oi := { dst := some 107, op := Go.Op.convert 5 22 (Go.Operand.tmp 106), type := 22, pos := "ref.go:160", after := #[{ on := 10, ground := Go.Ground.data }], guard := none }) (v := ?_) rfl (by kernel_rfl) (by kernel_rfl) (by kernel_rfl) (fun _ _ _ h => h) (Or.inl ⟨by rfl, ?_⟩) (by assumption) ?_
      rotate_left 1
      · intro wS hSw; (try dsimp only at hSw); go_simp; (try rw [if_neg (by first | omega | (simp [ByteArray.size_append]; omega))]); try with_reducible rfl
      try simp only [Act.put, List.setIfInBounds_toArray, List.set_cons_zero, List.set_cons_succ]
      refine wpAnyH_ready (rs := [3]) (by kernel_rfl) (by simp) ?_
      refine AllReadyH.cons (o := { dst := some 99, op := Go.Op.call { callee := Go.Callee.value (Go.Operand.func 44), args := #[Go.Operand.tmp 98], argTypes := #[9] }, type := 9, pos := "ref.go:160", after := #[{ on := 2, ground := Go.Ground.data }], guard := none }) rfl (fun K hK => ?_) (AllReadyH.nil)
      go_simp
      go_at_call 44
      refine (HP0.out _).mono ?_
      rintro e wx ⟨rfl, hb2⟩
      refine hK.out _ _ (bthen hHeld hb2 (Nat.le_refl _)) (fun hHeld2 => ?_)
      clear hK K hHeld hb2
      have hHeld := hHeld2
      clear hHeld2
      try simp only [Act.put, List.setIfInBounds_toArray, List.set_cons_zero, List.set_cons_succ]
      refine wpAnyH_take (i := 4) (oi := { dst := some 100, op := Go.Op.binOp Go.BinOp.add 9 (Go.Operand.tmp 96) (Go.Operand.tmp 99) 9, type := 9, pos := "ref.go:160", after := #[{ on := 0, ground := Go.Ground.data }, { on := 3, ground := Go.Ground.data }], guard := none }) (v := ?_) rfl (by kernel_rfl) (by kernel_rfl) (by kernel_rfl) (fun _ _ _ h => h) (Or.inl ⟨by rfl, ?_⟩) (by assumption) ?_
      rotate_left 1
      · intro wS hSw; (try dsimp only at hSw); go_simp; (try rw [if_neg (by first | omega | (simp [ByteArray.size_append]; omega))]); try with_reducible rfl
      try simp only [Act.put, List.setIfInBounds_toArray, List.set_cons_zero, List.set_cons_succ]
      refine wpAnyH_ready (rs := [7]) (by kernel_rfl) (by simp) ?_
      refine AllReadyH.cons (o := { dst := some 103, op := Go.Op.call { callee := Go.Callee.value (Go.Operand.func 43), args := #[Go.Operand.tmp 102, Go.Operand.const (Go.Value.int Go.IntKind.i64 8)], argTypes := #[22, 3] }, type := 9, pos := "ref.go:160", after := #[{ on := 6, ground := Go.Ground.data }, { on := 3, ground := Go.Ground.chain }], guard := none }) rfl (fun K hK => ?_) (AllReadyH.nil)
      go_simp
      go_at_call 43
      refine (HP1.out _).mono ?_
      rintro e wx ⟨rfl, hb2⟩
      refine hK.out _ _ (bthen hHeld hb2 (Nat.le_refl _)) (fun hHeld2 => ?_)
      clear hK K hHeld hb2
      have hHeld := hHeld2
      clear hHeld2
      try simp only [Act.put, List.setIfInBounds_toArray, List.set_cons_zero, List.set_cons_succ]
      refine wpAnyH_take (i := 8) (oi := { dst := some 104, op := Go.Op.binOp Go.BinOp.add 9 (Go.Operand.tmp 100) (Go.Operand.tmp 103) 9, type := 9, pos := "ref.go:160", after := #[{ on := 4, ground := Go.Ground.data }, { on := 7, ground := Go.Ground.data }], guard := none }) (v := ?_) rfl (by kernel_rfl) (by kernel_rfl) (by kernel_rfl) (fun _ _ _ h => h) (Or.inl ⟨by rfl, ?_⟩) (by assumption) ?_
      rotate_left 1
      · intro wS hSw; (try dsimp only at hSw); go_simp; (try rw [if_neg (by first | omega | (simp [ByteArray.size_append]; omega))]); try with_reducible rfl
      try simp only [Act.put, List.setIfInBounds_toArray, List.set_cons_zero, List.set_cons_succ]
      refine wpAnyH_ready (rs := [12]) (by kernel_rfl) (by simp) ?_
      refine AllReadyH.cons (o := { dst := some 108, op := Go.Op.call { callee := Go.Callee.value (Go.Operand.func 43), args := #[Go.Operand.tmp 107, Go.Operand.const (Go.Value.int Go.IntKind.i64 1)], argTypes := #[22, 3] }, type := 9, pos := "ref.go:160", after := #[{ on := 11, ground := Go.Ground.data }, { on := 7, ground := Go.Ground.chain }], guard := none }) rfl (fun K hK => ?_) (AllReadyH.nil)
      go_simp
      go_at_call 43
      refine (HP2.out _).mono ?_
      rintro e wx ⟨rfl, hb2⟩
      refine hK.out _ _ (bthen hHeld hb2 (Nat.le_refl _)) (fun hHeld2 => ?_)
      clear hK K hHeld hb2
      have hHeld := hHeld2
      clear hHeld2
      try simp only [Act.put, List.setIfInBounds_toArray, List.set_cons_zero, List.set_cons_succ]
      refine wpAnyH_take (i := 13) (oi := { dst := some 109, op := Go.Op.binOp Go.BinOp.add 9 (Go.Operand.tmp 104) (Go.Operand.tmp 108) 9, type := 9, pos := "ref.go:160", after := #[{ on := 8, ground := Go.Ground.data }, { on := 12, ground := Go.Ground.data }], guard := none }) (v := ?_) rfl (by kernel_rfl) (by kernel_rfl) (by kernel_rfl) (fun _ _ _ h => h) (Or.inl ⟨by rfl, ?_⟩) (by assumption) ?_
      rotate_left 1
      · intro wS hSw; (try dsimp only at hSw); go_simp; (try rw [if_neg (by first | omega | (simp [ByteArray.size_append]; omega))]); try with_reducible rfl
      try simp only [Act.put, List.setIfInBounds_toArray, List.set_cons_zero, List.set_cons_succ]
      refine wpAnyH_take (i := 14) (oi := { dst := some 2, op := Go.Op.assign (Go.Operand.tmp 109), type := 9, pos := "ref.go:160", after := #[{ on := 13, ground := Go.Ground.data }, { on := 12, ground := Go.Ground.chain }, { on := 0, ground := Go.Ground.phase }, { on := 1, ground := Go.Ground.phase }, { on := 2, ground := Go.Ground.phase }, { on := 3, ground := Go.Ground.phase }, { on := 4, ground := Go.Ground.phase }, { on := 5, ground := Go.Ground.phase }, { on := 6, ground := Go.Ground.phase }, { on := 7, ground := Go.Ground.phase }, { on := 8, ground := Go.Ground.phase }, { on := 9, ground := Go.Ground.phase }, { on := 10, ground := Go.Ground.phase }, { on := 11, ground := Go.Ground.phase }, { on := 12, ground := Go.Ground.phase }, { on := 13, ground := Go.Ground.phase }], guard := none }) (v := ?_) rfl (by kernel_rfl) (by kernel_rfl) (by kernel_rfl) (fun _ _ _ h => h) (Or.inl ⟨by rfl, ?_⟩) (by assumption) ?_
      rotate_left 1
      · intro wS hSw; (try dsimp only at hSw); go_simp; (try rw [if_neg (by first | omega | (simp [ByteArray.size_append]; omega))]); try with_reducible rfl
      try simp only [Act.put, List.setIfInBounds_toArray, List.set_cons_zero, List.set_cons_succ]
      refine wpAnyH_done (by kernel_rfl) ?_ _
      have hZ := hHeld
      clear hHeld
      have HB9 := Lib.hid (bthen HB.out hZ (Nat.le_refl _))
      clear hZ
      rw [HSM.out]
      go_wp2_with fail
      go_ret
      exact ⟨rfl, HB9.out⟩
    · have HEV := Lib.hid (De.enc_9 hk)
      have c0 : wc.cell? ⟨w.heap.size, 0, none⟩ = some (.int .u8 9) := by have q := HX.out.p.cs 0 _ rfl; rw [hk] at q; exact q
      have cl := HX.out.p.lt
      have HSM := Lib.hid (show ofL (De.E1 x) = ofL x.enc by rw [HEV.out])
      clear hk
      generalize ofL (De.E1 x) = E0 at *
      go_wp2_with fail
      go_ret
      exact ⟨by rw [HSM.out]; rfl, HB.out⟩
    · have HEV := Lib.hid (De.enc_10 hk)
      have hc : x.mail.code = 0 := by rw [← De.body_10 hk]; exact HC0.out.2.2
      have hl := De.mail_len hc
      have c0 : wc.cell? ⟨w.heap.size, 0, none⟩ = some (.int .u8 10) := by have q := HX.out.p.cs 0 _ rfl; rw [hk] at q; exact q
      have cl := HX.out.p.lt
      have e0 : (ofL (De.E1 x)).size ≤ 100 := by rw [ofL_size]; unfold De.E1; rw [List.length_append, Oct.length_be, Oct.length_be]; omega
      have HP0 := Lib.hid (fun W => hrnum_l x.frm 1 1 W (by have := HF.out.frm; omega) (by omega) rfl)
      have t0 : (ofL (Oct.be 1 x.frm)).size ≤ 300 := by rw [ofL_size, Oct.length_be]; omega
      have HP1 := Lib.hid (fun W => hrnum_l x.num 8 8 W HF.out.num (by omega) rfl)
      have t1 : (ofL (Oct.be 8 x.num)).size ≤ 300 := by rw [ofL_size, Oct.length_be]; omega
      have HP2 := Lib.hid (fun W (q1 : Prs W B x.mail.head) => r13Bytes_any x.mail B d W q1 HF.out.mail hc)
      have t2 : (ofL x.mail.enc).size ≤ 3000 := by rw [ofL_size]; omega
      have hw3 : IntKind.u64.wrap (x.frm : Int) = (x.frm : Int) := by rw [IntKind.wrap_u64]; have := HF.out.frm; omega
      have HSM := Lib.hid (show ofL (De.E1 x) ++ ofL (Oct.be 1 x.frm) ++ ofL (Oct.be 8 x.num) ++ ofL x.mail.enc = ofL x.enc by rw [HEV.out]; rw [ofL_app, ofL_app, ofL_app]; all_goals rfl)
      clear hk hl hc
      generalize ofL (De.E1 x) = E0 at *
      generalize ofL (Oct.be 1 x.frm) = P0 at *
      generalize ofL (Oct.be 8 x.num) = P1 at *
      generalize ofL x.mail.enc = P2 at *
      simp only [maV] at *
      have c18 := HX.out.p.cs 18 _ rfl
      have c20 := HX.out.p.cs 20 _ rfl
      have c21 := HX.out.p.cs 21 _ rfl
      have c22 := HX.out.p.cs 22 _ rfl
      have c23 := HX.out.p.cs 23 _ rfl
      have c24 := HX.out.p.cs 24 _ rfl
      have c25 := HX.out.p.cs 25 _ rfl
      have c26 := HX.out.p.cs 26 _ rfl
      have c27 := HX.out.p.cs 27 _ rfl
      go_upto_region 19 with fail
      refine wp_region_held_drew (S := fun a => Below (wc.heap.size) wc a) (by kernel_rfl) (by (try dsimp only); exact (Below.refl _ _).drew) (fun hHeld => ?_)
      refine wpAnyH_take (i := 0) (oi := { dst := some 116, op := Go.Op.move (Go.Operand.tmp 3), type := 9, pos := "ref.go:164", after := #[], guard := none }) (v := ?_) rfl (by kernel_rfl) (by kernel_rfl) (by kernel_rfl) (fun _ _ _ h => h) (Or.inl ⟨by rfl, ?_⟩) (by assumption) ?_
      rotate_left 1
      · intro wS hSw; (try dsimp only at hSw); go_simp; (try rw [if_neg (by first | omega | (simp [ByteArray.size_append]; omega))]); try with_reducible rfl
      try simp only [Act.put, List.setIfInBounds_toArray, List.set_cons_zero, List.set_cons_succ]
      refine wpAnyH_take (i := 1) (oi := { dst := some 117, op := Go.Op.fieldAddr 40 (Go.Operand.tmp 1) 8, type := 0, pos := "ref.go:164", after := #[], guard := none }) (v := ?_) rfl (by kernel_rfl) (by kernel_rfl) (by kernel_rfl) (fun _ _ _ h => h) (Or.inl ⟨by rfl, ?_⟩) (by assumption) ?_
      rotate_left 1
      · intro wS hSw; (try dsimp only at hSw); go_simp; (try rw [if_neg (by first | omega | (simp [ByteArray.size_append]; omega))]); try with_reducible rfl
      try simp only [Act.put, List.setIfInBounds_toArray, List.set_cons_zero, List.set_cons_succ]
      refine wpAnyH_take (i := 2) (oi := { dst := some 118, op := Go.Op.load 5 (Go.Operand.tmp 117), type := 5, pos := "ref.go:164", after := #[{ on := 1, ground := Go.Ground.data }], guard := none }) (v := ?_) rfl (by kernel_rfl) (by kernel_rfl) (by kernel_rfl) (fun _ _ _ h => h) (Or.inl ⟨by rfl, ?_⟩) (by assumption) ?_
      rotate_left 1
      · intro wS hSw; (try dsimp only at hSw); have c18 := cell_on hSw c18; have c20 := cell_on hSw c20; have c21 := cell_on hSw c21; have c22 := cell_on hSw c22; have c23 := cell_on hSw c23; have c24 := cell_on hSw c24; have c25 := cell_on hSw c25; have c26 := cell_on hSw c26; have c27 := cell_on hSw c27; go_simp; (try rw [if_neg (by first | omega | (simp [ByteArray.size_append]; omega))]); try with_reducible rfl
      try simp only [Act.put, List.setIfInBounds_toArray, List.set_cons_zero, List.set_cons_succ]
      refine wpAnyH_take (i := 3) (oi := { dst := some 119, op := Go.Op.convert 5 22 (Go.Operand.tmp 118), type := 22, pos := "ref.go:164", after := #[{ on := 2, ground := Go.Ground.data }], guard := none }) (v := ?_) rfl (by kernel_rfl) (by kernel_rfl) (by kernel_rfl) (fun _ _ _ h => h) (Or.inl ⟨by rfl, ?_⟩) (by assumption) ?_
      rotate_left 1
      · intro wS hSw; (try dsimp only at hSw); go_simp; (try rw [if_neg (by first | omega | (simp [ByteArray.size_append]; omega))]); try with_reducible rfl
      try simp only [Act.put, List.setIfInBounds_toArray, List.set_cons_zero, List.set_cons_succ]
      refine wpAnyH_take (i := 6) (oi := { dst := some 122, op := Go.Op.fieldAddr 40 (Go.Operand.tmp 1) 10, type := 0, pos := "ref.go:164", after := #[], guard := none }) (v := ?_) rfl (by kernel_rfl) (by kernel_rfl) (by kernel_rfl) (fun _ _ _ h => h) (Or.inl ⟨by rfl, ?_⟩) (by assumption) ?_
      rotate_left 1
      · intro wS hSw; (try dsimp only at hSw); go_simp; (try rw [if_neg (by first | omega | (simp [ByteArray.size_append]; omega))]); try with_reducible rfl
      try simp only [Act.put, List.setIfInBounds_toArray, List.set_cons_zero, List.set_cons_succ]
      refine wpAnyH_take (i := 7) (oi := { dst := some 123, op := Go.Op.load 22 (Go.Operand.tmp 122), type := 22, pos := "ref.go:164", after := #[{ on := 6, ground := Go.Ground.data }], guard := none }) (v := ?_) rfl (by kernel_rfl) (by kernel_rfl) (by kernel_rfl) (fun _ _ _ h => h) (Or.inl ⟨by rfl, ?_⟩) (by assumption) ?_
      rotate_left 1
      · intro wS hSw; (try dsimp only at hSw); have c18 := cell_on hSw c18; have c20 := cell_on hSw c20; have c21 := cell_on hSw c21; have c22 := cell_on hSw c22; have c23 := cell_on hSw c23; have c24 := cell_on hSw c24; have c25 := cell_on hSw c25; have c26 := cell_on hSw c26; have c27 := cell_on hSw c27; go_simp; (try rw [if_neg (by first | omega | (simp [ByteArray.size_append]; omega))]); try with_reducible rfl
      try simp only [Act.put, List.setIfInBounds_toArray, List.set_cons_zero, List.set_cons_succ]
      refine wpAnyH_take (i := 10) (oi := { dst := some 126, op := Go.Op.fieldAddr 40 (Go.Operand.tmp 1) 11, type := 0, pos := "ref.go:164", after := #[], guard := none }) (v := ?_) rfl (by kernel_rfl) (by kernel_rfl) (by kernel_rfl) (fun _ _ _ h => h) (Or.inl ⟨by rfl, ?_⟩) (by assumption) ?_
      rotate_left 1
      · intro wS hSw; (try dsimp only at hSw); go_simp; (try rw [if_neg (by first | omega | (simp [ByteArray.size_append]; omega))]); try with_reducible rfl
      try simp only [Act.put, List.setIfInBounds_toArray, List.set_cons_zero, List.set_cons_succ]
      refine wpAnyH_take (i := 11) (oi := { dst := some 127, op := Go.Op.load 31 (Go.Operand.tmp 126), type := 31, pos := "ref.go:164", after := #[{ on := 10, ground := Go.Ground.data }], guard := none }) (v := ?_) rfl (by kernel_rfl) (by kernel_rfl) (by kernel_rfl) (fun _ _ _ h => h) (Or.inl ⟨by rfl, ?_⟩) (by assumption) ?_
      rotate_left 1
      · intro wS hSw; (try dsimp only at hSw); have c18 := cell_on hSw c18; have c20 := cell_on hSw c20; have c21 := cell_on hSw c21; have c22 := cell_on hSw c22; have c23 := cell_on hSw c23; have c24 := cell_on hSw c24; have c25 := cell_on hSw c25; have c26 := cell_on hSw c26; have c27 := cell_on hSw c27; go_simp; (try rw [if_neg (by first | omega | (simp [ByteArray.size_append]; omega))]); try with_reducible rfl
      try simp only [Act.put, List.setIfInBounds_toArray, List.set_cons_zero, List.set_cons_succ]
      refine wpAnyH_ready (rs := [4]) (by kernel_rfl) (by simp) ?_
      refine AllReadyH.cons (o := { dst := some 120, op := Go.Op.call { callee := Go.Callee.value (Go.Operand.func 43), args := #[Go.Operand.tmp 119, Go.Operand.const (Go.Value.int Go.IntKind.i64 1)], argTypes := #[22, 3] }, type := 9, pos := "ref.go:164", after := #[{ on := 3, ground := Go.Ground.data }], guard := none }) rfl (fun K hK => ?_) (AllReadyH.nil)
      go_simp
      go_at_call 43
      refine (HP0.out _).mono ?_
      rintro e wx ⟨rfl, hb2⟩
      refine hK.out _ _ (bthen hHeld hb2 (Nat.le_refl _)) (fun hHeld2 => ?_)
      clear hK K hHeld hb2
      have hHeld := hHeld2
      clear hHeld2
      try simp only [Act.put, List.setIfInBounds_toArray, List.set_cons_zero, List.set_cons_succ]
      refine wpAnyH_take (i := 5) (oi := { dst := some 121, op := Go.Op.binOp Go.BinOp.add 9 (Go.Operand.tmp 116) (Go.Operand.tmp 120) 9, type := 9, pos := "ref.go:164", after := #[{ on := 0, ground := Go.Ground.data }, { on := 4, ground := Go.Ground.data }], guard := none }) (v := ?_) rfl (by kernel_rfl) (by kernel_rfl) (by kernel_rfl) (fun _ _ _ h => h) (Or.inl ⟨by rfl, ?_⟩) (by assumption) ?_
      rotate_left 1
      · intro wS hSw; (try dsimp only at hSw); go_simp; (try rw [if_neg (by first | omega | (simp [ByteArray.size_append]; omega))]); try with_reducible rfl
      try simp only [Act.put, List.setIfInBounds_toArray, List.set_cons_zero, List.set_cons_succ]
      refine wpAnyH_ready (rs := [8]) (by kernel_rfl) (by simp) ?_
      refine AllReadyH.cons (o := { dst := some 124, op := Go.Op.call { callee := Go.Callee.value (Go.Operand.func 43), args := #[Go.Operand.tmp 123, Go.Operand.const (Go.Value.int Go.IntKind.i64 8)], argTypes := #[22, 3] }, type := 9, pos := "ref.go:164", after := #[{ on := 7, ground := Go.Ground.data }, { on := 4, ground := Go.Ground.chain }], guard := none }) rfl (fun K hK => ?_) (AllReadyH.nil)
      go_simp
      go_at_call 43
      refine (HP1.out _).mono ?_
      rintro e wx ⟨rfl, hb2⟩
      refine hK.out _ _ (bthen hHeld hb2 (Nat.le_refl _)) (fun hHeld2 => ?_)
      clear hK K hHeld hb2
      have hHeld := hHeld2
      clear hHeld2
      try simp only [Act.put, List.setIfInBounds_toArray, List.set_cons_zero, List.set_cons_succ]
      refine wpAnyH_take (i := 9) (oi := { dst := some 125, op := Go.Op.binOp Go.BinOp.add 9 (Go.Operand.tmp 121) (Go.Operand.tmp 124) 9, type := 9, pos := "ref.go:164", after := #[{ on := 5, ground := Go.Ground.data }, { on := 8, ground := Go.Ground.data }], guard := none }) (v := ?_) rfl (by kernel_rfl) (by kernel_rfl) (by kernel_rfl) (fun _ _ _ h => h) (Or.inl ⟨by rfl, ?_⟩) (by assumption) ?_
      rotate_left 1
      · intro wS hSw; (try dsimp only at hSw); go_simp; (try rw [if_neg (by first | omega | (simp [ByteArray.size_append]; omega))]); try with_reducible rfl
      try simp only [Act.put, List.setIfInBounds_toArray, List.set_cons_zero, List.set_cons_succ]
      refine wpAnyH_ready (rs := [12]) (by kernel_rfl) (by simp) ?_
      refine AllReadyH.cons (o := { dst := some 128, op := Go.Op.call { callee := Go.Callee.value (Go.Operand.func 47), args := #[Go.Operand.tmp 127], argTypes := #[31] }, type := 9, pos := "ref.go:164", after := #[{ on := 11, ground := Go.Ground.data }, { on := 8, ground := Go.Ground.chain }], guard := none }) rfl (fun K hK => ?_) (AllReadyH.nil)
      go_simp
      go_at_call 47
      refine (HP2.out _ (HX.out.rb.on hHeld)).mono ?_
      rintro e wx ⟨rfl, hb2⟩
      refine hK.out _ _ (bthen hHeld hb2 (Nat.le_refl _)) (fun hHeld2 => ?_)
      clear hK K hHeld hb2
      have hHeld := hHeld2
      clear hHeld2
      try simp only [Act.put, List.setIfInBounds_toArray, List.set_cons_zero, List.set_cons_succ]
      refine wpAnyH_take (i := 13) (oi := { dst := some 129, op := Go.Op.binOp Go.BinOp.add 9 (Go.Operand.tmp 125) (Go.Operand.tmp 128) 9, type := 9, pos := "ref.go:164", after := #[{ on := 9, ground := Go.Ground.data }, { on := 12, ground := Go.Ground.data }], guard := none }) (v := ?_) rfl (by kernel_rfl) (by kernel_rfl) (by kernel_rfl) (fun _ _ _ h => h) (Or.inl ⟨by rfl, ?_⟩) (by assumption) ?_
      rotate_left 1
      · intro wS hSw; (try dsimp only at hSw); go_simp; (try rw [if_neg (by first | omega | (simp [ByteArray.size_append]; omega))]); try with_reducible rfl
      try simp only [Act.put, List.setIfInBounds_toArray, List.set_cons_zero, List.set_cons_succ]
      refine wpAnyH_take (i := 14) (oi := { dst := some 2, op := Go.Op.assign (Go.Operand.tmp 129), type := 9, pos := "ref.go:164", after := #[{ on := 13, ground := Go.Ground.data }, { on := 12, ground := Go.Ground.chain }, { on := 0, ground := Go.Ground.phase }, { on := 1, ground := Go.Ground.phase }, { on := 2, ground := Go.Ground.phase }, { on := 3, ground := Go.Ground.phase }, { on := 4, ground := Go.Ground.phase }, { on := 5, ground := Go.Ground.phase }, { on := 6, ground := Go.Ground.phase }, { on := 7, ground := Go.Ground.phase }, { on := 8, ground := Go.Ground.phase }, { on := 9, ground := Go.Ground.phase }, { on := 10, ground := Go.Ground.phase }, { on := 11, ground := Go.Ground.phase }, { on := 12, ground := Go.Ground.phase }, { on := 13, ground := Go.Ground.phase }], guard := none }) (v := ?_) rfl (by kernel_rfl) (by kernel_rfl) (by kernel_rfl) (fun _ _ _ h => h) (Or.inl ⟨by rfl, ?_⟩) (by assumption) ?_
      rotate_left 1
      · intro wS hSw; (try dsimp only at hSw); go_simp; (try rw [if_neg (by first | omega | (simp [ByteArray.size_append]; omega))]); try with_reducible rfl
      try simp only [Act.put, List.setIfInBounds_toArray, List.set_cons_zero, List.set_cons_succ]
      refine wpAnyH_done (by kernel_rfl) ?_ _
      have hZ := hHeld
      clear hHeld
      have HB9 := Lib.hid (bthen HB.out hZ (Nat.le_refl _))
      clear hZ
      rw [HSM.out]
      go_wp2_with fail
      go_ret
      exact ⟨rfl, HB9.out⟩
    · have HEV := Lib.hid (De.enc_11 hk)
      have c0 : wc.cell? ⟨w.heap.size, 0, none⟩ = some (.int .u8 11) := by have q := HX.out.p.cs 0 _ rfl; rw [hk] at q; exact q
      have cl := HX.out.p.lt
      have HSM := Lib.hid (show ofL (De.E1 x) = ofL x.enc by rw [HEV.out])
      clear hk
      generalize ofL (De.E1 x) = E0 at *
      go_wp2_with fail
      go_ret
      exact ⟨by rw [HSM.out]; rfl, HB.out⟩
    · have HEV := Lib.hid (De.enc_12 hk)
      have hl : x.text.length ≤ 64 := by have g := HC0.out.2.2; rw [De.body_12 hk] at g; by_cases e : 64 < x.text.length; (rw [if_pos e] at g; omega); omega
      have c0 : wc.cell? ⟨w.heap.size, 0, none⟩ = some (.int .u8 12) := by have q := HX.out.p.cs 0 _ rfl; rw [hk] at q; exact q
      have cl := HX.out.p.lt
      have e0 : (ofL (De.E1 x)).size ≤ 100 := by rw [ofL_size]; unfold De.E1; rw [List.length_append, Oct.length_be, Oct.length_be]; omega
      have HP0 := Lib.hid (fun W => hrnum_l x.cd 1 1 W (by have := HF.out.cd; omega) (by omega) rfl)
      have t0 : (ofL (Oct.be 1 x.cd)).size ≤ 300 := by rw [ofL_size, Oct.length_be]; omega
      have HP1 := Lib.hid (fun W => hrtext_l x.text W (by omega))
      have t1 : (ofL (Oct.text x.text)).size ≤ 300 := by rw [ofL_size]; unfold Oct.text; rw [List.length_append, Oct.length_be]; omega
      have hw3 : IntKind.u64.wrap (x.cd : Int) = (x.cd : Int) := by rw [IntKind.wrap_u64]; have := HF.out.cd; omega
      have HSM := Lib.hid (show ofL (De.E1 x) ++ ofL (Oct.be 1 x.cd) ++ ofL (Oct.text x.text) = ofL x.enc by rw [HEV.out]; rw [ofL_app, ofL_app]; all_goals rfl)
      clear hk hl
      generalize ofL (De.E1 x) = E0 at *
      generalize ofL (Oct.be 1 x.cd) = P0 at *
      generalize ofL (Oct.text x.text) = P1 at *
      have c19 := HX.out.p.cs 19 _ rfl
      have c28 := HX.out.p.cs 28 _ rfl
      go_upto_region 21 with fail
      refine wp_region_held_drew (S := fun a => Below (wc.heap.size) wc a) (by kernel_rfl) (by (try dsimp only); exact (Below.refl _ _).drew) (fun hHeld => ?_)
      refine wpAnyH_take (i := 0) (oi := { dst := some 132, op := Go.Op.move (Go.Operand.tmp 3), type := 9, pos := "ref.go:166", after := #[], guard := none }) (v := ?_) rfl (by kernel_rfl) (by kernel_rfl) (by kernel_rfl) (fun _ _ _ h => h) (Or.inl ⟨by rfl, ?_⟩) (by assumption) ?_
      rotate_left 1
      · intro wS hSw; (try dsimp only at hSw); go_simp; (try rw [if_neg (by first | omega | (simp [ByteArray.size_append]; omega))]); try with_reducible rfl
      try simp only [Act.put, List.setIfInBounds_toArray, List.set_cons_zero, List.set_cons_succ]
      refine wpAnyH_take (i := 1) (oi := { dst := some 133, op := Go.Op.fieldAddr 40 (Go.Operand.tmp 1) 9, type := 0, pos := "ref.go:166", after := #[], guard := none }) (v := ?_) rfl (by kernel_rfl) (by kernel_rfl) (by kernel_rfl) (fun _ _ _ h => h) (Or.inl ⟨by rfl, ?_⟩) (by assumption) ?_
      rotate_left 1
      · intro wS hSw; (try dsimp only at hSw); go_simp; (try rw [if_neg (by first | omega | (simp [ByteArray.size_append]; omega))]); try with_reducible rfl
      try simp only [Act.put, List.setIfInBounds_toArray, List.set_cons_zero, List.set_cons_succ]
      refine wpAnyH_take (i := 2) (oi := { dst := some 134, op := Go.Op.load 5 (Go.Operand.tmp 133), type := 5, pos := "ref.go:166", after := #[{ on := 1, ground := Go.Ground.data }], guard := none }) (v := ?_) rfl (by kernel_rfl) (by kernel_rfl) (by kernel_rfl) (fun _ _ _ h => h) (Or.inl ⟨by rfl, ?_⟩) (by assumption) ?_
      rotate_left 1
      · intro wS hSw; (try dsimp only at hSw); have c19 := cell_on hSw c19; have c28 := cell_on hSw c28; go_simp; (try rw [if_neg (by first | omega | (simp [ByteArray.size_append]; omega))]); try with_reducible rfl
      try simp only [Act.put, List.setIfInBounds_toArray, List.set_cons_zero, List.set_cons_succ]
      refine wpAnyH_take (i := 3) (oi := { dst := some 135, op := Go.Op.convert 5 22 (Go.Operand.tmp 134), type := 22, pos := "ref.go:166", after := #[{ on := 2, ground := Go.Ground.data }], guard := none }) (v := ?_) rfl (by kernel_rfl) (by kernel_rfl) (by kernel_rfl) (fun _ _ _ h => h) (Or.inl ⟨by rfl, ?_⟩) (by assumption) ?_
      rotate_left 1
      · intro wS hSw; (try dsimp only at hSw); go_simp; (try rw [if_neg (by first | omega | (simp [ByteArray.size_append]; omega))]); try with_reducible rfl
      try simp only [Act.put, List.setIfInBounds_toArray, List.set_cons_zero, List.set_cons_succ]
      refine wpAnyH_take (i := 6) (oi := { dst := some 138, op := Go.Op.fieldAddr 40 (Go.Operand.tmp 1) 12, type := 0, pos := "ref.go:166", after := #[], guard := none }) (v := ?_) rfl (by kernel_rfl) (by kernel_rfl) (by kernel_rfl) (fun _ _ _ h => h) (Or.inl ⟨by rfl, ?_⟩) (by assumption) ?_
      rotate_left 1
      · intro wS hSw; (try dsimp only at hSw); go_simp; (try rw [if_neg (by first | omega | (simp [ByteArray.size_append]; omega))]); try with_reducible rfl
      try simp only [Act.put, List.setIfInBounds_toArray, List.set_cons_zero, List.set_cons_succ]
      refine wpAnyH_take (i := 7) (oi := { dst := some 139, op := Go.Op.load 9 (Go.Operand.tmp 138), type := 9, pos := "ref.go:166", after := #[{ on := 6, ground := Go.Ground.data }], guard := none }) (v := ?_) rfl (by kernel_rfl) (by kernel_rfl) (by kernel_rfl) (fun _ _ _ h => h) (Or.inl ⟨by rfl, ?_⟩) (by assumption) ?_
      rotate_left 1
      · intro wS hSw; (try dsimp only at hSw); have c19 := cell_on hSw c19; have c28 := cell_on hSw c28; go_simp; (try rw [if_neg (by first | omega | (simp [ByteArray.size_append]; omega))]); try with_reducible rfl
      try simp only [Act.put, List.setIfInBounds_toArray, List.set_cons_zero, List.set_cons_succ]
      refine wpAnyH_ready (rs := [4]) (by kernel_rfl) (by simp) ?_
      refine AllReadyH.cons (o := { dst := some 136, op := Go.Op.call { callee := Go.Callee.value (Go.Operand.func 43), args := #[Go.Operand.tmp 135, Go.Operand.const (Go.Value.int Go.IntKind.i64 1)], argTypes := #[22, 3] }, type := 9, pos := "ref.go:166", after := #[{ on := 3, ground := Go.Ground.data }], guard := none }) rfl (fun K hK => ?_) (AllReadyH.nil)
      go_simp
      go_at_call 43
      refine (HP0.out _).mono ?_
      rintro e wx ⟨rfl, hb2⟩
      refine hK.out _ _ (bthen hHeld hb2 (Nat.le_refl _)) (fun hHeld2 => ?_)
      clear hK K hHeld hb2
      have hHeld := hHeld2
      clear hHeld2
      try simp only [Act.put, List.setIfInBounds_toArray, List.set_cons_zero, List.set_cons_succ]
      refine wpAnyH_take (i := 5) (oi := { dst := some 137, op := Go.Op.binOp Go.BinOp.add 9 (Go.Operand.tmp 132) (Go.Operand.tmp 136) 9, type := 9, pos := "ref.go:166", after := #[{ on := 0, ground := Go.Ground.data }, { on := 4, ground := Go.Ground.data }], guard := none }) (v := ?_) rfl (by kernel_rfl) (by kernel_rfl) (by kernel_rfl) (fun _ _ _ h => h) (Or.inl ⟨by rfl, ?_⟩) (by assumption) ?_
      rotate_left 1
      · intro wS hSw; (try dsimp only at hSw); go_simp; (try rw [if_neg (by first | omega | (simp [ByteArray.size_append]; omega))]); try with_reducible rfl
      try simp only [Act.put, List.setIfInBounds_toArray, List.set_cons_zero, List.set_cons_succ]
      refine wpAnyH_ready (rs := [8]) (by kernel_rfl) (by simp) ?_
      refine AllReadyH.cons (o := { dst := some 140, op := Go.Op.call { callee := Go.Callee.value (Go.Operand.func 44), args := #[Go.Operand.tmp 139], argTypes := #[9] }, type := 9, pos := "ref.go:166", after := #[{ on := 7, ground := Go.Ground.data }, { on := 4, ground := Go.Ground.chain }], guard := none }) rfl (fun K hK => ?_) (AllReadyH.nil)
      go_simp
      go_at_call 44
      refine (HP1.out _).mono ?_
      rintro e wx ⟨rfl, hb2⟩
      refine hK.out _ _ (bthen hHeld hb2 (Nat.le_refl _)) (fun hHeld2 => ?_)
      clear hK K hHeld hb2
      have hHeld := hHeld2
      clear hHeld2
      try simp only [Act.put, List.setIfInBounds_toArray, List.set_cons_zero, List.set_cons_succ]
      refine wpAnyH_take (i := 9) (oi := { dst := some 141, op := Go.Op.binOp Go.BinOp.add 9 (Go.Operand.tmp 137) (Go.Operand.tmp 140) 9, type := 9, pos := "ref.go:166", after := #[{ on := 5, ground := Go.Ground.data }, { on := 8, ground := Go.Ground.data }], guard := none }) (v := ?_) rfl (by kernel_rfl) (by kernel_rfl) (by kernel_rfl) (fun _ _ _ h => h) (Or.inl ⟨by rfl, ?_⟩) (by assumption) ?_
      rotate_left 1
      · intro wS hSw; (try dsimp only at hSw); go_simp; (try rw [if_neg (by first | omega | (simp [ByteArray.size_append]; omega))]); try with_reducible rfl
      try simp only [Act.put, List.setIfInBounds_toArray, List.set_cons_zero, List.set_cons_succ]
      refine wpAnyH_take (i := 10) (oi := { dst := some 2, op := Go.Op.assign (Go.Operand.tmp 141), type := 9, pos := "ref.go:166", after := #[{ on := 9, ground := Go.Ground.data }, { on := 8, ground := Go.Ground.chain }, { on := 0, ground := Go.Ground.phase }, { on := 1, ground := Go.Ground.phase }, { on := 2, ground := Go.Ground.phase }, { on := 3, ground := Go.Ground.phase }, { on := 4, ground := Go.Ground.phase }, { on := 5, ground := Go.Ground.phase }, { on := 6, ground := Go.Ground.phase }, { on := 7, ground := Go.Ground.phase }, { on := 8, ground := Go.Ground.phase }, { on := 9, ground := Go.Ground.phase }], guard := none }) (v := ?_) rfl (by kernel_rfl) (by kernel_rfl) (by kernel_rfl) (fun _ _ _ h => h) (Or.inl ⟨by rfl, ?_⟩) (by assumption) ?_
      rotate_left 1
      · intro wS hSw; (try dsimp only at hSw); go_simp; (try rw [if_neg (by first | omega | (simp [ByteArray.size_append]; omega))]); try with_reducible rfl
      try simp only [Act.put, List.setIfInBounds_toArray, List.set_cons_zero, List.set_cons_succ]
      refine wpAnyH_done (by kernel_rfl) ?_ _
      have hZ := hHeld
      clear hHeld
      have HB9 := Lib.hid (bthen HB.out hZ (Nat.le_refl _))
      clear hZ
      rw [HSM.out]
      go_wp2_with fail
      go_ret
      exact ⟨rfl, HB9.out⟩
end Go.Proofs.YtgponfdcagnhhaaGreatDoor
end
