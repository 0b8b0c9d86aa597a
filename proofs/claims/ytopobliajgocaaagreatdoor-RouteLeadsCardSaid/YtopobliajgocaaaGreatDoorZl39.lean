/-
  TO WHICH QUEUES AND PLACES, the document's: walked.
-/
import Derived.Test.YtopobliajgocaaaGreatDoorZl38

section
namespace Go.Proofs.YtopobliajgocaaaGreatDoor
open Go.ChangeShapes Go.WideShapes Go.ChangeAt Go.RowKit
set_option maxRecDepth 100000 in
set_option maxHeartbeats 16000000 in
theorem r14Leads_any (b : Bk) (A : Option Addr) (c : Nat) (B : Option Addr) (d : Nat) (ps : List Bp) (n key : List UInt8) (h : List Hd.Pr) (Bh : Option Addr) (dh : Nat) (w : World) (hl : b.shops.length ≤ 1000) (hlb : b.binds.length ≤ 1000) (hs : ∀ s ∈ b.shops, s.sort ≤ 4) (hI : BkAt w A c B d b ps) (hk : key.length ≤ 90000) (hh : h.length ≤ 100000) (hp : Prs w Bh h) :
    Calls Tryz.prog 16 #[bkV A c B d b, .string (ofL n), .string (ofL key), .slice Bh h.length dh] w (LeadsPost (b.qs n key h) (b.pls n key h) (b.lcode n) w) := by
  obtain ⟨shops, binds⟩ := b
  dsimp only at hl hlb hs
  have hqs : Bk.qs ⟨shops, binds⟩ n key h = match Bk.shop ⟨shops, binds⟩ n with | none => [] | some s => if s.sort = 4 then [] else Bk.lead s false key h binds := rfl
  have hps : Bk.pls ⟨shops, binds⟩ n key h = match Bk.shop ⟨shops, binds⟩ n with | none => [] | some s => if s.sort = 4 then [s.to] else Bk.lead s true key h binds := rfl
  have hlc : Bk.lcode ⟨shops, binds⟩ n = if (Bk.shop ⟨shops, binds⟩ n).isSome then 0 else 10 := rfl
  have hf := find_idx (fun y : Sh => y.name == n) shops Bk.Sh0
  have hb0 := rtOne w (.cells #[.slice A shops.length c, .slice B binds.length d] 32)
  have HX0 := Lib.hid (rtAt0 w #[.slice A shops.length c, .slice B binds.length d] 32)
  have hF := r14Find_any ⟨shops, binds⟩ A c B d n _ (by show shops.length ≤ 100000; omega) (hI.shs.on hb0)
  have HB0 := Lib.hid hb0
  have HI0 := Lib.hid hI
  have HP0 := Lib.hid (hp.on hb0)
  have hml := hI.len
  dsimp only at hml hF
  have HML := Lib.hid hml
  have HRU := Lib.hid (fun s x Ax cx W => r14rule_any x Ax cx s W)
  have HGO := Lib.hid (fun s x Ax cx W hr hs hp => rGoes_any (bdRu s x) Ax cx key h Bh dh W hr hs hk hh hp)
  clear hI hp hb0 hml
  simp only [bkV] at hF ⊢
  obtain ⟨e1, e2⟩ | ⟨k0, e1, hk0, e2⟩ := hf
  · have e2' : Bk.shop ⟨shops, binds⟩ n = none := e2
    rw [e2'] at hqs hps hlc
    rw [e1] at hF
    dsimp only at hqs hps
    rw [hqs, hps, hlc, Option.isSome_none, if_neg (by simp)]
    have HF := Lib.hid hF
    clear e1 e2 e2' hqs hps hlc hs HRU HGO hF
    go_enter Tryz.func16, Tryz.ntmps16
    go_wp2_with fail
    generalize w.alloc (.cells #[.slice A shops.length c, .slice B binds.length d] 32) = w1 at *
    refine HF.out.mono ?_
    rintro e w2 ⟨rfl, b2⟩
    have HB2 := Lib.hid (bthen HB0.out b2 (Nat.le_refl _))
    have HX2 := Lib.hid (HX0.out.on b2)
    have HBF := Lib.hid b2
    clear b2
    have x0 := HX2.out.cs 0 _ rfl
    have x1 := HX2.out.cs 1 _ rfl
    have xl := HX2.out.lt
    go_wp2_with fail
    exact bodyPost_ret (v := .tuple #[.slice none 0 0, .slice none 0 0, .int .i64 10]) (by simp [results, Tryz.results16, go_sem]) rfl ⟨none, 0, none, 0, rfl, Nat.le_refl _, fun _ => rfl, Rws.nil _ _, Nat.le_refl _, fun _ => rfl, Rws.nil _ _, HB2.out⟩
  · have e2' : Bk.shop ⟨shops, binds⟩ n = some (shops.getD k0 Bk.Sh0) := e2
    have hsy := hs (shops.getD k0 Bk.Sh0) (by rw [← sh_get hk0]; exact List.getElem_mem hk0)
    have hyn : (shops.getD k0 Bk.Sh0).name = n := by have := List.find?_some e2; simpa using this
    rw [e2'] at hqs hps hlc
    rw [e1] at hF
    dsimp only at hqs hps
    rw [hqs, hps, hlc, Option.isSome_some, if_pos rfl]
    obtain ⟨bb, off, rfl, hbl, hat⟩ := shs_get HI0.out.shs.row hk0
    rw [sh_get hk0] at hat
    generalize shops.getD k0 Bk.Sh0 = y at *
    have HAT := Lib.hid hat
    have HF := Lib.hid hF
    have HYN := Lib.hid hyn
    have hkb : bb < w.heap.size := hbl
    have hk1 : ¬ ((k0 : Int) < 0) := by omega
    have hk2 : (k0 : Int) < (shops.length : Int) := by omega
    clear e1 e2 e2' hqs hps hlc hs hF hat hbl hyn
    by_cases h4 : y.sort = 4
    · have d4 : ((y.sort : Int) == 4) = true := by rw [h4]; rfl
      rw [if_pos h4, if_pos h4]
      clear h4 hsy HRU HGO
      go_enter Tryz.func16, Tryz.ntmps16
      go_wp2_with fail
      generalize w.alloc (.cells #[.slice (some ⟨bb, off, none⟩) shops.length c, .slice B binds.length d] 32) = w1 at *
      refine HF.out.mono ?_
      rintro e w2 ⟨rfl, b2⟩
      have HB2 := Lib.hid (bthen HB0.out b2 (Nat.le_refl _))
      have HX2 := Lib.hid (HX0.out.on b2)
      have HBF := Lib.hid b2
      clear b2
      have x0 := HX2.out.cs 0 _ rfl
      have x1 := HX2.out.cs 1 _ rfl
      have xl := HX2.out.lt
      have q0 := rtCell HB2.out (HAT.out 0 _ rfl)
      have q1 := rtCell HB2.out (HAT.out 1 _ rfl)
      have q2 := rtCell HB2.out (HAT.out 2 _ rfl)
      rw [Nat.add_zero] at q0
      have ql : bb < w2.heap.size := Nat.lt_of_lt_of_le hkb HB2.out.size
      have HN := Lib.hid (show ∀ W : World, Rws (W.alloc (.cells #[.string (ofL y.to)] 9)).drew (some ⟨W.heap.size, 0, none⟩) (sts [y.to]) from fun W => Rws.of_news fun j u hu => by
        rw [sts_one1] at hu
        rw [Nat.zero_add]
        exact (rtDrew (rtAt0 W #[.string (ofL y.to)] 9)).cs j u hu)
      have hbe : Below w2.heap.size w2 (w2.alloc (.cells #[.string (ofL y.to)] 9)).drew := (rtOne w2 _).drew
      have HBE := Lib.hid (bthen HB2.out hbe (Nat.le_refl _))
      clear hbe
      go_upto_region 5 with fail
      go_region_law (fail)
      go_wp2_with fail
      exact bodyPost_ret (v := .tuple #[.slice none 0 0, .slice (some ⟨w2.heap.size, 0, none⟩) 1 1, .int .i64 0]) (by simp [results, Tryz.results16, go_sem]) rfl ⟨none, 0, _, 1, rfl, Nat.le_refl _, fun _ => rfl, Rws.nil _ _, Nat.le_refl _, (fun e => by cases e), HN.out w2, HBE.out⟩
    · have d4 : ((y.sort : Int) == 4) = false := beq_eq_false_iff_ne.2 (by omega)
      have hs3 : y.sort ≤ 3 := by omega
      rw [if_neg h4, if_neg h4]
      have HSQ := Lib.hid (fun l x => Bk.lead_snoc y false key h l x)
      have HSP := Lib.hid (fun l x => Bk.lead_snoc y true key h l x)
      have HLQ := Lib.hid (fun l => Bk.lead_len y false key h l)
      have HLP := Lib.hid (fun l => Bk.lead_len y true key h l)
      have HGG : Hid (∀ up x, Bk.goes y up key h x = ((x.shop == n) && ((x.up == up) && goesB (bdRu y.sort x) key h))) := fun up x => by unfold Bk.goes; rw [HYN.out]
      have HRY := Lib.hid (HRU.out y.sort)
      have HGY := Lib.hid (fun x Ax cx W hr hp => HGO.out y.sort x Ax cx W hr hs3 hp)
      clear h4 hsy HRU HGO
      go_enter Tryz.func16, Tryz.ntmps16
      go_wp2_with fail
      generalize w.alloc (.cells #[.slice (some ⟨bb, off, none⟩) shops.length c, .slice B binds.length d] 32) = w1 at *
      refine HF.out.mono ?_
      rintro e w2 ⟨rfl, b2⟩
      have HB2 := Lib.hid (bthen HB0.out b2 (Nat.le_refl _))
      have HX2 := Lib.hid (HX0.out.on b2)
      have HBF := Lib.hid b2
      clear b2
      have x0 := HX2.out.cs 0 _ rfl
      have x1 := HX2.out.cs 1 _ rfl
      have xl := HX2.out.lt
      have q0 := rtCell HB2.out (HAT.out 0 _ rfl)
      have q1 := rtCell HB2.out (HAT.out 1 _ rfl)
      have q2 := rtCell HB2.out (HAT.out 2 _ rfl)
      rw [Nat.add_zero] at q0
      have ql : bb < w2.heap.size := Nat.lt_of_lt_of_le hkb HB2.out.size
      rw [← HML.out] at x1
      go_wp2_with fail
      go_loopg [12, 13, 38] ps.length (fun g vq vp i wr => LqSt y key h binds w2 ps.length g vq vp i wr)
      case atStart => exact ⟨0, none, 0, none, 0, [], [], by omega, rfl, rfl, rfl, rfl, rfl, World.ownsRow_nil _ _ _ _, World.ownsRow_nil _ _ _ _, .inl rfl, Below.refl _ _⟩
      clear x0 x1 xl q0 q1 q2 ql
      case round =>
        obtain ⟨k, Aq, cq, Ap, cp, ql, pl, hk, rfl, rfl, rfl, hlq⟩ := hrel
        have HK := Lib.hid hk
        have HQ := Lib.hid hlq
        have hpl : ps.length ≤ 1000 := by have := HML.out; omega
        have hqll : ql.length ≤ 1000 := by have := HLQ.out (binds.take k); rw [← hlq.eq, List.length_take] at this; omega
        have hpll : pl.length ≤ 1000 := by have := HLP.out (binds.take k); rw [← hlq.ep, List.length_take] at this; omega
        clear hk hlq
        have HBW := Lib.hid (bthen HB2.out HQ.out.B (Nat.le_refl _))
        have HXW := Lib.hid (HX2.out.on HQ.out.B)
        have x0 := HXW.out.cs 0 _ rfl
        have xl := HXW.out.lt
        have q0 := rtCell HBW.out (HAT.out 0 _ rfl)
        have q1 := rtCell HBW.out (HAT.out 1 _ rfl)
        have q2 := rtCell HBW.out (HAT.out 2 _ rfl)
        rw [Nat.add_zero] at q0
        have qlt : bb < wr.heap.size := Nat.lt_of_lt_of_le hkb HBW.out.size
        by_cases hlt : k < ps.length
        · have hbd := HI0.out.bds.on HBW.out
          obtain ⟨ba, oa, rfl, hba, hca⟩ := bps_get hbd.row hlt
          have hok := hbd.ok ps[k] (List.getElem_mem hlt)
          have hnq := HSQ.out (binds.take k) ps[k].x
          have hnp := HSP.out (binds.take k) ps[k].x
          rw [← bds_take HI0.out.xs hlt, ← HQ.out.eq] at hnq
          rw [← bds_take HI0.out.xs hlt, ← HQ.out.ep] at hnp
          generalize ps[k] = p at *
          obtain ⟨x, Ax, cx⟩ := p
          unfold bpL bdL at hca
          dsimp only at hca hok hnq hnp
          rw [HGG.out] at hnq hnp
          have c0 := hca 0 _ rfl
          have c1 := hca 1 _ rfl
          have c2 := hca 2 _ rfl
          have c3 := hca 3 _ rfl
          have c4 := hca 4 _ rfl
          have c5 := hca 5 _ rfl
          rw [Nat.add_zero] at c0
          have HA := Lib.hid (rtOne wr (.cells #[.string (ofL x.shop), .string (ofL x.to), .bool x.up, .string (ofL x.key), .slice Ax x.want.length cx, .bool x.all] 69))
          have HE := Lib.hid (rtAt0 wr #[.string (ofL x.shop), .string (ofL x.to), .bool x.up, .string (ofL x.key), .slice Ax x.want.length cx, .bool x.all] 69)
          have HOK := Lib.hid (hok.on HA.out)
          have HPA := Lib.hid ((HP0.out.on HBF.out).on (bthen HQ.out.B HA.out (Nat.le_refl _)))
          have HRX := Lib.hid (HRY.out x Ax cx)
          have HGX := Lib.hid (HGY.out x Ax cx)
          have hq := str_same x.shop n
          generalize goesB (bdRu y.sort x) key h = GB at *
          simp only [bdV, ruV, bdRu] at HRX HGX
          clear hca hok hbd
          have hsz3 := HA.out.size
          have x0' := cell_on HA.out x0
          have q0' := cell_on HA.out q0
          have q1' := cell_on HA.out q1
          have q2' := cell_on HA.out q2
          have z0 := HE.out.cs 0 _ rfl
          have z1 := HE.out.cs 1 _ rfl
          have z2 := HE.out.cs 2 _ rfl
          have z3 := HE.out.cs 3 _ rfl
          have z4 := HE.out.cs 4 _ rfl
          have z5 := HE.out.cs 5 _ rfl
          have zl := HE.out.lt
          cases e1 : x.shop == n with
          | false =>
            rw [e1] at hq hnq hnp
            rw [Bool.false_and, if_neg (by simp)] at hnq hnp
            have HNQ := Lib.hid hnq
            have HNP := Lib.hid hnp
            clear e1 hnq hnp HRX HGX
            go_upto_region 10 with fail
            clear c0 c1 c2 c3 c4 c5 x0 xl q0 q1 q2 qlt
            generalize wr.alloc (.cells #[.string (ofL x.shop), .string (ofL x.to), .bool x.up, .string (ofL x.key), .slice Ax x.want.length cx, .bool x.all] 69) = w3 at *
            refine wp_region_held_drew (S := fun a => Below (w3.heap.size) w3 a) (by kernel_rfl) (by (try dsimp only); exact (Below.refl _ _).drew) (fun hHeld => ?_)
            refine wpAnyH_take (i := 0) (oi := { dst := some 42, op := Go.Op.fieldAddr 69 (Go.Operand.tmp 15) 0, type := 0, pos := "ref.go:183", after := #[], guard := none }) (v := ?_) rfl (by kernel_rfl) (by kernel_rfl) (by kernel_rfl) (fun _ _ _ h => h) (Or.inl ⟨by rfl, ?_⟩) (by assumption) ?_
            rotate_left 1
            · intro wS hSw; (try dsimp only at hSw); go_simp; try with_reducible rfl
            try simp only [Act.put, List.setIfInBounds_toArray, List.set_cons_zero, List.set_cons_succ]
            refine wpAnyH_take (i := 1) (oi := { dst := some 43, op := Go.Op.load 9 (Go.Operand.tmp 42), type := 9, pos := "ref.go:183", after := #[{ on := 0, ground := Go.Ground.data }], guard := none }) (v := ?_) rfl (by kernel_rfl) (by kernel_rfl) (by kernel_rfl) (fun _ _ _ h => h) (Or.inl ⟨by rfl, ?_⟩) (by assumption) ?_
            rotate_left 1
            · intro wS hSw; (try dsimp only at hSw); have x0' := cell_on hSw x0'; have q0' := cell_on hSw q0'; have q1' := cell_on hSw q1'; have q2' := cell_on hSw q2'; have z0 := cell_on hSw z0; have z1 := cell_on hSw z1; have z2 := cell_on hSw z2; have z3 := cell_on hSw z3; have z4 := cell_on hSw z4; have z5 := cell_on hSw z5; go_simp; try with_reducible rfl
            try simp only [Act.put, List.setIfInBounds_toArray, List.set_cons_zero, List.set_cons_succ]
            refine wpAnyH_take (i := 2) (oi := { dst := some 44, op := Go.Op.move (Go.Operand.tmp 1), type := 9, pos := "ref.go:183", after := #[], guard := none }) (v := ?_) rfl (by kernel_rfl) (by kernel_rfl) (by kernel_rfl) (fun _ _ _ h => h) (Or.inl ⟨by rfl, ?_⟩) (by assumption) ?_
            rotate_left 1
            · intro wS hSw; (try dsimp only at hSw); go_simp; try with_reducible rfl
            try simp only [Act.put, List.setIfInBounds_toArray, List.set_cons_zero, List.set_cons_succ]
            refine wpAnyH_take (i := 3) (oi := { dst := some 45, op := Go.Op.binOp Go.BinOp.eql 9 (Go.Operand.tmp 43) (Go.Operand.tmp 44) 9, type := 4, pos := "ref.go:183", after := #[{ on := 1, ground := Go.Ground.data }, { on := 2, ground := Go.Ground.data }], guard := none }) (v := ?_) rfl (by kernel_rfl) (by kernel_rfl) (by kernel_rfl) (fun _ _ _ h => h) (Or.inl ⟨by rfl, ?_⟩) (by assumption) ?_
            rotate_left 1
            · intro wS hSw; (try dsimp only at hSw); go_simp; try with_reducible rfl
            try simp only [Act.put, List.setIfInBounds_toArray, List.set_cons_zero, List.set_cons_succ]
            refine wpAnyH_take (i := 4) (oi := { dst := some 46, op := Go.Op.move (Go.Operand.tmp 45), type := 4, pos := "ref.go:183", after := #[{ on := 3, ground := Go.Ground.data }], guard := none }) (v := ?_) rfl (by kernel_rfl) (by kernel_rfl) (by kernel_rfl) (fun _ _ _ h => h) (Or.inl ⟨by rfl, ?_⟩) (by assumption) ?_
            rotate_left 1
            · intro wS hSw; (try dsimp only at hSw); go_simp; try with_reducible rfl
            try simp only [Act.put, List.setIfInBounds_toArray, List.set_cons_zero, List.set_cons_succ]
            refine wpAnyH_take (i := 5) (oi := { dst := some 47, op := Go.Op.load 69 (Go.Operand.tmp 15), type := 69, pos := "ref.go:183", after := #[{ on := 4, ground := Go.Ground.guard }], guard := some (4, true) }) (v := undef) rfl (by kernel_rfl) (by kernel_rfl) (by kernel_rfl) (fun _ _ _ h => h) (Or.inr ⟨by rfl, rfl⟩) (by assumption) ?_
            try simp only [Act.put, List.setIfInBounds_toArray, List.set_cons_zero, List.set_cons_succ]
            refine wpAnyH_take (i := 6) (oi := { dst := some 48, op := Go.Op.fieldAddr 32 (Go.Operand.tmp 4) 0, type := 0, pos := "ref.go:183", after := #[{ on := 4, ground := Go.Ground.guard }], guard := some (4, true) }) (v := undef) rfl (by kernel_rfl) (by kernel_rfl) (by kernel_rfl) (fun _ _ _ h => h) (Or.inr ⟨by rfl, rfl⟩) (by assumption) ?_
            try simp only [Act.put, List.setIfInBounds_toArray, List.set_cons_zero, List.set_cons_succ]
            refine wpAnyH_take (i := 7) (oi := { dst := some 49, op := Go.Op.load 29 (Go.Operand.tmp 48), type := 29, pos := "ref.go:183", after := #[{ on := 6, ground := Go.Ground.data }, { on := 4, ground := Go.Ground.guard }], guard := some (4, true) }) (v := undef) rfl (by kernel_rfl) (by kernel_rfl) (by kernel_rfl) (fun _ _ _ h => h) (Or.inr ⟨by rfl, rfl⟩) (by assumption) ?_
            try simp only [Act.put, List.setIfInBounds_toArray, List.set_cons_zero, List.set_cons_succ]
            refine wpAnyH_take (i := 8) (oi := { dst := some 50, op := Go.Op.move (Go.Operand.tmp 11), type := 3, pos := "ref.go:183", after := #[{ on := 4, ground := Go.Ground.guard }], guard := some (4, true) }) (v := undef) rfl (by kernel_rfl) (by kernel_rfl) (by kernel_rfl) (fun _ _ _ h => h) (Or.inr ⟨by rfl, rfl⟩) (by assumption) ?_
            try simp only [Act.put, List.setIfInBounds_toArray, List.set_cons_zero, List.set_cons_succ]
            refine wpAnyH_take (i := 9) (oi := { dst := some 51, op := Go.Op.indexAddr 29 (Go.Operand.tmp 49) (Go.Operand.tmp 50), type := 0, pos := "ref.go:183", after := #[{ on := 7, ground := Go.Ground.data }, { on := 8, ground := Go.Ground.data }, { on := 4, ground := Go.Ground.guard }], guard := some (4, true) }) (v := undef) rfl (by kernel_rfl) (by kernel_rfl) (by kernel_rfl) (fun _ _ _ h => h) (Or.inr ⟨by rfl, rfl⟩) (by assumption) ?_
            try simp only [Act.put, List.setIfInBounds_toArray, List.set_cons_zero, List.set_cons_succ]
            refine wpAnyH_take (i := 10) (oi := { dst := some 52, op := Go.Op.fieldAddr 57 (Go.Operand.tmp 51) 1, type := 0, pos := "ref.go:183", after := #[{ on := 9, ground := Go.Ground.data }, { on := 4, ground := Go.Ground.guard }], guard := some (4, true) }) (v := undef) rfl (by kernel_rfl) (by kernel_rfl) (by kernel_rfl) (fun _ _ _ h => h) (Or.inr ⟨by rfl, rfl⟩) (by assumption) ?_
            try simp only [Act.put, List.setIfInBounds_toArray, List.set_cons_zero, List.set_cons_succ]
            refine wpAnyH_take (i := 11) (oi := { dst := some 53, op := Go.Op.load 5 (Go.Operand.tmp 52), type := 5, pos := "ref.go:183", after := #[{ on := 10, ground := Go.Ground.data }, { on := 4, ground := Go.Ground.guard }], guard := some (4, true) }) (v := undef) rfl (by kernel_rfl) (by kernel_rfl) (by kernel_rfl) (fun _ _ _ h => h) (Or.inr ⟨by rfl, rfl⟩) (by assumption) ?_
            try simp only [Act.put, List.setIfInBounds_toArray, List.set_cons_zero, List.set_cons_succ]
            refine wpAnyH_take (i := 12) (oi := { dst := some 54, op := Go.Op.call { callee := Go.Callee.value (Go.Operand.func 45), args := #[Go.Operand.tmp 47, Go.Operand.tmp 53], argTypes := #[69, 5] }, type := 88, pos := "ref.go:183", after := #[{ on := 5, ground := Go.Ground.data }, { on := 11, ground := Go.Ground.data }, { on := 4, ground := Go.Ground.chain }, { on := 4, ground := Go.Ground.guard }], guard := some (4, true) }) (v := undef) rfl (by kernel_rfl) (by kernel_rfl) (by kernel_rfl) (fun _ _ _ h => h) (Or.inr ⟨by rfl, rfl⟩) (by assumption) ?_
            try simp only [Act.put, List.setIfInBounds_toArray, List.set_cons_zero, List.set_cons_succ]
            refine wpAnyH_take (i := 13) (oi := { dst := some 55, op := Go.Op.move (Go.Operand.tmp 2), type := 9, pos := "ref.go:183", after := #[{ on := 4, ground := Go.Ground.guard }], guard := some (4, true) }) (v := undef) rfl (by kernel_rfl) (by kernel_rfl) (by kernel_rfl) (fun _ _ _ h => h) (Or.inr ⟨by rfl, rfl⟩) (by assumption) ?_
            try simp only [Act.put, List.setIfInBounds_toArray, List.set_cons_zero, List.set_cons_succ]
            refine wpAnyH_take (i := 14) (oi := { dst := some 56, op := Go.Op.move (Go.Operand.tmp 3), type := 35, pos := "ref.go:183", after := #[{ on := 4, ground := Go.Ground.guard }], guard := some (4, true) }) (v := undef) rfl (by kernel_rfl) (by kernel_rfl) (by kernel_rfl) (fun _ _ _ h => h) (Or.inr ⟨by rfl, rfl⟩) (by assumption) ?_
            try simp only [Act.put, List.setIfInBounds_toArray, List.set_cons_zero, List.set_cons_succ]
            refine wpAnyH_take (i := 15) (oi := { dst := some 57, op := Go.Op.call { callee := Go.Callee.value (Go.Operand.func 44), args := #[Go.Operand.tmp 54, Go.Operand.tmp 55, Go.Operand.tmp 56], argTypes := #[88, 9, 35] }, type := 4, pos := "ref.go:183", after := #[{ on := 12, ground := Go.Ground.data }, { on := 13, ground := Go.Ground.data }, { on := 14, ground := Go.Ground.data }, { on := 12, ground := Go.Ground.chain }, { on := 4, ground := Go.Ground.guard }], guard := some (4, true) }) (v := undef) rfl (by kernel_rfl) (by kernel_rfl) (by kernel_rfl) (fun _ _ _ h => h) (Or.inr ⟨by rfl, rfl⟩) (by assumption) ?_
            try simp only [Act.put, List.setIfInBounds_toArray, List.set_cons_zero, List.set_cons_succ]
            refine wpAnyH_take (i := 16) (oi := { dst := some 58, op := Go.Op.pick (Go.Operand.tmp 46) (Go.Operand.tmp 57) (Go.Operand.const (Go.Value.bool false)), type := 4, pos := "ref.go:183", after := #[{ on := 4, ground := Go.Ground.data }, { on := 15, ground := Go.Ground.data }], guard := none }) (v := ?_) rfl (by kernel_rfl) (by kernel_rfl) (by kernel_rfl) (fun _ _ _ h => h) (Or.inl ⟨by rfl, ?_⟩) (by assumption) ?_
            rotate_left 1
            · intro wS hSw; (try dsimp only at hSw); go_simp; try with_reducible rfl
            try simp only [Act.put, List.setIfInBounds_toArray, List.set_cons_zero, List.set_cons_succ]
            refine wpAnyH_done (by kernel_rfl) ?_ _
            have hZ := hHeld
            clear hHeld
            have hb9 := bthen HA.out (show Below w3.heap.size w3 _ from hZ) (Nat.le_refl _)
            have HL9 := Lib.hid (HQ.out.keep hb9 HNQ.out HNP.out)
            clear hZ x0' q0' q1' q2' hb9 z0 z1 z2 z3 z4 z5 zl
            go_wp2_with fail
            go_roundg (gk - 1)
            case rel => exact ⟨k + 1, Aq, cq, Ap, cp, ql, pl, by have := HK.out; omega, by go_num, rfl, rfl, HL9.out⟩
            case measure => have := HK.out; omega
          | true =>
            rw [e1] at hq hnq hnp
            rw [Bool.true_and] at hnq hnp
            clear e1
            cases GB with
            | false =>
              rw [Bool.and_false, if_neg (by simp)] at hnq hnp
              have HNQ := Lib.hid hnq
              have HNP := Lib.hid hnp
              clear hnq hnp
              go_upto_region 10 with fail
              clear c0 c1 c2 c3 c4 c5 x0 xl q0 q1 q2 qlt
              generalize wr.alloc (.cells #[.string (ofL x.shop), .string (ofL x.to), .bool x.up, .string (ofL x.key), .slice Ax x.want.length cx, .bool x.all] 69) = w3 at *
              refine wp_region_held_drew (S := fun a => Below (w3.heap.size) w3 a) (by kernel_rfl) (by (try dsimp only); exact (Below.refl _ _).drew) (fun hHeld => ?_)
              refine wpAnyH_take (i := 0) (oi := { dst := some 42, op := Go.Op.fieldAddr 69 (Go.Operand.tmp 15) 0, type := 0, pos := "ref.go:183", after := #[], guard := none }) (v := ?_) rfl (by kernel_rfl) (by kernel_rfl) (by kernel_rfl) (fun _ _ _ h => h) (Or.inl ⟨by rfl, ?_⟩) (by assumption) ?_
              rotate_left 1
              · intro wS hSw; (try dsimp only at hSw); go_simp; try with_reducible rfl
              try simp only [Act.put, List.setIfInBounds_toArray, List.set_cons_zero, List.set_cons_succ]
              refine wpAnyH_take (i := 1) (oi := { dst := some 43, op := Go.Op.load 9 (Go.Operand.tmp 42), type := 9, pos := "ref.go:183", after := #[{ on := 0, ground := Go.Ground.data }], guard := none }) (v := ?_) rfl (by kernel_rfl) (by kernel_rfl) (by kernel_rfl) (fun _ _ _ h => h) (Or.inl ⟨by rfl, ?_⟩) (by assumption) ?_
              rotate_left 1
              · intro wS hSw; (try dsimp only at hSw); have x0' := cell_on hSw x0'; have q0' := cell_on hSw q0'; have q1' := cell_on hSw q1'; have q2' := cell_on hSw q2'; have z0 := cell_on hSw z0; have z1 := cell_on hSw z1; have z2 := cell_on hSw z2; have z3 := cell_on hSw z3; have z4 := cell_on hSw z4; have z5 := cell_on hSw z5; go_simp; try with_reducible rfl
              try simp only [Act.put, List.setIfInBounds_toArray, List.set_cons_zero, List.set_cons_succ]
              refine wpAnyH_take (i := 2) (oi := { dst := some 44, op := Go.Op.move (Go.Operand.tmp 1), type := 9, pos := "ref.go:183", after := #[], guard := none }) (v := ?_) rfl (by kernel_rfl) (by kernel_rfl) (by kernel_rfl) (fun _ _ _ h => h) (Or.inl ⟨by rfl, ?_⟩) (by assumption) ?_
              rotate_left 1
              · intro wS hSw; (try dsimp only at hSw); go_simp; try with_reducible rfl
              try simp only [Act.put, List.setIfInBounds_toArray, List.set_cons_zero, List.set_cons_succ]
              refine wpAnyH_take (i := 3) (oi := { dst := some 45, op := Go.Op.binOp Go.BinOp.eql 9 (Go.Operand.tmp 43) (Go.Operand.tmp 44) 9, type := 4, pos := "ref.go:183", after := #[{ on := 1, ground := Go.Ground.data }, { on := 2, ground := Go.Ground.data }], guard := none }) (v := ?_) rfl (by kernel_rfl) (by kernel_rfl) (by kernel_rfl) (fun _ _ _ h => h) (Or.inl ⟨by rfl, ?_⟩) (by assumption) ?_
              rotate_left 1
              · intro wS hSw; (try dsimp only at hSw); go_simp; try with_reducible rfl
              try simp only [Act.put, List.setIfInBounds_toArray, List.set_cons_zero, List.set_cons_succ]
              refine wpAnyH_take (i := 4) (oi := { dst := some 46, op := Go.Op.move (Go.Operand.tmp 45), type := 4, pos := "ref.go:183", after := #[{ on := 3, ground := Go.Ground.data }], guard := none }) (v := ?_) rfl (by kernel_rfl) (by kernel_rfl) (by kernel_rfl) (fun _ _ _ h => h) (Or.inl ⟨by rfl, ?_⟩) (by assumption) ?_
              rotate_left 1
              · intro wS hSw; (try dsimp only at hSw); go_simp; try with_reducible rfl
              try simp only [Act.put, List.setIfInBounds_toArray, List.set_cons_zero, List.set_cons_succ]
              refine wpAnyH_take (i := 5) (oi := { dst := some 47, op := Go.Op.load 69 (Go.Operand.tmp 15), type := 69, pos := "ref.go:183", after := #[{ on := 4, ground := Go.Ground.guard }], guard := some (4, true) }) (v := ?_) rfl (by kernel_rfl) (by kernel_rfl) (by kernel_rfl) (fun _ _ _ h => h) (Or.inl ⟨by rfl, ?_⟩) (by assumption) ?_
              rotate_left 1
              · intro wS hSw; (try dsimp only at hSw); have x0' := cell_on hSw x0'; have q0' := cell_on hSw q0'; have q1' := cell_on hSw q1'; have q2' := cell_on hSw q2'; have z0 := cell_on hSw z0; have z1 := cell_on hSw z1; have z2 := cell_on hSw z2; have z3 := cell_on hSw z3; have z4 := cell_on hSw z4; have z5 := cell_on hSw z5; go_simp; try with_reducible rfl
              try simp only [Act.put, List.setIfInBounds_toArray, List.set_cons_zero, List.set_cons_succ]
              refine wpAnyH_take (i := 6) (oi := { dst := some 48, op := Go.Op.fieldAddr 32 (Go.Operand.tmp 4) 0, type := 0, pos := "ref.go:183", after := #[{ on := 4, ground := Go.Ground.guard }], guard := some (4, true) }) (v := ?_) rfl (by kernel_rfl) (by kernel_rfl) (by kernel_rfl) (fun _ _ _ h => h) (Or.inl ⟨by rfl, ?_⟩) (by assumption) ?_
              rotate_left 1
              · intro wS hSw; (try dsimp only at hSw); go_simp; try with_reducible rfl
              try simp only [Act.put, List.setIfInBounds_toArray, List.set_cons_zero, List.set_cons_succ]
              refine wpAnyH_take (i := 7) (oi := { dst := some 49, op := Go.Op.load 29 (Go.Operand.tmp 48), type := 29, pos := "ref.go:183", after := #[{ on := 6, ground := Go.Ground.data }, { on := 4, ground := Go.Ground.guard }], guard := some (4, true) }) (v := ?_) rfl (by kernel_rfl) (by kernel_rfl) (by kernel_rfl) (fun _ _ _ h => h) (Or.inl ⟨by rfl, ?_⟩) (by assumption) ?_
              rotate_left 1
              · intro wS hSw; (try dsimp only at hSw); have x0' := cell_on hSw x0'; have q0' := cell_on hSw q0'; have q1' := cell_on hSw q1'; have q2' := cell_on hSw q2'; have z0 := cell_on hSw z0; have z1 := cell_on hSw z1; have z2 := cell_on hSw z2; have z3 := cell_on hSw z3; have z4 := cell_on hSw z4; have z5 := cell_on hSw z5; go_simp; try with_reducible rfl
              try simp only [Act.put, List.setIfInBounds_toArray, List.set_cons_zero, List.set_cons_succ]
              refine wpAnyH_take (i := 8) (oi := { dst := some 50, op := Go.Op.move (Go.Operand.tmp 11), type := 3, pos := "ref.go:183", after := #[{ on := 4, ground := Go.Ground.guard }], guard := some (4, true) }) (v := ?_) rfl (by kernel_rfl) (by kernel_rfl) (by kernel_rfl) (fun _ _ _ h => h) (Or.inl ⟨by rfl, ?_⟩) (by assumption) ?_
              rotate_left 1
              · intro wS hSw; (try dsimp only at hSw); go_simp; try with_reducible rfl
              try simp only [Act.put, List.setIfInBounds_toArray, List.set_cons_zero, List.set_cons_succ]
              refine wpAnyH_take (i := 9) (oi := { dst := some 51, op := Go.Op.indexAddr 29 (Go.Operand.tmp 49) (Go.Operand.tmp 50), type := 0, pos := "ref.go:183", after := #[{ on := 7, ground := Go.Ground.data }, { on := 8, ground := Go.Ground.data }, { on := 4, ground := Go.Ground.guard }], guard := some (4, true) }) (v := ?_) rfl (by kernel_rfl) (by kernel_rfl) (by kernel_rfl) (fun _ _ _ h => h) (Or.inl ⟨by rfl, ?_⟩) (by assumption) ?_
              rotate_left 1
              · intro wS hSw; (try dsimp only at hSw); go_simp; try with_reducible rfl
              try simp only [Act.put, List.setIfInBounds_toArray, List.set_cons_zero, List.set_cons_succ]
              refine wpAnyH_take (i := 10) (oi := { dst := some 52, op := Go.Op.fieldAddr 57 (Go.Operand.tmp 51) 1, type := 0, pos := "ref.go:183", after := #[{ on := 9, ground := Go.Ground.data }, { on := 4, ground := Go.Ground.guard }], guard := some (4, true) }) (v := ?_) rfl (by kernel_rfl) (by kernel_rfl) (by kernel_rfl) (fun _ _ _ h => h) (Or.inl ⟨by rfl, ?_⟩) (by assumption) ?_
              rotate_left 1
              · intro wS hSw; (try dsimp only at hSw); go_simp; try with_reducible rfl
              try simp only [Act.put, List.setIfInBounds_toArray, List.set_cons_zero, List.set_cons_succ]
              refine wpAnyH_take (i := 11) (oi := { dst := some 53, op := Go.Op.load 5 (Go.Operand.tmp 52), type := 5, pos := "ref.go:183", after := #[{ on := 10, ground := Go.Ground.data }, { on := 4, ground := Go.Ground.guard }], guard := some (4, true) }) (v := ?_) rfl (by kernel_rfl) (by kernel_rfl) (by kernel_rfl) (fun _ _ _ h => h) (Or.inl ⟨by rfl, ?_⟩) (by assumption) ?_
              rotate_left 1
              · intro wS hSw; (try dsimp only at hSw); have x0' := cell_on hSw x0'; have q0' := cell_on hSw q0'; have q1' := cell_on hSw q1'; have q2' := cell_on hSw q2'; have z0 := cell_on hSw z0; have z1 := cell_on hSw z1; have z2 := cell_on hSw z2; have z3 := cell_on hSw z3; have z4 := cell_on hSw z4; have z5 := cell_on hSw z5; go_simp; try with_reducible rfl
              try simp only [Act.put, List.setIfInBounds_toArray, List.set_cons_zero, List.set_cons_succ]
              refine wpAnyH_take (i := 13) (oi := { dst := some 55, op := Go.Op.move (Go.Operand.tmp 2), type := 9, pos := "ref.go:183", after := #[{ on := 4, ground := Go.Ground.guard }], guard := some (4, true) }) (v := ?_) rfl (by kernel_rfl) (by kernel_rfl) (by kernel_rfl) (fun _ _ _ h => h) (Or.inl ⟨by rfl, ?_⟩) (by assumption) ?_
              rotate_left 1
              · intro wS hSw; (try dsimp only at hSw); go_simp; try with_reducible rfl
              try simp only [Act.put, List.setIfInBounds_toArray, List.set_cons_zero, List.set_cons_succ]
              refine wpAnyH_take (i := 14) (oi := { dst := some 56, op := Go.Op.move (Go.Operand.tmp 3), type := 35, pos := "ref.go:183", after := #[{ on := 4, ground := Go.Ground.guard }], guard := some (4, true) }) (v := ?_) rfl (by kernel_rfl) (by kernel_rfl) (by kernel_rfl) (fun _ _ _ h => h) (Or.inl ⟨by rfl, ?_⟩) (by assumption) ?_
              rotate_left 1
              · intro wS hSw; (try dsimp only at hSw); go_simp; try with_reducible rfl
              try simp only [Act.put, List.setIfInBounds_toArray, List.set_cons_zero, List.set_cons_succ]
              refine wpAnyH_ready (rs := [12]) (by kernel_rfl) (by simp) ?_
              refine AllReadyH.cons (o := { dst := some 54, op := Go.Op.call { callee := Go.Callee.value (Go.Operand.func 45), args := #[Go.Operand.tmp 47, Go.Operand.tmp 53], argTypes := #[69, 5] }, type := 88, pos := "ref.go:183", after := #[{ on := 5, ground := Go.Ground.data }, { on := 11, ground := Go.Ground.data }, { on := 4, ground := Go.Ground.chain }, { on := 4, ground := Go.Ground.guard }], guard := some (4, true) }) rfl (fun K hK => ?_) (AllReadyH.nil)
              go_simp
              go_at_call 45
              refine (HRX.out _).mono ?_
              rintro e wx ⟨rfl, hb2⟩
              refine hK.out _ _ (bthen hHeld hb2 (Nat.le_refl _)) (fun hHeld2 => ?_)
              clear hK K hHeld hb2
              have hHeld := hHeld2
              clear hHeld2
              try simp only [Act.put, List.setIfInBounds_toArray, List.set_cons_zero, List.set_cons_succ]
              refine wpAnyH_ready (rs := [15]) (by kernel_rfl) (by simp) ?_
              refine AllReadyH.cons (o := { dst := some 57, op := Go.Op.call { callee := Go.Callee.value (Go.Operand.func 44), args := #[Go.Operand.tmp 54, Go.Operand.tmp 55, Go.Operand.tmp 56], argTypes := #[88, 9, 35] }, type := 4, pos := "ref.go:183", after := #[{ on := 12, ground := Go.Ground.data }, { on := 13, ground := Go.Ground.data }, { on := 14, ground := Go.Ground.data }, { on := 12, ground := Go.Ground.chain }, { on := 4, ground := Go.Ground.guard }], guard := some (4, true) }) rfl (fun K hK => ?_) (AllReadyH.nil)
              go_simp
              go_at_call 44
              refine (HGX.out _ ((HOK.out.on (show Below w3.heap.size w3 _ from hHeld)).ru y.sort) (HPA.out.on (show Below w3.heap.size w3 _ from hHeld))).mono ?_
              rintro e wx ⟨rfl, hb2⟩
              refine hK.out _ _ (bthen hHeld hb2 (Nat.le_refl _)) (fun hHeld2 => ?_)
              clear hK K hHeld hb2
              have hHeld := hHeld2
              clear hHeld2
              try simp only [Act.put, List.setIfInBounds_toArray, List.set_cons_zero, List.set_cons_succ]
              refine wpAnyH_take (i := 16) (oi := { dst := some 58, op := Go.Op.pick (Go.Operand.tmp 46) (Go.Operand.tmp 57) (Go.Operand.const (Go.Value.bool false)), type := 4, pos := "ref.go:183", after := #[{ on := 4, ground := Go.Ground.data }, { on := 15, ground := Go.Ground.data }], guard := none }) (v := ?_) rfl (by kernel_rfl) (by kernel_rfl) (by kernel_rfl) (fun _ _ _ h => h) (Or.inl ⟨by rfl, ?_⟩) (by assumption) ?_
              rotate_left 1
              · intro wS hSw; (try dsimp only at hSw); go_simp; try with_reducible rfl
              try simp only [Act.put, List.setIfInBounds_toArray, List.set_cons_zero, List.set_cons_succ]
              refine wpAnyH_done (by kernel_rfl) ?_ _
              have hZ := hHeld
              clear hHeld
              have hb9 := bthen HA.out (show Below w3.heap.size w3 _ from hZ) (Nat.le_refl _)
              have HL9 := Lib.hid (HQ.out.keep hb9 HNQ.out HNP.out)
              clear hZ x0' q0' q1' q2' hb9 z0 z1 z2 z3 z4 z5 zl
              go_wp2_with fail
              go_roundg (gk - 1)
              case rel => exact ⟨k + 1, Aq, cq, Ap, cp, ql, pl, by have := HK.out; omega, by go_num, rfl, rfl, HL9.out⟩
              case measure => have := HK.out; omega
            | true =>
              rw [Bool.and_true] at hnq hnp
              cases hu : x.up with
              | true =>
                rw [hu] at hnq hnp
                rw [if_neg (by decide)] at hnq
                rw [if_pos (by decide)] at hnp
                have HNQ := Lib.hid hnq
                have HNP := Lib.hid hnp
                have HUP := Lib.hid hu
                clear hnq hnp hu
                go_upto_region 10 with fail
                clear c0 c1 c2 c3 c4 c5 x0 xl q0 q1 q2 qlt
                generalize wr.alloc (.cells #[.string (ofL x.shop), .string (ofL x.to), .bool x.up, .string (ofL x.key), .slice Ax x.want.length cx, .bool x.all] 69) = w3 at *
                refine wp_region_held_drew (S := fun a => Below (w3.heap.size) w3 a) (by kernel_rfl) (by (try dsimp only); exact (Below.refl _ _).drew) (fun hHeld => ?_)
                refine wpAnyH_take (i := 0) (oi := { dst := some 42, op := Go.Op.fieldAddr 69 (Go.Operand.tmp 15) 0, type := 0, pos := "ref.go:183", after := #[], guard := none }) (v := ?_) rfl (by kernel_rfl) (by kernel_rfl) (by kernel_rfl) (fun _ _ _ h => h) (Or.inl ⟨by rfl, ?_⟩) (by assumption) ?_
                rotate_left 1
                · intro wS hSw; (try dsimp only at hSw); go_simp; try with_reducible rfl
                try simp only [Act.put, List.setIfInBounds_toArray, List.set_cons_zero, List.set_cons_succ]
                refine wpAnyH_take (i := 1) (oi := { dst := some 43, op := Go.Op.load 9 (Go.Operand.tmp 42), type := 9, pos := "ref.go:183", after := #[{ on := 0, ground := Go.Ground.data }], guard := none }) (v := ?_) rfl (by kernel_rfl) (by kernel_rfl) (by kernel_rfl) (fun _ _ _ h => h) (Or.inl ⟨by rfl, ?_⟩) (by assumption) ?_
                rotate_left 1
                · intro wS hSw; (try dsimp only at hSw); have x0' := cell_on hSw x0'; have q0' := cell_on hSw q0'; have q1' := cell_on hSw q1'; have q2' := cell_on hSw q2'; have z0 := cell_on hSw z0; have z1 := cell_on hSw z1; have z2 := cell_on hSw z2; have z3 := cell_on hSw z3; have z4 := cell_on hSw z4; have z5 := cell_on hSw z5; go_simp; try with_reducible rfl
                try simp only [Act.put, List.setIfInBounds_toArray, List.set_cons_zero, List.set_cons_succ]
                refine wpAnyH_take (i := 2) (oi := { dst := some 44, op := Go.Op.move (Go.Operand.tmp 1), type := 9, pos := "ref.go:183", after := #[], guard := none }) (v := ?_) rfl (by kernel_rfl) (by kernel_rfl) (by kernel_rfl) (fun _ _ _ h => h) (Or.inl ⟨by rfl, ?_⟩) (by assumption) ?_
                rotate_left 1
                · intro wS hSw; (try dsimp only at hSw); go_simp; try with_reducible rfl
                try simp only [Act.put, List.setIfInBounds_toArray, List.set_cons_zero, List.set_cons_succ]
                refine wpAnyH_take (i := 3) (oi := { dst := some 45, op := Go.Op.binOp Go.BinOp.eql 9 (Go.Operand.tmp 43) (Go.Operand.tmp 44) 9, type := 4, pos := "ref.go:183", after := #[{ on := 1, ground := Go.Ground.data }, { on := 2, ground := Go.Ground.data }], guard := none }) (v := ?_) rfl (by kernel_rfl) (by kernel_rfl) (by kernel_rfl) (fun _ _ _ h => h) (Or.inl ⟨by rfl, ?_⟩) (by assumption) ?_
                rotate_left 1
                · intro wS hSw; (try dsimp only at hSw); go_simp; try with_reducible rfl
                try simp only [Act.put, List.setIfInBounds_toArray, List.set_cons_zero, List.set_cons_succ]
                refine wpAnyH_take (i := 4) (oi := { dst := some 46, op := Go.Op.move (Go.Operand.tmp 45), type := 4, pos := "ref.go:183", after := #[{ on := 3, ground := Go.Ground.data }], guard := none }) (v := ?_) rfl (by kernel_rfl) (by kernel_rfl) (by kernel_rfl) (fun _ _ _ h => h) (Or.inl ⟨by rfl, ?_⟩) (by assumption) ?_
                rotate_left 1
                · intro wS hSw; (try dsimp only at hSw); go_simp; try with_reducible rfl
                try simp only [Act.put, List.setIfInBounds_toArray, List.set_cons_zero, List.set_cons_succ]
                refine wpAnyH_take (i := 5) (oi := { dst := some 47, op := Go.Op.load 69 (Go.Operand.tmp 15), type := 69, pos := "ref.go:183", after := #[{ on := 4, ground := Go.Ground.guard }], guard := some (4, true) }) (v := ?_) rfl (by kernel_rfl) (by kernel_rfl) (by kernel_rfl) (fun _ _ _ h => h) (Or.inl ⟨by rfl, ?_⟩) (by assumption) ?_
                rotate_left 1
                · intro wS hSw; (try dsimp only at hSw); have x0' := cell_on hSw x0'; have q0' := cell_on hSw q0'; have q1' := cell_on hSw q1'; have q2' := cell_on hSw q2'; have z0 := cell_on hSw z0; have z1 := cell_on hSw z1; have z2 := cell_on hSw z2; have z3 := cell_on hSw z3; have z4 := cell_on hSw z4; have z5 := cell_on hSw z5; go_simp; try with_reducible rfl
                try simp only [Act.put, List.setIfInBounds_toArray, List.set_cons_zero, List.set_cons_succ]
                refine wpAnyH_take (i := 6) (oi := { dst := some 48, op := Go.Op.fieldAddr 32 (Go.Operand.tmp 4) 0, type := 0, pos := "ref.go:183", after := #[{ on := 4, ground := Go.Ground.guard }], guard := some (4, true) }) (v := ?_) rfl (by kernel_rfl) (by kernel_rfl) (by kernel_rfl) (fun _ _ _ h => h) (Or.inl ⟨by rfl, ?_⟩) (by assumption) ?_
                rotate_left 1
                · intro wS hSw; (try dsimp only at hSw); go_simp; try with_reducible rfl
                try simp only [Act.put, List.setIfInBounds_toArray, List.set_cons_zero, List.set_cons_succ]
                refine wpAnyH_take (i := 7) (oi := { dst := some 49, op := Go.Op.load 29 (Go.Operand.tmp 48), type := 29, pos := "ref.go:183", after := #[{ on := 6, ground := Go.Ground.data }, { on := 4, ground := Go.Ground.guard }], guard := some (4, true) }) (v := ?_) rfl (by kernel_rfl) (by kernel_rfl) (by kernel_rfl) (fun _ _ _ h => h) (Or.inl ⟨by rfl, ?_⟩) (by assumption) ?_
                rotate_left 1
                · intro wS hSw; (try dsimp only at hSw); have x0' := cell_on hSw x0'; have q0' := cell_on hSw q0'; have q1' := cell_on hSw q1'; have q2' := cell_on hSw q2'; have z0 := cell_on hSw z0; have z1 := cell_on hSw z1; have z2 := cell_on hSw z2; have z3 := cell_on hSw z3; have z4 := cell_on hSw z4; have z5 := cell_on hSw z5; go_simp; try with_reducible rfl
                try simp only [Act.put, List.setIfInBounds_toArray, List.set_cons_zero, List.set_cons_succ]
                refine wpAnyH_take (i := 8) (oi := { dst := some 50, op := Go.Op.move (Go.Operand.tmp 11), type := 3, pos := "ref.go:183", after := #[{ on := 4, ground := Go.Ground.guard }], guard := some (4, true) }) (v := ?_) rfl (by kernel_rfl) (by kernel_rfl) (by kernel_rfl) (fun _ _ _ h => h) (Or.inl ⟨by rfl, ?_⟩) (by assumption) ?_
                rotate_left 1
                · intro wS hSw; (try dsimp only at hSw); go_simp; try with_reducible rfl
                try simp only [Act.put, List.setIfInBounds_toArray, List.set_cons_zero, List.set_cons_succ]
                refine wpAnyH_take (i := 9) (oi := { dst := some 51, op := Go.Op.indexAddr 29 (Go.Operand.tmp 49) (Go.Operand.tmp 50), type := 0, pos := "ref.go:183", after := #[{ on := 7, ground := Go.Ground.data }, { on := 8, ground := Go.Ground.data }, { on := 4, ground := Go.Ground.guard }], guard := some (4, true) }) (v := ?_) rfl (by kernel_rfl) (by kernel_rfl) (by kernel_rfl) (fun _ _ _ h => h) (Or.inl ⟨by rfl, ?_⟩) (by assumption) ?_
                rotate_left 1
                · intro wS hSw; (try dsimp only at hSw); go_simp; try with_reducible rfl
                try simp only [Act.put, List.setIfInBounds_toArray, List.set_cons_zero, List.set_cons_succ]
                refine wpAnyH_take (i := 10) (oi := { dst := some 52, op := Go.Op.fieldAddr 57 (Go.Operand.tmp 51) 1, type := 0, pos := "ref.go:183", after := #[{ on := 9, ground := Go.Ground.data }, { on := 4, ground := Go.Ground.guard }], guard := some (4, true) }) (v := ?_) rfl (by kernel_rfl) (by kernel_rfl) (by kernel_rfl) (fun _ _ _ h => h) (Or.inl ⟨by rfl, ?_⟩) (by assumption) ?_
                rotate_left 1
                · intro wS hSw; (try dsimp only at hSw); go_simp; try with_reducible rfl
                try simp only [Act.put, List.setIfInBounds_toArray, List.set_cons_zero, List.set_cons_succ]
                refine wpAnyH_take (i := 11) (oi := { dst := some 53, op := Go.Op.load 5 (Go.Operand.tmp 52), type := 5, pos := "ref.go:183", after := #[{ on := 10, ground := Go.Ground.data }, { on := 4, ground := Go.Ground.guard }], guard := some (4, true) }) (v := ?_) rfl (by kernel_rfl) (by kernel_rfl) (by kernel_rfl) (fun _ _ _ h => h) (Or.inl ⟨by rfl, ?_⟩) (by assumption) ?_
                rotate_left 1
                · intro wS hSw; (try dsimp only at hSw); have x0' := cell_on hSw x0'; have q0' := cell_on hSw q0'; have q1' := cell_on hSw q1'; have q2' := cell_on hSw q2'; have z0 := cell_on hSw z0; have z1 := cell_on hSw z1; have z2 := cell_on hSw z2; have z3 := cell_on hSw z3; have z4 := cell_on hSw z4; have z5 := cell_on hSw z5; go_simp; try with_reducible rfl
                try simp only [Act.put, List.setIfInBounds_toArray, List.set_cons_zero, List.set_cons_succ]
                refine wpAnyH_take (i := 13) (oi := { dst := some 55, op := Go.Op.move (Go.Operand.tmp 2), type := 9, pos := "ref.go:183", after := #[{ on := 4, ground := Go.Ground.guard }], guard := some (4, true) }) (v := ?_) rfl (by kernel_rfl) (by kernel_rfl) (by kernel_rfl) (fun _ _ _ h => h) (Or.inl ⟨by rfl, ?_⟩) (by assumption) ?_
                rotate_left 1
                · intro wS hSw; (try dsimp only at hSw); go_simp; try with_reducible rfl
                try simp only [Act.put, List.setIfInBounds_toArray, List.set_cons_zero, List.set_cons_succ]
                refine wpAnyH_take (i := 14) (oi := { dst := some 56, op := Go.Op.move (Go.Operand.tmp 3), type := 35, pos := "ref.go:183", after := #[{ on := 4, ground := Go.Ground.guard }], guard := some (4, true) }) (v := ?_) rfl (by kernel_rfl) (by kernel_rfl) (by kernel_rfl) (fun _ _ _ h => h) (Or.inl ⟨by rfl, ?_⟩) (by assumption) ?_
                rotate_left 1
                · intro wS hSw; (try dsimp only at hSw); go_simp; try with_reducible rfl
                try simp only [Act.put, List.setIfInBounds_toArray, List.set_cons_zero, List.set_cons_succ]
                refine wpAnyH_ready (rs := [12]) (by kernel_rfl) (by simp) ?_
                refine AllReadyH.cons (o := { dst := some 54, op := Go.Op.call { callee := Go.Callee.value (Go.Operand.func 45), args := #[Go.Operand.tmp 47, Go.Operand.tmp 53], argTypes := #[69, 5] }, type := 88, pos := "ref.go:183", after := #[{ on := 5, ground := Go.Ground.data }, { on := 11, ground := Go.Ground.data }, { on := 4, ground := Go.Ground.chain }, { on := 4, ground := Go.Ground.guard }], guard := some (4, true) }) rfl (fun K hK => ?_) (AllReadyH.nil)
                go_simp
                go_at_call 45
                refine (HRX.out _).mono ?_
                rintro e wx ⟨rfl, hb2⟩
                refine hK.out _ _ (bthen hHeld hb2 (Nat.le_refl _)) (fun hHeld2 => ?_)
                clear hK K hHeld hb2
                have hHeld := hHeld2
                clear hHeld2
                try simp only [Act.put, List.setIfInBounds_toArray, List.set_cons_zero, List.set_cons_succ]
                refine wpAnyH_ready (rs := [15]) (by kernel_rfl) (by simp) ?_
                refine AllReadyH.cons (o := { dst := some 57, op := Go.Op.call { callee := Go.Callee.value (Go.Operand.func 44), args := #[Go.Operand.tmp 54, Go.Operand.tmp 55, Go.Operand.tmp 56], argTypes := #[88, 9, 35] }, type := 4, pos := "ref.go:183", after := #[{ on := 12, ground := Go.Ground.data }, { on := 13, ground := Go.Ground.data }, { on := 14, ground := Go.Ground.data }, { on := 12, ground := Go.Ground.chain }, { on := 4, ground := Go.Ground.guard }], guard := some (4, true) }) rfl (fun K hK => ?_) (AllReadyH.nil)
                go_simp
                go_at_call 44
                refine (HGX.out _ ((HOK.out.on (show Below w3.heap.size w3 _ from hHeld)).ru y.sort) (HPA.out.on (show Below w3.heap.size w3 _ from hHeld))).mono ?_
                rintro e wx ⟨rfl, hb2⟩
                refine hK.out _ _ (bthen hHeld hb2 (Nat.le_refl _)) (fun hHeld2 => ?_)
                clear hK K hHeld hb2
                have hHeld := hHeld2
                clear hHeld2
                try simp only [Act.put, List.setIfInBounds_toArray, List.set_cons_zero, List.set_cons_succ]
                refine wpAnyH_take (i := 16) (oi := { dst := some 58, op := Go.Op.pick (Go.Operand.tmp 46) (Go.Operand.tmp 57) (Go.Operand.const (Go.Value.bool false)), type := 4, pos := "ref.go:183", after := #[{ on := 4, ground := Go.Ground.data }, { on := 15, ground := Go.Ground.data }], guard := none }) (v := ?_) rfl (by kernel_rfl) (by kernel_rfl) (by kernel_rfl) (fun _ _ _ h => h) (Or.inl ⟨by rfl, ?_⟩) (by assumption) ?_
                rotate_left 1
                · intro wS hSw; (try dsimp only at hSw); go_simp; try with_reducible rfl
                try simp only [Act.put, List.setIfInBounds_toArray, List.set_cons_zero, List.set_cons_succ]
                refine wpAnyH_done (by kernel_rfl) ?_ _
                have hZ := hHeld
                clear hHeld
                have hb9 := bthen HA.out (show Below w3.heap.size w3 _ from hZ) (Nat.le_refl _)
                have HL9 := Lib.hid (HQ.out.on hb9)
                have HE9 := Lib.hid (HE.out.on (show Below w3.heap.size w3 _ from hZ))
                clear hZ x0' q0' q1' q2' hb9 z0 z1 z2 z3 z4 z5 zl
                have z0 := HE9.out.cs 0 _ rfl
                have z1 := HE9.out.cs 1 _ rfl
                have z2 := HE9.out.cs 2 _ rfl
                rw [HUP.out] at z2
                have zl := HE9.out.lt
                have HPT := Lib.hid (r14put_any pl x.to Ap cp w2.heap.size _ hpll HL9.out.op HL9.out.B.size)
                unfold PutV at HPT
                go_wp2_with fail
                refine HPT.out.mono ?_
                rintro e w8 ⟨A8, c8, rfl, ho8, hg8, hb8⟩
                have HL8 := Lib.hid (HL9.out.putP ho8 hg8 hb8 HNQ.out HNP.out)
                clear ho8 hg8 hb8 z0 z1 z2 zl
                go_wp2_with fail
                go_roundg (gk - 1)
                case rel => exact ⟨k + 1, Aq, cq, A8, c8, ql, Bk.put pl x.to, by have := HK.out; omega, by go_num, rfl, rfl, HL8.out⟩
                case measure => have := HK.out; omega
              | false =>
                rw [hu] at hnq hnp
                rw [if_pos (by decide)] at hnq
                rw [if_neg (by decide)] at hnp
                have HNQ := Lib.hid hnq
                have HNP := Lib.hid hnp
                have HUP := Lib.hid hu
                clear hnq hnp hu
                go_upto_region 10 with fail
                clear c0 c1 c2 c3 c4 c5 x0 xl q0 q1 q2 qlt
                generalize wr.alloc (.cells #[.string (ofL x.shop), .string (ofL x.to), .bool x.up, .string (ofL x.key), .slice Ax x.want.length cx, .bool x.all] 69) = w3 at *
                refine wp_region_held_drew (S := fun a => Below (w3.heap.size) w3 a) (by kernel_rfl) (by (try dsimp only); exact (Below.refl _ _).drew) (fun hHeld => ?_)
                refine wpAnyH_take (i := 0) (oi := { dst := some 42, op := Go.Op.fieldAddr 69 (Go.Operand.tmp 15) 0, type := 0, pos := "ref.go:183", after := #[], guard := none }) (v := ?_) rfl (by kernel_rfl) (by kernel_rfl) (by kernel_rfl) (fun _ _ _ h => h) (Or.inl ⟨by rfl, ?_⟩) (by assumption) ?_
                rotate_left 1
                · intro wS hSw; (try dsimp only at hSw); go_simp; try with_reducible rfl
                try simp only [Act.put, List.setIfInBounds_toArray, List.set_cons_zero, List.set_cons_succ]
                refine wpAnyH_take (i := 1) (oi := { dst := some 43, op := Go.Op.load 9 (Go.Operand.tmp 42), type := 9, pos := "ref.go:183", after := #[{ on := 0, ground := Go.Ground.data }], guard := none }) (v := ?_) rfl (by kernel_rfl) (by kernel_rfl) (by kernel_rfl) (fun _ _ _ h => h) (Or.inl ⟨by rfl, ?_⟩) (by assumption) ?_
                rotate_left 1
                · intro wS hSw; (try dsimp only at hSw); have x0' := cell_on hSw x0'; have q0' := cell_on hSw q0'; have q1' := cell_on hSw q1'; have q2' := cell_on hSw q2'; have z0 := cell_on hSw z0; have z1 := cell_on hSw z1; have z2 := cell_on hSw z2; have z3 := cell_on hSw z3; have z4 := cell_on hSw z4; have z5 := cell_on hSw z5; go_simp; try with_reducible rfl
                try simp only [Act.put, List.setIfInBounds_toArray, List.set_cons_zero, List.set_cons_succ]
                refine wpAnyH_take (i := 2) (oi := { dst := some 44, op := Go.Op.move (Go.Operand.tmp 1), type := 9, pos := "ref.go:183", after := #[], guard := none }) (v := ?_) rfl (by kernel_rfl) (by kernel_rfl) (by kernel_rfl) (fun _ _ _ h => h) (Or.inl ⟨by rfl, ?_⟩) (by assumption) ?_
                rotate_left 1
                · intro wS hSw; (try dsimp only at hSw); go_simp; try with_reducible rfl
                try simp only [Act.put, List.setIfInBounds_toArray, List.set_cons_zero, List.set_cons_succ]
                refine wpAnyH_take (i := 3) (oi := { dst := some 45, op := Go.Op.binOp Go.BinOp.eql 9 (Go.Operand.tmp 43) (Go.Operand.tmp 44) 9, type := 4, pos := "ref.go:183", after := #[{ on := 1, ground := Go.Ground.data }, { on := 2, ground := Go.Ground.data }], guard := none }) (v := ?_) rfl (by kernel_rfl) (by kernel_rfl) (by kernel_rfl) (fun _ _ _ h => h) (Or.inl ⟨by rfl, ?_⟩) (by assumption) ?_
                rotate_left 1
                · intro wS hSw; (try dsimp only at hSw); go_simp; try with_reducible rfl
                try simp only [Act.put, List.setIfInBounds_toArray, List.set_cons_zero, List.set_cons_succ]
                refine wpAnyH_take (i := 4) (oi := { dst := some 46, op := Go.Op.move (Go.Operand.tmp 45), type := 4, pos := "ref.go:183", after := #[{ on := 3, ground := Go.Ground.data }], guard := none }) (v := ?_) rfl (by kernel_rfl) (by kernel_rfl) (by kernel_rfl) (fun _ _ _ h => h) (Or.inl ⟨by rfl, ?_⟩) (by assumption) ?_
                rotate_left 1
                · intro wS hSw; (try dsimp only at hSw); go_simp; try with_reducible rfl
                try simp only [Act.put, List.setIfInBounds_toArray, List.set_cons_zero, List.set_cons_succ]
                refine wpAnyH_take (i := 5) (oi := { dst := some 47, op := Go.Op.load 69 (Go.Operand.tmp 15), type := 69, pos := "ref.go:183", after := #[{ on := 4, ground := Go.Ground.guard }], guard := some (4, true) }) (v := ?_) rfl (by kernel_rfl) (by kernel_rfl) (by kernel_rfl) (fun _ _ _ h => h) (Or.inl ⟨by rfl, ?_⟩) (by assumption) ?_
                rotate_left 1
                · intro wS hSw; (try dsimp only at hSw); have x0' := cell_on hSw x0'; have q0' := cell_on hSw q0'; have q1' := cell_on hSw q1'; have q2' := cell_on hSw q2'; have z0 := cell_on hSw z0; have z1 := cell_on hSw z1; have z2 := cell_on hSw z2; have z3 := cell_on hSw z3; have z4 := cell_on hSw z4; have z5 := cell_on hSw z5; go_simp; try with_reducible rfl
                try simp only [Act.put, List.setIfInBounds_toArray, List.set_cons_zero, List.set_cons_succ]
                refine wpAnyH_take (i := 6) (oi := { dst := some 48, op := Go.Op.fieldAddr 32 (Go.Operand.tmp 4) 0, type := 0, pos := "ref.go:183", after := #[{ on := 4, ground := Go.Ground.guard }], guard := some (4, true) }) (v := ?_) rfl (by kernel_rfl) (by kernel_rfl) (by kernel_rfl) (fun _ _ _ h => h) (Or.inl ⟨by rfl, ?_⟩) (by assumption) ?_
                rotate_left 1
                · intro wS hSw; (try dsimp only at hSw); go_simp; try with_reducible rfl
                try simp only [Act.put, List.setIfInBounds_toArray, List.set_cons_zero, List.set_cons_succ]
                refine wpAnyH_take (i := 7) (oi := { dst := some 49, op := Go.Op.load 29 (Go.Operand.tmp 48), type := 29, pos := "ref.go:183", after := #[{ on := 6, ground := Go.Ground.data }, { on := 4, ground := Go.Ground.guard }], guard := some (4, true) }) (v := ?_) rfl (by kernel_rfl) (by kernel_rfl) (by kernel_rfl) (fun _ _ _ h => h) (Or.inl ⟨by rfl, ?_⟩) (by assumption) ?_
                rotate_left 1
                · intro wS hSw; (try dsimp only at hSw); have x0' := cell_on hSw x0'; have q0' := cell_on hSw q0'; have q1' := cell_on hSw q1'; have q2' := cell_on hSw q2'; have z0 := cell_on hSw z0; have z1 := cell_on hSw z1; have z2 := cell_on hSw z2; have z3 := cell_on hSw z3; have z4 := cell_on hSw z4; have z5 := cell_on hSw z5; go_simp; try with_reducible rfl
                try simp only [Act.put, List.setIfInBounds_toArray, List.set_cons_zero, List.set_cons_succ]
                refine wpAnyH_take (i := 8) (oi := { dst := some 50, op := Go.Op.move (Go.Operand.tmp 11), type := 3, pos := "ref.go:183", after := #[{ on := 4, ground := Go.Ground.guard }], guard := some (4, true) }) (v := ?_) rfl (by kernel_rfl) (by kernel_rfl) (by kernel_rfl) (fun _ _ _ h => h) (Or.inl ⟨by rfl, ?_⟩) (by assumption) ?_
                rotate_left 1
                · intro wS hSw; (try dsimp only at hSw); go_simp; try with_reducible rfl
                try simp only [Act.put, List.setIfInBounds_toArray, List.set_cons_zero, List.set_cons_succ]
                refine wpAnyH_take (i := 9) (oi := { dst := some 51, op := Go.Op.indexAddr 29 (Go.Operand.tmp 49) (Go.Operand.tmp 50), type := 0, pos := "ref.go:183", after := #[{ on := 7, ground := Go.Ground.data }, { on := 8, ground := Go.Ground.data }, { on := 4, ground := Go.Ground.guard }], guard := some (4, true) }) (v := ?_) rfl (by kernel_rfl) (by kernel_rfl) (by kernel_rfl) (fun _ _ _ h => h) (Or.inl ⟨by rfl, ?_⟩) (by assumption) ?_
                rotate_left 1
                · intro wS hSw; (try dsimp only at hSw); go_simp; try with_reducible rfl
                try simp only [Act.put, List.setIfInBounds_toArray, List.set_cons_zero, List.set_cons_succ]
                refine wpAnyH_take (i := 10) (oi := { dst := some 52, op := Go.Op.fieldAddr 57 (Go.Operand.tmp 51) 1, type := 0, pos := "ref.go:183", after := #[{ on := 9, ground := Go.Ground.data }, { on := 4, ground := Go.Ground.guard }], guard := some (4, true) }) (v := ?_) rfl (by kernel_rfl) (by kernel_rfl) (by kernel_rfl) (fun _ _ _ h => h) (Or.inl ⟨by rfl, ?_⟩) (by assumption) ?_
                rotate_left 1
                · intro wS hSw; (try dsimp only at hSw); go_simp; try with_reducible rfl
                try simp only [Act.put, List.setIfInBounds_toArray, List.set_cons_zero, List.set_cons_succ]
                refine wpAnyH_take (i := 11) (oi := { dst := some 53, op := Go.Op.load 5 (Go.Operand.tmp 52), type := 5, pos := "ref.go:183", after := #[{ on := 10, ground := Go.Ground.data }, { on := 4, ground := Go.Ground.guard }], guard := some (4, true) }) (v := ?_) rfl (by kernel_rfl) (by kernel_rfl) (by kernel_rfl) (fun _ _ _ h => h) (Or.inl ⟨by rfl, ?_⟩) (by assumption) ?_
                rotate_left 1
                · intro wS hSw; (try dsimp only at hSw); have x0' := cell_on hSw x0'; have q0' := cell_on hSw q0'; have q1' := cell_on hSw q1'; have q2' := cell_on hSw q2'; have z0 := cell_on hSw z0; have z1 := cell_on hSw z1; have z2 := cell_on hSw z2; have z3 := cell_on hSw z3; have z4 := cell_on hSw z4; have z5 := cell_on hSw z5; go_simp; try with_reducible rfl
                try simp only [Act.put, List.setIfInBounds_toArray, List.set_cons_zero, List.set_cons_succ]
                refine wpAnyH_take (i := 13) (oi := { dst := some 55, op := Go.Op.move (Go.Operand.tmp 2), type := 9, pos := "ref.go:183", after := #[{ on := 4, ground := Go.Ground.guard }], guard := some (4, true) }) (v := ?_) rfl (by kernel_rfl) (by kernel_rfl) (by kernel_rfl) (fun _ _ _ h => h) (Or.inl ⟨by rfl, ?_⟩) (by assumption) ?_
                rotate_left 1
                · intro wS hSw; (try dsimp only at hSw); go_simp; try with_reducible rfl
                try simp only [Act.put, List.setIfInBounds_toArray, List.set_cons_zero, List.set_cons_succ]
                refine wpAnyH_take (i := 14) (oi := { dst := some 56, op := Go.Op.move (Go.Operand.tmp 3), type := 35, pos := "ref.go:183", after := #[{ on := 4, ground := Go.Ground.guard }], guard := some (4, true) }) (v := ?_) rfl (by kernel_rfl) (by kernel_rfl) (by kernel_rfl) (fun _ _ _ h => h) (Or.inl ⟨by rfl, ?_⟩) (by assumption) ?_
                rotate_left 1
                · intro wS hSw; (try dsimp only at hSw); go_simp; try with_reducible rfl
                try simp only [Act.put, List.setIfInBounds_toArray, List.set_cons_zero, List.set_cons_succ]
                refine wpAnyH_ready (rs := [12]) (by kernel_rfl) (by simp) ?_
                refine AllReadyH.cons (o := { dst := some 54, op := Go.Op.call { callee := Go.Callee.value (Go.Operand.func 45), args := #[Go.Operand.tmp 47, Go.Operand.tmp 53], argTypes := #[69, 5] }, type := 88, pos := "ref.go:183", after := #[{ on := 5, ground := Go.Ground.data }, { on := 11, ground := Go.Ground.data }, { on := 4, ground := Go.Ground.chain }, { on := 4, ground := Go.Ground.guard }], guard := some (4, true) }) rfl (fun K hK => ?_) (AllReadyH.nil)
                go_simp
                go_at_call 45
                refine (HRX.out _).mono ?_
                rintro e wx ⟨rfl, hb2⟩
                refine hK.out _ _ (bthen hHeld hb2 (Nat.le_refl _)) (fun hHeld2 => ?_)
                clear hK K hHeld hb2
                have hHeld := hHeld2
                clear hHeld2
                try simp only [Act.put, List.setIfInBounds_toArray, List.set_cons_zero, List.set_cons_succ]
                refine wpAnyH_ready (rs := [15]) (by kernel_rfl) (by simp) ?_
                refine AllReadyH.cons (o := { dst := some 57, op := Go.Op.call { callee := Go.Callee.value (Go.Operand.func 44), args := #[Go.Operand.tmp 54, Go.Operand.tmp 55, Go.Operand.tmp 56], argTypes := #[88, 9, 35] }, type := 4, pos := "ref.go:183", after := #[{ on := 12, ground := Go.Ground.data }, { on := 13, ground := Go.Ground.data }, { on := 14, ground := Go.Ground.data }, { on := 12, ground := Go.Ground.chain }, { on := 4, ground := Go.Ground.guard }], guard := some (4, true) }) rfl (fun K hK => ?_) (AllReadyH.nil)
                go_simp
                go_at_call 44
                refine (HGX.out _ ((HOK.out.on (show Below w3.heap.size w3 _ from hHeld)).ru y.sort) (HPA.out.on (show Below w3.heap.size w3 _ from hHeld))).mono ?_
                rintro e wx ⟨rfl, hb2⟩
                refine hK.out _ _ (bthen hHeld hb2 (Nat.le_refl _)) (fun hHeld2 => ?_)
                clear hK K hHeld hb2
                have hHeld := hHeld2
                clear hHeld2
                try simp only [Act.put, List.setIfInBounds_toArray, List.set_cons_zero, List.set_cons_succ]
                refine wpAnyH_take (i := 16) (oi := { dst := some 58, op := Go.Op.pick (Go.Operand.tmp 46) (Go.Operand.tmp 57) (Go.Operand.const (Go.Value.bool false)), type := 4, pos := "ref.go:183", after := #[{ on := 4, ground := Go.Ground.data }, { on := 15, ground := Go.Ground.data }], guard := none }) (v := ?_) rfl (by kernel_rfl) (by kernel_rfl) (by kernel_rfl) (fun _ _ _ h => h) (Or.inl ⟨by rfl, ?_⟩) (by assumption) ?_
                rotate_left 1
                · intro wS hSw; (try dsimp only at hSw); go_simp; try with_reducible rfl
                try simp only [Act.put, List.setIfInBounds_toArray, List.set_cons_zero, List.set_cons_succ]
                refine wpAnyH_done (by kernel_rfl) ?_ _
                have hZ := hHeld
                clear hHeld
                have hb9 := bthen HA.out (show Below w3.heap.size w3 _ from hZ) (Nat.le_refl _)
                have HL9 := Lib.hid (HQ.out.on hb9)
                have HE9 := Lib.hid (HE.out.on (show Below w3.heap.size w3 _ from hZ))
                clear hZ x0' q0' q1' q2' hb9 z0 z1 z2 z3 z4 z5 zl
                have z0 := HE9.out.cs 0 _ rfl
                have z1 := HE9.out.cs 1 _ rfl
                have z2 := HE9.out.cs 2 _ rfl
                rw [HUP.out] at z2
                have zl := HE9.out.lt
                have HPT := Lib.hid (r14put_any ql x.to Aq cq w2.heap.size _ hqll HL9.out.oq HL9.out.B.size)
                unfold PutV at HPT
                go_wp2_with fail
                refine HPT.out.mono ?_
                rintro e w8 ⟨A8, c8, rfl, ho8, hg8, hb8⟩
                have HL8 := Lib.hid (HL9.out.putQ ho8 hg8 hb8 HNQ.out HNP.out)
                clear ho8 hg8 hb8 z0 z1 z2 zl
                go_wp2_with fail
                go_roundg (gk - 1)
                case rel => exact ⟨k + 1, A8, c8, Ap, cp, Bk.put ql x.to, pl, by have := HK.out; omega, by go_num, rfl, rfl, HL8.out⟩
                case measure => have := HK.out; omega
        · have hkn : k = ps.length := by have := HK.out; omega
          have h1 : ql = Bk.lead y false key h binds := by rw [HQ.out.eq, hkn, HML.out, List.take_length]
          have h2 : pl = Bk.lead y true key h binds := by rw [HQ.out.ep, hkn, HML.out, List.take_length]
          have H1 := Lib.hid h1
          have H2 := Lib.hid h2
          have HOQ := Lib.hid (Rws.of_own HQ.out.oq)
          have HOP := Lib.hid (Rws.of_own HQ.out.op)
          clear h1 h2 hkn x0 xl q0 q1 q2 qlt
          go_wp2_with fail
          refine bodyPost_ret (v := .tuple #[.slice Aq ql.length cq, .slice Ap pl.length cp, .int .i64 0]) (by simp [results, Tryz.results16, go_sem]) rfl ?_
          obtain ⟨A9, c9, e9, hc9, hn9, hr9, -⟩ := HOQ.out
          obtain ⟨rfl, -, rfl⟩ := Value.slice.inj e9
          obtain ⟨B9, d9, e9, hd9, hm9, hs9, -⟩ := HOP.out
          obtain ⟨rfl, -, rfl⟩ := Value.slice.inj e9
          rw [← H1.out, ← H2.out]
          exact ⟨Aq, cq, Ap, cp, rfl, hc9, hn9, hr9, hd9, hm9, hs9, HBW.out⟩
end Go.Proofs.YtopobliajgocaaaGreatDoor
end
