/-
  THE LAW RoutePlays: walked.
-/
import Derived.Test.YtopobliajgocaaaGreatDoorZp44
import Derived.Test.YtopobliajgocaaaGreatDoorZp46
import Derived.Test.YtopobliajgocaaaGreatDoorZp49

section
namespace Go.Proofs.YtopobliajgocaaaGreatDoor
open Go.ChangeShapes Go.WideShapes Go.ChangeAt Go.RowKit
theorem r14Same_self {b : Bk} (hb : Bk.Ok b) (A : Option Addr) (c : Nat) (B : Option Addr) (d : Nat) (ps : List Bp) (C : Option Addr) (e : Nat) (D : Option Addr) (f : Nat) (qs : List Bp) (w : World) (hI : BkAt w A c B d b ps) (hJ : BkAt w C e D f b qs) :
    Calls Tryz.prog 9 #[bkV A c B d b, bkV C e D f b] w fun en w' => en = .returned (.bool true) ∧ Below w.heap.size w w' := by
  have h := r14Same_any b b A c B d ps C e D f qs w (by have := hb.len; omega) (by have := hb.blen; omega) (by have := hb.len; omega) (by have := hb.blen; omega) hI hJ
  rwa [show decide (b = b) = true from decide_eq_true rfl] at h
theorem rtSame_self {b : Bk} (hb : Bk.Ok b) (A : Option Addr) (c : Nat) (B : Option Addr) (d : Nat) (ps : List Bp) (C : Option Addr) (e : Nat) (D : Option Addr) (f : Nat) (qs : List Bp) (w : World) (hI : BkAt w A c B d b ps) (hJ : BkAt w C e D f b qs) :
    Calls Tryz.prog 11 #[bkV A c B d b, bkV C e D f b] w fun en w' => en = .returned (.bool true) ∧ Below w.heap.size w w' := by
  have h := rtSame_any b b A c B d ps C e D f qs w (by have := hb.len; omega) (by have := hb.blen; omega) (by have := hb.len; omega) (by have := hb.blen; omega) hI hJ
  rwa [show decide (b = b) = true from decide_eq_true rfl] at h
set_option maxRecDepth 100000 in
set_option maxHeartbeats 16000000 in
theorem routePlays_walk (A0 : Option Addr) (ca : Nat) (l : List RaP) (w : World) (hl : l.length ≤ 9223372036854775807) (hA : Ras w A0 l) (hL : Len w) : Calls Tryz.prog 3 #[.slice A0 l.length ca] w (LePost w) := by
  unfold LePost
  have HAW := Lib.hid (fun W h => rt_awake_any W h)
  have HLI := Lib.hid (fun W h => light14_any A0 ca l W hl h)
  have HA := Lib.hid hA
  have HL := Lib.hid hL
  clear hA hL
  go_enter Tryz.func3, Tryz.ntmps3
  go_wp2_with fail
  refine (HAW.out _ HL.out).mono ?_
  rintro e w1 ⟨rfl, b1⟩
  have B1 := Lib.hid b1
  clear b1
  go_wp2_with fail
  refine (HLI.out _ (HA.out.on B1.out)).mono ?_
  rintro e w5 ⟨h2, b2⟩
  have B5 := Lib.hid (bthen B1.out b2 (Nat.le_refl _))
  clear b2
  rcases h2 with ⟨rfl, hf⟩ | rfl
  · have HF := Lib.hid hf
    clear hf
    go_upto_region 7 with fail
    have HBX := Lib.hid ((BkBox.new B5.out.size (fun g => g ≠ w5.heap.size ∧ g ≠ w5.heap.size + 1) 28).on (rtOne _ (.cells #[.slice none 0 0, .slice none 0 0] 32)))
    have HBY := Lib.hid (show BkBox w (w5.heap.size + 1) (fun g => g ≠ w5.heap.size ∧ g ≠ w5.heap.size + 1) Bk.empty ((w5.alloc (.cells #[.slice none 0 0, .slice none 0 0] 28)).alloc (.cells #[.slice none 0 0, .slice none 0 0] 32)) from by
      have := BkBox.new (w := w) (W := w5.alloc (.cells #[.slice none 0 0, .slice none 0 0] 28)) (by have := B5.out.size; simp; omega) (fun g => g ≠ w5.heap.size ∧ g ≠ w5.heap.size + 1) 32
      rwa [show (w5.alloc (.cells #[.slice none 0 0, .slice none 0 0] 28)).heap.size = w5.heap.size + 1 by simp] at this)
    have HBB := Lib.hid (bthen B5.out (rtTwo w5 (.cells #[.slice none 0 0, .slice none 0 0] 28) (.cells #[.slice none 0 0, .slice none 0 0] 32)) (Nat.le_refl _))
    generalize ((w5.alloc (.cells #[.slice none 0 0, .slice none 0 0] 28)).alloc (.cells #[.slice none 0 0, .slice none 0 0] 32)) = w6 at *
    generalize w5.heap.size = R at *
    go_wp2_with fail
    go_loopg [18] l.length (fun g i wr => RlSt w R l.length g i wr)
    case atStart => exact ⟨0, Bk.empty, by omega, rfl, Bk.Ok.empty, HBX.out, HBY.out, HBB.out⟩
    case round =>
      obtain ⟨k0, b, hk, rfl, hok, hbx, hby, hbb⟩ := hrel
      have HK := Lib.hid hk
      have HOK := Lib.hid hok
      have HQX := Lib.hid hbx
      have HQY := Lib.hid hby
      have HQB := Lib.hid hbb
      clear hk hok hbx hby hbb
      by_cases hlt : k0 < l.length
      · have hras := HA.out.on HQB.out
        obtain ⟨ba, off, rfl, hbl, hat⟩ := ras_get hras hlt
        have hin := hras.h l[k0] (List.getElem_mem hlt)
        have hfe := HF.out.2 l[k0] (List.getElem_mem hlt)
        generalize l[k0] = p at *
        obtain ⟨k, s, x, Ax, cx⟩ := p
        unfold raL actL at hat
        dsimp only at hat
        have c0 := hat 0 _ rfl
        have c1 := hat 1 _ rfl
        have c2 := hat 2 _ rfl
        have c3 := hat 3 _ rfl
        have c4 := hat 4 _ rfl
        have c5 := hat 5 _ rfl
        have c6 := hat 6 _ rfl
        have c7 := hat 7 _ rfl
        have c8 := hat 8 _ rfl
        have c9 := hat 9 _ rfl
        rw [Nat.add_zero] at c0
        have HXO := Lib.hid (show BdOk wr x Ax cx from hfe.ok hin)
        have HN1 := Lib.hid (show s.name.length ≤ 90000 from by have : s.name.length ≤ 40 := hfe.s1; omega)
        have HN2 := Lib.hid (show s.to.length ≤ 90000 from by have : s.to.length ≤ 40 := hfe.s2; omega)
        have HDO := Lib.hid (fun A c B d ps C e D f qs W U V hx hI hU hJ hV hL => done14_any k s x Ax cx b b A c B d ps C e D f qs W U V HN1.out HN2.out hx HOK.out HOK.out hI hU hJ hV hL)
        rw [show decide ((b.act k s x).2 = (b.act k s x).2) = true from decide_eq_true rfl] at HDO
        have HST := Lib.hid (HOK.out.act k s x)
        obtain ⟨C, e, D, f, qs, hy, hj, hv⟩ := HQY.out
        have y0 := hy.cs 0 _ rfl
        have y1 := hy.cs 1 _ rfl
        have yl := hy.lt
        have hb1 := rtOne wr (.cells #[.int .u8 (k : Int), .string (ofL s.name), .int .u8 (s.sort : Int), .string (ofL s.to), .string (ofL x.shop), .string (ofL x.to), .bool x.up, .string (ofL x.key), .slice Ax x.want.length cx, .bool x.all] 39)
        have hb2 := rtTwo wr (.cells #[.int .u8 (k : Int), .string (ofL s.name), .int .u8 (s.sort : Int), .string (ofL s.to), .string (ofL x.shop), .string (ofL x.to), .bool x.up, .string (ofL x.key), .slice Ax x.want.length cx, .bool x.all] 39) (.cells #[.slice C b.shops.length e, .slice D b.binds.length f] 32)
        have HT2 := Lib.hid (rtAt1 wr (.cells #[.int .u8 (k : Int), .string (ofL s.name), .int .u8 (s.sort : Int), .string (ofL s.to), .string (ofL x.shop), .string (ofL x.to), .bool x.up, .string (ofL x.key), .slice Ax x.want.length cx, .bool x.all] 39) #[.slice C b.shops.length e, .slice D b.binds.length f] 32)
        have HA2 := Lib.hid (rtNext (rtAt0 wr #[.int .u8 (k : Int), .string (ofL s.name), .int .u8 (s.sort : Int), .string (ofL s.to), .string (ofL x.shop), .string (ofL x.to), .bool x.up, .string (ofL x.key), .slice Ax x.want.length cx, .bool x.all] 39) (.cells #[.slice C b.shops.length e, .slice D b.binds.length f] 32))
        have HB2 := Lib.hid (bthen HQB.out hb2 (Nat.le_refl _))
        have HXO2 := Lib.hid (HXO.out.on hb2)
        have HX2 := Lib.hid (HQX.out.on hb2)
        have HY2 := Lib.hid (hy.on hb2)
        have HJ2 := Lib.hid (hj.on hb2)
        have HV2 := Lib.hid (hv.on hb2.size)
        have yl1 : R + 1 < (wr.alloc (.cells #[.int .u8 (k : Int), .string (ofL s.name), .int .u8 (s.sort : Int), .string (ofL s.to), .string (ofL x.shop), .string (ofL x.to), .bool x.up, .string (ofL x.key), .slice Ax x.want.length cx, .bool x.all] 39)).heap.size := Nat.lt_of_lt_of_le yl hb1.size
        have y0 := rtCell hb1 y0
        have y1 := rtCell hb1 y1
        clear hat hin hfe hras hy hj hv hb2 hb1
        go_upto_region 11 with fail
        generalize ((wr.alloc (.cells #[.int .u8 (k : Int), .string (ofL s.name), .int .u8 (s.sort : Int), .string (ofL s.to), .string (ofL x.shop), .string (ofL x.to), .bool x.up, .string (ofL x.key), .slice Ax x.want.length cx, .bool x.all] 39)).alloc (.cells #[.slice C b.shops.length e, .slice D b.binds.length f] 32)) = w2 at *
        generalize wr.heap.size = G at *
        obtain ⟨A, c, B, d, ps, hx, hi, hu⟩ := HX2.out
        have HX := Lib.hid hx
        have HI := Lib.hid hi
        have HU := Lib.hid hu
        have x0 := hx.cs 0 _ rfl
        have x1 := hx.cs 1 _ rfl
        have xl := hx.lt
        clear y0 y1 yl yl1 hx hi hu c0 c1 c2 c3 c4 c5 c6 c7 c8 c9
        have y0 := HY2.out.cs 0 _ rfl
        have y1 := HY2.out.cs 1 _ rfl
        have yl := HY2.out.lt
        have a0 := HA2.out.cs 0 _ rfl
        have a1 := HA2.out.cs 1 _ rfl
        have a2 := HA2.out.cs 2 _ rfl
        have a3 := HA2.out.cs 3 _ rfl
        have a4 := HA2.out.cs 4 _ rfl
        have a5 := HA2.out.cs 5 _ rfl
        have a6 := HA2.out.cs 6 _ rfl
        have a7 := HA2.out.cs 7 _ rfl
        have a8 := HA2.out.cs 8 _ rfl
        have a9 := HA2.out.cs 9 _ rfl
        have al := HA2.out.lt
        unfold DonePost bkV actV at HDO
        have HSE := Lib.hid (fun A c B d ps C e D f qs W hI hJ => rtSame_any b (b.act k s x).1 A c B d ps C e D f qs W (by have := HOK.out.len; omega) (by have := HOK.out.blen; omega) (by have := HST.out.len; omega) (by have := HST.out.blen; omega) hI hJ)
        have HSF := Lib.hid (fun A c B d ps C e D f qs W hI hJ => r14Same_any b (b.act k s x).1 A c B d ps C e D f qs W (by have := HOK.out.len; omega) (by have := HOK.out.blen; omega) (by have := HST.out.len; omega) (by have := HST.out.blen; omega) hI hJ)
        generalize b.act k s x = q2 at *
        generalize decide (b = q2.1) = E at *
        have HOF := Lib.hid (fun A c B d ps W hI => of14_any b A c B d ps W (by have := HOK.out.len; omega) (by have := HOK.out.blen; omega) hI)
        have HOG := Lib.hid (fun A c B d ps W hI => of14_any q2.1 A c B d ps W (by have := HST.out.len; omega) (by have := HST.out.blen; omega) hI)
        have HSS := Lib.hid (fun A c B d ps C e D f qs W hI hJ => r14Same_self HOK.out A c B d ps C e D f qs W hI hJ)
        have HST2 := Lib.hid (fun A c B d ps C e D f qs W hI hJ => r14Same_self HST.out A c B d ps C e D f qs W hI hJ)
        have HRT := Lib.hid (fun A c B d ps C e D f qs W hI hJ => rtSame_self HST.out A c B d ps C e D f qs W hI hJ)
        unfold OfPost bkV at HOF HOG
        unfold bkV at HSE HSF HSS HST2 HRT
        go_wp2_with fail
        refine (HDO.out _ _ _ _ _ _ _ _ _ _ _ _ _ HXO2.out HI.out HU.out HJ2.out HV2.out (HL.out.on HB2.out)).mono ?_
        rintro en w3 ⟨A7, c7, B7, d7, ps7, C7, e7, D7, f7, qs7, rfl, hI7, hU7, hJ7, hV7, hb7⟩
        have hb8 := rtTwo w3 (.cells #[.slice A7 q2.1.shops.length c7, .slice B7 q2.1.binds.length d7] 28) (.cells #[.slice C7 q2.1.shops.length e7, .slice D7 q2.1.binds.length f7] 32)
        have hb9 := bthen hb7 hb8 (Nat.le_refl _)
        have HX5 := Lib.hid (HX.out.on hb9)
        have HI5 := Lib.hid (HI.out.on hb9)
        have HY5 := Lib.hid (HY2.out.on hb9)
        have HT5 := Lib.hid (HT2.out.on hb9)
        have HJ5 := Lib.hid (HJ2.out.on hb9)
        have HNB := Lib.hid (rtNext (rtAt0 w3 #[.slice A7 q2.1.shops.length c7, .slice B7 q2.1.binds.length d7] 28) (.cells #[.slice C7 q2.1.shops.length e7, .slice D7 q2.1.binds.length f7] 32))
        have HNQ := Lib.hid (rtAt1 w3 (.cells #[.slice A7 q2.1.shops.length c7, .slice B7 q2.1.binds.length d7] 28) #[.slice C7 q2.1.shops.length e7, .slice D7 q2.1.binds.length f7] 32)
        have HI7 := Lib.hid (hI7.on hb8)
        have HU7 := Lib.hid (hU7.on hb8.size)
        have HJ7 := Lib.hid (hJ7.on hb8)
        have HV7 := Lib.hid (hV7.on hb8.size)
        have HZ := Lib.hid (show R < w2.heap.size ∧ R + 1 < w2.heap.size from ⟨xl, yl⟩)
        have HB5 := Lib.hid (bthen HB2.out hb9 (Nat.le_refl _))
        have HRH := Lib.hid (show R + 1 < w3.heap.size from Nat.lt_of_lt_of_le yl hb7.size)
        clear hI7 hU7 hJ7 hV7 hb7 hb8 hb9 x0 x1 xl y0 y1 yl a0 a1 a2 a3 a4 a5 a6 a7 a8 a9 al
        go_upto_region 12 with fail
        generalize ((w3.alloc (.cells #[.slice A7 q2.1.shops.length c7, .slice B7 q2.1.binds.length d7] 28)).alloc (.cells #[.slice C7 q2.1.shops.length e7, .slice D7 q2.1.binds.length f7] 32)) = w4 at *
        generalize w3.heap.size = H at *
        have x0 := HX5.out.cs 0 _ rfl
        have x1 := HX5.out.cs 1 _ rfl
        have xl := HX5.out.lt
        have t0 := HT5.out.cs 0 _ rfl
        have t1 := HT5.out.cs 1 _ rfl
        have tl := HT5.out.lt
        have u0 := HNB.out.cs 0 _ rfl
        have u1 := HNB.out.cs 1 _ rfl
        have ul := HNB.out.lt
        have v0 := HNQ.out.cs 0 _ rfl
        have v1 := HNQ.out.cs 1 _ rfl
        have vl := HNQ.out.lt
        refine wp_region_held_drew (S := fun a => Below (w4.heap.size) w4 a) (by kernel_rfl) (by (try dsimp only); exact (Below.refl _ _).drew) (fun hHeld => ?_)
        refine wpAnyH_take (i := 0) (oi := { dst := some 31, op := Go.Op.move (Go.Operand.tmp 10), type := 4, pos := "law.go:103", after := #[], guard := none }) (v := ?_) rfl (by kernel_rfl) (by kernel_rfl) (by kernel_rfl) (fun _ _ _ h => h) (Or.inl ⟨by rfl, ?_⟩) (by assumption) ?_
        rotate_left 1
        · intro wS hSw; (try dsimp only at hSw); go_simp; try with_reducible rfl
        try simp only [Act.put, List.setIfInBounds_toArray, List.set_cons_zero, List.set_cons_succ]
        refine wpAnyH_take (i := 1) (oi := { dst := some 32, op := Go.Op.unOp Go.UnOp.not 4 (Go.Operand.tmp 31), type := 4, pos := "law.go:103", after := #[{ on := 0, ground := Go.Ground.data }], guard := none }) (v := ?_) rfl (by kernel_rfl) (by kernel_rfl) (by kernel_rfl) (fun _ _ _ h => h) (Or.inl ⟨by rfl, ?_⟩) (by assumption) ?_
        rotate_left 1
        · intro wS hSw; (try dsimp only at hSw); go_simp; try with_reducible rfl
        try simp only [Act.put, List.setIfInBounds_toArray, List.set_cons_zero, List.set_cons_succ]
        refine wpAnyH_take (i := 2) (oi := { dst := some 33, op := Go.Op.move (Go.Operand.tmp 32), type := 4, pos := "law.go:103", after := #[{ on := 1, ground := Go.Ground.data }], guard := none }) (v := ?_) rfl (by kernel_rfl) (by kernel_rfl) (by kernel_rfl) (fun _ _ _ h => h) (Or.inl ⟨by rfl, ?_⟩) (by assumption) ?_
        rotate_left 1
        · intro wS hSw; (try dsimp only at hSw); go_simp; try with_reducible rfl
        try simp only [Act.put, List.setIfInBounds_toArray, List.set_cons_zero, List.set_cons_succ]
        refine wpAnyH_take (i := 3) (oi := { dst := some 34, op := Go.Op.load 28 (Go.Operand.tmp 8), type := 28, pos := "law.go:103", after := #[{ on := 2, ground := Go.Ground.guard }], guard := some (2, false) }) (v := ?_) rfl (by kernel_rfl) (by kernel_rfl) (by kernel_rfl) (fun _ _ _ h => h) (Or.inl ⟨by rfl, ?_⟩) (by assumption) ?_
        rotate_left 1
        · intro wS hSw; (try dsimp only at hSw); have x0 := cell_on hSw x0; have x1 := cell_on hSw x1; have t0 := cell_on hSw t0; have t1 := cell_on hSw t1; have u0 := cell_on hSw u0; have u1 := cell_on hSw u1; have v0 := cell_on hSw v0; have v1 := cell_on hSw v1; go_simp; try with_reducible rfl
        try simp only [Act.put, List.setIfInBounds_toArray, List.set_cons_zero, List.set_cons_succ]
        refine wpAnyH_take (i := 5) (oi := { dst := some 36, op := Go.Op.load 32 (Go.Operand.tmp 9), type := 32, pos := "law.go:103", after := #[{ on := 2, ground := Go.Ground.guard }], guard := some (2, false) }) (v := ?_) rfl (by kernel_rfl) (by kernel_rfl) (by kernel_rfl) (fun _ _ _ h => h) (Or.inl ⟨by rfl, ?_⟩) (by assumption) ?_
        rotate_left 1
        · intro wS hSw; (try dsimp only at hSw); have x0 := cell_on hSw x0; have x1 := cell_on hSw x1; have t0 := cell_on hSw t0; have t1 := cell_on hSw t1; have u0 := cell_on hSw u0; have u1 := cell_on hSw u1; have v0 := cell_on hSw v0; have v1 := cell_on hSw v1; go_simp; try with_reducible rfl
        try simp only [Act.put, List.setIfInBounds_toArray, List.set_cons_zero, List.set_cons_succ]
        refine wpAnyH_ready (rs := [4]) (by kernel_rfl) (by simp) ?_
        refine AllReadyH.cons (o := { dst := some 35, op := Go.Op.call { callee := Go.Callee.value (Go.Operand.func 10), args := #[Go.Operand.tmp 34], argTypes := #[28] }, type := 32, pos := "law.go:103", after := #[{ on := 3, ground := Go.Ground.data }, { on := 2, ground := Go.Ground.chain }, { on := 2, ground := Go.Ground.guard }], guard := some (2, false) }) rfl (fun K hK => ?_) (AllReadyH.nil)
        go_simp
        go_at_call 10
        refine (HOG.out _ _ _ _ _ _ (HI7.out.on (show Below w4.heap.size w4 _ from hHeld))).mono ?_
        rintro e wx ⟨Ag, cg, Bg, dg, pg, rfl, hg, hb2⟩
        have HG := Lib.hid hg
        clear hg
        refine hK.out _ _ (bthen hHeld hb2 (Nat.le_refl _)) (fun hHeld2 => ?_)
        clear hK K hHeld hb2
        have hHeld := hHeld2
        clear hHeld2
        try simp only [Act.put, List.setIfInBounds_toArray, List.set_cons_zero, List.set_cons_succ]
        refine wpAnyH_ready (rs := [6]) (by kernel_rfl) (by simp) ?_
        refine AllReadyH.cons (o := { dst := some 37, op := Go.Op.call { callee := Go.Callee.value (Go.Operand.func 9), args := #[Go.Operand.tmp 35, Go.Operand.tmp 36], argTypes := #[32, 32] }, type := 4, pos := "law.go:103", after := #[{ on := 4, ground := Go.Ground.data }, { on := 5, ground := Go.Ground.data }, { on := 4, ground := Go.Ground.chain }, { on := 2, ground := Go.Ground.guard }], guard := some (2, false) }) rfl (fun K hK => ?_) (AllReadyH.nil)
        go_simp
        go_at_call 9
        refine (HST2.out _ _ _ _ _ _ _ _ _ _ _ HG.out (HJ7.out.on (show Below w4.heap.size w4 _ from hHeld))).mono ?_
        rintro e wx ⟨rfl, hb2⟩
        refine hK.out _ _ (bthen hHeld hb2 (Nat.le_refl _)) (fun hHeld2 => ?_)
        clear hK K hHeld hb2
        have hHeld := hHeld2
        clear hHeld2
        try simp only [Act.put, List.setIfInBounds_toArray, List.set_cons_zero, List.set_cons_succ]
        refine wpAnyH_take (i := 7) (oi := { dst := some 38, op := Go.Op.unOp Go.UnOp.not 4 (Go.Operand.tmp 37), type := 4, pos := "law.go:103", after := #[{ on := 6, ground := Go.Ground.data }, { on := 2, ground := Go.Ground.guard }], guard := some (2, false) }) (v := ?_) rfl (by kernel_rfl) (by kernel_rfl) (by kernel_rfl) (fun _ _ _ h => h) (Or.inl ⟨by rfl, ?_⟩) (by assumption) ?_
        rotate_left 1
        · intro wS hSw; (try dsimp only at hSw); go_simp; try with_reducible rfl
        try simp only [Act.put, List.setIfInBounds_toArray, List.set_cons_zero, List.set_cons_succ]
        refine wpAnyH_take (i := 8) (oi := { dst := some 39, op := Go.Op.pick (Go.Operand.tmp 33) (Go.Operand.const (Go.Value.bool true)) (Go.Operand.tmp 38), type := 4, pos := "law.go:103", after := #[{ on := 2, ground := Go.Ground.data }, { on := 7, ground := Go.Ground.data }], guard := none }) (v := ?_) rfl (by kernel_rfl) (by kernel_rfl) (by kernel_rfl) (fun _ _ _ h => h) (Or.inl ⟨by rfl, ?_⟩) (by assumption) ?_
        rotate_left 1
        · intro wS hSw; (try dsimp only at hSw); go_simp; try with_reducible rfl
        try simp only [Act.put, List.setIfInBounds_toArray, List.set_cons_zero, List.set_cons_succ]
        refine wpAnyH_take (i := 9) (oi := { dst := some 40, op := Go.Op.move (Go.Operand.tmp 39), type := 4, pos := "law.go:103", after := #[{ on := 8, ground := Go.Ground.data }, { on := 6, ground := Go.Ground.chain }], guard := none }) (v := ?_) rfl (by kernel_rfl) (by kernel_rfl) (by kernel_rfl) (fun _ _ _ h => h) (Or.inl ⟨by rfl, ?_⟩) (by assumption) ?_
        rotate_left 1
        · intro wS hSw; (try dsimp only at hSw); go_simp; try with_reducible rfl
        try simp only [Act.put, List.setIfInBounds_toArray, List.set_cons_zero, List.set_cons_succ]
        refine wpAnyH_take (i := 10) (oi := { dst := some 41, op := Go.Op.load 28 (Go.Operand.tmp 3), type := 28, pos := "law.go:103", after := #[{ on := 9, ground := Go.Ground.guard }], guard := some (9, false) }) (v := ?_) rfl (by kernel_rfl) (by kernel_rfl) (by kernel_rfl) (fun _ _ _ h => h) (Or.inl ⟨by rfl, ?_⟩) (by assumption) ?_
        rotate_left 1
        · intro wS hSw; (try dsimp only at hSw); have x0 := cell_on hSw x0; have x1 := cell_on hSw x1; have t0 := cell_on hSw t0; have t1 := cell_on hSw t1; have u0 := cell_on hSw u0; have u1 := cell_on hSw u1; have v0 := cell_on hSw v0; have v1 := cell_on hSw v1; go_simp; try with_reducible rfl
        try simp only [Act.put, List.setIfInBounds_toArray, List.set_cons_zero, List.set_cons_succ]
        refine wpAnyH_take (i := 12) (oi := { dst := some 43, op := Go.Op.load 32 (Go.Operand.tmp 7), type := 32, pos := "law.go:103", after := #[{ on := 9, ground := Go.Ground.guard }], guard := some (9, false) }) (v := ?_) rfl (by kernel_rfl) (by kernel_rfl) (by kernel_rfl) (fun _ _ _ h => h) (Or.inl ⟨by rfl, ?_⟩) (by assumption) ?_
        rotate_left 1
        · intro wS hSw; (try dsimp only at hSw); have x0 := cell_on hSw x0; have x1 := cell_on hSw x1; have t0 := cell_on hSw t0; have t1 := cell_on hSw t1; have u0 := cell_on hSw u0; have u1 := cell_on hSw u1; have v0 := cell_on hSw v0; have v1 := cell_on hSw v1; go_simp; try with_reducible rfl
        try simp only [Act.put, List.setIfInBounds_toArray, List.set_cons_zero, List.set_cons_succ]
        refine wpAnyH_ready (rs := [11]) (by kernel_rfl) (by simp) ?_
        refine AllReadyH.cons (o := { dst := some 42, op := Go.Op.call { callee := Go.Callee.value (Go.Operand.func 10), args := #[Go.Operand.tmp 41], argTypes := #[28] }, type := 32, pos := "law.go:103", after := #[{ on := 10, ground := Go.Ground.data }, { on := 9, ground := Go.Ground.chain }, { on := 9, ground := Go.Ground.guard }], guard := some (9, false) }) rfl (fun K hK => ?_) (AllReadyH.nil)
        go_simp
        go_at_call 10
        refine (HOF.out _ _ _ _ _ _ (HI5.out.on (show Below w4.heap.size w4 _ from hHeld))).mono ?_
        rintro e wx ⟨Ah, ch, Bh, dh, ph, rfl, hg, hb2⟩
        have HH := Lib.hid hg
        clear hg
        refine hK.out _ _ (bthen hHeld hb2 (Nat.le_refl _)) (fun hHeld2 => ?_)
        clear hK K hHeld hb2
        have hHeld := hHeld2
        clear hHeld2
        try simp only [Act.put, List.setIfInBounds_toArray, List.set_cons_zero, List.set_cons_succ]
        refine wpAnyH_ready (rs := [13]) (by kernel_rfl) (by simp) ?_
        refine AllReadyH.cons (o := { dst := some 44, op := Go.Op.call { callee := Go.Callee.value (Go.Operand.func 9), args := #[Go.Operand.tmp 42, Go.Operand.tmp 43], argTypes := #[32, 32] }, type := 4, pos := "law.go:103", after := #[{ on := 11, ground := Go.Ground.data }, { on := 12, ground := Go.Ground.data }, { on := 11, ground := Go.Ground.chain }, { on := 9, ground := Go.Ground.guard }], guard := some (9, false) }) rfl (fun K hK => ?_) (AllReadyH.nil)
        go_simp
        go_at_call 9
        refine (HSS.out _ _ _ _ _ _ _ _ _ _ _ HH.out (HJ5.out.on (show Below w4.heap.size w4 _ from hHeld))).mono ?_
        rintro e wx ⟨rfl, hb2⟩
        refine hK.out _ _ (bthen hHeld hb2 (Nat.le_refl _)) (fun hHeld2 => ?_)
        clear hK K hHeld hb2
        have hHeld := hHeld2
        clear hHeld2
        try simp only [Act.put, List.setIfInBounds_toArray, List.set_cons_zero, List.set_cons_succ]
        refine wpAnyH_take (i := 14) (oi := { dst := some 45, op := Go.Op.unOp Go.UnOp.not 4 (Go.Operand.tmp 44), type := 4, pos := "law.go:103", after := #[{ on := 13, ground := Go.Ground.data }, { on := 9, ground := Go.Ground.guard }], guard := some (9, false) }) (v := ?_) rfl (by kernel_rfl) (by kernel_rfl) (by kernel_rfl) (fun _ _ _ h => h) (Or.inl ⟨by rfl, ?_⟩) (by assumption) ?_
        rotate_left 1
        · intro wS hSw; (try dsimp only at hSw); go_simp; try with_reducible rfl
        try simp only [Act.put, List.setIfInBounds_toArray, List.set_cons_zero, List.set_cons_succ]
        refine wpAnyH_take (i := 15) (oi := { dst := some 46, op := Go.Op.pick (Go.Operand.tmp 40) (Go.Operand.const (Go.Value.bool true)) (Go.Operand.tmp 45), type := 4, pos := "law.go:103", after := #[{ on := 9, ground := Go.Ground.data }, { on := 14, ground := Go.Ground.data }], guard := none }) (v := ?_) rfl (by kernel_rfl) (by kernel_rfl) (by kernel_rfl) (fun _ _ _ h => h) (Or.inl ⟨by rfl, ?_⟩) (by assumption) ?_
        rotate_left 1
        · intro wS hSw; (try dsimp only at hSw); go_simp; try with_reducible rfl
        try simp only [Act.put, List.setIfInBounds_toArray, List.set_cons_zero, List.set_cons_succ]
        refine wpAnyH_take (i := 16) (oi := { dst := some 47, op := Go.Op.move (Go.Operand.tmp 46), type := 4, pos := "law.go:103", after := #[{ on := 15, ground := Go.Ground.data }, { on := 13, ground := Go.Ground.chain }], guard := none }) (v := ?_) rfl (by kernel_rfl) (by kernel_rfl) (by kernel_rfl) (fun _ _ _ h => h) (Or.inl ⟨by rfl, ?_⟩) (by assumption) ?_
        rotate_left 1
        · intro wS hSw; (try dsimp only at hSw); go_simp; try with_reducible rfl
        try simp only [Act.put, List.setIfInBounds_toArray, List.set_cons_zero, List.set_cons_succ]
        refine wpAnyH_take (i := 17) (oi := { dst := some 48, op := Go.Op.load 28 (Go.Operand.tmp 8), type := 28, pos := "law.go:103", after := #[{ on := 16, ground := Go.Ground.guard }], guard := some (16, false) }) (v := ?_) rfl (by kernel_rfl) (by kernel_rfl) (by kernel_rfl) (fun _ _ _ h => h) (Or.inl ⟨by rfl, ?_⟩) (by assumption) ?_
        rotate_left 1
        · intro wS hSw; (try dsimp only at hSw); have x0 := cell_on hSw x0; have x1 := cell_on hSw x1; have t0 := cell_on hSw t0; have t1 := cell_on hSw t1; have u0 := cell_on hSw u0; have u1 := cell_on hSw u1; have v0 := cell_on hSw v0; have v1 := cell_on hSw v1; go_simp; try with_reducible rfl
        try simp only [Act.put, List.setIfInBounds_toArray, List.set_cons_zero, List.set_cons_succ]
        refine wpAnyH_take (i := 18) (oi := { dst := some 49, op := Go.Op.load 28 (Go.Operand.tmp 8), type := 28, pos := "law.go:103", after := #[{ on := 16, ground := Go.Ground.guard }], guard := some (16, false) }) (v := ?_) rfl (by kernel_rfl) (by kernel_rfl) (by kernel_rfl) (fun _ _ _ h => h) (Or.inl ⟨by rfl, ?_⟩) (by assumption) ?_
        rotate_left 1
        · intro wS hSw; (try dsimp only at hSw); have x0 := cell_on hSw x0; have x1 := cell_on hSw x1; have t0 := cell_on hSw t0; have t1 := cell_on hSw t1; have u0 := cell_on hSw u0; have u1 := cell_on hSw u1; have v0 := cell_on hSw v0; have v1 := cell_on hSw v1; go_simp; try with_reducible rfl
        try simp only [Act.put, List.setIfInBounds_toArray, List.set_cons_zero, List.set_cons_succ]
        refine wpAnyH_ready (rs := [19]) (by kernel_rfl) (by simp) ?_
        refine AllReadyH.cons (o := { dst := some 50, op := Go.Op.call { callee := Go.Callee.value (Go.Operand.func 11), args := #[Go.Operand.tmp 48, Go.Operand.tmp 49], argTypes := #[28, 28] }, type := 4, pos := "law.go:103", after := #[{ on := 17, ground := Go.Ground.data }, { on := 18, ground := Go.Ground.data }, { on := 16, ground := Go.Ground.chain }, { on := 16, ground := Go.Ground.guard }], guard := some (16, false) }) rfl (fun K hK => ?_) (AllReadyH.nil)
        go_simp
        go_at_call 11
        refine (HRT.out _ _ _ _ _ _ _ _ _ _ _ (HI7.out.on (show Below w4.heap.size w4 _ from hHeld)) (HI7.out.on (show Below w4.heap.size w4 _ from hHeld))).mono ?_
        rintro e wx ⟨rfl, hb2⟩
        refine hK.out _ _ (bthen hHeld hb2 (Nat.le_refl _)) (fun hHeld2 => ?_)
        clear hK K hHeld hb2
        have hHeld := hHeld2
        clear hHeld2
        try simp only [Act.put, List.setIfInBounds_toArray, List.set_cons_zero, List.set_cons_succ]
        refine wpAnyH_take (i := 20) (oi := { dst := some 51, op := Go.Op.unOp Go.UnOp.not 4 (Go.Operand.tmp 50), type := 4, pos := "law.go:103", after := #[{ on := 19, ground := Go.Ground.data }, { on := 16, ground := Go.Ground.guard }], guard := some (16, false) }) (v := ?_) rfl (by kernel_rfl) (by kernel_rfl) (by kernel_rfl) (fun _ _ _ h => h) (Or.inl ⟨by rfl, ?_⟩) (by assumption) ?_
        rotate_left 1
        · intro wS hSw; (try dsimp only at hSw); go_simp; try with_reducible rfl
        try simp only [Act.put, List.setIfInBounds_toArray, List.set_cons_zero, List.set_cons_succ]
        refine wpAnyH_take (i := 21) (oi := { dst := some 52, op := Go.Op.pick (Go.Operand.tmp 47) (Go.Operand.const (Go.Value.bool true)) (Go.Operand.tmp 51), type := 4, pos := "law.go:103", after := #[{ on := 16, ground := Go.Ground.data }, { on := 20, ground := Go.Ground.data }], guard := none }) (v := ?_) rfl (by kernel_rfl) (by kernel_rfl) (by kernel_rfl) (fun _ _ _ h => h) (Or.inl ⟨by rfl, ?_⟩) (by assumption) ?_
        rotate_left 1
        · intro wS hSw; (try dsimp only at hSw); go_simp; try with_reducible rfl
        try simp only [Act.put, List.setIfInBounds_toArray, List.set_cons_zero, List.set_cons_succ]
        refine wpAnyH_take (i := 22) (oi := { dst := some 53, op := Go.Op.move (Go.Operand.tmp 52), type := 4, pos := "law.go:103", after := #[{ on := 21, ground := Go.Ground.data }, { on := 19, ground := Go.Ground.chain }], guard := none }) (v := ?_) rfl (by kernel_rfl) (by kernel_rfl) (by kernel_rfl) (fun _ _ _ h => h) (Or.inl ⟨by rfl, ?_⟩) (by assumption) ?_
        rotate_left 1
        · intro wS hSw; (try dsimp only at hSw); go_simp; try with_reducible rfl
        try simp only [Act.put, List.setIfInBounds_toArray, List.set_cons_zero, List.set_cons_succ]
        refine wpAnyH_take (i := 23) (oi := { dst := some 54, op := Go.Op.load 28 (Go.Operand.tmp 3), type := 28, pos := "law.go:103", after := #[{ on := 22, ground := Go.Ground.guard }], guard := some (22, false) }) (v := ?_) rfl (by kernel_rfl) (by kernel_rfl) (by kernel_rfl) (fun _ _ _ h => h) (Or.inl ⟨by rfl, ?_⟩) (by assumption) ?_
        rotate_left 1
        · intro wS hSw; (try dsimp only at hSw); have x0 := cell_on hSw x0; have x1 := cell_on hSw x1; have t0 := cell_on hSw t0; have t1 := cell_on hSw t1; have u0 := cell_on hSw u0; have u1 := cell_on hSw u1; have v0 := cell_on hSw v0; have v1 := cell_on hSw v1; go_simp; try with_reducible rfl
        try simp only [Act.put, List.setIfInBounds_toArray, List.set_cons_zero, List.set_cons_succ]
        refine wpAnyH_take (i := 24) (oi := { dst := some 55, op := Go.Op.load 28 (Go.Operand.tmp 8), type := 28, pos := "law.go:103", after := #[{ on := 22, ground := Go.Ground.guard }], guard := some (22, false) }) (v := ?_) rfl (by kernel_rfl) (by kernel_rfl) (by kernel_rfl) (fun _ _ _ h => h) (Or.inl ⟨by rfl, ?_⟩) (by assumption) ?_
        rotate_left 1
        · intro wS hSw; (try dsimp only at hSw); have x0 := cell_on hSw x0; have x1 := cell_on hSw x1; have t0 := cell_on hSw t0; have t1 := cell_on hSw t1; have u0 := cell_on hSw u0; have u1 := cell_on hSw u1; have v0 := cell_on hSw v0; have v1 := cell_on hSw v1; go_simp; try with_reducible rfl
        try simp only [Act.put, List.setIfInBounds_toArray, List.set_cons_zero, List.set_cons_succ]
        refine wpAnyH_take (i := 26) (oi := { dst := some 57, op := Go.Op.load 32 (Go.Operand.tmp 7), type := 32, pos := "law.go:103", after := #[{ on := 22, ground := Go.Ground.guard }], guard := some (22, false) }) (v := ?_) rfl (by kernel_rfl) (by kernel_rfl) (by kernel_rfl) (fun _ _ _ h => h) (Or.inl ⟨by rfl, ?_⟩) (by assumption) ?_
        rotate_left 1
        · intro wS hSw; (try dsimp only at hSw); have x0 := cell_on hSw x0; have x1 := cell_on hSw x1; have t0 := cell_on hSw t0; have t1 := cell_on hSw t1; have u0 := cell_on hSw u0; have u1 := cell_on hSw u1; have v0 := cell_on hSw v0; have v1 := cell_on hSw v1; go_simp; try with_reducible rfl
        try simp only [Act.put, List.setIfInBounds_toArray, List.set_cons_zero, List.set_cons_succ]
        refine wpAnyH_take (i := 27) (oi := { dst := some 58, op := Go.Op.load 32 (Go.Operand.tmp 9), type := 32, pos := "law.go:103", after := #[{ on := 22, ground := Go.Ground.guard }], guard := some (22, false) }) (v := ?_) rfl (by kernel_rfl) (by kernel_rfl) (by kernel_rfl) (fun _ _ _ h => h) (Or.inl ⟨by rfl, ?_⟩) (by assumption) ?_
        rotate_left 1
        · intro wS hSw; (try dsimp only at hSw); have x0 := cell_on hSw x0; have x1 := cell_on hSw x1; have t0 := cell_on hSw t0; have t1 := cell_on hSw t1; have u0 := cell_on hSw u0; have u1 := cell_on hSw u1; have v0 := cell_on hSw v0; have v1 := cell_on hSw v1; go_simp; try with_reducible rfl
        try simp only [Act.put, List.setIfInBounds_toArray, List.set_cons_zero, List.set_cons_succ]
        refine wpAnyH_ready (rs := [25]) (by kernel_rfl) (by simp) ?_
        refine AllReadyH.cons (o := { dst := some 56, op := Go.Op.call { callee := Go.Callee.value (Go.Operand.func 11), args := #[Go.Operand.tmp 54, Go.Operand.tmp 55], argTypes := #[28, 28] }, type := 4, pos := "law.go:103", after := #[{ on := 23, ground := Go.Ground.data }, { on := 24, ground := Go.Ground.data }, { on := 22, ground := Go.Ground.chain }, { on := 22, ground := Go.Ground.guard }], guard := some (22, false) }) rfl (fun K hK => ?_) (AllReadyH.nil)
        go_simp
        go_at_call 11
        refine (HSE.out _ _ _ _ _ _ _ _ _ _ _ (HI5.out.on (show Below w4.heap.size w4 _ from hHeld)) (HI7.out.on (show Below w4.heap.size w4 _ from hHeld))).mono ?_
        rintro e wx ⟨rfl, hb2⟩
        refine hK.out _ _ (bthen hHeld hb2 (Nat.le_refl _)) (fun hHeld2 => ?_)
        clear hK K hHeld hb2
        have hHeld := hHeld2
        clear hHeld2
        try simp only [Act.put, List.setIfInBounds_toArray, List.set_cons_zero, List.set_cons_succ]
        refine wpAnyH_ready (rs := [28]) (by kernel_rfl) (by simp) ?_
        refine AllReadyH.cons (o := { dst := some 59, op := Go.Op.call { callee := Go.Callee.value (Go.Operand.func 9), args := #[Go.Operand.tmp 57, Go.Operand.tmp 58], argTypes := #[32, 32] }, type := 4, pos := "law.go:103", after := #[{ on := 26, ground := Go.Ground.data }, { on := 27, ground := Go.Ground.data }, { on := 25, ground := Go.Ground.chain }, { on := 22, ground := Go.Ground.guard }], guard := some (22, false) }) rfl (fun K hK => ?_) (AllReadyH.nil)
        go_simp
        go_at_call 9
        refine (HSF.out _ _ _ _ _ _ _ _ _ _ _ (HJ5.out.on (show Below w4.heap.size w4 _ from hHeld)) (HJ7.out.on (show Below w4.heap.size w4 _ from hHeld))).mono ?_
        rintro e wx ⟨rfl, hb2⟩
        refine hK.out _ _ (bthen hHeld hb2 (Nat.le_refl _)) (fun hHeld2 => ?_)
        clear hK K hHeld hb2
        have hHeld := hHeld2
        clear hHeld2
        try simp only [Act.put, List.setIfInBounds_toArray, List.set_cons_zero, List.set_cons_succ]
        refine wpAnyH_take (i := 29) (oi := { dst := some 60, op := Go.Op.binOp Go.BinOp.neq 4 (Go.Operand.tmp 56) (Go.Operand.tmp 59) 4, type := 4, pos := "law.go:103", after := #[{ on := 25, ground := Go.Ground.data }, { on := 28, ground := Go.Ground.data }, { on := 22, ground := Go.Ground.guard }], guard := some (22, false) }) (v := ?_) rfl (by kernel_rfl) (by kernel_rfl) (by kernel_rfl) (fun _ _ _ h => h) (Or.inl ⟨by rfl, ?_⟩) (by assumption) ?_
        rotate_left 1
        · intro wS hSw; (try dsimp only at hSw); go_simp; try with_reducible rfl
        try simp only [Act.put, List.setIfInBounds_toArray, List.set_cons_zero, List.set_cons_succ]
        refine wpAnyH_take (i := 30) (oi := { dst := some 61, op := Go.Op.pick (Go.Operand.tmp 53) (Go.Operand.const (Go.Value.bool true)) (Go.Operand.tmp 60), type := 4, pos := "law.go:103", after := #[{ on := 22, ground := Go.Ground.data }, { on := 29, ground := Go.Ground.data }], guard := none }) (v := ?_) rfl (by kernel_rfl) (by kernel_rfl) (by kernel_rfl) (fun _ _ _ h => h) (Or.inl ⟨by rfl, ?_⟩) (by assumption) ?_
        rotate_left 1
        · intro wS hSw; (try dsimp only at hSw); go_simp; try with_reducible rfl
        try simp only [Act.put, List.setIfInBounds_toArray, List.set_cons_zero, List.set_cons_succ]
        refine wpAnyH_done (by kernel_rfl) ?_ _
        have hZ := hHeld
        clear hHeld
        have hb12 := (show Below w4.heap.size w4 _ from hZ)
        have HX6 := Lib.hid (HX5.out.on hb12)
        have HY6 := Lib.hid (HY5.out.on hb12)
        have HNB6 := Lib.hid (HNB.out.on hb12)
        have HNQ6 := Lib.hid (HNQ.out.on hb12)
        have HI8 := Lib.hid (HI7.out.on hb12)
        have HU8 := Lib.hid (HU7.out.on hb12.size)
        have HJ8 := Lib.hid (HJ7.out.on hb12)
        have HV8 := Lib.hid (HV7.out.on hb12.size)
        have HB6 := Lib.hid (bthen HB5.out hb12 (Nat.le_refl _))
        have htw := bk_two (P := fun g => g ≠ R ∧ g ≠ R + 1) HX6.out HY6.out (by omega) (by simp) (by simp) HZ.out.1 (fun g hg => by have := HZ.out; omega) HI8.out HU8.out HJ8.out HV8.out
        have HTW := Lib.hid (And.intro (htw.1.on (Below.refl _ _).drew) (htw.2.on (Below.refl _ _).drew))
        have hbz := (((HB6.out.setCell (p := ⟨R, 0, none⟩) HX6.out.ge (.slice A7 q2.1.shops.length c7)).setCell (p := ⟨R, 1, none⟩) HX6.out.ge (.slice B7 q2.1.binds.length d7)).setCell (p := ⟨R + 1, 0, none⟩) HY6.out.ge (.slice C7 q2.1.shops.length e7)).setCell (p := ⟨R + 1, 1, none⟩) HY6.out.ge (.slice D7 q2.1.binds.length f7)
        have HBZ := Lib.hid hbz.drew
        clear hZ hb12 htw hbz x0 x1 xl t0 t1 tl u0 u1 ul v0 v1 vl
        go_upto_region 14 with fail
        have x0 := HX6.out.cs 0 _ rfl
        have x1 := HX6.out.cs 1 _ rfl
        have xl := HX6.out.lt
        have xf := HX6.out.s
        have y0 := HY6.out.cs 0 _ rfl
        have y1 := HY6.out.cs 1 _ rfl
        have yl := HY6.out.lt
        have yf := HY6.out.s
        have u0 := HNB6.out.cs 0 _ rfl
        have u1 := HNB6.out.cs 1 _ rfl
        have ul := HNB6.out.lt
        have v0 := HNQ6.out.cs 0 _ rfl
        have v1 := HNQ6.out.cs 1 _ rfl
        have vl := HNQ6.out.lt
        unfold Soft at xf yf
        have n0 := HRH.out
        have n1 : ¬ H = R := by omega
        have n2 : ¬ R = H := by omega
        have n3 : ¬ H + 1 = R := by omega
        have n4 : ¬ R = H + 1 := by omega
        have n5 : ¬ H = R + 1 := by omega
        have n6 : ¬ R + 1 = H := by omega
        go_region_law (fail)
        all_goals
          go_wp2_with fail
          go_roundg (gk - 1)
          case rel => exact ⟨k0 + 1, q2.1, by have := HK.out; omega, by go_num, HST.out, HTW.out.1, HTW.out.2, HBZ.out⟩
          case measure => have := HK.out; omega
      · go_wp2_with fail
        go_ret
        exact ⟨rfl, HQB.out⟩
  · go_wp2_with fail
    go_ret
    exact ⟨rfl, B5.out⟩
end Go.Proofs.YtopobliajgocaaaGreatDoor
end
