/-
  THE LAW LineGoes.
-/
import Derived.Test.YtabnkbdbbneihaaGreatDoorLg48

section
namespace Go.Proofs.YtabnkbdbbneihaaGreatDoor
open Go.ChangeShapes Go.WideShapes Go.ChangeAt Go.RowKit
theorem go_lend {q : List It} (h : FineS q) {d : Nat} {x : Ml} (hd : d % 6 = 2) : (doL q d x).length = q.length ∧ (0 < Ln.ready q → Ln.ready (doL q d x) = Ln.ready q - 1) := by
  unfold doL
  rw [if_pos hd]
  exact ⟨Ln.lend_len q, Ln.lend_ready h.fine.rises⟩
theorem go_gone {q : List It} (h : FineS q) {d : Nat} {x : Ml} (hd : d % 6 = 4) : (doL q d x).length ≤ q.length ∧ q.length ≤ (doL q d x).length + 1 ∧ ((doL q d x).length ≠ q.length → ∀ y ∈ doL q d x, y.m.id ≠ x.id) := by
  unfold doL
  rw [if_neg (by omega), if_neg (by omega), if_pos hd]
  exact ⟨(Ln.remove_len q x.id).1, (Ln.remove_len q x.id).2.1, Ln.remove_gone h.fine.rises⟩
theorem go_more {q : List It} {d : Nat} {x : Ml} (hd : d % 6 ≠ 4) : q.length ≤ (doL q d x).length := by
  unfold doL
  split
  · rw [Ln.lend_len]; omega
  · split
    · rw [Ln.back_len]; omega
    · split
      · simp [Ln.wake]
      · unfold Ln.add
        split <;> simp
def lastAt (q : List It) (k : Nat) : Nat := if k = 0 then 0 else (q.getD (k - 1) it0).m.id
theorem lastAt_lt {q : List It} (h : Ln.Rises q) {k : Nat} (hk : k < q.length) (h0 : 0 < k) : lastAt q k < (q.getD k it0).m.id := by
  unfold lastAt
  rw [if_neg (by omega)]
  exact h.at_ (by omega) hk
theorem lastAt_next (q : List It) (k : Nat) : lastAt q (k + 1) = (q.getD k it0).m.id := by
  unfold lastAt
  rw [if_neg (by omega)]
  rfl
def GiSt (w : World) (q : List It) (n g : Nat) (last i : Value) (wr : World) : Prop :=
  ∃ k : Nat, k + g = n ∧ last = .int .u64 (lastAt q k : Int) ∧ i = .int .i64 (k : Int) ∧ Below w.heap.size w wr
set_option maxRecDepth 100000 in
set_option maxHeartbeats 16000000 in
theorem lineGoes_walk (A0 : Option Addr) (ca : Nat) (l : List AcP) (w : World) (hl : l.length ≤ 9223372036854775807) (hA : Acs w A0 l) (hL : Len w) : Calls Tryz.prog 3 #[.slice A0 l.length ca] w fun e w' => e = .returned (.bool true) ∧ Below w.heap.size w w' := by
  have HAW := Lib.hid (fun W h => awake18_any W h)
  have HLI := Lib.hid (fun W h => light18_any A0 ca l W hl h)
  have HA := Lib.hid hA
  have HL := Lib.hid hL
  clear hA hL
  go_enter Tryz.func3, Tryz.ntmps3
  go_wp2_with fail
  refine (HAW.out _ HL.out).mono ?_
  rintro e w1 ⟨rfl, b1⟩
  have B1 := Lib.hid b1
  clear b1
  go_wp2_with fail
  refine (HLI.out _ (HA.out.on B1.out)).mono ?_
  rintro e w2 ⟨h2, b2⟩
  have B2 := Lib.hid (bthen B1.out b2 (Nat.le_refl _))
  clear b2
  rcases h2 with ⟨rfl, hf⟩ | rfl
  · have HF := Lib.hid hf
    have h100 := hf.1
    clear hf
    go_upto_region 6 with fail
    have HBX := Lib.hid (show LnBox w w2.heap.size [] (w2.alloc (.cells #[.slice none 0 0] 27)) from LnBox.new (l := []) B2.out.size (LnU.nil (fun _ => False) w2))
    have HBB := Lib.hid (B2.out.alloc B2.out.size (.cells #[.slice none 0 0] 27))
    generalize w2.alloc (.cells #[.slice none 0 0] 27) = w3 at *
    generalize w2.heap.size = b at *
    go_wp2_with fail
    go_loopg [4, 22] l.length (fun g u i wr => AcSt w b l.length g i wr)
    case atStart => exact ⟨0, [], by omega, rfl, FineS.nil, HBX.out, HBB.out⟩
    case round =>
      obtain ⟨k, q, hk, rfl, hfi, hbx, hbb⟩ := hrel
      have HK := Lib.hid hk
      have HFI := Lib.hid hfi
      have HQX := Lib.hid hbx
      have HQB := Lib.hid hbb
      clear hk hfi hbx hbb
      generalize gk = gO at *
      by_cases hlt : k < l.length
      · obtain ⟨ba, off, rfl, hbl, hat⟩ := (HA.out.on HQB.out).at_ k hlt
        have hin := (HA.out.on HQB.out).in_ l[k] (List.getElem_mem hlt)
        have hli := HF.out.2 l[k] (List.getElem_mem hlt)
        generalize l[k] = p at *
        obtain ⟨d, x, Ax, cx⟩ := p
        unfold acL maL at hat
        dsimp only at hat hin hli
        have c0 := hat 0 _ rfl
        have c1 := hat 1 _ rfl
        have c2 := hat 2 _ rfl
        have c3 := hat 3 _ rfl
        have c4 := hat 4 _ rfl
        have c5 := hat 5 _ rfl
        have c6 := hat 6 _ rfl
        have c7 := hat 7 _ rfl
        rw [Nat.add_zero] at c0
        have HGO := Lib.hid (show MaGo wr x Ax cx from ⟨ml_light_Ok hli hin.cap hin.row, hin.fits⟩)
        have HST := Lib.hid (HFI.out.step d hin.fits hli)
        have HA1 := Lib.hid (one_alloc wr (.cells #[.int .u8 (d : Int), .int .u64 (x.id : Int), .string (ofL x.shop), .string (ofL x.key), .slice Ax x.head.length cx, .string (ofL x.body), .int .u64 (x.due : Int), .int .u8 (x.hops : Int)] 33))
        have HB1 := Lib.hid (HQB.out.alloc HQB.out.size (.cells #[.int .u8 (d : Int), .int .u64 (x.id : Int), .string (ofL x.shop), .string (ofL x.key), .slice Ax x.head.length cx, .string (ofL x.body), .int .u64 (x.due : Int), .int .u8 (x.hops : Int)] 33))
        have HT1 := Lib.hid (box_at0 wr #[.int .u8 (d : Int), .int .u64 (x.id : Int), .string (ofL x.shop), .string (ofL x.key), .slice Ax x.head.length cx, .string (ofL x.body), .int .u64 (x.due : Int), .int .u8 (x.hops : Int)] 33)
        have HGO1 := Lib.hid (HGO.out.on HA1.out)
        have HX1 := Lib.hid (HQX.out.on HA1.out)
        have HDO := Lib.hid (fun v W U h hg hL => done18_any d x Ax cx v q W U HFI.out h hg hL)
        have HLQ := Lib.hid (fun v W h => lnLen_any v q W h)
        have HRQ := Lib.hid (fun v W h => lnReady_any v q W (by have := HFI.out.fine.len; omega) h)
        have HL2 := Lib.hid (fun v W h => lnLen_any v (doL q d x) W h)
        have HR2 := Lib.hid (fun v W h => lnReady_any v (doL q d x) W (by have := HST.out.fine.len; omega) h)
        have HAL := Lib.hid (fun v W h => lnAll_any v (doL q d x) W (by have := HST.out.fine.len; omega) h)
        have HHS := Lib.hid (fun A c W h hn => has18_no (doL q d x) x.id A c W (by have := HST.out.fine.len; omega) h hn)
        have HF2 := Lib.hid (fun hd : d % 6 = 2 => go_lend HFI.out (d := d) (x := x) hd)
        have HF4 := Lib.hid (fun hd : d % 6 = 4 => go_gone HFI.out (d := d) (x := x) hd)
        have HFO := Lib.hid (fun hd : d % 6 ≠ 4 => go_more (q := q) (d := d) (x := x) hd)
        unfold DoneN at HDO
        unfold AllPost at HAL
        obtain ⟨A, c, U, hx, hu, hnu⟩ := HX1.out
        have HU := Lib.hid hu.cut
        have HNU := Lib.hid hnu
        have HX := Lib.hid hx
        have hxl := hx.lt
        have x0 := hx.cs 0 _ rfl
        have hwl := World.block_lt_of_cell? _ _ (HQX.out.choose_spec.choose_spec.choose_spec.1.cs 0 _ rfl)
        simp only at hwl
        have HQ64 := Lib.hid (show q.length ≤ 64 from HFI.out.fine.len)
        have H264 := Lib.hid (show (doL q d x).length ≤ 64 from HST.out.fine.len)
        have HRS := Lib.hid (show Ln.Rises (doL q d x) from HST.out.fine.rises)
        clear hat hin hli hx hu hnu
        generalize doL q d x = q2 at *
        go_upto_region 10 with fail
        generalize wr.alloc (.cells #[.int .u8 (d : Int), .int .u64 (x.id : Int), .string (ofL x.shop), .string (ofL x.key), .slice Ax x.head.length cx, .string (ofL x.body), .int .u64 (x.due : Int), .int .u8 (x.hops : Int)] 33) = w1 at *
        generalize wr.heap.size = b6 at *
        have x0 := HX.out.cs 0 _ rfl
        go_wp2_with fail
        refine (HLQ.out _ _ HU.out.in).mono ?_
        rintro e wa ⟨rfl, hb⟩
        have HX2 := Lib.hid (HX.out.on hb)
        have HU2 := Lib.hid (HU.out.on hb)
        have HT2 := Lib.hid (HT1.out.on hb)
        have HBa := Lib.hid (bthen HB1.out hb (Nat.le_refl _))
        have HGO2 := Lib.hid (HGO1.out.on hb)
        have HSA := Lib.hid (show b < wa.heap.size from HX2.out.lt)
        clear hb x0 hxl
        have x0 := HX2.out.cs 0 _ rfl
        have t0 := HT2.out.cs 0 _ rfl
        have t1 := HT2.out.cs 1 _ rfl
        have t2 := HT2.out.cs 2 _ rfl
        have t3 := HT2.out.cs 3 _ rfl
        have t4 := HT2.out.cs 4 _ rfl
        have t5 := HT2.out.cs 5 _ rfl
        have t6 := HT2.out.cs 6 _ rfl
        have t7 := HT2.out.cs 7 _ rfl
        have tl := HT2.out.lt
        go_wp2_with fail
        refine (HDO.out _ _ _ HU2.out HGO2.out (HL.out.on HBa.out)).mono ?_
        rintro e w3 ⟨v', Ap, np, cp, bb, rfl, h3, hb⟩
        obtain ⟨A3, c3, rfl, -⟩ := h3.form
        have HT3 := Lib.hid (one_alloc w3 (.cells #[.slice A3 q2.length c3] 27))
        have HE := Lib.hid (bthen hb HT3.out (Nat.le_refl _))
        have HX4 := Lib.hid (HX2.out.on HE.out)
        have HU4 := Lib.hid (HU2.out.on HE.out)
        have HC4 := Lib.hid (HT2.out.on HE.out)
        have HB4 := Lib.hid (bthen HBa.out HE.out (Nat.le_refl _))
        have HN4 := Lib.hid (box_at0 w3 #[.slice A3 q2.length c3] 27)
        have HV4 := Lib.hid (h3.on HT3.out)
        clear hb h3 HT3 x0 tl t0 t1 t2 t3 t4 t5 t6 t7
        go_upto_region 12 with fail
        generalize w3.alloc (.cells #[.slice A3 q2.length c3] 27) = w4 at *
        generalize w3.heap.size = b8 at *
        have s1 := HN4.out.cs 0 _ rfl
        go_wp2_with fail
        refine (HAL.out _ _ HV4.out.in).mono ?_
        rintro e w5 ⟨A5, c5, rfl, ha, hb⟩
        have HX5 := Lib.hid (HX4.out.on hb)
        have HU5 := Lib.hid (HU4.out.on hb)
        have HC5 := Lib.hid (HC4.out.on hb)
        have HN5 := Lib.hid (HN4.out.on hb)
        have HV5 := Lib.hid (HV4.out.on hb)
        have HB5 := Lib.hid (bthen HB4.out hb (Nat.le_refl _))
        have HA5 := Lib.hid ha
        clear hb ha s1
        have s0 := HX5.out.cs 0 _ rfl
        have s1 := HN5.out.cs 0 _ rfl
        have s2 := HC5.out.cs 1 _ rfl
        have d0 := HC5.out.cs 0 _ rfl
        by_cases hd2 : d % 6 = 2
        · have hm : (d : Int) % 6 = 2 := by omega
          have HQ2 := Lib.hid (HF2.out hd2)
          have HL2E := Lib.hid (fun v W h => by have := HL2.out v W h; rw [HQ2.out.1] at this; exact this)
          have hq2l := HQ2.out.2
          have HR16 := Lib.hid (fun (h0 : 0 < Ln.ready q) v W h => by have := HR2.out v W h; rw [hq2l h0] at this; exact this)
          clear hq2l
          go_upto_region 16 with fail
          obtain ⟨rq, hrq⟩ : ∃ r, Ln.ready q = r := ⟨_, rfl⟩
          have hrb := Ln.ready_le q
          rw [hrq] at HRQ HR16 hrb
          by_cases h0 : 0 < rq
          · have hg : decide ((rq : Int) > 0) = true := decide_eq_true (by omega)
            have hg2 : (0 : Int) < (rq : Int) := by omega
            have hw : IntKind.i64.wrap ((rq : Int) - 1) = ((rq - 1 : Nat) : Int) := by rw [IntKind.wrap_i64]; have := HQ64.out; omega
            have HR17 := Lib.hid (fun v W h => HR16.out h0 v W h)
            generalize rq - 1 = r1 at *
            clear HR16 hrb
            have HS0 := Lib.hid (show w5.cell? ⟨b, 0, none⟩ = some (.slice A q.length c) ∧ w5.cell? ⟨b8, 0, none⟩ = some (.slice A3 q2.length c3) ∧ w5.cell? ⟨b6, 1, none⟩ = some (.int .u64 (x.id : Int)) ∧ Below w5.heap.size w5 w5 from ⟨s0, s1, s2, Below.refl _ _⟩)
            have HON := Lib.hid (show ∀ a a' : World, (a.cell? ⟨b, 0, none⟩ = some (.slice A q.length c) ∧ a.cell? ⟨b8, 0, none⟩ = some (.slice A3 q2.length c3) ∧ a.cell? ⟨b6, 1, none⟩ = some (.int .u64 (x.id : Int)) ∧ Below w5.heap.size w5 a) → Below a.heap.size a a' → (a'.cell? ⟨b, 0, none⟩ = some (.slice A q.length c) ∧ a'.cell? ⟨b8, 0, none⟩ = some (.slice A3 q2.length c3) ∧ a'.cell? ⟨b6, 1, none⟩ = some (.int .u64 (x.id : Int)) ∧ Below w5.heap.size w5 a') from fun a a' ⟨h0, h1, h2, h3⟩ hb => ⟨cell_on hb h0, cell_on hb h1, cell_on hb h2, bthen h3 hb (Nat.le_refl _)⟩)
            have HGET := Lib.hid (show ∀ a : World, (a.cell? ⟨b, 0, none⟩ = some (.slice A q.length c) ∧ a.cell? ⟨b8, 0, none⟩ = some (.slice A3 q2.length c3) ∧ a.cell? ⟨b6, 1, none⟩ = some (.int .u64 (x.id : Int)) ∧ Below w5.heap.size w5 a) → Below w5.heap.size w5 a from fun a ⟨h0, h1, h2, h3⟩ => h3)
            refine wp_region_held_drew (S := fun a => a.cell? ⟨b, 0, none⟩ = some (.slice A q.length c) ∧ a.cell? ⟨b8, 0, none⟩ = some (.slice A3 q2.length c3) ∧ a.cell? ⟨b6, 1, none⟩ = some (.int .u64 (x.id : Int)) ∧ Below w5.heap.size w5 a) (by kernel_rfl) (by (try dsimp only); exact HON.out _ _ HS0.out (Below.refl _ _).drew) (fun hHeld => ?_)
            refine wpAnyH_take (i := 0) (oi := { dst := some 42, op := Go.Op.load 27 (Go.Operand.tmp 3), type := 27, pos := "law.go:144", after := #[], guard := none }) (v := ?_) rfl (by kernel_rfl) (by kernel_rfl) (by kernel_rfl) (fun _ _ _ h => h) (Or.inl ⟨by rfl, ?_⟩) hHeld ?_
            rotate_left 1
            · intro w hSw; (try dsimp only at hSw); go_simp; try with_reducible rfl
            try simp only [Act.put, List.setIfInBounds_toArray, List.set_cons_zero, List.set_cons_succ]
            refine wpAnyH_ready (rs := [1]) (by kernel_rfl) (by simp) ?_
            refine AllReadyH.cons (o := { dst := some 43, op := Go.Op.call { callee := Go.Callee.value (Go.Operand.func 12), args := #[Go.Operand.tmp 42], argTypes := #[27] }, type := 3, pos := "law.go:144", after := #[{ on := 0, ground := Go.Ground.data }], guard := none }) rfl (fun K hK => ?_) AllReadyH.nil
            go_simp
            go_at_call 12
            refine (HRQ.out _ _ ((HU5.out.on (HGET.out _ hHeld)).in)).mono ?_
            rintro e wx1 ⟨rfl, hb2⟩
            refine hK.out _ _ (HON.out _ _ hHeld hb2) (fun hHeld1 => ?_)
            clear hK K hHeld hb2
            try simp only [Act.put, List.setIfInBounds_toArray, List.set_cons_zero, List.set_cons_succ]
            refine wpAnyH_take (i := 2) (oi := { dst := some 44, op := Go.Op.binOp Go.BinOp.gtr 3 (Go.Operand.tmp 43) (Go.Operand.const (Go.Value.int Go.IntKind.i64 0)) 3, type := 4, pos := "law.go:144", after := #[{ on := 1, ground := Go.Ground.data }], guard := none }) (v := ?_) rfl (by kernel_rfl) (by kernel_rfl) (by kernel_rfl) (fun _ _ _ h => h) (Or.inl ⟨by rfl, ?_⟩) hHeld1 ?_
            rotate_left 1
            · intro w hSw; (try dsimp only at hSw); go_simp; try with_reducible rfl
            try simp only [Act.put, List.setIfInBounds_toArray, List.set_cons_zero, List.set_cons_succ]
            refine wpAnyH_take (i := 3) (oi := { dst := some 45, op := Go.Op.move (Go.Operand.tmp 44), type := 4, pos := "law.go:144", after := #[{ on := 2, ground := Go.Ground.data }, { on := 1, ground := Go.Ground.chain }], guard := none }) (v := ?_) rfl (by kernel_rfl) (by kernel_rfl) (by kernel_rfl) (fun _ _ _ h => h) (Or.inl ⟨by rfl, ?_⟩) hHeld1 ?_
            rotate_left 1
            · intro w hSw; (try dsimp only at hSw); go_simp; try with_reducible rfl
            try simp only [Act.put, List.setIfInBounds_toArray, List.set_cons_zero, List.set_cons_succ]
            refine wpAnyH_take (i := 4) (oi := { dst := some 46, op := Go.Op.load 27 (Go.Operand.tmp 8), type := 27, pos := "law.go:144", after := #[{ on := 3, ground := Go.Ground.guard }], guard := some (3, true) }) (v := ?_) rfl (by kernel_rfl) (by kernel_rfl) (by kernel_rfl) (fun _ _ _ h => h) (Or.inl ⟨by rfl, ?_⟩) hHeld1 ?_
            rotate_left 1
            · intro w hSw; (try dsimp only at hSw); go_simp; try with_reducible rfl
            try simp only [Act.put, List.setIfInBounds_toArray, List.set_cons_zero, List.set_cons_succ]
            refine wpAnyH_take (i := 6) (oi := { dst := some 48, op := Go.Op.load 27 (Go.Operand.tmp 3), type := 27, pos := "law.go:144", after := #[{ on := 3, ground := Go.Ground.guard }], guard := some (3, true) }) (v := ?_) rfl (by kernel_rfl) (by kernel_rfl) (by kernel_rfl) (fun _ _ _ h => h) (Or.inl ⟨by rfl, ?_⟩) hHeld1 ?_
            rotate_left 1
            · intro w hSw; (try dsimp only at hSw); go_simp; try with_reducible rfl
            try simp only [Act.put, List.setIfInBounds_toArray, List.set_cons_zero, List.set_cons_succ]
            refine wpAnyH_ready (rs := [5]) (by kernel_rfl) (by simp) ?_
            refine AllReadyH.cons (o := { dst := some 47, op := Go.Op.call { callee := Go.Callee.value (Go.Operand.func 12), args := #[Go.Operand.tmp 46], argTypes := #[27] }, type := 3, pos := "law.go:144", after := #[{ on := 4, ground := Go.Ground.data }, { on := 3, ground := Go.Ground.chain }, { on := 3, ground := Go.Ground.guard }], guard := some (3, true) }) rfl (fun K hK => ?_) AllReadyH.nil
            go_simp
            go_at_call 12
            refine (HR17.out _ _ ((HV5.out.on (HGET.out _ hHeld1)).in)).mono ?_
            rintro e wx5 ⟨rfl, hb2⟩
            refine hK.out _ _ (HON.out _ _ hHeld1 hb2) (fun hHeld5 => ?_)
            clear hK K hHeld1 hb2
            try simp only [Act.put, List.setIfInBounds_toArray, List.set_cons_zero, List.set_cons_succ]
            refine wpAnyH_ready (rs := [7]) (by kernel_rfl) (by simp) ?_
            refine AllReadyH.cons (o := { dst := some 49, op := Go.Op.call { callee := Go.Callee.value (Go.Operand.func 12), args := #[Go.Operand.tmp 48], argTypes := #[27] }, type := 3, pos := "law.go:144", after := #[{ on := 6, ground := Go.Ground.data }, { on := 5, ground := Go.Ground.chain }, { on := 3, ground := Go.Ground.guard }], guard := some (3, true) }) rfl (fun K hK => ?_) AllReadyH.nil
            go_simp
            go_at_call 12
            refine (HRQ.out _ _ ((HU5.out.on (HGET.out _ hHeld5)).in)).mono ?_
            rintro e wx7 ⟨rfl, hb2⟩
            refine hK.out _ _ (HON.out _ _ hHeld5 hb2) (fun hHeld7 => ?_)
            clear hK K hHeld5 hb2
            try simp only [Act.put, List.setIfInBounds_toArray, List.set_cons_zero, List.set_cons_succ]
            refine wpAnyH_take (i := 8) (oi := { dst := some 50, op := Go.Op.binOp Go.BinOp.sub 3 (Go.Operand.tmp 49) (Go.Operand.const (Go.Value.int Go.IntKind.i64 1)) 3, type := 3, pos := "law.go:144", after := #[{ on := 7, ground := Go.Ground.data }, { on := 3, ground := Go.Ground.guard }], guard := some (3, true) }) (v := ?_) rfl (by kernel_rfl) (by kernel_rfl) (by kernel_rfl) (fun _ _ _ h => h) (Or.inl ⟨by rfl, ?_⟩) hHeld7 ?_
            rotate_left 1
            · intro w hSw; (try dsimp only at hSw); go_simp; try with_reducible rfl
            try simp only [Act.put, List.setIfInBounds_toArray, List.set_cons_zero, List.set_cons_succ]
            refine wpAnyH_take (i := 9) (oi := { dst := some 51, op := Go.Op.binOp Go.BinOp.neq 3 (Go.Operand.tmp 47) (Go.Operand.tmp 50) 3, type := 4, pos := "law.go:144", after := #[{ on := 5, ground := Go.Ground.data }, { on := 8, ground := Go.Ground.data }, { on := 3, ground := Go.Ground.guard }], guard := some (3, true) }) (v := ?_) rfl (by kernel_rfl) (by kernel_rfl) (by kernel_rfl) (fun _ _ _ h => h) (Or.inl ⟨by rfl, ?_⟩) hHeld7 ?_
            rotate_left 1
            · intro w hSw; (try dsimp only at hSw); go_simp; try with_reducible rfl
            try simp only [Act.put, List.setIfInBounds_toArray, List.set_cons_zero, List.set_cons_succ]
            refine wpAnyH_take (i := 10) (oi := { dst := some 52, op := Go.Op.pick (Go.Operand.tmp 45) (Go.Operand.tmp 51) (Go.Operand.const (Go.Value.bool false)), type := 4, pos := "law.go:144", after := #[{ on := 3, ground := Go.Ground.data }, { on := 9, ground := Go.Ground.data }], guard := none }) (v := ?_) rfl (by kernel_rfl) (by kernel_rfl) (by kernel_rfl) (fun _ _ _ h => h) (Or.inl ⟨by rfl, ?_⟩) hHeld7 ?_
            rotate_left 1
            · intro w hSw; (try dsimp only at hSw); go_simp; try with_reducible rfl
            try simp only [Act.put, List.setIfInBounds_toArray, List.set_cons_zero, List.set_cons_succ]
            refine wpAnyH_take (i := 11) (oi := { dst := some 53, op := Go.Op.move (Go.Operand.tmp 52), type := 4, pos := "law.go:144", after := #[{ on := 10, ground := Go.Ground.data }, { on := 7, ground := Go.Ground.chain }], guard := none }) (v := ?_) rfl (by kernel_rfl) (by kernel_rfl) (by kernel_rfl) (fun _ _ _ h => h) (Or.inl ⟨by rfl, ?_⟩) hHeld7 ?_
            rotate_left 1
            · intro w hSw; (try dsimp only at hSw); go_simp; try with_reducible rfl
            try simp only [Act.put, List.setIfInBounds_toArray, List.set_cons_zero, List.set_cons_succ]
            refine wpAnyH_take (i := 12) (oi := { dst := some 54, op := Go.Op.load 27 (Go.Operand.tmp 8), type := 27, pos := "law.go:144", after := #[{ on := 11, ground := Go.Ground.guard }], guard := some (11, false) }) (v := ?_) rfl (by kernel_rfl) (by kernel_rfl) (by kernel_rfl) (fun _ _ _ h => h) (Or.inl ⟨by rfl, ?_⟩) hHeld7 ?_
            rotate_left 1
            · intro w hSw; (try dsimp only at hSw); go_simp; try with_reducible rfl
            try simp only [Act.put, List.setIfInBounds_toArray, List.set_cons_zero, List.set_cons_succ]
            refine wpAnyH_take (i := 14) (oi := { dst := some 56, op := Go.Op.move (Go.Operand.tmp 7), type := 3, pos := "law.go:144", after := #[{ on := 11, ground := Go.Ground.guard }], guard := some (11, false) }) (v := ?_) rfl (by kernel_rfl) (by kernel_rfl) (by kernel_rfl) (fun _ _ _ h => h) (Or.inl ⟨by rfl, ?_⟩) hHeld7 ?_
            rotate_left 1
            · intro w hSw; (try dsimp only at hSw); go_simp; try with_reducible rfl
            try simp only [Act.put, List.setIfInBounds_toArray, List.set_cons_zero, List.set_cons_succ]
            refine wpAnyH_ready (rs := [13]) (by kernel_rfl) (by simp) ?_
            refine AllReadyH.cons (o := { dst := some 55, op := Go.Op.call { callee := Go.Callee.value (Go.Operand.func 9), args := #[Go.Operand.tmp 54], argTypes := #[27] }, type := 3, pos := "law.go:144", after := #[{ on := 12, ground := Go.Ground.data }, { on := 11, ground := Go.Ground.chain }, { on := 11, ground := Go.Ground.guard }], guard := some (11, false) }) rfl (fun K hK => ?_) AllReadyH.nil
            go_simp
            go_at_call 9
            refine (HL2E.out _ _ ((HV5.out.on (HGET.out _ hHeld7)).in)).mono ?_
            rintro e wx13 ⟨rfl, hb2⟩
            refine hK.out _ _ (HON.out _ _ hHeld7 hb2) (fun hHeld13 => ?_)
            clear hK K hHeld7 hb2
            try simp only [Act.put, List.setIfInBounds_toArray, List.set_cons_zero, List.set_cons_succ]
            refine wpAnyH_take (i := 15) (oi := { dst := some 57, op := Go.Op.binOp Go.BinOp.neq 3 (Go.Operand.tmp 55) (Go.Operand.tmp 56) 3, type := 4, pos := "law.go:144", after := #[{ on := 13, ground := Go.Ground.data }, { on := 14, ground := Go.Ground.data }, { on := 11, ground := Go.Ground.guard }], guard := some (11, false) }) (v := ?_) rfl (by kernel_rfl) (by kernel_rfl) (by kernel_rfl) (fun _ _ _ h => h) (Or.inl ⟨by rfl, ?_⟩) hHeld13 ?_
            rotate_left 1
            · intro w hSw; (try dsimp only at hSw); go_simp; try with_reducible rfl
            try simp only [Act.put, List.setIfInBounds_toArray, List.set_cons_zero, List.set_cons_succ]
            refine wpAnyH_take (i := 16) (oi := { dst := some 58, op := Go.Op.pick (Go.Operand.tmp 53) (Go.Operand.const (Go.Value.bool true)) (Go.Operand.tmp 57), type := 4, pos := "law.go:144", after := #[{ on := 11, ground := Go.Ground.data }, { on := 15, ground := Go.Ground.data }], guard := none }) (v := ?_) rfl (by kernel_rfl) (by kernel_rfl) (by kernel_rfl) (fun _ _ _ h => h) (Or.inl ⟨by rfl, ?_⟩) hHeld13 ?_
            rotate_left 1
            · intro w hSw; (try dsimp only at hSw); go_simp; try with_reducible rfl
            try simp only [Act.put, List.setIfInBounds_toArray, List.set_cons_zero, List.set_cons_succ]
            refine wpAnyH_done (by kernel_rfl) ?_ _
            have hlast := hHeld13
            clear hHeld13
            have HZ := Lib.hid (HGET.out _ hlast)
            have HNN := Lib.hid HQ2.out.1
            clear hlast HON HGET HS0 HR17 hg hg2 hw h0
            have HX6 := Lib.hid (HX5.out.on HZ.out)
            have HN6 := Lib.hid (HN5.out.on HZ.out)
            have HC6 := Lib.hid (HC5.out.on HZ.out)
            have HV6 := Lib.hid (HV5.out.on HZ.out)
            have HB6 := Lib.hid (bthen HB5.out HZ.out (Nat.le_refl _))
            clear s0 s1 s2 d0
            have s1 := HN6.out.cs 0 _ rfl
            go_wp2_with fail
            refine (HAL.out _ _ HV6.out.in).mono ?_
            rintro e w7 ⟨A7, c7, rfl, ha, hb⟩
            have HX7 := Lib.hid (HX6.out.on hb)
            have HN7 := Lib.hid (HN6.out.on hb)
            have HC7 := Lib.hid (HC6.out.on hb)
            have HV7 := Lib.hid (HV6.out.on hb)
            have HB7 := Lib.hid (bthen HB6.out hb (Nat.le_refl _))
            have HA7 := Lib.hid ha
            clear hb ha s1
            have hq64 := H264.out
            go_wp2_with fail
            go_loopg [4, 85] q2.length (fun g u i wr => GiSt w7 q2 q2.length g u i wr)
            case atStart => exact ⟨0, by omega, rfl, rfl, Below.refl _ _⟩
            case round =>
              obtain ⟨kk, hk2, rfl, rfl, hbw⟩ := hrel
              have HK2 := Lib.hid hk2
              have HBW := Lib.hid hbw
              clear hk2 hbw
              by_cases hlt2 : kk < q2.length
              · obtain ⟨b', off', Ay, cy, hA7e, hbl, hat, hgo⟩ := (HA7.out.on HBW.out).get hlt2
                subst hA7e
                have HLT := Lib.hid (fun h0 => lastAt_lt HRS.out hlt2 h0)
                have HLN := Lib.hid (lastAt_next q2 kk)
                generalize q2.getD kk it0 = yy at *
                obtain ⟨ym, lent, again⟩ := yy
                unfold itL at hat
                dsimp only at hat
                have HLN' := Lib.hid (show lastAt q2 (kk + 1) = ym.id from HLN.out)
                have hl1 := HLT.out
                dsimp only at hl1
                have c0 := hat 0 _ rfl
                have c1 := hat 1 _ rfl
                have c2 := hat 2 _ rfl
                have c3 := hat 3 _ rfl
                have c4 := hat 4 _ rfl
                have c5 := hat 5 _ rfl
                have c6 := hat 6 _ rfl
                have c7 := hat 7 _ rfl
                have c8 := hat 8 _ rfl
                rw [Nat.add_zero] at c0
                have HT9 := Lib.hid (one_alloc wr (.cells #[.int .u64 (ym.id : Int), .string (ofL ym.shop), .string (ofL ym.key), .slice Ay ym.head.length cy, .string (ofL ym.body), .int .u64 (ym.due : Int), .int .u8 (ym.hops : Int), .bool lent, .bool again] 41))
                have HB9 := Lib.hid (bthen HBW.out HT9.out (Nat.le_refl _))
                clear hat hgo HLN HLT
                generalize lastAt q2 kk = la at *
                by_cases hz : kk = 0
                · have q1 : decide ((kk : Int) > 0) = false := decide_eq_false (by omega)
                  have q2' : decide (0 < kk) = false := decide_eq_false (by omega)
                  have hz' := Lib.hid hz
                  clear hl1 hz
                  go_wp2_with fail
                  go_roundg (gk - 1)
                  case rel => exact ⟨kk + 1, by have := HK2.out; omega, by rw [HLN'.out], by go_num, HB9.out⟩
                  case measure => have := HK2.out; omega
                · have q1 : decide ((kk : Int) > 0) = true := decide_eq_true (by omega)
                  have q2' : decide (0 < kk) = true := decide_eq_true (by omega)
                  have q5 : 0 < kk := by omega
                  have q3 : decide ((ym.id : Int) ≤ (la : Int)) = false := decide_eq_false (by have := hl1 q5; omega)
                  have q4 : decide (ym.id ≤ la) = false := decide_eq_false (by have := hl1 q5; omega)
                  have q6 : la < ym.id := hl1 q5
                  clear hl1
                  go_wp2_with fail
                  go_roundg (gk - 1)
                  case rel => exact ⟨kk + 1, by have := HK2.out; omega, by rw [HLN'.out], by go_num, HB9.out⟩
                  case measure => have := HK2.out; omega
              · have HX8 := Lib.hid (HX7.out.on HBW.out)
                have HN8 := Lib.hid (HN7.out.on HBW.out)
                have HC8 := Lib.hid (HC7.out.on HBW.out)
                have HV8 := Lib.hid (HV7.out.on HBW.out)
                have HB8 := Lib.hid (bthen HB7.out HBW.out (Nat.le_refl _))
                have s0 := HX8.out.cs 0 _ rfl
                have s1 := HN8.out.cs 0 _ rfl
                have s2 := HC8.out.cs 1 _ rfl
                have hc30 : decide ((q2.length : Int) < (q.length : Int)) = false := decide_eq_false (by have := HNN.out; omega)
                have hrle := Ln.ready_le q2
                have hr30 : decide ((Ln.ready q2 : Int) > (q2.length : Int)) = false := decide_eq_false (by omega)
                have hc31 : decide (q2.length < q.length) = false := decide_eq_false (by have := HNN.out; omega)
                have hc32 : ¬ (q2.length < q.length) := by have := HNN.out; omega
                have hr31 : decide (q2.length < Ln.ready q2) = false := decide_eq_false (by omega)
                have hr32 : ¬ (q2.length < Ln.ready q2) := by omega
                have hw30 : IntKind.i64.wrap ((q.length : Int) - 0) = (q.length : Int) := by rw [IntKind.wrap_i64]; have := HQ64.out; have := HNN.out; omega
                have hw31 : IntKind.i64.wrap (q.length : Int) = (q.length : Int) := by rw [IntKind.wrap_i64]; have := HQ64.out; clear hw30; omega
                generalize Ln.ready q2 = rq2 at *
                go_upto_region 30 with fail
                have HS0 := Lib.hid (show wr.cell? ⟨b, 0, none⟩ = some (.slice A q.length c) ∧ wr.cell? ⟨b8, 0, none⟩ = some (.slice A3 q2.length c3) ∧ wr.cell? ⟨b6, 1, none⟩ = some (.int .u64 (x.id : Int)) ∧ Below wr.heap.size wr wr from ⟨s0, s1, s2, Below.refl _ _⟩)
                have HON := Lib.hid (show ∀ a a' : World, (a.cell? ⟨b, 0, none⟩ = some (.slice A q.length c) ∧ a.cell? ⟨b8, 0, none⟩ = some (.slice A3 q2.length c3) ∧ a.cell? ⟨b6, 1, none⟩ = some (.int .u64 (x.id : Int)) ∧ Below wr.heap.size wr a) → Below a.heap.size a a' → (a'.cell? ⟨b, 0, none⟩ = some (.slice A q.length c) ∧ a'.cell? ⟨b8, 0, none⟩ = some (.slice A3 q2.length c3) ∧ a'.cell? ⟨b6, 1, none⟩ = some (.int .u64 (x.id : Int)) ∧ Below wr.heap.size wr a') from fun a a' ⟨h0, h1, h2, h3⟩ hb => ⟨cell_on hb h0, cell_on hb h1, cell_on hb h2, bthen h3 hb (Nat.le_refl _)⟩)
                have HGET := Lib.hid (show ∀ a : World, (a.cell? ⟨b, 0, none⟩ = some (.slice A q.length c) ∧ a.cell? ⟨b8, 0, none⟩ = some (.slice A3 q2.length c3) ∧ a.cell? ⟨b6, 1, none⟩ = some (.int .u64 (x.id : Int)) ∧ Below wr.heap.size wr a) → Below wr.heap.size wr a from fun a ⟨h0, h1, h2, h3⟩ => h3)
                refine wp_region_held_drew (S := fun a => a.cell? ⟨b, 0, none⟩ = some (.slice A q.length c) ∧ a.cell? ⟨b8, 0, none⟩ = some (.slice A3 q2.length c3) ∧ a.cell? ⟨b6, 1, none⟩ = some (.int .u64 (x.id : Int)) ∧ Below wr.heap.size wr a) (by kernel_rfl) (by (try dsimp only); exact HON.out _ _ HS0.out (Below.refl _ _).drew) (fun hHeld => ?_)
                refine wpAnyH_take (i := 0) (oi := { dst := some 103, op := Go.Op.load 27 (Go.Operand.tmp 8), type := 27, pos := "law.go:160", after := #[], guard := none }) (v := ?_) rfl (by kernel_rfl) (by kernel_rfl) (by kernel_rfl) (fun _ _ _ h => h) (Or.inl ⟨by rfl, ?_⟩) hHeld ?_
                rotate_left 1
                · intro w hSw; (try dsimp only at hSw); go_simp; try with_reducible rfl
                try simp only [Act.put, List.setIfInBounds_toArray, List.set_cons_zero, List.set_cons_succ]
                refine wpAnyH_take (i := 2) (oi := { dst := some 105, op := Go.Op.move (Go.Operand.tmp 7), type := 3, pos := "law.go:160", after := #[], guard := none }) (v := ?_) rfl (by kernel_rfl) (by kernel_rfl) (by kernel_rfl) (fun _ _ _ h => h) (Or.inl ⟨by rfl, ?_⟩) hHeld ?_
                rotate_left 1
                · intro w hSw; (try dsimp only at hSw); go_simp; try with_reducible rfl
                try simp only [Act.put, List.setIfInBounds_toArray, List.set_cons_zero, List.set_cons_succ]
                refine wpAnyH_take (i := 3) (oi := { dst := some 106, op := Go.Op.move (Go.Operand.tmp 11), type := 3, pos := "law.go:160", after := #[], guard := none }) (v := ?_) rfl (by kernel_rfl) (by kernel_rfl) (by kernel_rfl) (fun _ _ _ h => h) (Or.inl ⟨by rfl, ?_⟩) hHeld ?_
                rotate_left 1
                · intro w hSw; (try dsimp only at hSw); go_simp; try with_reducible rfl
                try simp only [Act.put, List.setIfInBounds_toArray, List.set_cons_zero, List.set_cons_succ]
                refine wpAnyH_take (i := 4) (oi := { dst := some 107, op := Go.Op.binOp Go.BinOp.sub 3 (Go.Operand.tmp 105) (Go.Operand.tmp 106) 3, type := 3, pos := "law.go:160", after := #[{ on := 2, ground := Go.Ground.data }, { on := 3, ground := Go.Ground.data }], guard := none }) (v := ?_) rfl (by kernel_rfl) (by kernel_rfl) (by kernel_rfl) (fun _ _ _ h => h) (Or.inl ⟨by rfl, ?_⟩) hHeld ?_
                rotate_left 1
                · intro w hSw; (try dsimp only at hSw); go_simp; try with_reducible rfl
                try simp only [Act.put, List.setIfInBounds_toArray, List.set_cons_zero, List.set_cons_succ]
                refine wpAnyH_ready (rs := [1]) (by kernel_rfl) (by simp) ?_
                refine AllReadyH.cons (o := { dst := some 104, op := Go.Op.call { callee := Go.Callee.value (Go.Operand.func 9), args := #[Go.Operand.tmp 103], argTypes := #[27] }, type := 3, pos := "law.go:160", after := #[{ on := 0, ground := Go.Ground.data }], guard := none }) rfl (fun K hK => ?_) AllReadyH.nil
                go_simp
                go_at_call 9
                refine (HL2.out _ _ ((HV8.out.on (HGET.out _ hHeld)).in)).mono ?_
                rintro e wx1 ⟨rfl, hb2⟩
                refine hK.out _ _ (HON.out _ _ hHeld hb2) (fun hHeld1 => ?_)
                clear hK K hHeld hb2
                try simp only [Act.put, List.setIfInBounds_toArray, List.set_cons_zero, List.set_cons_succ]
                refine wpAnyH_take (i := 5) (oi := { dst := some 108, op := Go.Op.binOp Go.BinOp.lss 3 (Go.Operand.tmp 104) (Go.Operand.tmp 107) 3, type := 4, pos := "law.go:160", after := #[{ on := 1, ground := Go.Ground.data }, { on := 4, ground := Go.Ground.data }], guard := none }) (v := ?_) rfl (by kernel_rfl) (by kernel_rfl) (by kernel_rfl) (fun _ _ _ h => h) (Or.inl ⟨by rfl, ?_⟩) hHeld1 ?_
                rotate_left 1
                · intro w hSw; (try dsimp only at hSw); go_simp; try with_reducible rfl
                try simp only [Act.put, List.setIfInBounds_toArray, List.set_cons_zero, List.set_cons_succ]
                refine wpAnyH_take (i := 6) (oi := { dst := some 109, op := Go.Op.move (Go.Operand.tmp 108), type := 4, pos := "law.go:160", after := #[{ on := 5, ground := Go.Ground.data }, { on := 1, ground := Go.Ground.chain }], guard := none }) (v := ?_) rfl (by kernel_rfl) (by kernel_rfl) (by kernel_rfl) (fun _ _ _ h => h) (Or.inl ⟨by rfl, ?_⟩) hHeld1 ?_
                rotate_left 1
                · intro w hSw; (try dsimp only at hSw); go_simp; try with_reducible rfl
                try simp only [Act.put, List.setIfInBounds_toArray, List.set_cons_zero, List.set_cons_succ]
                refine wpAnyH_take (i := 7) (oi := { dst := some 110, op := Go.Op.load 27 (Go.Operand.tmp 8), type := 27, pos := "law.go:160", after := #[{ on := 6, ground := Go.Ground.guard }], guard := some (6, false) }) (v := ?_) rfl (by kernel_rfl) (by kernel_rfl) (by kernel_rfl) (fun _ _ _ h => h) (Or.inl ⟨by rfl, ?_⟩) hHeld1 ?_
                rotate_left 1
                · intro w hSw; (try dsimp only at hSw); go_simp; try with_reducible rfl
                try simp only [Act.put, List.setIfInBounds_toArray, List.set_cons_zero, List.set_cons_succ]
                refine wpAnyH_take (i := 9) (oi := { dst := some 112, op := Go.Op.load 27 (Go.Operand.tmp 8), type := 27, pos := "law.go:160", after := #[{ on := 6, ground := Go.Ground.guard }], guard := some (6, false) }) (v := ?_) rfl (by kernel_rfl) (by kernel_rfl) (by kernel_rfl) (fun _ _ _ h => h) (Or.inl ⟨by rfl, ?_⟩) hHeld1 ?_
                rotate_left 1
                · intro w hSw; (try dsimp only at hSw); go_simp; try with_reducible rfl
                try simp only [Act.put, List.setIfInBounds_toArray, List.set_cons_zero, List.set_cons_succ]
                refine wpAnyH_ready (rs := [8]) (by kernel_rfl) (by simp) ?_
                refine AllReadyH.cons (o := { dst := some 111, op := Go.Op.call { callee := Go.Callee.value (Go.Operand.func 12), args := #[Go.Operand.tmp 110], argTypes := #[27] }, type := 3, pos := "law.go:160", after := #[{ on := 7, ground := Go.Ground.data }, { on := 6, ground := Go.Ground.chain }, { on := 6, ground := Go.Ground.guard }], guard := some (6, false) }) rfl (fun K hK => ?_) AllReadyH.nil
                go_simp
                go_at_call 12
                refine (HR2.out _ _ ((HV8.out.on (HGET.out _ hHeld1)).in)).mono ?_
                rintro e wx8 ⟨rfl, hb2⟩
                refine hK.out _ _ (HON.out _ _ hHeld1 hb2) (fun hHeld8 => ?_)
                clear hK K hHeld1 hb2
                try simp only [Act.put, List.setIfInBounds_toArray, List.set_cons_zero, List.set_cons_succ]
                refine wpAnyH_ready (rs := [10]) (by kernel_rfl) (by simp) ?_
                refine AllReadyH.cons (o := { dst := some 113, op := Go.Op.call { callee := Go.Callee.value (Go.Operand.func 9), args := #[Go.Operand.tmp 112], argTypes := #[27] }, type := 3, pos := "law.go:160", after := #[{ on := 9, ground := Go.Ground.data }, { on := 8, ground := Go.Ground.chain }, { on := 6, ground := Go.Ground.guard }], guard := some (6, false) }) rfl (fun K hK => ?_) AllReadyH.nil
                go_simp
                go_at_call 9
                refine (HL2.out _ _ ((HV8.out.on (HGET.out _ hHeld8)).in)).mono ?_
                rintro e wx10 ⟨rfl, hb2⟩
                refine hK.out _ _ (HON.out _ _ hHeld8 hb2) (fun hHeld10 => ?_)
                clear hK K hHeld8 hb2
                try simp only [Act.put, List.setIfInBounds_toArray, List.set_cons_zero, List.set_cons_succ]
                refine wpAnyH_take (i := 11) (oi := { dst := some 114, op := Go.Op.binOp Go.BinOp.gtr 3 (Go.Operand.tmp 111) (Go.Operand.tmp 113) 3, type := 4, pos := "law.go:160", after := #[{ on := 8, ground := Go.Ground.data }, { on := 10, ground := Go.Ground.data }, { on := 6, ground := Go.Ground.guard }], guard := some (6, false) }) (v := ?_) rfl (by kernel_rfl) (by kernel_rfl) (by kernel_rfl) (fun _ _ _ h => h) (Or.inl ⟨by rfl, ?_⟩) hHeld10 ?_
                rotate_left 1
                · intro w hSw; (try dsimp only at hSw); go_simp; try with_reducible rfl
                try simp only [Act.put, List.setIfInBounds_toArray, List.set_cons_zero, List.set_cons_succ]
                refine wpAnyH_take (i := 12) (oi := { dst := some 115, op := Go.Op.pick (Go.Operand.tmp 109) (Go.Operand.const (Go.Value.bool true)) (Go.Operand.tmp 114), type := 4, pos := "law.go:160", after := #[{ on := 6, ground := Go.Ground.data }, { on := 11, ground := Go.Ground.data }], guard := none }) (v := ?_) rfl (by kernel_rfl) (by kernel_rfl) (by kernel_rfl) (fun _ _ _ h => h) (Or.inl ⟨by rfl, ?_⟩) hHeld10 ?_
                rotate_left 1
                · intro w hSw; (try dsimp only at hSw); go_simp; try with_reducible rfl
                try simp only [Act.put, List.setIfInBounds_toArray, List.set_cons_zero, List.set_cons_succ]
                refine wpAnyH_done (by kernel_rfl) ?_ _
                have hlast := hHeld10
                clear hHeld10
                have HZ8 := Lib.hid (HGET.out _ hlast)
                clear hlast HON HGET HS0 s0 s1 s2 hw30 hw31 hc30 hc31 hc32 hr30 hr31 hr32
                have HX9 := Lib.hid (HX8.out.on HZ8.out)
                have HN9 := Lib.hid (HN8.out.on HZ8.out)
                have HV9 := Lib.hid (HV8.out.on HZ8.out)
                have HB9 := Lib.hid (bthen HB8.out HZ8.out (Nat.le_refl _))
                have s1 := HN9.out.cs 0 _ rfl
                have x0 := HX9.out.cs 0 _ rfl
                have xl := HX9.out.lt
                have xf := HX9.out.s 0
                have HNB := Lib.hid (show ¬ ((U b ∧ b < w1.heap.size) ∨ wa.heap.size ≤ b) from fun h => h.elim (fun h => HNU.out h.1) (fun h => by have := HSA.out; omega))
                have HPUT := Lib.hid (LnBox.putN rfl HX9.out HV9.out HNB.out)
                have HBFF := Lib.hid (HB9.out.setCell (p := ⟨b, 0, none⟩) HX9.out.ge (.slice A3 q2.length c3))
                have hkl : k < l.length := hlt
                have hl100 := h100
                clear hq64
                go_wp2_with fail
                go_roundg (gO - 1)
                case rel => exact ⟨k + 1, q2, by have := HK.out; omega, by go_num, HST.out, HPUT.out, HBFF.out⟩
                case measure => have := HK.out; omega
          · have hg : decide ((rq : Int) > 0) = false := decide_eq_false (by omega)
            have hg2 : ¬ (0 : Int) < (rq : Int) := by omega
            clear HR16 hrb
            have HS0 := Lib.hid (show w5.cell? ⟨b, 0, none⟩ = some (.slice A q.length c) ∧ w5.cell? ⟨b8, 0, none⟩ = some (.slice A3 q2.length c3) ∧ w5.cell? ⟨b6, 1, none⟩ = some (.int .u64 (x.id : Int)) ∧ Below w5.heap.size w5 w5 from ⟨s0, s1, s2, Below.refl _ _⟩)
            have HON := Lib.hid (show ∀ a a' : World, (a.cell? ⟨b, 0, none⟩ = some (.slice A q.length c) ∧ a.cell? ⟨b8, 0, none⟩ = some (.slice A3 q2.length c3) ∧ a.cell? ⟨b6, 1, none⟩ = some (.int .u64 (x.id : Int)) ∧ Below w5.heap.size w5 a) → Below a.heap.size a a' → (a'.cell? ⟨b, 0, none⟩ = some (.slice A q.length c) ∧ a'.cell? ⟨b8, 0, none⟩ = some (.slice A3 q2.length c3) ∧ a'.cell? ⟨b6, 1, none⟩ = some (.int .u64 (x.id : Int)) ∧ Below w5.heap.size w5 a') from fun a a' ⟨h0, h1, h2, h3⟩ hb => ⟨cell_on hb h0, cell_on hb h1, cell_on hb h2, bthen h3 hb (Nat.le_refl _)⟩)
            have HGET := Lib.hid (show ∀ a : World, (a.cell? ⟨b, 0, none⟩ = some (.slice A q.length c) ∧ a.cell? ⟨b8, 0, none⟩ = some (.slice A3 q2.length c3) ∧ a.cell? ⟨b6, 1, none⟩ = some (.int .u64 (x.id : Int)) ∧ Below w5.heap.size w5 a) → Below w5.heap.size w5 a from fun a ⟨h0, h1, h2, h3⟩ => h3)
            refine wp_region_held_drew (S := fun a => a.cell? ⟨b, 0, none⟩ = some (.slice A q.length c) ∧ a.cell? ⟨b8, 0, none⟩ = some (.slice A3 q2.length c3) ∧ a.cell? ⟨b6, 1, none⟩ = some (.int .u64 (x.id : Int)) ∧ Below w5.heap.size w5 a) (by kernel_rfl) (by (try dsimp only); exact HON.out _ _ HS0.out (Below.refl _ _).drew) (fun hHeld => ?_)
            refine wpAnyH_take (i := 0) (oi := { dst := some 42, op := Go.Op.load 27 (Go.Operand.tmp 3), type := 27, pos := "law.go:144", after := #[], guard := none }) (v := ?_) rfl (by kernel_rfl) (by kernel_rfl) (by kernel_rfl) (fun _ _ _ h => h) (Or.inl ⟨by rfl, ?_⟩) hHeld ?_
            rotate_left 1
            · intro w hSw; (try dsimp only at hSw); go_simp; try with_reducible rfl
            try simp only [Act.put, List.setIfInBounds_toArray, List.set_cons_zero, List.set_cons_succ]
            refine wpAnyH_ready (rs := [1]) (by kernel_rfl) (by simp) ?_
            refine AllReadyH.cons (o := { dst := some 43, op := Go.Op.call { callee := Go.Callee.value (Go.Operand.func 12), args := #[Go.Operand.tmp 42], argTypes := #[27] }, type := 3, pos := "law.go:144", after := #[{ on := 0, ground := Go.Ground.data }], guard := none }) rfl (fun K hK => ?_) AllReadyH.nil
            go_simp
            go_at_call 12
            refine (HRQ.out _ _ ((HU5.out.on (HGET.out _ hHeld)).in)).mono ?_
            rintro e wx1 ⟨rfl, hb2⟩
            refine hK.out _ _ (HON.out _ _ hHeld hb2) (fun hHeld1 => ?_)
            clear hK K hHeld hb2
            try simp only [Act.put, List.setIfInBounds_toArray, List.set_cons_zero, List.set_cons_succ]
            refine wpAnyH_take (i := 2) (oi := { dst := some 44, op := Go.Op.binOp Go.BinOp.gtr 3 (Go.Operand.tmp 43) (Go.Operand.const (Go.Value.int Go.IntKind.i64 0)) 3, type := 4, pos := "law.go:144", after := #[{ on := 1, ground := Go.Ground.data }], guard := none }) (v := ?_) rfl (by kernel_rfl) (by kernel_rfl) (by kernel_rfl) (fun _ _ _ h => h) (Or.inl ⟨by rfl, ?_⟩) hHeld1 ?_
            rotate_left 1
            · intro w hSw; (try dsimp only at hSw); go_simp; try with_reducible rfl
            try simp only [Act.put, List.setIfInBounds_toArray, List.set_cons_zero, List.set_cons_succ]
            refine wpAnyH_take (i := 3) (oi := { dst := some 45, op := Go.Op.move (Go.Operand.tmp 44), type := 4, pos := "law.go:144", after := #[{ on := 2, ground := Go.Ground.data }, { on := 1, ground := Go.Ground.chain }], guard := none }) (v := ?_) rfl (by kernel_rfl) (by kernel_rfl) (by kernel_rfl) (fun _ _ _ h => h) (Or.inl ⟨by rfl, ?_⟩) hHeld1 ?_
            rotate_left 1
            · intro w hSw; (try dsimp only at hSw); go_simp; try with_reducible rfl
            try simp only [Act.put, List.setIfInBounds_toArray, List.set_cons_zero, List.set_cons_succ]
            refine wpAnyH_take (i := 4) (oi := { dst := some 46, op := Go.Op.load 27 (Go.Operand.tmp 8), type := 27, pos := "law.go:144", after := #[{ on := 3, ground := Go.Ground.guard }], guard := some (3, true) }) (v := undef) rfl (by kernel_rfl) (by kernel_rfl) (by kernel_rfl) (fun _ _ _ h => h) (Or.inr ⟨by rfl, rfl⟩) hHeld1 ?_
            try simp only [Act.put, List.setIfInBounds_toArray, List.set_cons_zero, List.set_cons_succ]
            refine wpAnyH_take (i := 6) (oi := { dst := some 48, op := Go.Op.load 27 (Go.Operand.tmp 3), type := 27, pos := "law.go:144", after := #[{ on := 3, ground := Go.Ground.guard }], guard := some (3, true) }) (v := undef) rfl (by kernel_rfl) (by kernel_rfl) (by kernel_rfl) (fun _ _ _ h => h) (Or.inr ⟨by rfl, rfl⟩) hHeld1 ?_
            try simp only [Act.put, List.setIfInBounds_toArray, List.set_cons_zero, List.set_cons_succ]
            refine wpAnyH_take (i := 5) (oi := { dst := some 47, op := Go.Op.call { callee := Go.Callee.value (Go.Operand.func 12), args := #[Go.Operand.tmp 46], argTypes := #[27] }, type := 3, pos := "law.go:144", after := #[{ on := 4, ground := Go.Ground.data }, { on := 3, ground := Go.Ground.chain }, { on := 3, ground := Go.Ground.guard }], guard := some (3, true) }) (v := undef) rfl (by kernel_rfl) (by kernel_rfl) (by kernel_rfl) (fun _ _ _ h => h) (Or.inr ⟨by rfl, rfl⟩) hHeld1 ?_
            try simp only [Act.put, List.setIfInBounds_toArray, List.set_cons_zero, List.set_cons_succ]
            refine wpAnyH_take (i := 7) (oi := { dst := some 49, op := Go.Op.call { callee := Go.Callee.value (Go.Operand.func 12), args := #[Go.Operand.tmp 48], argTypes := #[27] }, type := 3, pos := "law.go:144", after := #[{ on := 6, ground := Go.Ground.data }, { on := 5, ground := Go.Ground.chain }, { on := 3, ground := Go.Ground.guard }], guard := some (3, true) }) (v := undef) rfl (by kernel_rfl) (by kernel_rfl) (by kernel_rfl) (fun _ _ _ h => h) (Or.inr ⟨by rfl, rfl⟩) hHeld1 ?_
            try simp only [Act.put, List.setIfInBounds_toArray, List.set_cons_zero, List.set_cons_succ]
            refine wpAnyH_take (i := 8) (oi := { dst := some 50, op := Go.Op.binOp Go.BinOp.sub 3 (Go.Operand.tmp 49) (Go.Operand.const (Go.Value.int Go.IntKind.i64 1)) 3, type := 3, pos := "law.go:144", after := #[{ on := 7, ground := Go.Ground.data }, { on := 3, ground := Go.Ground.guard }], guard := some (3, true) }) (v := undef) rfl (by kernel_rfl) (by kernel_rfl) (by kernel_rfl) (fun _ _ _ h => h) (Or.inr ⟨by rfl, rfl⟩) hHeld1 ?_
            try simp only [Act.put, List.setIfInBounds_toArray, List.set_cons_zero, List.set_cons_succ]
            refine wpAnyH_take (i := 9) (oi := { dst := some 51, op := Go.Op.binOp Go.BinOp.neq 3 (Go.Operand.tmp 47) (Go.Operand.tmp 50) 3, type := 4, pos := "law.go:144", after := #[{ on := 5, ground := Go.Ground.data }, { on := 8, ground := Go.Ground.data }, { on := 3, ground := Go.Ground.guard }], guard := some (3, true) }) (v := undef) rfl (by kernel_rfl) (by kernel_rfl) (by kernel_rfl) (fun _ _ _ h => h) (Or.inr ⟨by rfl, rfl⟩) hHeld1 ?_
            try simp only [Act.put, List.setIfInBounds_toArray, List.set_cons_zero, List.set_cons_succ]
            refine wpAnyH_take (i := 10) (oi := { dst := some 52, op := Go.Op.pick (Go.Operand.tmp 45) (Go.Operand.tmp 51) (Go.Operand.const (Go.Value.bool false)), type := 4, pos := "law.go:144", after := #[{ on := 3, ground := Go.Ground.data }, { on := 9, ground := Go.Ground.data }], guard := none }) (v := ?_) rfl (by kernel_rfl) (by kernel_rfl) (by kernel_rfl) (fun _ _ _ h => h) (Or.inl ⟨by rfl, ?_⟩) hHeld1 ?_
            rotate_left 1
            · intro w hSw; (try dsimp only at hSw); go_simp; try with_reducible rfl
            try simp only [Act.put, List.setIfInBounds_toArray, List.set_cons_zero, List.set_cons_succ]
            refine wpAnyH_take (i := 11) (oi := { dst := some 53, op := Go.Op.move (Go.Operand.tmp 52), type := 4, pos := "law.go:144", after := #[{ on := 10, ground := Go.Ground.data }, { on := 7, ground := Go.Ground.chain }], guard := none }) (v := ?_) rfl (by kernel_rfl) (by kernel_rfl) (by kernel_rfl) (fun _ _ _ h => h) (Or.inl ⟨by rfl, ?_⟩) hHeld1 ?_
            rotate_left 1
            · intro w hSw; (try dsimp only at hSw); go_simp; try with_reducible rfl
            try simp only [Act.put, List.setIfInBounds_toArray, List.set_cons_zero, List.set_cons_succ]
            refine wpAnyH_take (i := 12) (oi := { dst := some 54, op := Go.Op.load 27 (Go.Operand.tmp 8), type := 27, pos := "law.go:144", after := #[{ on := 11, ground := Go.Ground.guard }], guard := some (11, false) }) (v := ?_) rfl (by kernel_rfl) (by kernel_rfl) (by kernel_rfl) (fun _ _ _ h => h) (Or.inl ⟨by rfl, ?_⟩) hHeld1 ?_
            rotate_left 1
            · intro w hSw; (try dsimp only at hSw); go_simp; try with_reducible rfl
            try simp only [Act.put, List.setIfInBounds_toArray, List.set_cons_zero, List.set_cons_succ]
            refine wpAnyH_take (i := 14) (oi := { dst := some 56, op := Go.Op.move (Go.Operand.tmp 7), type := 3, pos := "law.go:144", after := #[{ on := 11, ground := Go.Ground.guard }], guard := some (11, false) }) (v := ?_) rfl (by kernel_rfl) (by kernel_rfl) (by kernel_rfl) (fun _ _ _ h => h) (Or.inl ⟨by rfl, ?_⟩) hHeld1 ?_
            rotate_left 1
            · intro w hSw; (try dsimp only at hSw); go_simp; try with_reducible rfl
            try simp only [Act.put, List.setIfInBounds_toArray, List.set_cons_zero, List.set_cons_succ]
            refine wpAnyH_ready (rs := [13]) (by kernel_rfl) (by simp) ?_
            refine AllReadyH.cons (o := { dst := some 55, op := Go.Op.call { callee := Go.Callee.value (Go.Operand.func 9), args := #[Go.Operand.tmp 54], argTypes := #[27] }, type := 3, pos := "law.go:144", after := #[{ on := 12, ground := Go.Ground.data }, { on := 11, ground := Go.Ground.chain }, { on := 11, ground := Go.Ground.guard }], guard := some (11, false) }) rfl (fun K hK => ?_) AllReadyH.nil
            go_simp
            go_at_call 9
            refine (HL2E.out _ _ ((HV5.out.on (HGET.out _ hHeld1)).in)).mono ?_
            rintro e wx13 ⟨rfl, hb2⟩
            refine hK.out _ _ (HON.out _ _ hHeld1 hb2) (fun hHeld13 => ?_)
            clear hK K hHeld1 hb2
            try simp only [Act.put, List.setIfInBounds_toArray, List.set_cons_zero, List.set_cons_succ]
            refine wpAnyH_take (i := 15) (oi := { dst := some 57, op := Go.Op.binOp Go.BinOp.neq 3 (Go.Operand.tmp 55) (Go.Operand.tmp 56) 3, type := 4, pos := "law.go:144", after := #[{ on := 13, ground := Go.Ground.data }, { on := 14, ground := Go.Ground.data }, { on := 11, ground := Go.Ground.guard }], guard := some (11, false) }) (v := ?_) rfl (by kernel_rfl) (by kernel_rfl) (by kernel_rfl) (fun _ _ _ h => h) (Or.inl ⟨by rfl, ?_⟩) hHeld13 ?_
            rotate_left 1
            · intro w hSw; (try dsimp only at hSw); go_simp; try with_reducible rfl
            try simp only [Act.put, List.setIfInBounds_toArray, List.set_cons_zero, List.set_cons_succ]
            refine wpAnyH_take (i := 16) (oi := { dst := some 58, op := Go.Op.pick (Go.Operand.tmp 53) (Go.Operand.const (Go.Value.bool true)) (Go.Operand.tmp 57), type := 4, pos := "law.go:144", after := #[{ on := 11, ground := Go.Ground.data }, { on := 15, ground := Go.Ground.data }], guard := none }) (v := ?_) rfl (by kernel_rfl) (by kernel_rfl) (by kernel_rfl) (fun _ _ _ h => h) (Or.inl ⟨by rfl, ?_⟩) hHeld13 ?_
            rotate_left 1
            · intro w hSw; (try dsimp only at hSw); go_simp; try with_reducible rfl
            try simp only [Act.put, List.setIfInBounds_toArray, List.set_cons_zero, List.set_cons_succ]
            refine wpAnyH_done (by kernel_rfl) ?_ _
            have hlast := hHeld13
            clear hHeld13
            have HZ := Lib.hid (HGET.out _ hlast)
            have HNN := Lib.hid HQ2.out.1
            clear hlast HON HGET HS0 hg hg2 h0
            have HX6 := Lib.hid (HX5.out.on HZ.out)
            have HN6 := Lib.hid (HN5.out.on HZ.out)
            have HC6 := Lib.hid (HC5.out.on HZ.out)
            have HV6 := Lib.hid (HV5.out.on HZ.out)
            have HB6 := Lib.hid (bthen HB5.out HZ.out (Nat.le_refl _))
            clear s0 s1 s2 d0
            have s1 := HN6.out.cs 0 _ rfl
            go_wp2_with fail
            refine (HAL.out _ _ HV6.out.in).mono ?_
            rintro e w7 ⟨A7, c7, rfl, ha, hb⟩
            have HX7 := Lib.hid (HX6.out.on hb)
            have HN7 := Lib.hid (HN6.out.on hb)
            have HC7 := Lib.hid (HC6.out.on hb)
            have HV7 := Lib.hid (HV6.out.on hb)
            have HB7 := Lib.hid (bthen HB6.out hb (Nat.le_refl _))
            have HA7 := Lib.hid ha
            clear hb ha s1
            have hq64 := H264.out
            go_wp2_with fail
            go_loopg [4, 85] q2.length (fun g u i wr => GiSt w7 q2 q2.length g u i wr)
            case atStart => exact ⟨0, by omega, rfl, rfl, Below.refl _ _⟩
            case round =>
              obtain ⟨kk, hk2, rfl, rfl, hbw⟩ := hrel
              have HK2 := Lib.hid hk2
              have HBW := Lib.hid hbw
              clear hk2 hbw
              by_cases hlt2 : kk < q2.length
              · obtain ⟨b', off', Ay, cy, hA7e, hbl, hat, hgo⟩ := (HA7.out.on HBW.out).get hlt2
                subst hA7e
                have HLT := Lib.hid (fun h0 => lastAt_lt HRS.out hlt2 h0)
                have HLN := Lib.hid (lastAt_next q2 kk)
                generalize q2.getD kk it0 = yy at *
                obtain ⟨ym, lent, again⟩ := yy
                unfold itL at hat
                dsimp only at hat
                have HLN' := Lib.hid (show lastAt q2 (kk + 1) = ym.id from HLN.out)
                have hl1 := HLT.out
                dsimp only at hl1
                have c0 := hat 0 _ rfl
                have c1 := hat 1 _ rfl
                have c2 := hat 2 _ rfl
                have c3 := hat 3 _ rfl
                have c4 := hat 4 _ rfl
                have c5 := hat 5 _ rfl
                have c6 := hat 6 _ rfl
                have c7 := hat 7 _ rfl
                have c8 := hat 8 _ rfl
                rw [Nat.add_zero] at c0
                have HT9 := Lib.hid (one_alloc wr (.cells #[.int .u64 (ym.id : Int), .string (ofL ym.shop), .string (ofL ym.key), .slice Ay ym.head.length cy, .string (ofL ym.body), .int .u64 (ym.due : Int), .int .u8 (ym.hops : Int), .bool lent, .bool again] 41))
                have HB9 := Lib.hid (bthen HBW.out HT9.out (Nat.le_refl _))
                clear hat hgo HLN HLT
                generalize lastAt q2 kk = la at *
                by_cases hz : kk = 0
                · have q1 : decide ((kk : Int) > 0) = false := decide_eq_false (by omega)
                  have q2' : decide (0 < kk) = false := decide_eq_false (by omega)
                  have hz' := Lib.hid hz
                  clear hl1 hz
                  go_wp2_with fail
                  go_roundg (gk - 1)
                  case rel => exact ⟨kk + 1, by have := HK2.out; omega, by rw [HLN'.out], by go_num, HB9.out⟩
                  case measure => have := HK2.out; omega
                · have q1 : decide ((kk : Int) > 0) = true := decide_eq_true (by omega)
                  have q2' : decide (0 < kk) = true := decide_eq_true (by omega)
                  have q5 : 0 < kk := by omega
                  have q3 : decide ((ym.id : Int) ≤ (la : Int)) = false := decide_eq_false (by have := hl1 q5; omega)
                  have q4 : decide (ym.id ≤ la) = false := decide_eq_false (by have := hl1 q5; omega)
                  have q6 : la < ym.id := hl1 q5
                  clear hl1
                  go_wp2_with fail
                  go_roundg (gk - 1)
                  case rel => exact ⟨kk + 1, by have := HK2.out; omega, by rw [HLN'.out], by go_num, HB9.out⟩
                  case measure => have := HK2.out; omega
              · have HX8 := Lib.hid (HX7.out.on HBW.out)
                have HN8 := Lib.hid (HN7.out.on HBW.out)
                have HC8 := Lib.hid (HC7.out.on HBW.out)
                have HV8 := Lib.hid (HV7.out.on HBW.out)
                have HB8 := Lib.hid (bthen HB7.out HBW.out (Nat.le_refl _))
                have s0 := HX8.out.cs 0 _ rfl
                have s1 := HN8.out.cs 0 _ rfl
                have s2 := HC8.out.cs 1 _ rfl
                have hc30 : decide ((q2.length : Int) < (q.length : Int)) = false := decide_eq_false (by have := HNN.out; omega)
                have hrle := Ln.ready_le q2
                have hr30 : decide ((Ln.ready q2 : Int) > (q2.length : Int)) = false := decide_eq_false (by omega)
                have hc31 : decide (q2.length < q.length) = false := decide_eq_false (by have := HNN.out; omega)
                have hc32 : ¬ (q2.length < q.length) := by have := HNN.out; omega
                have hr31 : decide (q2.length < Ln.ready q2) = false := decide_eq_false (by omega)
                have hr32 : ¬ (q2.length < Ln.ready q2) := by omega
                have hw30 : IntKind.i64.wrap ((q.length : Int) - 0) = (q.length : Int) := by rw [IntKind.wrap_i64]; have := HQ64.out; have := HNN.out; omega
                have hw31 : IntKind.i64.wrap (q.length : Int) = (q.length : Int) := by rw [IntKind.wrap_i64]; have := HQ64.out; clear hw30; omega
                generalize Ln.ready q2 = rq2 at *
                go_upto_region 30 with fail
                have HS0 := Lib.hid (show wr.cell? ⟨b, 0, none⟩ = some (.slice A q.length c) ∧ wr.cell? ⟨b8, 0, none⟩ = some (.slice A3 q2.length c3) ∧ wr.cell? ⟨b6, 1, none⟩ = some (.int .u64 (x.id : Int)) ∧ Below wr.heap.size wr wr from ⟨s0, s1, s2, Below.refl _ _⟩)
                have HON := Lib.hid (show ∀ a a' : World, (a.cell? ⟨b, 0, none⟩ = some (.slice A q.length c) ∧ a.cell? ⟨b8, 0, none⟩ = some (.slice A3 q2.length c3) ∧ a.cell? ⟨b6, 1, none⟩ = some (.int .u64 (x.id : Int)) ∧ Below wr.heap.size wr a) → Below a.heap.size a a' → (a'.cell? ⟨b, 0, none⟩ = some (.slice A q.length c) ∧ a'.cell? ⟨b8, 0, none⟩ = some (.slice A3 q2.length c3) ∧ a'.cell? ⟨b6, 1, none⟩ = some (.int .u64 (x.id : Int)) ∧ Below wr.heap.size wr a') from fun a a' ⟨h0, h1, h2, h3⟩ hb => ⟨cell_on hb h0, cell_on hb h1, cell_on hb h2, bthen h3 hb (Nat.le_refl _)⟩)
                have HGET := Lib.hid (show ∀ a : World, (a.cell? ⟨b, 0, none⟩ = some (.slice A q.length c) ∧ a.cell? ⟨b8, 0, none⟩ = some (.slice A3 q2.length c3) ∧ a.cell? ⟨b6, 1, none⟩ = some (.int .u64 (x.id : Int)) ∧ Below wr.heap.size wr a) → Below wr.heap.size wr a from fun a ⟨h0, h1, h2, h3⟩ => h3)
                refine wp_region_held_drew (S := fun a => a.cell? ⟨b, 0, none⟩ = some (.slice A q.length c) ∧ a.cell? ⟨b8, 0, none⟩ = some (.slice A3 q2.length c3) ∧ a.cell? ⟨b6, 1, none⟩ = some (.int .u64 (x.id : Int)) ∧ Below wr.heap.size wr a) (by kernel_rfl) (by (try dsimp only); exact HON.out _ _ HS0.out (Below.refl _ _).drew) (fun hHeld => ?_)
                refine wpAnyH_take (i := 0) (oi := { dst := some 103, op := Go.Op.load 27 (Go.Operand.tmp 8), type := 27, pos := "law.go:160", after := #[], guard := none }) (v := ?_) rfl (by kernel_rfl) (by kernel_rfl) (by kernel_rfl) (fun _ _ _ h => h) (Or.inl ⟨by rfl, ?_⟩) hHeld ?_
                rotate_left 1
                · intro w hSw; (try dsimp only at hSw); go_simp; try with_reducible rfl
                try simp only [Act.put, List.setIfInBounds_toArray, List.set_cons_zero, List.set_cons_succ]
                refine wpAnyH_take (i := 2) (oi := { dst := some 105, op := Go.Op.move (Go.Operand.tmp 7), type := 3, pos := "law.go:160", after := #[], guard := none }) (v := ?_) rfl (by kernel_rfl) (by kernel_rfl) (by kernel_rfl) (fun _ _ _ h => h) (Or.inl ⟨by rfl, ?_⟩) hHeld ?_
                rotate_left 1
                · intro w hSw; (try dsimp only at hSw); go_simp; try with_reducible rfl
                try simp only [Act.put, List.setIfInBounds_toArray, List.set_cons_zero, List.set_cons_succ]
                refine wpAnyH_take (i := 3) (oi := { dst := some 106, op := Go.Op.move (Go.Operand.tmp 11), type := 3, pos := "law.go:160", after := #[], guard := none }) (v := ?_) rfl (by kernel_rfl) (by kernel_rfl) (by kernel_rfl) (fun _ _ _ h => h) (Or.inl ⟨by rfl, ?_⟩) hHeld ?_
                rotate_left 1
                · intro w hSw; (try dsimp only at hSw); go_simp; try with_reducible rfl
                try simp only [Act.put, List.setIfInBounds_toArray, List.set_cons_zero, List.set_cons_succ]
                refine wpAnyH_take (i := 4) (oi := { dst := some 107, op := Go.Op.binOp Go.BinOp.sub 3 (Go.Operand.tmp 105) (Go.Operand.tmp 106) 3, type := 3, pos := "law.go:160", after := #[{ on := 2, ground := Go.Ground.data }, { on := 3, ground := Go.Ground.data }], guard := none }) (v := ?_) rfl (by kernel_rfl) (by kernel_rfl) (by kernel_rfl) (fun _ _ _ h => h) (Or.inl ⟨by rfl, ?_⟩) hHeld ?_
                rotate_left 1
                · intro w hSw; (try dsimp only at hSw); go_simp; try with_reducible rfl
                try simp only [Act.put, List.setIfInBounds_toArray, List.set_cons_zero, List.set_cons_succ]
                refine wpAnyH_ready (rs := [1]) (by kernel_rfl) (by simp) ?_
                refine AllReadyH.cons (o := { dst := some 104, op := Go.Op.call { callee := Go.Callee.value (Go.Operand.func 9), args := #[Go.Operand.tmp 103], argTypes := #[27] }, type := 3, pos := "law.go:160", after := #[{ on := 0, ground := Go.Ground.data }], guard := none }) rfl (fun K hK => ?_) AllReadyH.nil
                go_simp
                go_at_call 9
                refine (HL2.out _ _ ((HV8.out.on (HGET.out _ hHeld)).in)).mono ?_
                rintro e wx1 ⟨rfl, hb2⟩
                refine hK.out _ _ (HON.out _ _ hHeld hb2) (fun hHeld1 => ?_)
                clear hK K hHeld hb2
                try simp only [Act.put, List.setIfInBounds_toArray, List.set_cons_zero, List.set_cons_succ]
                refine wpAnyH_take (i := 5) (oi := { dst := some 108, op := Go.Op.binOp Go.BinOp.lss 3 (Go.Operand.tmp 104) (Go.Operand.tmp 107) 3, type := 4, pos := "law.go:160", after := #[{ on := 1, ground := Go.Ground.data }, { on := 4, ground := Go.Ground.data }], guard := none }) (v := ?_) rfl (by kernel_rfl) (by kernel_rfl) (by kernel_rfl) (fun _ _ _ h => h) (Or.inl ⟨by rfl, ?_⟩) hHeld1 ?_
                rotate_left 1
                · intro w hSw; (try dsimp only at hSw); go_simp; try with_reducible rfl
                try simp only [Act.put, List.setIfInBounds_toArray, List.set_cons_zero, List.set_cons_succ]
                refine wpAnyH_take (i := 6) (oi := { dst := some 109, op := Go.Op.move (Go.Operand.tmp 108), type := 4, pos := "law.go:160", after := #[{ on := 5, ground := Go.Ground.data }, { on := 1, ground := Go.Ground.chain }], guard := none }) (v := ?_) rfl (by kernel_rfl) (by kernel_rfl) (by kernel_rfl) (fun _ _ _ h => h) (Or.inl ⟨by rfl, ?_⟩) hHeld1 ?_
                rotate_left 1
                · intro w hSw; (try dsimp only at hSw); go_simp; try with_reducible rfl
                try simp only [Act.put, List.setIfInBounds_toArray, List.set_cons_zero, List.set_cons_succ]
                refine wpAnyH_take (i := 7) (oi := { dst := some 110, op := Go.Op.load 27 (Go.Operand.tmp 8), type := 27, pos := "law.go:160", after := #[{ on := 6, ground := Go.Ground.guard }], guard := some (6, false) }) (v := ?_) rfl (by kernel_rfl) (by kernel_rfl) (by kernel_rfl) (fun _ _ _ h => h) (Or.inl ⟨by rfl, ?_⟩) hHeld1 ?_
                rotate_left 1
                · intro w hSw; (try dsimp only at hSw); go_simp; try with_reducible rfl
                try simp only [Act.put, List.setIfInBounds_toArray, List.set_cons_zero, List.set_cons_succ]
                refine wpAnyH_take (i := 9) (oi := { dst := some 112, op := Go.Op.load 27 (Go.Operand.tmp 8), type := 27, pos := "law.go:160", after := #[{ on := 6, ground := Go.Ground.guard }], guard := some (6, false) }) (v := ?_) rfl (by kernel_rfl) (by kernel_rfl) (by kernel_rfl) (fun _ _ _ h => h) (Or.inl ⟨by rfl, ?_⟩) hHeld1 ?_
                rotate_left 1
                · intro w hSw; (try dsimp only at hSw); go_simp; try with_reducible rfl
                try simp only [Act.put, List.setIfInBounds_toArray, List.set_cons_zero, List.set_cons_succ]
                refine wpAnyH_ready (rs := [8]) (by kernel_rfl) (by simp) ?_
                refine AllReadyH.cons (o := { dst := some 111, op := Go.Op.call { callee := Go.Callee.value (Go.Operand.func 12), args := #[Go.Operand.tmp 110], argTypes := #[27] }, type := 3, pos := "law.go:160", after := #[{ on := 7, ground := Go.Ground.data }, { on := 6, ground := Go.Ground.chain }, { on := 6, ground := Go.Ground.guard }], guard := some (6, false) }) rfl (fun K hK => ?_) AllReadyH.nil
                go_simp
                go_at_call 12
                refine (HR2.out _ _ ((HV8.out.on (HGET.out _ hHeld1)).in)).mono ?_
                rintro e wx8 ⟨rfl, hb2⟩
                refine hK.out _ _ (HON.out _ _ hHeld1 hb2) (fun hHeld8 => ?_)
                clear hK K hHeld1 hb2
                try simp only [Act.put, List.setIfInBounds_toArray, List.set_cons_zero, List.set_cons_succ]
                refine wpAnyH_ready (rs := [10]) (by kernel_rfl) (by simp) ?_
                refine AllReadyH.cons (o := { dst := some 113, op := Go.Op.call { callee := Go.Callee.value (Go.Operand.func 9), args := #[Go.Operand.tmp 112], argTypes := #[27] }, type := 3, pos := "law.go:160", after := #[{ on := 9, ground := Go.Ground.data }, { on := 8, ground := Go.Ground.chain }, { on := 6, ground := Go.Ground.guard }], guard := some (6, false) }) rfl (fun K hK => ?_) AllReadyH.nil
                go_simp
                go_at_call 9
                refine (HL2.out _ _ ((HV8.out.on (HGET.out _ hHeld8)).in)).mono ?_
                rintro e wx10 ⟨rfl, hb2⟩
                refine hK.out _ _ (HON.out _ _ hHeld8 hb2) (fun hHeld10 => ?_)
                clear hK K hHeld8 hb2
                try simp only [Act.put, List.setIfInBounds_toArray, List.set_cons_zero, List.set_cons_succ]
                refine wpAnyH_take (i := 11) (oi := { dst := some 114, op := Go.Op.binOp Go.BinOp.gtr 3 (Go.Operand.tmp 111) (Go.Operand.tmp 113) 3, type := 4, pos := "law.go:160", after := #[{ on := 8, ground := Go.Ground.data }, { on := 10, ground := Go.Ground.data }, { on := 6, ground := Go.Ground.guard }], guard := some (6, false) }) (v := ?_) rfl (by kernel_rfl) (by kernel_rfl) (by kernel_rfl) (fun _ _ _ h => h) (Or.inl ⟨by rfl, ?_⟩) hHeld10 ?_
                rotate_left 1
                · intro w hSw; (try dsimp only at hSw); go_simp; try with_reducible rfl
                try simp only [Act.put, List.setIfInBounds_toArray, List.set_cons_zero, List.set_cons_succ]
                refine wpAnyH_take (i := 12) (oi := { dst := some 115, op := Go.Op.pick (Go.Operand.tmp 109) (Go.Operand.const (Go.Value.bool true)) (Go.Operand.tmp 114), type := 4, pos := "law.go:160", after := #[{ on := 6, ground := Go.Ground.data }, { on := 11, ground := Go.Ground.data }], guard := none }) (v := ?_) rfl (by kernel_rfl) (by kernel_rfl) (by kernel_rfl) (fun _ _ _ h => h) (Or.inl ⟨by rfl, ?_⟩) hHeld10 ?_
                rotate_left 1
                · intro w hSw; (try dsimp only at hSw); go_simp; try with_reducible rfl
                try simp only [Act.put, List.setIfInBounds_toArray, List.set_cons_zero, List.set_cons_succ]
                refine wpAnyH_done (by kernel_rfl) ?_ _
                have hlast := hHeld10
                clear hHeld10
                have HZ8 := Lib.hid (HGET.out _ hlast)
                clear hlast HON HGET HS0 s0 s1 s2 hw30 hw31 hc30 hc31 hc32 hr30 hr31 hr32
                have HX9 := Lib.hid (HX8.out.on HZ8.out)
                have HN9 := Lib.hid (HN8.out.on HZ8.out)
                have HV9 := Lib.hid (HV8.out.on HZ8.out)
                have HB9 := Lib.hid (bthen HB8.out HZ8.out (Nat.le_refl _))
                have s1 := HN9.out.cs 0 _ rfl
                have x0 := HX9.out.cs 0 _ rfl
                have xl := HX9.out.lt
                have xf := HX9.out.s 0
                have HNB := Lib.hid (show ¬ ((U b ∧ b < w1.heap.size) ∨ wa.heap.size ≤ b) from fun h => h.elim (fun h => HNU.out h.1) (fun h => by have := HSA.out; omega))
                have HPUT := Lib.hid (LnBox.putN rfl HX9.out HV9.out HNB.out)
                have HBFF := Lib.hid (HB9.out.setCell (p := ⟨b, 0, none⟩) HX9.out.ge (.slice A3 q2.length c3))
                have hkl : k < l.length := hlt
                have hl100 := h100
                clear hq64
                go_wp2_with fail
                go_roundg (gO - 1)
                case rel => exact ⟨k + 1, q2, by have := HK.out; omega, by go_num, HST.out, HPUT.out, HBFF.out⟩
                case measure => have := HK.out; omega
        · by_cases hd4 : d % 6 = 4
          · have hm : (d : Int) % 6 = 4 := by omega
            have HQ4 := Lib.hid (HF4.out hd4)
            have hq := HQ64.out
            have h2 := H264.out
            by_cases hn : q2.length = q.length
            · have hs1 : ((q.length : Int) - (q2.length : Int)) = 0 := by omega
              have HNN := Lib.hid (show q2.length = q.length from hn)
              clear hn
              go_wp2_with fail
              refine (HL2.out _ _ HV5.out.in).mono ?_
              rintro e wb ⟨rfl, hb⟩
              have HZ := Lib.hid hb
              clear hb
              have HX6 := Lib.hid (HX5.out.on HZ.out)
              have HN6 := Lib.hid (HN5.out.on HZ.out)
              have HC6 := Lib.hid (HC5.out.on HZ.out)
              have HV6 := Lib.hid (HV5.out.on HZ.out)
              have HB6 := Lib.hid (bthen HB5.out HZ.out (Nat.le_refl _))
              clear s0 s1 s2 d0
              have s1 := HN6.out.cs 0 _ rfl
              go_wp2_with fail
              refine (HAL.out _ _ HV6.out.in).mono ?_
              rintro e w7 ⟨A7, c7, rfl, ha, hb⟩
              have HX7 := Lib.hid (HX6.out.on hb)
              have HN7 := Lib.hid (HN6.out.on hb)
              have HC7 := Lib.hid (HC6.out.on hb)
              have HV7 := Lib.hid (HV6.out.on hb)
              have HB7 := Lib.hid (bthen HB6.out hb (Nat.le_refl _))
              have HA7 := Lib.hid ha
              clear hb ha s1
              have hq64 := H264.out
              go_wp2_with fail
              go_loopg [4, 85] q2.length (fun g u i wr => GiSt w7 q2 q2.length g u i wr)
              case atStart => exact ⟨0, by omega, rfl, rfl, Below.refl _ _⟩
              case round =>
                obtain ⟨kk, hk2, rfl, rfl, hbw⟩ := hrel
                have HK2 := Lib.hid hk2
                have HBW := Lib.hid hbw
                clear hk2 hbw
                by_cases hlt2 : kk < q2.length
                · obtain ⟨b', off', Ay, cy, hA7e, hbl, hat, hgo⟩ := (HA7.out.on HBW.out).get hlt2
                  subst hA7e
                  have HLT := Lib.hid (fun h0 => lastAt_lt HRS.out hlt2 h0)
                  have HLN := Lib.hid (lastAt_next q2 kk)
                  generalize q2.getD kk it0 = yy at *
                  obtain ⟨ym, lent, again⟩ := yy
                  unfold itL at hat
                  dsimp only at hat
                  have HLN' := Lib.hid (show lastAt q2 (kk + 1) = ym.id from HLN.out)
                  have hl1 := HLT.out
                  dsimp only at hl1
                  have c0 := hat 0 _ rfl
                  have c1 := hat 1 _ rfl
                  have c2 := hat 2 _ rfl
                  have c3 := hat 3 _ rfl
                  have c4 := hat 4 _ rfl
                  have c5 := hat 5 _ rfl
                  have c6 := hat 6 _ rfl
                  have c7 := hat 7 _ rfl
                  have c8 := hat 8 _ rfl
                  rw [Nat.add_zero] at c0
                  have HT9 := Lib.hid (one_alloc wr (.cells #[.int .u64 (ym.id : Int), .string (ofL ym.shop), .string (ofL ym.key), .slice Ay ym.head.length cy, .string (ofL ym.body), .int .u64 (ym.due : Int), .int .u8 (ym.hops : Int), .bool lent, .bool again] 41))
                  have HB9 := Lib.hid (bthen HBW.out HT9.out (Nat.le_refl _))
                  clear hat hgo HLN HLT
                  generalize lastAt q2 kk = la at *
                  by_cases hz : kk = 0
                  · have q1 : decide ((kk : Int) > 0) = false := decide_eq_false (by omega)
                    have q2' : decide (0 < kk) = false := decide_eq_false (by omega)
                    have hz' := Lib.hid hz
                    clear hl1 hz
                    go_wp2_with fail
                    go_roundg (gk - 1)
                    case rel => exact ⟨kk + 1, by have := HK2.out; omega, by rw [HLN'.out], by go_num, HB9.out⟩
                    case measure => have := HK2.out; omega
                  · have q1 : decide ((kk : Int) > 0) = true := decide_eq_true (by omega)
                    have q2' : decide (0 < kk) = true := decide_eq_true (by omega)
                    have q5 : 0 < kk := by omega
                    have q3 : decide ((ym.id : Int) ≤ (la : Int)) = false := decide_eq_false (by have := hl1 q5; omega)
                    have q4 : decide (ym.id ≤ la) = false := decide_eq_false (by have := hl1 q5; omega)
                    have q6 : la < ym.id := hl1 q5
                    clear hl1
                    go_wp2_with fail
                    go_roundg (gk - 1)
                    case rel => exact ⟨kk + 1, by have := HK2.out; omega, by rw [HLN'.out], by go_num, HB9.out⟩
                    case measure => have := HK2.out; omega
                · have HX8 := Lib.hid (HX7.out.on HBW.out)
                  have HN8 := Lib.hid (HN7.out.on HBW.out)
                  have HC8 := Lib.hid (HC7.out.on HBW.out)
                  have HV8 := Lib.hid (HV7.out.on HBW.out)
                  have HB8 := Lib.hid (bthen HB7.out HBW.out (Nat.le_refl _))
                  have s0 := HX8.out.cs 0 _ rfl
                  have s1 := HN8.out.cs 0 _ rfl
                  have s2 := HC8.out.cs 1 _ rfl
                  have hc30 : decide ((q2.length : Int) < (q.length : Int)) = false := decide_eq_false (by have := HNN.out; omega)
                  have hrle := Ln.ready_le q2
                  have hr30 : decide ((Ln.ready q2 : Int) > (q2.length : Int)) = false := decide_eq_false (by omega)
                  have hc31 : decide (q2.length < q.length) = false := decide_eq_false (by have := HNN.out; omega)
                  have hc32 : ¬ (q2.length < q.length) := by have := HNN.out; omega
                  have hr31 : decide (q2.length < Ln.ready q2) = false := decide_eq_false (by omega)
                  have hr32 : ¬ (q2.length < Ln.ready q2) := by omega
                  have hw30 : IntKind.i64.wrap ((q.length : Int) - 0) = (q.length : Int) := by rw [IntKind.wrap_i64]; have := HQ64.out; have := HNN.out; omega
                  have hw31 : IntKind.i64.wrap (q.length : Int) = (q.length : Int) := by rw [IntKind.wrap_i64]; have := HQ64.out; clear hw30; omega
                  generalize Ln.ready q2 = rq2 at *
                  go_upto_region 30 with fail
                  have HS0 := Lib.hid (show wr.cell? ⟨b, 0, none⟩ = some (.slice A q.length c) ∧ wr.cell? ⟨b8, 0, none⟩ = some (.slice A3 q2.length c3) ∧ wr.cell? ⟨b6, 1, none⟩ = some (.int .u64 (x.id : Int)) ∧ Below wr.heap.size wr wr from ⟨s0, s1, s2, Below.refl _ _⟩)
                  have HON := Lib.hid (show ∀ a a' : World, (a.cell? ⟨b, 0, none⟩ = some (.slice A q.length c) ∧ a.cell? ⟨b8, 0, none⟩ = some (.slice A3 q2.length c3) ∧ a.cell? ⟨b6, 1, none⟩ = some (.int .u64 (x.id : Int)) ∧ Below wr.heap.size wr a) → Below a.heap.size a a' → (a'.cell? ⟨b, 0, none⟩ = some (.slice A q.length c) ∧ a'.cell? ⟨b8, 0, none⟩ = some (.slice A3 q2.length c3) ∧ a'.cell? ⟨b6, 1, none⟩ = some (.int .u64 (x.id : Int)) ∧ Below wr.heap.size wr a') from fun a a' ⟨h0, h1, h2, h3⟩ hb => ⟨cell_on hb h0, cell_on hb h1, cell_on hb h2, bthen h3 hb (Nat.le_refl _)⟩)
                  have HGET := Lib.hid (show ∀ a : World, (a.cell? ⟨b, 0, none⟩ = some (.slice A q.length c) ∧ a.cell? ⟨b8, 0, none⟩ = some (.slice A3 q2.length c3) ∧ a.cell? ⟨b6, 1, none⟩ = some (.int .u64 (x.id : Int)) ∧ Below wr.heap.size wr a) → Below wr.heap.size wr a from fun a ⟨h0, h1, h2, h3⟩ => h3)
                  refine wp_region_held_drew (S := fun a => a.cell? ⟨b, 0, none⟩ = some (.slice A q.length c) ∧ a.cell? ⟨b8, 0, none⟩ = some (.slice A3 q2.length c3) ∧ a.cell? ⟨b6, 1, none⟩ = some (.int .u64 (x.id : Int)) ∧ Below wr.heap.size wr a) (by kernel_rfl) (by (try dsimp only); exact HON.out _ _ HS0.out (Below.refl _ _).drew) (fun hHeld => ?_)
                  refine wpAnyH_take (i := 0) (oi := { dst := some 103, op := Go.Op.load 27 (Go.Operand.tmp 8), type := 27, pos := "law.go:160", after := #[], guard := none }) (v := ?_) rfl (by kernel_rfl) (by kernel_rfl) (by kernel_rfl) (fun _ _ _ h => h) (Or.inl ⟨by rfl, ?_⟩) hHeld ?_
                  rotate_left 1
                  · intro w hSw; (try dsimp only at hSw); go_simp; try with_reducible rfl
                  try simp only [Act.put, List.setIfInBounds_toArray, List.set_cons_zero, List.set_cons_succ]
                  refine wpAnyH_take (i := 2) (oi := { dst := some 105, op := Go.Op.move (Go.Operand.tmp 7), type := 3, pos := "law.go:160", after := #[], guard := none }) (v := ?_) rfl (by kernel_rfl) (by kernel_rfl) (by kernel_rfl) (fun _ _ _ h => h) (Or.inl ⟨by rfl, ?_⟩) hHeld ?_
                  rotate_left 1
                  · intro w hSw; (try dsimp only at hSw); go_simp; try with_reducible rfl
                  try simp only [Act.put, List.setIfInBounds_toArray, List.set_cons_zero, List.set_cons_succ]
                  refine wpAnyH_take (i := 3) (oi := { dst := some 106, op := Go.Op.move (Go.Operand.tmp 11), type := 3, pos := "law.go:160", after := #[], guard := none }) (v := ?_) rfl (by kernel_rfl) (by kernel_rfl) (by kernel_rfl) (fun _ _ _ h => h) (Or.inl ⟨by rfl, ?_⟩) hHeld ?_
                  rotate_left 1
                  · intro w hSw; (try dsimp only at hSw); go_simp; try with_reducible rfl
                  try simp only [Act.put, List.setIfInBounds_toArray, List.set_cons_zero, List.set_cons_succ]
                  refine wpAnyH_take (i := 4) (oi := { dst := some 107, op := Go.Op.binOp Go.BinOp.sub 3 (Go.Operand.tmp 105) (Go.Operand.tmp 106) 3, type := 3, pos := "law.go:160", after := #[{ on := 2, ground := Go.Ground.data }, { on := 3, ground := Go.Ground.data }], guard := none }) (v := ?_) rfl (by kernel_rfl) (by kernel_rfl) (by kernel_rfl) (fun _ _ _ h => h) (Or.inl ⟨by rfl, ?_⟩) hHeld ?_
                  rotate_left 1
                  · intro w hSw; (try dsimp only at hSw); go_simp; try with_reducible rfl
                  try simp only [Act.put, List.setIfInBounds_toArray, List.set_cons_zero, List.set_cons_succ]
                  refine wpAnyH_ready (rs := [1]) (by kernel_rfl) (by simp) ?_
                  refine AllReadyH.cons (o := { dst := some 104, op := Go.Op.call { callee := Go.Callee.value (Go.Operand.func 9), args := #[Go.Operand.tmp 103], argTypes := #[27] }, type := 3, pos := "law.go:160", after := #[{ on := 0, ground := Go.Ground.data }], guard := none }) rfl (fun K hK => ?_) AllReadyH.nil
                  go_simp
                  go_at_call 9
                  refine (HL2.out _ _ ((HV8.out.on (HGET.out _ hHeld)).in)).mono ?_
                  rintro e wx1 ⟨rfl, hb2⟩
                  refine hK.out _ _ (HON.out _ _ hHeld hb2) (fun hHeld1 => ?_)
                  clear hK K hHeld hb2
                  try simp only [Act.put, List.setIfInBounds_toArray, List.set_cons_zero, List.set_cons_succ]
                  refine wpAnyH_take (i := 5) (oi := { dst := some 108, op := Go.Op.binOp Go.BinOp.lss 3 (Go.Operand.tmp 104) (Go.Operand.tmp 107) 3, type := 4, pos := "law.go:160", after := #[{ on := 1, ground := Go.Ground.data }, { on := 4, ground := Go.Ground.data }], guard := none }) (v := ?_) rfl (by kernel_rfl) (by kernel_rfl) (by kernel_rfl) (fun _ _ _ h => h) (Or.inl ⟨by rfl, ?_⟩) hHeld1 ?_
                  rotate_left 1
                  · intro w hSw; (try dsimp only at hSw); go_simp; try with_reducible rfl
                  try simp only [Act.put, List.setIfInBounds_toArray, List.set_cons_zero, List.set_cons_succ]
                  refine wpAnyH_take (i := 6) (oi := { dst := some 109, op := Go.Op.move (Go.Operand.tmp 108), type := 4, pos := "law.go:160", after := #[{ on := 5, ground := Go.Ground.data }, { on := 1, ground := Go.Ground.chain }], guard := none }) (v := ?_) rfl (by kernel_rfl) (by kernel_rfl) (by kernel_rfl) (fun _ _ _ h => h) (Or.inl ⟨by rfl, ?_⟩) hHeld1 ?_
                  rotate_left 1
                  · intro w hSw; (try dsimp only at hSw); go_simp; try with_reducible rfl
                  try simp only [Act.put, List.setIfInBounds_toArray, List.set_cons_zero, List.set_cons_succ]
                  refine wpAnyH_take (i := 7) (oi := { dst := some 110, op := Go.Op.load 27 (Go.Operand.tmp 8), type := 27, pos := "law.go:160", after := #[{ on := 6, ground := Go.Ground.guard }], guard := some (6, false) }) (v := ?_) rfl (by kernel_rfl) (by kernel_rfl) (by kernel_rfl) (fun _ _ _ h => h) (Or.inl ⟨by rfl, ?_⟩) hHeld1 ?_
                  rotate_left 1
                  · intro w hSw; (try dsimp only at hSw); go_simp; try with_reducible rfl
                  try simp only [Act.put, List.setIfInBounds_toArray, List.set_cons_zero, List.set_cons_succ]
                  refine wpAnyH_take (i := 9) (oi := { dst := some 112, op := Go.Op.load 27 (Go.Operand.tmp 8), type := 27, pos := "law.go:160", after := #[{ on := 6, ground := Go.Ground.guard }], guard := some (6, false) }) (v := ?_) rfl (by kernel_rfl) (by kernel_rfl) (by kernel_rfl) (fun _ _ _ h => h) (Or.inl ⟨by rfl, ?_⟩) hHeld1 ?_
                  rotate_left 1
                  · intro w hSw; (try dsimp only at hSw); go_simp; try with_reducible rfl
                  try simp only [Act.put, List.setIfInBounds_toArray, List.set_cons_zero, List.set_cons_succ]
                  refine wpAnyH_ready (rs := [8]) (by kernel_rfl) (by simp) ?_
                  refine AllReadyH.cons (o := { dst := some 111, op := Go.Op.call { callee := Go.Callee.value (Go.Operand.func 12), args := #[Go.Operand.tmp 110], argTypes := #[27] }, type := 3, pos := "law.go:160", after := #[{ on := 7, ground := Go.Ground.data }, { on := 6, ground := Go.Ground.chain }, { on := 6, ground := Go.Ground.guard }], guard := some (6, false) }) rfl (fun K hK => ?_) AllReadyH.nil
                  go_simp
                  go_at_call 12
                  refine (HR2.out _ _ ((HV8.out.on (HGET.out _ hHeld1)).in)).mono ?_
                  rintro e wx8 ⟨rfl, hb2⟩
                  refine hK.out _ _ (HON.out _ _ hHeld1 hb2) (fun hHeld8 => ?_)
                  clear hK K hHeld1 hb2
                  try simp only [Act.put, List.setIfInBounds_toArray, List.set_cons_zero, List.set_cons_succ]
                  refine wpAnyH_ready (rs := [10]) (by kernel_rfl) (by simp) ?_
                  refine AllReadyH.cons (o := { dst := some 113, op := Go.Op.call { callee := Go.Callee.value (Go.Operand.func 9), args := #[Go.Operand.tmp 112], argTypes := #[27] }, type := 3, pos := "law.go:160", after := #[{ on := 9, ground := Go.Ground.data }, { on := 8, ground := Go.Ground.chain }, { on := 6, ground := Go.Ground.guard }], guard := some (6, false) }) rfl (fun K hK => ?_) AllReadyH.nil
                  go_simp
                  go_at_call 9
                  refine (HL2.out _ _ ((HV8.out.on (HGET.out _ hHeld8)).in)).mono ?_
                  rintro e wx10 ⟨rfl, hb2⟩
                  refine hK.out _ _ (HON.out _ _ hHeld8 hb2) (fun hHeld10 => ?_)
                  clear hK K hHeld8 hb2
                  try simp only [Act.put, List.setIfInBounds_toArray, List.set_cons_zero, List.set_cons_succ]
                  refine wpAnyH_take (i := 11) (oi := { dst := some 114, op := Go.Op.binOp Go.BinOp.gtr 3 (Go.Operand.tmp 111) (Go.Operand.tmp 113) 3, type := 4, pos := "law.go:160", after := #[{ on := 8, ground := Go.Ground.data }, { on := 10, ground := Go.Ground.data }, { on := 6, ground := Go.Ground.guard }], guard := some (6, false) }) (v := ?_) rfl (by kernel_rfl) (by kernel_rfl) (by kernel_rfl) (fun _ _ _ h => h) (Or.inl ⟨by rfl, ?_⟩) hHeld10 ?_
                  rotate_left 1
                  · intro w hSw; (try dsimp only at hSw); go_simp; try with_reducible rfl
                  try simp only [Act.put, List.setIfInBounds_toArray, List.set_cons_zero, List.set_cons_succ]
                  refine wpAnyH_take (i := 12) (oi := { dst := some 115, op := Go.Op.pick (Go.Operand.tmp 109) (Go.Operand.const (Go.Value.bool true)) (Go.Operand.tmp 114), type := 4, pos := "law.go:160", after := #[{ on := 6, ground := Go.Ground.data }, { on := 11, ground := Go.Ground.data }], guard := none }) (v := ?_) rfl (by kernel_rfl) (by kernel_rfl) (by kernel_rfl) (fun _ _ _ h => h) (Or.inl ⟨by rfl, ?_⟩) hHeld10 ?_
                  rotate_left 1
                  · intro w hSw; (try dsimp only at hSw); go_simp; try with_reducible rfl
                  try simp only [Act.put, List.setIfInBounds_toArray, List.set_cons_zero, List.set_cons_succ]
                  refine wpAnyH_done (by kernel_rfl) ?_ _
                  have hlast := hHeld10
                  clear hHeld10
                  have HZ8 := Lib.hid (HGET.out _ hlast)
                  clear hlast HON HGET HS0 s0 s1 s2 hw30 hw31 hc30 hc31 hc32 hr30 hr31 hr32
                  have HX9 := Lib.hid (HX8.out.on HZ8.out)
                  have HN9 := Lib.hid (HN8.out.on HZ8.out)
                  have HV9 := Lib.hid (HV8.out.on HZ8.out)
                  have HB9 := Lib.hid (bthen HB8.out HZ8.out (Nat.le_refl _))
                  have s1 := HN9.out.cs 0 _ rfl
                  have x0 := HX9.out.cs 0 _ rfl
                  have xl := HX9.out.lt
                  have xf := HX9.out.s 0
                  have HNB := Lib.hid (show ¬ ((U b ∧ b < w1.heap.size) ∨ wa.heap.size ≤ b) from fun h => h.elim (fun h => HNU.out h.1) (fun h => by have := HSA.out; omega))
                  have HPUT := Lib.hid (LnBox.putN rfl HX9.out HV9.out HNB.out)
                  have HBFF := Lib.hid (HB9.out.setCell (p := ⟨b, 0, none⟩) HX9.out.ge (.slice A3 q2.length c3))
                  have hkl : k < l.length := hlt
                  have hl100 := h100
                  clear hq64
                  go_wp2_with fail
                  go_roundg (gO - 1)
                  case rel => exact ⟨k + 1, q2, by have := HK.out; omega, by go_num, HST.out, HPUT.out, HBFF.out⟩
                  case measure => have := HK.out; omega
            · have hs1 : ((q.length : Int) - (q2.length : Int)) = 1 := by have := HQ4.out; omega
              have HNO := Lib.hid (HQ4.out.2.2 hn)
              have HNN := Lib.hid (show q2.length + 1 = q.length by have := HQ4.out; omega)
              clear hn
              go_wp2_with fail
              refine (HL2.out _ _ HV5.out.in).mono ?_
              rintro e wb ⟨rfl, hb⟩
              have HZ0 := Lib.hid hb
              have s2b := cell_on hb s2
              clear hb
              go_wp2_with fail
              refine (HHS.out _ _ _ (HA5.out.on HZ0.out).in HNO.out).mono ?_
              rintro e wd ⟨rfl, hb⟩
              have HZ := Lib.hid (bthen HZ0.out hb (Nat.le_refl _))
              clear hb s2b
              have HX6 := Lib.hid (HX5.out.on HZ.out)
              have HN6 := Lib.hid (HN5.out.on HZ.out)
              have HC6 := Lib.hid (HC5.out.on HZ.out)
              have HV6 := Lib.hid (HV5.out.on HZ.out)
              have HB6 := Lib.hid (bthen HB5.out HZ.out (Nat.le_refl _))
              clear s0 s1 s2 d0
              have s1 := HN6.out.cs 0 _ rfl
              go_wp2_with fail
              refine (HAL.out _ _ HV6.out.in).mono ?_
              rintro e w7 ⟨A7, c7, rfl, ha, hb⟩
              have HX7 := Lib.hid (HX6.out.on hb)
              have HN7 := Lib.hid (HN6.out.on hb)
              have HC7 := Lib.hid (HC6.out.on hb)
              have HV7 := Lib.hid (HV6.out.on hb)
              have HB7 := Lib.hid (bthen HB6.out hb (Nat.le_refl _))
              have HA7 := Lib.hid ha
              clear hb ha s1
              have hq64 := H264.out
              go_wp2_with fail
              go_loopg [4, 85] q2.length (fun g u i wr => GiSt w7 q2 q2.length g u i wr)
              case atStart => exact ⟨0, by omega, rfl, rfl, Below.refl _ _⟩
              case round =>
                obtain ⟨kk, hk2, rfl, rfl, hbw⟩ := hrel
                have HK2 := Lib.hid hk2
                have HBW := Lib.hid hbw
                clear hk2 hbw
                by_cases hlt2 : kk < q2.length
                · obtain ⟨b', off', Ay, cy, hA7e, hbl, hat, hgo⟩ := (HA7.out.on HBW.out).get hlt2
                  subst hA7e
                  have HLT := Lib.hid (fun h0 => lastAt_lt HRS.out hlt2 h0)
                  have HLN := Lib.hid (lastAt_next q2 kk)
                  generalize q2.getD kk it0 = yy at *
                  obtain ⟨ym, lent, again⟩ := yy
                  unfold itL at hat
                  dsimp only at hat
                  have HLN' := Lib.hid (show lastAt q2 (kk + 1) = ym.id from HLN.out)
                  have hl1 := HLT.out
                  dsimp only at hl1
                  have c0 := hat 0 _ rfl
                  have c1 := hat 1 _ rfl
                  have c2 := hat 2 _ rfl
                  have c3 := hat 3 _ rfl
                  have c4 := hat 4 _ rfl
                  have c5 := hat 5 _ rfl
                  have c6 := hat 6 _ rfl
                  have c7 := hat 7 _ rfl
                  have c8 := hat 8 _ rfl
                  rw [Nat.add_zero] at c0
                  have HT9 := Lib.hid (one_alloc wr (.cells #[.int .u64 (ym.id : Int), .string (ofL ym.shop), .string (ofL ym.key), .slice Ay ym.head.length cy, .string (ofL ym.body), .int .u64 (ym.due : Int), .int .u8 (ym.hops : Int), .bool lent, .bool again] 41))
                  have HB9 := Lib.hid (bthen HBW.out HT9.out (Nat.le_refl _))
                  clear hat hgo HLN HLT
                  generalize lastAt q2 kk = la at *
                  by_cases hz : kk = 0
                  · have q1 : decide ((kk : Int) > 0) = false := decide_eq_false (by omega)
                    have q2' : decide (0 < kk) = false := decide_eq_false (by omega)
                    have hz' := Lib.hid hz
                    clear hl1 hz
                    go_wp2_with fail
                    go_roundg (gk - 1)
                    case rel => exact ⟨kk + 1, by have := HK2.out; omega, by rw [HLN'.out], by go_num, HB9.out⟩
                    case measure => have := HK2.out; omega
                  · have q1 : decide ((kk : Int) > 0) = true := decide_eq_true (by omega)
                    have q2' : decide (0 < kk) = true := decide_eq_true (by omega)
                    have q5 : 0 < kk := by omega
                    have q3 : decide ((ym.id : Int) ≤ (la : Int)) = false := decide_eq_false (by have := hl1 q5; omega)
                    have q4 : decide (ym.id ≤ la) = false := decide_eq_false (by have := hl1 q5; omega)
                    have q6 : la < ym.id := hl1 q5
                    clear hl1
                    go_wp2_with fail
                    go_roundg (gk - 1)
                    case rel => exact ⟨kk + 1, by have := HK2.out; omega, by rw [HLN'.out], by go_num, HB9.out⟩
                    case measure => have := HK2.out; omega
                · have HX8 := Lib.hid (HX7.out.on HBW.out)
                  have HN8 := Lib.hid (HN7.out.on HBW.out)
                  have HC8 := Lib.hid (HC7.out.on HBW.out)
                  have HV8 := Lib.hid (HV7.out.on HBW.out)
                  have HB8 := Lib.hid (bthen HB7.out HBW.out (Nat.le_refl _))
                  have s0 := HX8.out.cs 0 _ rfl
                  have s1 := HN8.out.cs 0 _ rfl
                  have s2 := HC8.out.cs 1 _ rfl
                  have hc30 : decide ((q2.length : Int) < (q2.length : Int)) = false := decide_eq_false (by have := HNN.out; omega)
                  have hrle := Ln.ready_le q2
                  have hr30 : decide ((Ln.ready q2 : Int) > (q2.length : Int)) = false := decide_eq_false (by omega)
                  have hc31 : decide (q2.length < q2.length) = false := decide_eq_false (by have := HNN.out; omega)
                  have hc32 : ¬ (q2.length < q2.length) := by have := HNN.out; omega
                  have hr31 : decide (q2.length < Ln.ready q2) = false := decide_eq_false (by omega)
                  have hr32 : ¬ (q2.length < Ln.ready q2) := by omega
                  have hw30 : IntKind.i64.wrap ((q.length : Int) - 1) = (q2.length : Int) := by rw [IntKind.wrap_i64]; have := HQ64.out; have := HNN.out; omega
                  have hw31 : IntKind.i64.wrap (q.length : Int) = (q.length : Int) := by rw [IntKind.wrap_i64]; have := HQ64.out; clear hw30; omega
                  generalize Ln.ready q2 = rq2 at *
                  go_upto_region 30 with fail
                  have HS0 := Lib.hid (show wr.cell? ⟨b, 0, none⟩ = some (.slice A q.length c) ∧ wr.cell? ⟨b8, 0, none⟩ = some (.slice A3 q2.length c3) ∧ wr.cell? ⟨b6, 1, none⟩ = some (.int .u64 (x.id : Int)) ∧ Below wr.heap.size wr wr from ⟨s0, s1, s2, Below.refl _ _⟩)
                  have HON := Lib.hid (show ∀ a a' : World, (a.cell? ⟨b, 0, none⟩ = some (.slice A q.length c) ∧ a.cell? ⟨b8, 0, none⟩ = some (.slice A3 q2.length c3) ∧ a.cell? ⟨b6, 1, none⟩ = some (.int .u64 (x.id : Int)) ∧ Below wr.heap.size wr a) → Below a.heap.size a a' → (a'.cell? ⟨b, 0, none⟩ = some (.slice A q.length c) ∧ a'.cell? ⟨b8, 0, none⟩ = some (.slice A3 q2.length c3) ∧ a'.cell? ⟨b6, 1, none⟩ = some (.int .u64 (x.id : Int)) ∧ Below wr.heap.size wr a') from fun a a' ⟨h0, h1, h2, h3⟩ hb => ⟨cell_on hb h0, cell_on hb h1, cell_on hb h2, bthen h3 hb (Nat.le_refl _)⟩)
                  have HGET := Lib.hid (show ∀ a : World, (a.cell? ⟨b, 0, none⟩ = some (.slice A q.length c) ∧ a.cell? ⟨b8, 0, none⟩ = some (.slice A3 q2.length c3) ∧ a.cell? ⟨b6, 1, none⟩ = some (.int .u64 (x.id : Int)) ∧ Below wr.heap.size wr a) → Below wr.heap.size wr a from fun a ⟨h0, h1, h2, h3⟩ => h3)
                  refine wp_region_held_drew (S := fun a => a.cell? ⟨b, 0, none⟩ = some (.slice A q.length c) ∧ a.cell? ⟨b8, 0, none⟩ = some (.slice A3 q2.length c3) ∧ a.cell? ⟨b6, 1, none⟩ = some (.int .u64 (x.id : Int)) ∧ Below wr.heap.size wr a) (by kernel_rfl) (by (try dsimp only); exact HON.out _ _ HS0.out (Below.refl _ _).drew) (fun hHeld => ?_)
                  refine wpAnyH_take (i := 0) (oi := { dst := some 103, op := Go.Op.load 27 (Go.Operand.tmp 8), type := 27, pos := "law.go:160", after := #[], guard := none }) (v := ?_) rfl (by kernel_rfl) (by kernel_rfl) (by kernel_rfl) (fun _ _ _ h => h) (Or.inl ⟨by rfl, ?_⟩) hHeld ?_
                  rotate_left 1
                  · intro w hSw; (try dsimp only at hSw); go_simp; try with_reducible rfl
                  try simp only [Act.put, List.setIfInBounds_toArray, List.set_cons_zero, List.set_cons_succ]
                  refine wpAnyH_take (i := 2) (oi := { dst := some 105, op := Go.Op.move (Go.Operand.tmp 7), type := 3, pos := "law.go:160", after := #[], guard := none }) (v := ?_) rfl (by kernel_rfl) (by kernel_rfl) (by kernel_rfl) (fun _ _ _ h => h) (Or.inl ⟨by rfl, ?_⟩) hHeld ?_
                  rotate_left 1
                  · intro w hSw; (try dsimp only at hSw); go_simp; try with_reducible rfl
                  try simp only [Act.put, List.setIfInBounds_toArray, List.set_cons_zero, List.set_cons_succ]
                  refine wpAnyH_take (i := 3) (oi := { dst := some 106, op := Go.Op.move (Go.Operand.tmp 11), type := 3, pos := "law.go:160", after := #[], guard := none }) (v := ?_) rfl (by kernel_rfl) (by kernel_rfl) (by kernel_rfl) (fun _ _ _ h => h) (Or.inl ⟨by rfl, ?_⟩) hHeld ?_
                  rotate_left 1
                  · intro w hSw; (try dsimp only at hSw); go_simp; try with_reducible rfl
                  try simp only [Act.put, List.setIfInBounds_toArray, List.set_cons_zero, List.set_cons_succ]
                  refine wpAnyH_take (i := 4) (oi := { dst := some 107, op := Go.Op.binOp Go.BinOp.sub 3 (Go.Operand.tmp 105) (Go.Operand.tmp 106) 3, type := 3, pos := "law.go:160", after := #[{ on := 2, ground := Go.Ground.data }, { on := 3, ground := Go.Ground.data }], guard := none }) (v := ?_) rfl (by kernel_rfl) (by kernel_rfl) (by kernel_rfl) (fun _ _ _ h => h) (Or.inl ⟨by rfl, ?_⟩) hHeld ?_
                  rotate_left 1
                  · intro w hSw; (try dsimp only at hSw); go_simp; try with_reducible rfl
                  try simp only [Act.put, List.setIfInBounds_toArray, List.set_cons_zero, List.set_cons_succ]
                  refine wpAnyH_ready (rs := [1]) (by kernel_rfl) (by simp) ?_
                  refine AllReadyH.cons (o := { dst := some 104, op := Go.Op.call { callee := Go.Callee.value (Go.Operand.func 9), args := #[Go.Operand.tmp 103], argTypes := #[27] }, type := 3, pos := "law.go:160", after := #[{ on := 0, ground := Go.Ground.data }], guard := none }) rfl (fun K hK => ?_) AllReadyH.nil
                  go_simp
                  go_at_call 9
                  refine (HL2.out _ _ ((HV8.out.on (HGET.out _ hHeld)).in)).mono ?_
                  rintro e wx1 ⟨rfl, hb2⟩
                  refine hK.out _ _ (HON.out _ _ hHeld hb2) (fun hHeld1 => ?_)
                  clear hK K hHeld hb2
                  try simp only [Act.put, List.setIfInBounds_toArray, List.set_cons_zero, List.set_cons_succ]
                  refine wpAnyH_take (i := 5) (oi := { dst := some 108, op := Go.Op.binOp Go.BinOp.lss 3 (Go.Operand.tmp 104) (Go.Operand.tmp 107) 3, type := 4, pos := "law.go:160", after := #[{ on := 1, ground := Go.Ground.data }, { on := 4, ground := Go.Ground.data }], guard := none }) (v := ?_) rfl (by kernel_rfl) (by kernel_rfl) (by kernel_rfl) (fun _ _ _ h => h) (Or.inl ⟨by rfl, ?_⟩) hHeld1 ?_
                  rotate_left 1
                  · intro w hSw; (try dsimp only at hSw); go_simp; try with_reducible rfl
                  try simp only [Act.put, List.setIfInBounds_toArray, List.set_cons_zero, List.set_cons_succ]
                  refine wpAnyH_take (i := 6) (oi := { dst := some 109, op := Go.Op.move (Go.Operand.tmp 108), type := 4, pos := "law.go:160", after := #[{ on := 5, ground := Go.Ground.data }, { on := 1, ground := Go.Ground.chain }], guard := none }) (v := ?_) rfl (by kernel_rfl) (by kernel_rfl) (by kernel_rfl) (fun _ _ _ h => h) (Or.inl ⟨by rfl, ?_⟩) hHeld1 ?_
                  rotate_left 1
                  · intro w hSw; (try dsimp only at hSw); go_simp; try with_reducible rfl
                  try simp only [Act.put, List.setIfInBounds_toArray, List.set_cons_zero, List.set_cons_succ]
                  refine wpAnyH_take (i := 7) (oi := { dst := some 110, op := Go.Op.load 27 (Go.Operand.tmp 8), type := 27, pos := "law.go:160", after := #[{ on := 6, ground := Go.Ground.guard }], guard := some (6, false) }) (v := ?_) rfl (by kernel_rfl) (by kernel_rfl) (by kernel_rfl) (fun _ _ _ h => h) (Or.inl ⟨by rfl, ?_⟩) hHeld1 ?_
                  rotate_left 1
                  · intro w hSw; (try dsimp only at hSw); go_simp; try with_reducible rfl
                  try simp only [Act.put, List.setIfInBounds_toArray, List.set_cons_zero, List.set_cons_succ]
                  refine wpAnyH_take (i := 9) (oi := { dst := some 112, op := Go.Op.load 27 (Go.Operand.tmp 8), type := 27, pos := "law.go:160", after := #[{ on := 6, ground := Go.Ground.guard }], guard := some (6, false) }) (v := ?_) rfl (by kernel_rfl) (by kernel_rfl) (by kernel_rfl) (fun _ _ _ h => h) (Or.inl ⟨by rfl, ?_⟩) hHeld1 ?_
                  rotate_left 1
                  · intro w hSw; (try dsimp only at hSw); go_simp; try with_reducible rfl
                  try simp only [Act.put, List.setIfInBounds_toArray, List.set_cons_zero, List.set_cons_succ]
                  refine wpAnyH_ready (rs := [8]) (by kernel_rfl) (by simp) ?_
                  refine AllReadyH.cons (o := { dst := some 111, op := Go.Op.call { callee := Go.Callee.value (Go.Operand.func 12), args := #[Go.Operand.tmp 110], argTypes := #[27] }, type := 3, pos := "law.go:160", after := #[{ on := 7, ground := Go.Ground.data }, { on := 6, ground := Go.Ground.chain }, { on := 6, ground := Go.Ground.guard }], guard := some (6, false) }) rfl (fun K hK => ?_) AllReadyH.nil
                  go_simp
                  go_at_call 12
                  refine (HR2.out _ _ ((HV8.out.on (HGET.out _ hHeld1)).in)).mono ?_
                  rintro e wx8 ⟨rfl, hb2⟩
                  refine hK.out _ _ (HON.out _ _ hHeld1 hb2) (fun hHeld8 => ?_)
                  clear hK K hHeld1 hb2
                  try simp only [Act.put, List.setIfInBounds_toArray, List.set_cons_zero, List.set_cons_succ]
                  refine wpAnyH_ready (rs := [10]) (by kernel_rfl) (by simp) ?_
                  refine AllReadyH.cons (o := { dst := some 113, op := Go.Op.call { callee := Go.Callee.value (Go.Operand.func 9), args := #[Go.Operand.tmp 112], argTypes := #[27] }, type := 3, pos := "law.go:160", after := #[{ on := 9, ground := Go.Ground.data }, { on := 8, ground := Go.Ground.chain }, { on := 6, ground := Go.Ground.guard }], guard := some (6, false) }) rfl (fun K hK => ?_) AllReadyH.nil
                  go_simp
                  go_at_call 9
                  refine (HL2.out _ _ ((HV8.out.on (HGET.out _ hHeld8)).in)).mono ?_
                  rintro e wx10 ⟨rfl, hb2⟩
                  refine hK.out _ _ (HON.out _ _ hHeld8 hb2) (fun hHeld10 => ?_)
                  clear hK K hHeld8 hb2
                  try simp only [Act.put, List.setIfInBounds_toArray, List.set_cons_zero, List.set_cons_succ]
                  refine wpAnyH_take (i := 11) (oi := { dst := some 114, op := Go.Op.binOp Go.BinOp.gtr 3 (Go.Operand.tmp 111) (Go.Operand.tmp 113) 3, type := 4, pos := "law.go:160", after := #[{ on := 8, ground := Go.Ground.data }, { on := 10, ground := Go.Ground.data }, { on := 6, ground := Go.Ground.guard }], guard := some (6, false) }) (v := ?_) rfl (by kernel_rfl) (by kernel_rfl) (by kernel_rfl) (fun _ _ _ h => h) (Or.inl ⟨by rfl, ?_⟩) hHeld10 ?_
                  rotate_left 1
                  · intro w hSw; (try dsimp only at hSw); go_simp; try with_reducible rfl
                  try simp only [Act.put, List.setIfInBounds_toArray, List.set_cons_zero, List.set_cons_succ]
                  refine wpAnyH_take (i := 12) (oi := { dst := some 115, op := Go.Op.pick (Go.Operand.tmp 109) (Go.Operand.const (Go.Value.bool true)) (Go.Operand.tmp 114), type := 4, pos := "law.go:160", after := #[{ on := 6, ground := Go.Ground.data }, { on := 11, ground := Go.Ground.data }], guard := none }) (v := ?_) rfl (by kernel_rfl) (by kernel_rfl) (by kernel_rfl) (fun _ _ _ h => h) (Or.inl ⟨by rfl, ?_⟩) hHeld10 ?_
                  rotate_left 1
                  · intro w hSw; (try dsimp only at hSw); go_simp; try with_reducible rfl
                  try simp only [Act.put, List.setIfInBounds_toArray, List.set_cons_zero, List.set_cons_succ]
                  refine wpAnyH_done (by kernel_rfl) ?_ _
                  have hlast := hHeld10
                  clear hHeld10
                  have HZ8 := Lib.hid (HGET.out _ hlast)
                  clear hlast HON HGET HS0 s0 s1 s2 hw30 hw31 hc30 hc31 hc32 hr30 hr31 hr32
                  have HX9 := Lib.hid (HX8.out.on HZ8.out)
                  have HN9 := Lib.hid (HN8.out.on HZ8.out)
                  have HV9 := Lib.hid (HV8.out.on HZ8.out)
                  have HB9 := Lib.hid (bthen HB8.out HZ8.out (Nat.le_refl _))
                  have s1 := HN9.out.cs 0 _ rfl
                  have x0 := HX9.out.cs 0 _ rfl
                  have xl := HX9.out.lt
                  have xf := HX9.out.s 0
                  have HNB := Lib.hid (show ¬ ((U b ∧ b < w1.heap.size) ∨ wa.heap.size ≤ b) from fun h => h.elim (fun h => HNU.out h.1) (fun h => by have := HSA.out; omega))
                  have HPUT := Lib.hid (LnBox.putN rfl HX9.out HV9.out HNB.out)
                  have HBFF := Lib.hid (HB9.out.setCell (p := ⟨b, 0, none⟩) HX9.out.ge (.slice A3 q2.length c3))
                  have hkl : k < l.length := hlt
                  have hl100 := h100
                  clear hq64
                  go_wp2_with fail
                  go_roundg (gO - 1)
                  case rel => exact ⟨k + 1, q2, by have := HK.out; omega, by go_num, HST.out, HPUT.out, HBFF.out⟩
                  case measure => have := HK.out; omega
          · obtain ⟨m, hmm⟩ : ∃ m, d % 6 = m := ⟨_, rfl⟩
            have hm : (d : Int) % 6 = (m : Int) := by omega
            have hb2 : ((m : Int) == 2) = false := by simp; omega
            have hb4 : ((m : Int) == 4) = false := by simp; omega
            have HNN := Lib.hid (HFO.out hd4)
            have HZ := Lib.hid (Below.refl w5.heap.size w5)
            clear hmm hd2 hd4
            go_upto_region 22 with fail
            have HX6 := Lib.hid (HX5.out.on HZ.out)
            have HN6 := Lib.hid (HN5.out.on HZ.out)
            have HC6 := Lib.hid (HC5.out.on HZ.out)
            have HV6 := Lib.hid (HV5.out.on HZ.out)
            have HB6 := Lib.hid (bthen HB5.out HZ.out (Nat.le_refl _))
            clear s0 s1 s2 d0
            have s1 := HN6.out.cs 0 _ rfl
            go_wp2_with fail
            refine (HAL.out _ _ HV6.out.in).mono ?_
            rintro e w7 ⟨A7, c7, rfl, ha, hb⟩
            have HX7 := Lib.hid (HX6.out.on hb)
            have HN7 := Lib.hid (HN6.out.on hb)
            have HC7 := Lib.hid (HC6.out.on hb)
            have HV7 := Lib.hid (HV6.out.on hb)
            have HB7 := Lib.hid (bthen HB6.out hb (Nat.le_refl _))
            have HA7 := Lib.hid ha
            clear hb ha s1
            have hq64 := H264.out
            go_wp2_with fail
            go_loopg [4, 85] q2.length (fun g u i wr => GiSt w7 q2 q2.length g u i wr)
            case atStart => exact ⟨0, by omega, rfl, rfl, Below.refl _ _⟩
            case round =>
              obtain ⟨kk, hk2, rfl, rfl, hbw⟩ := hrel
              have HK2 := Lib.hid hk2
              have HBW := Lib.hid hbw
              clear hk2 hbw
              by_cases hlt2 : kk < q2.length
              · obtain ⟨b', off', Ay, cy, hA7e, hbl, hat, hgo⟩ := (HA7.out.on HBW.out).get hlt2
                subst hA7e
                have HLT := Lib.hid (fun h0 => lastAt_lt HRS.out hlt2 h0)
                have HLN := Lib.hid (lastAt_next q2 kk)
                generalize q2.getD kk it0 = yy at *
                obtain ⟨ym, lent, again⟩ := yy
                unfold itL at hat
                dsimp only at hat
                have HLN' := Lib.hid (show lastAt q2 (kk + 1) = ym.id from HLN.out)
                have hl1 := HLT.out
                dsimp only at hl1
                have c0 := hat 0 _ rfl
                have c1 := hat 1 _ rfl
                have c2 := hat 2 _ rfl
                have c3 := hat 3 _ rfl
                have c4 := hat 4 _ rfl
                have c5 := hat 5 _ rfl
                have c6 := hat 6 _ rfl
                have c7 := hat 7 _ rfl
                have c8 := hat 8 _ rfl
                rw [Nat.add_zero] at c0
                have HT9 := Lib.hid (one_alloc wr (.cells #[.int .u64 (ym.id : Int), .string (ofL ym.shop), .string (ofL ym.key), .slice Ay ym.head.length cy, .string (ofL ym.body), .int .u64 (ym.due : Int), .int .u8 (ym.hops : Int), .bool lent, .bool again] 41))
                have HB9 := Lib.hid (bthen HBW.out HT9.out (Nat.le_refl _))
                clear hat hgo HLN HLT
                generalize lastAt q2 kk = la at *
                by_cases hz : kk = 0
                · have q1 : decide ((kk : Int) > 0) = false := decide_eq_false (by omega)
                  have q2' : decide (0 < kk) = false := decide_eq_false (by omega)
                  have hz' := Lib.hid hz
                  clear hl1 hz
                  go_wp2_with fail
                  go_roundg (gk - 1)
                  case rel => exact ⟨kk + 1, by have := HK2.out; omega, by rw [HLN'.out], by go_num, HB9.out⟩
                  case measure => have := HK2.out; omega
                · have q1 : decide ((kk : Int) > 0) = true := decide_eq_true (by omega)
                  have q2' : decide (0 < kk) = true := decide_eq_true (by omega)
                  have q5 : 0 < kk := by omega
                  have q3 : decide ((ym.id : Int) ≤ (la : Int)) = false := decide_eq_false (by have := hl1 q5; omega)
                  have q4 : decide (ym.id ≤ la) = false := decide_eq_false (by have := hl1 q5; omega)
                  have q6 : la < ym.id := hl1 q5
                  clear hl1
                  go_wp2_with fail
                  go_roundg (gk - 1)
                  case rel => exact ⟨kk + 1, by have := HK2.out; omega, by rw [HLN'.out], by go_num, HB9.out⟩
                  case measure => have := HK2.out; omega
              · have HX8 := Lib.hid (HX7.out.on HBW.out)
                have HN8 := Lib.hid (HN7.out.on HBW.out)
                have HC8 := Lib.hid (HC7.out.on HBW.out)
                have HV8 := Lib.hid (HV7.out.on HBW.out)
                have HB8 := Lib.hid (bthen HB7.out HBW.out (Nat.le_refl _))
                have s0 := HX8.out.cs 0 _ rfl
                have s1 := HN8.out.cs 0 _ rfl
                have s2 := HC8.out.cs 1 _ rfl
                have hc30 : decide ((q2.length : Int) < (q.length : Int)) = false := decide_eq_false (by have := HNN.out; omega)
                have hrle := Ln.ready_le q2
                have hr30 : decide ((Ln.ready q2 : Int) > (q2.length : Int)) = false := decide_eq_false (by omega)
                have hc31 : decide (q2.length < q.length) = false := decide_eq_false (by have := HNN.out; omega)
                have hc32 : ¬ (q2.length < q.length) := by have := HNN.out; omega
                have hr31 : decide (q2.length < Ln.ready q2) = false := decide_eq_false (by omega)
                have hr32 : ¬ (q2.length < Ln.ready q2) := by omega
                have hw30 : IntKind.i64.wrap ((q.length : Int) - 0) = (q.length : Int) := by rw [IntKind.wrap_i64]; have := HQ64.out; have := HNN.out; omega
                have hw31 : IntKind.i64.wrap (q.length : Int) = (q.length : Int) := by rw [IntKind.wrap_i64]; have := HQ64.out; clear hw30; omega
                generalize Ln.ready q2 = rq2 at *
                go_upto_region 30 with fail
                have HS0 := Lib.hid (show wr.cell? ⟨b, 0, none⟩ = some (.slice A q.length c) ∧ wr.cell? ⟨b8, 0, none⟩ = some (.slice A3 q2.length c3) ∧ wr.cell? ⟨b6, 1, none⟩ = some (.int .u64 (x.id : Int)) ∧ Below wr.heap.size wr wr from ⟨s0, s1, s2, Below.refl _ _⟩)
                have HON := Lib.hid (show ∀ a a' : World, (a.cell? ⟨b, 0, none⟩ = some (.slice A q.length c) ∧ a.cell? ⟨b8, 0, none⟩ = some (.slice A3 q2.length c3) ∧ a.cell? ⟨b6, 1, none⟩ = some (.int .u64 (x.id : Int)) ∧ Below wr.heap.size wr a) → Below a.heap.size a a' → (a'.cell? ⟨b, 0, none⟩ = some (.slice A q.length c) ∧ a'.cell? ⟨b8, 0, none⟩ = some (.slice A3 q2.length c3) ∧ a'.cell? ⟨b6, 1, none⟩ = some (.int .u64 (x.id : Int)) ∧ Below wr.heap.size wr a') from fun a a' ⟨h0, h1, h2, h3⟩ hb => ⟨cell_on hb h0, cell_on hb h1, cell_on hb h2, bthen h3 hb (Nat.le_refl _)⟩)
                have HGET := Lib.hid (show ∀ a : World, (a.cell? ⟨b, 0, none⟩ = some (.slice A q.length c) ∧ a.cell? ⟨b8, 0, none⟩ = some (.slice A3 q2.length c3) ∧ a.cell? ⟨b6, 1, none⟩ = some (.int .u64 (x.id : Int)) ∧ Below wr.heap.size wr a) → Below wr.heap.size wr a from fun a ⟨h0, h1, h2, h3⟩ => h3)
                refine wp_region_held_drew (S := fun a => a.cell? ⟨b, 0, none⟩ = some (.slice A q.length c) ∧ a.cell? ⟨b8, 0, none⟩ = some (.slice A3 q2.length c3) ∧ a.cell? ⟨b6, 1, none⟩ = some (.int .u64 (x.id : Int)) ∧ Below wr.heap.size wr a) (by kernel_rfl) (by (try dsimp only); exact HON.out _ _ HS0.out (Below.refl _ _).drew) (fun hHeld => ?_)
                refine wpAnyH_take (i := 0) (oi := { dst := some 103, op := Go.Op.load 27 (Go.Operand.tmp 8), type := 27, pos := "law.go:160", after := #[], guard := none }) (v := ?_) rfl (by kernel_rfl) (by kernel_rfl) (by kernel_rfl) (fun _ _ _ h => h) (Or.inl ⟨by rfl, ?_⟩) hHeld ?_
                rotate_left 1
                · intro w hSw; (try dsimp only at hSw); go_simp; try with_reducible rfl
                try simp only [Act.put, List.setIfInBounds_toArray, List.set_cons_zero, List.set_cons_succ]
                refine wpAnyH_take (i := 2) (oi := { dst := some 105, op := Go.Op.move (Go.Operand.tmp 7), type := 3, pos := "law.go:160", after := #[], guard := none }) (v := ?_) rfl (by kernel_rfl) (by kernel_rfl) (by kernel_rfl) (fun _ _ _ h => h) (Or.inl ⟨by rfl, ?_⟩) hHeld ?_
                rotate_left 1
                · intro w hSw; (try dsimp only at hSw); go_simp; try with_reducible rfl
                try simp only [Act.put, List.setIfInBounds_toArray, List.set_cons_zero, List.set_cons_succ]
                refine wpAnyH_take (i := 3) (oi := { dst := some 106, op := Go.Op.move (Go.Operand.tmp 11), type := 3, pos := "law.go:160", after := #[], guard := none }) (v := ?_) rfl (by kernel_rfl) (by kernel_rfl) (by kernel_rfl) (fun _ _ _ h => h) (Or.inl ⟨by rfl, ?_⟩) hHeld ?_
                rotate_left 1
                · intro w hSw; (try dsimp only at hSw); go_simp; try with_reducible rfl
                try simp only [Act.put, List.setIfInBounds_toArray, List.set_cons_zero, List.set_cons_succ]
                refine wpAnyH_take (i := 4) (oi := { dst := some 107, op := Go.Op.binOp Go.BinOp.sub 3 (Go.Operand.tmp 105) (Go.Operand.tmp 106) 3, type := 3, pos := "law.go:160", after := #[{ on := 2, ground := Go.Ground.data }, { on := 3, ground := Go.Ground.data }], guard := none }) (v := ?_) rfl (by kernel_rfl) (by kernel_rfl) (by kernel_rfl) (fun _ _ _ h => h) (Or.inl ⟨by rfl, ?_⟩) hHeld ?_
                rotate_left 1
                · intro w hSw; (try dsimp only at hSw); go_simp; try with_reducible rfl
                try simp only [Act.put, List.setIfInBounds_toArray, List.set_cons_zero, List.set_cons_succ]
                refine wpAnyH_ready (rs := [1]) (by kernel_rfl) (by simp) ?_
                refine AllReadyH.cons (o := { dst := some 104, op := Go.Op.call { callee := Go.Callee.value (Go.Operand.func 9), args := #[Go.Operand.tmp 103], argTypes := #[27] }, type := 3, pos := "law.go:160", after := #[{ on := 0, ground := Go.Ground.data }], guard := none }) rfl (fun K hK => ?_) AllReadyH.nil
                go_simp
                go_at_call 9
                refine (HL2.out _ _ ((HV8.out.on (HGET.out _ hHeld)).in)).mono ?_
                rintro e wx1 ⟨rfl, hb2⟩
                refine hK.out _ _ (HON.out _ _ hHeld hb2) (fun hHeld1 => ?_)
                clear hK K hHeld hb2
                try simp only [Act.put, List.setIfInBounds_toArray, List.set_cons_zero, List.set_cons_succ]
                refine wpAnyH_take (i := 5) (oi := { dst := some 108, op := Go.Op.binOp Go.BinOp.lss 3 (Go.Operand.tmp 104) (Go.Operand.tmp 107) 3, type := 4, pos := "law.go:160", after := #[{ on := 1, ground := Go.Ground.data }, { on := 4, ground := Go.Ground.data }], guard := none }) (v := ?_) rfl (by kernel_rfl) (by kernel_rfl) (by kernel_rfl) (fun _ _ _ h => h) (Or.inl ⟨by rfl, ?_⟩) hHeld1 ?_
                rotate_left 1
                · intro w hSw; (try dsimp only at hSw); go_simp; try with_reducible rfl
                try simp only [Act.put, List.setIfInBounds_toArray, List.set_cons_zero, List.set_cons_succ]
                refine wpAnyH_take (i := 6) (oi := { dst := some 109, op := Go.Op.move (Go.Operand.tmp 108), type := 4, pos := "law.go:160", after := #[{ on := 5, ground := Go.Ground.data }, { on := 1, ground := Go.Ground.chain }], guard := none }) (v := ?_) rfl (by kernel_rfl) (by kernel_rfl) (by kernel_rfl) (fun _ _ _ h => h) (Or.inl ⟨by rfl, ?_⟩) hHeld1 ?_
                rotate_left 1
                · intro w hSw; (try dsimp only at hSw); go_simp; try with_reducible rfl
                try simp only [Act.put, List.setIfInBounds_toArray, List.set_cons_zero, List.set_cons_succ]
                refine wpAnyH_take (i := 7) (oi := { dst := some 110, op := Go.Op.load 27 (Go.Operand.tmp 8), type := 27, pos := "law.go:160", after := #[{ on := 6, ground := Go.Ground.guard }], guard := some (6, false) }) (v := ?_) rfl (by kernel_rfl) (by kernel_rfl) (by kernel_rfl) (fun _ _ _ h => h) (Or.inl ⟨by rfl, ?_⟩) hHeld1 ?_
                rotate_left 1
                · intro w hSw; (try dsimp only at hSw); go_simp; try with_reducible rfl
                try simp only [Act.put, List.setIfInBounds_toArray, List.set_cons_zero, List.set_cons_succ]
                refine wpAnyH_take (i := 9) (oi := { dst := some 112, op := Go.Op.load 27 (Go.Operand.tmp 8), type := 27, pos := "law.go:160", after := #[{ on := 6, ground := Go.Ground.guard }], guard := some (6, false) }) (v := ?_) rfl (by kernel_rfl) (by kernel_rfl) (by kernel_rfl) (fun _ _ _ h => h) (Or.inl ⟨by rfl, ?_⟩) hHeld1 ?_
                rotate_left 1
                · intro w hSw; (try dsimp only at hSw); go_simp; try with_reducible rfl
                try simp only [Act.put, List.setIfInBounds_toArray, List.set_cons_zero, List.set_cons_succ]
                refine wpAnyH_ready (rs := [8]) (by kernel_rfl) (by simp) ?_
                refine AllReadyH.cons (o := { dst := some 111, op := Go.Op.call { callee := Go.Callee.value (Go.Operand.func 12), args := #[Go.Operand.tmp 110], argTypes := #[27] }, type := 3, pos := "law.go:160", after := #[{ on := 7, ground := Go.Ground.data }, { on := 6, ground := Go.Ground.chain }, { on := 6, ground := Go.Ground.guard }], guard := some (6, false) }) rfl (fun K hK => ?_) AllReadyH.nil
                go_simp
                go_at_call 12
                refine (HR2.out _ _ ((HV8.out.on (HGET.out _ hHeld1)).in)).mono ?_
                rintro e wx8 ⟨rfl, hb2⟩
                refine hK.out _ _ (HON.out _ _ hHeld1 hb2) (fun hHeld8 => ?_)
                clear hK K hHeld1 hb2
                try simp only [Act.put, List.setIfInBounds_toArray, List.set_cons_zero, List.set_cons_succ]
                refine wpAnyH_ready (rs := [10]) (by kernel_rfl) (by simp) ?_
                refine AllReadyH.cons (o := { dst := some 113, op := Go.Op.call { callee := Go.Callee.value (Go.Operand.func 9), args := #[Go.Operand.tmp 112], argTypes := #[27] }, type := 3, pos := "law.go:160", after := #[{ on := 9, ground := Go.Ground.data }, { on := 8, ground := Go.Ground.chain }, { on := 6, ground := Go.Ground.guard }], guard := some (6, false) }) rfl (fun K hK => ?_) AllReadyH.nil
                go_simp
                go_at_call 9
                refine (HL2.out _ _ ((HV8.out.on (HGET.out _ hHeld8)).in)).mono ?_
                rintro e wx10 ⟨rfl, hb2⟩
                refine hK.out _ _ (HON.out _ _ hHeld8 hb2) (fun hHeld10 => ?_)
                clear hK K hHeld8 hb2
                try simp only [Act.put, List.setIfInBounds_toArray, List.set_cons_zero, List.set_cons_succ]
                refine wpAnyH_take (i := 11) (oi := { dst := some 114, op := Go.Op.binOp Go.BinOp.gtr 3 (Go.Operand.tmp 111) (Go.Operand.tmp 113) 3, type := 4, pos := "law.go:160", after := #[{ on := 8, ground := Go.Ground.data }, { on := 10, ground := Go.Ground.data }, { on := 6, ground := Go.Ground.guard }], guard := some (6, false) }) (v := ?_) rfl (by kernel_rfl) (by kernel_rfl) (by kernel_rfl) (fun _ _ _ h => h) (Or.inl ⟨by rfl, ?_⟩) hHeld10 ?_
                rotate_left 1
                · intro w hSw; (try dsimp only at hSw); go_simp; try with_reducible rfl
                try simp only [Act.put, List.setIfInBounds_toArray, List.set_cons_zero, List.set_cons_succ]
                refine wpAnyH_take (i := 12) (oi := { dst := some 115, op := Go.Op.pick (Go.Operand.tmp 109) (Go.Operand.const (Go.Value.bool true)) (Go.Operand.tmp 114), type := 4, pos := "law.go:160", after := #[{ on := 6, ground := Go.Ground.data }, { on := 11, ground := Go.Ground.data }], guard := none }) (v := ?_) rfl (by kernel_rfl) (by kernel_rfl) (by kernel_rfl) (fun _ _ _ h => h) (Or.inl ⟨by rfl, ?_⟩) hHeld10 ?_
                rotate_left 1
                · intro w hSw; (try dsimp only at hSw); go_simp; try with_reducible rfl
                try simp only [Act.put, List.setIfInBounds_toArray, List.set_cons_zero, List.set_cons_succ]
                refine wpAnyH_done (by kernel_rfl) ?_ _
                have hlast := hHeld10
                clear hHeld10
                have HZ8 := Lib.hid (HGET.out _ hlast)
                clear hlast HON HGET HS0 s0 s1 s2 hw30 hw31 hc30 hc31 hc32 hr30 hr31 hr32
                have HX9 := Lib.hid (HX8.out.on HZ8.out)
                have HN9 := Lib.hid (HN8.out.on HZ8.out)
                have HV9 := Lib.hid (HV8.out.on HZ8.out)
                have HB9 := Lib.hid (bthen HB8.out HZ8.out (Nat.le_refl _))
                have s1 := HN9.out.cs 0 _ rfl
                have x0 := HX9.out.cs 0 _ rfl
                have xl := HX9.out.lt
                have xf := HX9.out.s 0
                have HNB := Lib.hid (show ¬ ((U b ∧ b < w1.heap.size) ∨ wa.heap.size ≤ b) from fun h => h.elim (fun h => HNU.out h.1) (fun h => by have := HSA.out; omega))
                have HPUT := Lib.hid (LnBox.putN rfl HX9.out HV9.out HNB.out)
                have HBFF := Lib.hid (HB9.out.setCell (p := ⟨b, 0, none⟩) HX9.out.ge (.slice A3 q2.length c3))
                have hkl : k < l.length := hlt
                have hl100 := h100
                clear hq64
                go_wp2_with fail
                go_roundg (gO - 1)
                case rel => exact ⟨k + 1, q2, by have := HK.out; omega, by go_num, HST.out, HPUT.out, HBFF.out⟩
                case measure => have := HK.out; omega
      · go_wp2_with fail
        go_ret
        exact ⟨rfl, HQB.out⟩
  · go_wp2_with fail
    go_ret
    exact ⟨rfl, B2.out⟩
end Go.Proofs.YtabnkbdbbneihaaGreatDoor
end
