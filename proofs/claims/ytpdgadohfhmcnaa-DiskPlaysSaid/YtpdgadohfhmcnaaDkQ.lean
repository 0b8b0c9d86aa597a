/-
  THE LAW DiskPlays: behind any acts the disk is what the document says.
-/
import Derived.Test.YtpdgadohfhmcnaaDkZ
import Derived.Test.YtpdgadohfhmcnaaDkN
namespace Go.Proofs.Ytpdgadohfhmcnaa
open Go.ChangeShapes Go.WideShapes Go.ChangeAt Go.RowKit

theorem armB_none {L : List UInt8} {q : List Dk.Wr} {on : Bool} : ArmB { last := L, wait := q, on := on, arm := none } := fun s c e => by cases e
theorem sync_fine {st : Dk.St} (h : ArmB st) : ArmB (Dk.sync st) ∧ (Dk.sync st).wait.length ≤ st.wait.length := by
  unfold Dk.sync
  split
  · exact ⟨h, Nat.le_refl _⟩
  · split
    · unfold Dk.down
      split
      · exact ⟨armB_none, by simp⟩
      · exact ⟨h, Nat.le_refl _⟩
    · rename_i k c he
      refine ⟨fun s t e => ?_, by simp⟩
      have h1 := h _ _ he
      simp only [Option.some.injEq, Prod.mk.injEq] at e
      omega
    · exact ⟨fun s t e => h s t e, by simp⟩
theorem down_fine {st : Dk.St} (c : Nat) (h : ArmB st) : ArmB (Dk.down st c) ∧ (Dk.down st c).wait.length ≤ st.wait.length := by
  unfold Dk.down
  split
  · exact ⟨armB_none, by simp⟩
  · exact ⟨h, Nat.le_refl _⟩
theorem armed_fine {st : Dk.St} {s c : Int} (h : ArmB st) (hs : s ≤ 9223372036854775807) (hc : c ≤ 9223372036854775807) : ArmB (Dk.armed st s c) ∧ (Dk.armed st s c).wait.length ≤ st.wait.length := by
  unfold Dk.armed
  split
  · refine ⟨fun a b e => ?_, Nat.le_refl _⟩
    simp only [Option.some.injEq, Prod.mk.injEq] at e
    omega
  · exact ⟨h, Nat.le_refl _⟩
theorem up_fine {st : Dk.St} (h : ArmB st) : ArmB (Dk.up st) ∧ (Dk.up st).wait.length ≤ st.wait.length := by
  unfold Dk.up
  split
  · exact ⟨h, Nat.le_refl _⟩
  · exact ⟨armB_none, Nat.le_refl _⟩
theorem write_fine {n : Nat} {st : Dk.St} (a : Int) (d : List UInt8) (h : ArmB st) : ArmB (Dk.write n st a d) ∧ (Dk.write n st a d).wait.length ≤ st.wait.length + 1 := by
  unfold Dk.write
  split
  · exact ⟨fun s c e => h s c e, by simp⟩
  · exact ⟨h, by omega⟩
/-- an act, whatever it is -/
theorem do15_any (n D kw : Nat) (w0 : World) (st : Dk.St) (ex : List (Nat × Obj)) (A0 : Option Addr) (k0 c0 : Nat) (on0 am0 : Bool) (sy0 ct0 : Int) (L0 : ByteArray) (xa xc : Int) (xd : List UInt8) (w : World) (h : Pl2 n w0 D st st (sixV L0 A0 k0 c0 on0 am0 sy0 ct0) ex w) (hn : n ≤ 4096) (hl : st.wait.length ≤ 100000) (hb : ArmB st) (hd : xd.length ≤ 80) (hkw : kw < 256)
    (ha : xa ≤ 9223372036854775807) (hc : xc ≤ 9223372036854775807) (hc2 : -9223372036854775808 ≤ xc) :
    Calls Try.prog 13 #[dkP D, sixV L0 A0 k0 c0 on0 am0 sy0 ct0, .agg #[.int .u8 (kw : Int), .int .i64 xa, .int .i64 xc, .string (ofL xd)]] w fun e w' => ∃ st', DoPost n w0 D st' ex e w' ∧ ArmB st' ∧ st'.wait.length ≤ st.wait.length + 1 := by
  have hm : kw % 8 < 3 ∨ kw % 8 = 3 ∨ kw % 8 = 4 ∨ kw % 8 = 5 ∨ kw % 8 = 6 ∨ kw % 8 = 7 := by omega
  rcases hm with h0 | h0 | h0 | h0 | h0 | h0
  · exact (do15_write n D kw w0 st ex A0 k0 c0 on0 am0 sy0 ct0 L0 xa xc xd w h hn hl (kw % 8) hd hkw (by omega) h0).mono fun e w' hp => ⟨_, hp, write_fine xa xd hb⟩
  · exact (do15_sync n D kw w0 st ex A0 k0 c0 on0 am0 sy0 ct0 L0 xa xc xd w h hn hl hb hkw (by omega)).mono fun e w' hp => ⟨_, hp, (sync_fine hb).1, by have := (sync_fine hb).2; omega⟩
  · exact (do15_read n D kw w0 st ex A0 k0 c0 on0 am0 sy0 ct0 L0 xa xc xd w h hn hl hkw (by omega)).mono fun e w' hp => ⟨_, hp, hb, by omega⟩
  · exact (do15_arm n D kw w0 st ex A0 k0 c0 on0 am0 sy0 ct0 L0 xa xc xd w h hn hl hkw (by omega)).mono fun e w' hp => ⟨_, hp, (armed_fine hb ha hc).1, by have := (armed_fine hb ha hc).2; omega⟩
  · exact (do15_down n D kw w0 st ex A0 k0 c0 on0 am0 sy0 ct0 L0 xa xc xd w h hn hl hc hc2 hkw (by omega)).mono fun e w' hp => ⟨_, hp, (down_fine _ hb).1, by have := (down_fine xc.toNat hb).2; omega⟩
  · exact (do15_up n D kw w0 st ex A0 k0 c0 on0 am0 sy0 ct0 L0 xa xc xd w h hn hl hkw (by omega)).mono fun e w' hp => ⟨_, hp, (up_fine hb).1, by have := (up_fine hb).2; omega⟩
set_option maxHeartbeats 2000000 in
theorem r15New_any (n : Nat) (hn : n ≤ 4096) (w : World) :
    Calls Try.prog 12 #[.int .i64 (n : Int)] w fun e w' => e = .returned (sixV (ofL (Dk.new n).last) none 0 0 true false 0 0) ∧ Below w.heap.size w w' := by
  have HH := Lib.hid (fun W => r15Held_any n 4096 W)
  rw [Nat.min_eq_left hn, show (((4096 : Nat) : Int)) = 4096 from rfl] at HH
  have HN := Lib.hid (fun W => r15Noughts_any (64 * n) W (by omega))
  rw [show List.replicate (64 * n) 0 = (Dk.new n).last from rfl] at HN
  have hw : IntKind.i64.wrap (64 * (n : Int)) = ((64 * n : Nat) : Int) := by rw [IntKind.wrap_i64]; omega
  generalize ofL (Dk.new n).last = L at *
  generalize 64 * n = N at *
  have hal := heap_alloc_new w (.cells #[.string ⟨#[]⟩, .slice none 0 0, .bool false, .bool false, .int .i64 0, .int .i64 0] 31)
  have HAL := Lib.hid hal
  have HB0 := Lib.hid ((Below.refl w.heap.size w).alloc (Nat.le_refl _) (.cells #[.string ⟨#[]⟩, .slice none 0 0, .bool false, .bool false, .int .i64 0, .int .i64 0] 31))
  clear hal hn
  go_enter Try.func12, Try.ntmps12
  go_wp2_with fail
  refine (HH.out _).mono ?_
  rintro x w1 ⟨rfl, rfl⟩
  go_wp2_with fail
  refine (HN.out _).mono ?_
  rintro x w2 ⟨rfl, b2⟩
  have hr := (b2.block w.heap.size (by simp)).trans HAL.out
  obtain ⟨r0, r1, r2, r3, r4, r5⟩ := six_cells hr
  have f0 := Lib.frozen_of_heap hr 0
  have f1 := Lib.frozen_of_heap hr 1
  have f2 := Lib.frozen_of_heap hr 2
  have f3 := Lib.frozen_of_heap hr 3
  have f4 := Lib.frozen_of_heap hr 4
  have f5 := Lib.frozen_of_heap hr 5
  have hlt := (Array.getElem?_eq_some_iff.1 hr).1
  have HB := Lib.hid (Below.trans HB0.out (b2.mono HB0.out.size))
  clear b2 hr
  go_wp2_with fail
  refine bodyPost_ret (v := sixV L none 0 0 true false 0 0) (by simp [results, Try.results12, go_sem, r0, r1, r2, r3, r4, r5]) rfl ⟨rfl, ?_⟩
  exact (((((HB.out.setCell (Nat.le_refl _) _).setCell (Nat.le_refl _) _).setCell (Nat.le_refl _) _).setCell (Nat.le_refl _) _).setCell (Nat.le_refl _) _).setCell (Nat.le_refl _) _
def PlSt (w : World) (D bq n m g : Nat) (v34 : Value) (wr : World) : Prop :=
  ∃ (k : Nat) (st : Dk.St) (L : ByteArray) (A : Option Addr) (q c : Nat) (on am : Bool) (sy ct : Int), k + g = m ∧ v34 = .int .i64 (k : Int) ∧ Pl2 n w D st st (sixV L A q c on am sy ct) [(bq, .cells (six (.string L) A q c on am sy ct) 31 (0, 0))] wr ∧ ArmB st ∧ st.wait.length ≤ k
set_option maxRecDepth 100000 in
set_option maxHeartbeats 16000000 in
theorem diskPlays_walk (blocks : Int) (A : Option Addr) (ca : Nat) (l : List Ac) (w : World) (hl : l.length ≤ 9223372036854775807) (hA : ARow w A l) :
    Calls Try.prog 3 #[.int .i64 blocks, .slice A l.length ca] w (LawPost w) := by
  have HAW := Lib.hid (fun W => awake15_any W)
  have HLI := Lib.hid (fun W h => light15_any A ca l W hl h)
  have HA := Lib.hid hA
  clear hA
  have HH := Lib.hid (fun W => r15Held_int blocks 4096 W)
  rw [show (min (max blocks 0) ((4096 : Nat) : Int)).toNat = nbl blocks from rfl, show (((4096 : Nat) : Int)) = 4096 from rfl] at HH
  have H8 := Lib.hid (fun W => r15Held_int blocks 8 W)
  rw [show (((8 : Nat) : Int)) = 8 from rfl] at H8
  obtain ⟨n, hn⟩ : ∃ n, n = (min (max blocks 0) 8).toNat := ⟨_, rfl⟩
  rw [← hn] at H8
  have hn8 : n ≤ 8 := by omega
  have hnb : nbl (n : Int) = n := by unfold nbl; omega
  have HN := Lib.hid (fun W => dkNew_any (n : Int) W)
  rw [hnb] at HN
  have HRN := Lib.hid (fun W => r15New_any n (by omega) W)
  have HN8 := Lib.hid hn8
  have HNB := Lib.hid (fun W => one_new blocks w W)
  generalize nbl blocks = nb at *
  clear hn hnb hn8
  go_enter Try.func3, Try.ntmps3
  go_wp2_with fail
  refine (HAW.out _).mono ?_
  rintro x w1 ⟨rfl, b1⟩
  have B1 := Lib.hid b1
  clear b1
  go_wp2_with fail
  refine (HLI.out _ (HA.out.on B1.out)).mono ?_
  rintro x w2 ⟨h2, b2⟩
  have B2 := Lib.hid (Below.trans B1.out (b2.mono B1.out.size))
  clear b2
  rcases h2 with ⟨rfl, hf⟩ | rfl
  · have HF := Lib.hid hf
    clear hf
    go_wp2_with fail
    refine (HNB.out _ B2.out).mono ?_
    rintro x w3 ⟨Dx, rfl, h3⟩
    have H3 := Lib.hid h3
    have HBL := Lib.hid (h3.look (fun F hd => dkBlocks_any _ hd))
    clear h3
    go_wp2_with fail
    refine HBL.out.mono ?_
    rintro x w4 ⟨rfl, h4⟩
    have B4 := Lib.hid h4.below
    clear h4
    go_wp2_with fail
    refine (HH.out _).mono ?_
    rintro x w5 ⟨rfl, rfl⟩
    go_wp2_with fail
    refine (H8.out _).mono ?_
    rintro x w5 ⟨rfl, rfl⟩
    go_wp2_with fail
    refine (HN.out _).mono ?_
    rintro x w6 ⟨rfl, b6, hd6⟩
    have B6 := Lib.hid (Below.trans B4.out (b6.mono B4.out.size))
    have HD6 := Lib.hid hd6
    have HS4 := Lib.hid B4.out.size
    clear b6 hd6
    go_wp2_with fail
    refine (HRN.out _).mono ?_
    rintro x w7 ⟨rfl, b7⟩
    have H7 := Lib.hid (show Pl2 n w (w4.heap.size + 1) (Dk.new n) (Dk.new n) (sixV (ofL (Dk.new n).last) none 0 0 true false 0 0) [] w7 from
      ⟨_, HD6.out.below b7, fun k hk => by have := HS4.out; omega, fun x hx => (by cases hx), Dz.bare rfl, Below.trans B6.out (b7.mono B6.out.size)⟩)
    have HP := Lib.hid (H7.out.push (.cells (six (.string (ofL (Dk.new n).last)) none 0 0 true false 0 0) 31))
    have HBQ := Lib.hid H7.out.below.size
    have HAB := Lib.hid (show ArmB (Dk.new n) from fun s c e => by cases e)
    have HL0 := Lib.hid (show (Dk.new n).wait.length = 0 from rfl)
    clear b7
    generalize w4.heap.size + 1 = D at *
    generalize Dk.new n = st0 at *
    generalize ofL st0.last = LL at *
    go_wp2_with fail
    generalize w7.alloc (.cells #[.string LL, .slice none 0 0, .bool true, .bool false, .int .i64 0, .int .i64 0] 31) = w8 at *
    generalize w7.heap.size = bq at *
    go_loopg [34] l.length (fun g v34 wr => PlSt w D bq n l.length g v34 wr)
    case atStart => exact ⟨0, st0, LL, none, 0, 0, true, false, 0, 0, by omega, rfl, HP.out, HAB.out, by rw [HL0.out]; omega⟩
    case round =>
      obtain ⟨k, st, L, A1, q, c, on, am, sy, ct, hk, rfl, h9, hab, hwl⟩ := hrel
      have HK := Lib.hid hk
      have H9 := Lib.hid h9
      have HAR := Lib.hid hab
      have HWL := Lib.hid hwl
      clear hk h9 hab hwl
      by_cases hlt : k < l.length
      · obtain ⟨b, off, rfl, hbl, x0, x1, x2, x3⟩ := HA.out.at_ k hlt
        have y0 := (H9.out.below.cell (p := ⟨b, off + k * 4, none⟩) hbl).trans x0
        have y1 := (H9.out.below.cell (p := ⟨b, off + k * 4 + 1, none⟩) hbl).trans x1
        have y2 := (H9.out.below.cell (p := ⟨b, off + k * 4 + 2, none⟩) hbl).trans x2
        have y3 := (H9.out.below.cell (p := ⟨b, off + k * 4 + 3, none⟩) hbl).trans x3
        clear x0 x1 x2 x3 hbl
        have h80 := HF.out.2 k hlt
        have h60 := HF.out.1
        obtain ⟨n0, n1, n2, n3, n4⟩ := HA.out.bnd k hlt
        generalize l.getD k ac0 = x at *
        obtain ⟨xw, xa, xc, xd⟩ := x
        dsimp only at *
        obtain ⟨kw, rfl⟩ : ∃ kw : Nat, xw = (kw : Int) := ⟨xw.toNat, by omega⟩
        have HDO := Lib.hid (fun W (h : Pl2 n w D st st (sixV L A1 q c on am sy ct) [(bq, .cells (six (.string L) A1 q c on am sy ct) 31 (0, 0))] W) => do15_any n D kw w st _ A1 q c on am sy ct L xa xc xd W h (by have := HN8.out; omega) (by have := HWL.out; omega) HAR.out (by omega) (by omega) n2 n3 n4)
        have HAL := Lib.hid ((H9.out.push (.cells #[.int .u8 (kw : Int), .int .i64 xa, .int .i64 xc, .string (ofL xd)] 34)).sub (by' := [(bq, .cells (six (.string L) A1 q c on am sy ct) 31 (0, 0))]) (fun x hx => List.mem_cons_of_mem _ hx))
        have hgQ := HAL.out.get (x := (bq, .cells (six (.string L) A1 q c on am sy ct) 31 (0, 0))) (List.mem_singleton.2 rfl)
        obtain ⟨q0, q1, q2, q3, q4, q5⟩ := six_cells hgQ
        clear hgQ h80 h60 n0 n1 n2 n3 n4
        go_upto_region 12 with fail
        have a0 : (wr.alloc (.cells #[.int .u8 (kw : Int), .int .i64 xa, .int .i64 xc, .string (ofL xd)] 34)).cell? ⟨wr.heap.size, 0, none⟩ = some (.int .u8 (kw : Int)) := dnew _ _ _ _ _ rfl
        have a1 : (wr.alloc (.cells #[.int .u8 (kw : Int), .int .i64 xa, .int .i64 xc, .string (ofL xd)] 34)).cell? ⟨wr.heap.size, 1, none⟩ = some (.int .i64 xa) := dnew _ _ _ _ _ rfl
        have a2 : (wr.alloc (.cells #[.int .u8 (kw : Int), .int .i64 xa, .int .i64 xc, .string (ofL xd)] 34)).cell? ⟨wr.heap.size, 2, none⟩ = some (.int .i64 xc) := dnew _ _ _ _ _ rfl
        have a3 : (wr.alloc (.cells #[.int .u8 (kw : Int), .int .i64 xa, .int .i64 xc, .string (ofL xd)] 34)).cell? ⟨wr.heap.size, 3, none⟩ = some (.string (ofL xd)) := dnew _ _ _ _ _ rfl
        generalize wr.alloc (.cells #[.int .u8 (kw : Int), .int .i64 xa, .int .i64 xc, .string (ofL xd)] 34) = W at *
        generalize wr.heap.size = ba at *
        clear y0 y1 y2 y3
        go_wp2_with fail
        refine (HDO.out _ HAL.out).mono ?_
        rintro x w10 ⟨st', ⟨v', rfl, h11⟩, har', hwl'⟩
        have HAR2 := Lib.hid har'
        have HWL2 := Lib.hid hwl'
        obtain ⟨A2, c2, am2, sy2, ct2, rfl⟩ := h11.val
        have H11 := Lib.hid h11
        have HQ11 := Lib.hid (h11.push (.cells (six (.string (ofL st'.last)) A2 st'.wait.length c2 st'.on am2 sy2 ct2) 31))
        have HWF := Lib.hid h11.wf
        clear h11 har' hwl' a0 a1 a2 a3 q0 q1 q2 q3 q4 q5
        go_upto_region 13 with fail
        have HN4 := Lib.hid (show n ≤ 4096 by have := HN8.out; omega)
        have HW5 := Lib.hid (show st'.wait.length ≤ 100000 by have := HWL.out; have := HWL2.out; have := HF.out.1; omega)
        generalize w10.alloc (.cells #[.string (ofL st'.last), .slice A2 st'.wait.length c2, .bool st'.on, .bool am2, .int .i64 sy2, .int .i64 ct2] 31) = W13 at *
        generalize w10.heap.size = bp at *
        obtain ⟨bx, hbx⟩ : ∃ bx : List (Nat × Obj), bx = [(bp, .cells (six (.string (ofL st'.last)) A2 st'.wait.length c2 st'.on am2 sy2 ct2) 31 (0, 0)), (bq, .cells (six (.string L) A1 q c on am sy ct) 31 (0, 0))] := ⟨_, rfl⟩
        have HX := Lib.hid hbx
        rw [← hbx] at HQ11
        clear hbx
        have HQD := Lib.hid (HQ11.out.keep (Below.refl _ W13).drew)
        have C1 := Lib.hid (fun W (h : Pl2 n w D st' st' (sixV (ofL st'.last) A2 st'.wait.length c2 st'.on am2 sy2 ct2) bx W) => h.read (fun F hd => dkLasts_any W hd HN4.out))
        have C2 := Lib.hid (fun W (h : Pl2 n w D st' st' (sixV (ofL st'.last) A2 st'.wait.length c2 st'.on am2 sy2 ct2) bx W) => h.read (fun F hd => dkWaits_any W hd HW5.out))
        have C3 := Lib.hid (fun W (h : Pl2 n w D st' st' (sixV (ofL st'.last) A2 st'.wait.length c2 st'.on am2 sy2 ct2) bx W) => h.qread (fun F hz => qWaits hz HWF.out HW5.out))
        have C4 := Lib.hid (fun W (h : Pl2 n w D st' st' (sixV (ofL st'.last) A2 st'.wait.length c2 st'.on am2 sy2 ct2) bx W) => h.read (fun F hd => same_below (dkOn_any W hd)))
        have C5 := Lib.hid (fun W (h : Pl2 n w D st' st' (sixV (ofL st'.last) A2 st'.wait.length c2 st'.on am2 sy2 ct2) bx W) => h.read (fun F hd => same_below (dkBlocks_any W hd)))
        have HCE := Lib.hid (fun W (h : Pl2 n w D st' st' (sixV (ofL st'.last) A2 st'.wait.length c2 st'.on am2 sy2 ct2) bx W) => six_cells (h.get (x := (bp, .cells (six (.string (ofL st'.last)) A2 st'.wait.length c2 st'.on am2 sy2 ct2) 31 (0, 0))) (by rw [HX.out]; simp)))
        have HNE := Lib.hid (show Pl2 n w D st' st' (sixV (ofL st'.last) A2 st'.wait.length c2 st'.on am2 sy2 ct2) bx W13 → True from fun _ => trivial)
        generalize hL2 : ofL st'.last = L2 at *
        generalize hk2 : st'.wait.length = k2 at *
        generalize ho2 : st'.on = on2 at *
        generalize hwt : Dk.waits st'.wait = wt at *
        have HK2 := Lib.hid hk2
        clear hL2 hk2 ho2 hwt
        go_region_held3 (fun x => x.cell? ⟨bp, 0, none⟩ = some (.string L2) ∧ x.cell? ⟨bp, 1, none⟩ = some (.slice A2 k2 c2) ∧ x.cell? ⟨bp, 2, none⟩ = some (.bool on2) ∧ x.cell? ⟨bp, 3, none⟩ = some (.bool am2) ∧ x.cell? ⟨bp, 4, none⟩ = some (.int .i64 sy2) ∧ x.cell? ⟨bp, 5, none⟩ = some (.int .i64 ct2))
          (first | exact HCE.out _ HQ11.out | exact HCE.out _ HQD.out | exact HCE.out _ K1.out | exact HCE.out _ K2.out | exact HCE.out _ K3.out | exact HCE.out _ K4.out | exact HCE.out _ K5.out)
          (first
            | ((go_at_call 14; refine (C1.out _ HQD.out).mono ?_; rintro x wa ⟨rfl, ha⟩; have K1 := Lib.hid ha; clear ha))
            | ((go_at_call 15; refine (C2.out _ K1.out).mono ?_; rintro x wb ⟨rfl, ha⟩; have K2 := Lib.hid ha; clear ha))
            | ((go_at_call 16; refine (C3.out _ K2.out).mono ?_; rintro x wc ⟨rfl, ha⟩; have K3 := Lib.hid ha; clear ha))
            | ((go_at_call 17; refine (C4.out _ K3.out).mono ?_; rintro x wd ⟨rfl, ha⟩; have K4 := Lib.hid ha; clear ha))
            | ((go_at_call 10; refine (C5.out _ K4.out).mono ?_; rintro x we ⟨rfl, ha⟩; have K5 := Lib.hid ha; clear ha)))
        have hgP := HCE.out _ K5.out
        have hgQ := K5.out.get (x := (bq, .cells (six (.string L) A1 q c on am sy ct) 31 (0, 0))) (by rw [HX.out]; simp)
        obtain ⟨p0, p1, p2, p3, p4, p5⟩ := hgP
        obtain ⟨q0, q1, q2, q3, q4, q5⟩ := six_cells hgQ
        have f0 := Lib.frozen_of_heap hgQ 0
        have f1 := Lib.frozen_of_heap hgQ 1
        have f2 := Lib.frozen_of_heap hgQ 2
        have f3 := Lib.frozen_of_heap hgQ 3
        have f4 := Lib.frozen_of_heap hgQ 4
        have f5 := Lib.frozen_of_heap hgQ 5
        have hltq := (Array.getElem?_eq_some_iff.1 hgQ).1
        have HFI := Lib.hid ((K5.out.sub (by' := [(bq, .cells (six (.string L) A1 q c on am sy ct) 31 (0, 0))]) (fun x hx => by obtain rfl := List.mem_singleton.1 hx; rw [HX.out]; simp)).fill (x' := .string L2) (A' := A2) (k' := k2) (c' := c2) (on' := on2) (am' := am2) (sy' := sy2) (ct' := ct2) HBQ.out (fun x hx => by cases hx))
        clear hgQ
        go_wp2_with fail
        go_roundg (gk - 1)
        case rel => exact ⟨k + 1, st', L2, A2, k2, c2, on2, am2, sy2, ct2, by have := HK.out; omega, by go_num, HFI.out, HAR2.out, by rw [HK2.out]; have := HWL.out; have := HWL2.out; omega⟩
        case measure => have := HK.out; omega
      · have HZ := Lib.hid H9.out.below
        have D1 := Lib.hid (fun W => dkArm_nil 0 0 W)
        have D2 := Lib.hid (fun W => dkDown_nil 0 W)
        have D3 := Lib.hid (fun W => dkUp_nil W)
        have D4 := Lib.hid (fun W => dkRead_nil 0 W)
        have D5 := Lib.hid (fun W => dkWrite_nil 0 ⟨#[]⟩ W)
        have D6 := Lib.hid (fun W => dkSync_nil W)
        have D7 := Lib.hid (fun W => dkBlocks_nil W)
        have D8 := Lib.hid (fun W => dkWaits_nil W)
        have D9 := Lib.hid (fun W => dkLasts_nil W)
        have D10 := Lib.hid (fun W => dkOn_nil W)
        go_wp2_with fail
        refine (D1.out _).mono ?_
        rintro x wz ⟨rfl, rfl⟩
        go_wp2_with fail
        refine (D2.out _).mono ?_
        rintro x wz ⟨rfl, rfl⟩
        go_wp2_with fail
        refine (D3.out _).mono ?_
        rintro x wz ⟨rfl, rfl⟩
        go_wp2_with fail
        refine (D4.out _).mono ?_
        rintro x wz ⟨rfl, rfl⟩
        go_wp2_with fail
        refine (D5.out _).mono ?_
        rintro x wz ⟨rfl, rfl⟩
        go_wp2_with fail
        refine (D6.out _).mono ?_
        rintro x wz ⟨rfl, rfl⟩
        go_wp2_with fail
        refine (D7.out _).mono ?_
        rintro x wz ⟨rfl, rfl⟩
        go_wp2_with fail
        refine (D8.out _).mono ?_
        rintro x wz ⟨rfl, rfl⟩
        go_wp2_with fail
        refine (D9.out _).mono ?_
        rintro x wz ⟨rfl, rfl⟩
        go_wp2_with fail
        refine (D10.out _).mono ?_
        rintro x wz ⟨rfl, rfl⟩
        go_wp2_with fail
        go_ret
        exact ⟨by simp, HZ.out⟩
  · go_wp2_with fail
    go_ret
    exact ⟨rfl, B2.out⟩
end Go.Proofs.Ytpdgadohfhmcnaa
