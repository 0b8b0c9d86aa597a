/-
  THE DOCUMENT's DISK: what each act makes of it.
-/
import Derived.Test.YtpdgadohfhmcnaaDkU
import Derived.Test.YtpdgadohfhmcnaaDkW
namespace Go.Proofs.Ytpdgadohfhmcnaa
open Go.ChangeShapes Go.WideShapes Go.ChangeAt Go.RowKit

/-- a value is the document's disk; the row of what waits is none of F's -/
def Dz (F : Nat → Prop) (st : Dk.St) (v : Value) (w : World) : Prop := ∃ A c am sy ct, v = sixV (ofL st.last) A st.wait.length c st.on am sy ct ∧ WRow w A st.wait ∧ ArmQ st am sy ct ∧ ∀ a, A = some a → a.block < w.heap.size ∧ ¬ F a.block
theorem Dz.keep {F : Nat → Prop} {st : Dk.St} {v : Value} {w w' : World} (h : Dz F st v w) (hb : Below w.heap.size w w') : Dz F st v w' := by
  obtain ⟨A, c, am, sy, ct, e, hA, ha, hF⟩ := h
  exact ⟨A, c, am, sy, ct, e, hA.on hb, ha, fun a e => ⟨Nat.lt_of_lt_of_le (hF a e).1 hb.size, (hF a e).2⟩⟩
theorem Dz.call {F F' : Nat → Prop} {st : Dk.St} {v : Value} {w w' : World} (h : Dz F st v w) (k : Kp F w w') (he : Ext F w F') : Dz F' st v w' := by
  obtain ⟨A, c, am, sy, ct, e, hA, ha, hF⟩ := h
  exact ⟨A, c, am, sy, ct, e, hA.kp k (fun a e => (hF a e).2), ha, fun a e => ⟨Nat.lt_of_lt_of_le (hF a e).1 k.size, fun f => (hF a e).2 (he.old _ (hF a e).1 f)⟩⟩
theorem Dz.bare {F : Nat → Prop} {L : List UInt8} {on am : Bool} {arm : Option (Nat × Nat)} {sy ct : Int} {w : World} (h : ArmQ { last := L, wait := [], on := on, arm := arm } am sy ct) : Dz F { last := L, wait := [], on := on, arm := arm } (sixV (ofL L) none 0 0 on am sy ct) w :=
  ⟨none, 0, am, sy, ct, rfl, ⟨fun i hi => absurd hi (by simp)⟩, h, fun a e => by cases e⟩
theorem qUp {n : Nat} {F : Nat → Prop} {st : Dk.St} {v : Value} {w : World} (h : Dz F st v w) (hw : Dk.Wf n st) :
    Calls Try.prog 29 #[v] w fun e w' => ∃ v', e = .returned v' ∧ Dz F (Dk.up st) v' w' ∧ Below w.heap.size w w' := by
  have h' := h
  obtain ⟨A, c, am, sy, ct, rfl, hA, ha, hF⟩ := h
  refine (r15Up_raw _ _ _ _ _ _ _ _ w).mono ?_
  rintro e w' ⟨rfl, hb⟩
  refine ⟨_, rfl, ?_, hb⟩
  by_cases hon : st.on = true
  · rw [if_pos hon, show Dk.up st = st from if_pos hon]
    exact h'.keep hb
  · have hon' : st.on = false := by simpa using hon
    rw [if_neg hon, show Dk.up st = { st with on := true, arm := none } from if_neg hon, (hw.off hon').1]
    exact Dz.bare rfl
theorem qArm {F : Nat → Prop} {st : Dk.St} {v : Value} {w : World} (s k : Int) (h : Dz F st v w) :
    Calls Try.prog 27 #[v, .int .i64 s, .int .i64 k] w fun e w' => ∃ v', e = .returned v' ∧ Dz F (Dk.armed st s k) v' w' ∧ Below w.heap.size w w' := by
  have h' := h
  obtain ⟨A, c, am, sy, ct, rfl, hA, ha, hF⟩ := h
  refine (r15Arm_raw _ _ _ _ _ _ _ _ s k w).mono ?_
  rintro e w' ⟨rfl, hb⟩
  refine ⟨_, rfl, ?_, hb⟩
  by_cases hon : st.on = true
  · rw [if_pos hon, show Dk.armed st s k = { st with arm := some (s.toNat, k.toNat) } from if_pos hon]
    refine ⟨A, c, true, max s 0, max k 0, by rw [hon], hA.on hb, ⟨rfl, by omega, by omega⟩, fun a e => ⟨Nat.lt_of_lt_of_le (hF a e).1 hb.size, (hF a e).2⟩⟩
  · rw [if_neg hon, show Dk.armed st s k = st from if_neg hon]
    exact h'.keep hb
theorem rCheck_of {n : Nat} {st : Dk.St} (hw : Dk.Wf n st) (hn : n ≤ 4096) (A : Option Addr) (k c : Nat) (am : Bool) (sy ct a : Int) (W : World) :
    Calls Try.prog 35 #[sixV (ofL st.last) A k c st.on am sy ct, .int .i64 a] W fun e w' => e = .returned (.int .i64 (Dk.code n st a)) ∧ Below W.heap.size W w' :=
  r15Check_any st n (ofL st.last) A k c am sy ct a W (by rw [ofL_size, hw.len]) (by omega)
def RngSt (w : World) (l : List Dk.Wr) (s : List UInt8) (c : Int) (g : Nat) (m v i : Value) (wr : World) : Prop :=
  ∃ k : Nat, k + g = l.length ∧ i = .int .i64 (k : Int) ∧ m = .int .i64 c ∧ v = .string (ofL (Dk.done s (l.take k) 0)) ∧ Below w.heap.size w wr
set_option maxHeartbeats 4000000 in
/-- what the document does of what waits, where the cut is below 0 -/
theorem rDone_neg (s : List UInt8) (l : List Dk.Wr) (n : Nat) (c : Int) (A : Option Addr) (ca : Nat) (on am : Bool) (sy ct : Int) (w : World) (hA : WRow w A l) (hl : l.length ≤ 100000) (ho : ∀ x ∈ l, Dk.WOk n x) (hs : s.length = 64 * n) (hn : n ≤ 4096) (hc : c < 0) (hc2 : -9223372036854775808 ≤ c) :
    Calls Try.prog 34 #[dq s A l.length ca on am sy ct, .int .i64 c] w fun e w' => e = .returned (.string (ofL (Dk.done s l 0))) ∧ Below w.heap.size w w' := by
  have HA := Lib.hid hA
  have HO := Lib.hid ho
  have HS := Lib.hid hs
  have hsub : IntKind.i64.wrap c = c := by rw [IntKind.wrap_i64]; omega
  have HH := Lib.hid (fun m W => r15Held_int c m W)
  have H0 := Lib.hid (fun m : Nat => show (min (max c 0) (m : Int)).toNat = 0 by omega)
  clear hA ho hs hc hc2
  go_enter Try.func34, Try.ntmps34
  go_wp2_with fail
  have HB0 := Lib.hid ((Below.refl w.heap.size w).alloc (Nat.le_refl _) (.cells #[.string (ofL s), .slice A l.length ca, .bool on, .bool am, .int .i64 sy, .int .i64 ct] 31))
  generalize w.alloc (.cells #[.string (ofL s), .slice A l.length ca, .bool on, .bool am, .int .i64 sy, .int .i64 ct] 31) = w1 at *
  go_loopg [1, 5, 14] l.length (fun g m v i wr => RngSt w l s c g m v i wr)
  case atStart => exact ⟨0, by omega, rfl, rfl, rfl, HB0.out⟩
  case round =>
    obtain ⟨k, hk, rfl, rfl, rfl, hb⟩ := hrel
    have HK := Lib.hid hk
    have HB := Lib.hid hb
    clear hk hb
    by_cases hlt : k < l.length
    · obtain ⟨b, off, rfl, hbl, x0, x1⟩ := HA.out.at_ k hlt
      have y0 := (HB.out.cell (p := ⟨b, off + k * 2, none⟩) hbl).trans x0
      have y1 := (HB.out.cell (p := ⟨b, off + k * 2 + 1, none⟩) hbl).trans x1
      clear x0 x1 hbl
      have HSN := Lib.hid (show l.take (k + 1) = l.take k ++ [l.getD k (0, [])] by rw [List.take_succ_eq_append_getElem hlt, List.getD_eq_getElem?_getD, List.getElem?_eq_getElem hlt]; rfl)
      have HW := Lib.hid (HO.out (l.getD k (0, [])) (by rw [List.getD_eq_getElem?_getD, List.getElem?_eq_getElem hlt]; exact List.getElem_mem hlt))
      have HLN := Lib.hid (Dk.done_len (n := n) (l.take k) 0 (fun w hw => HO.out w (List.mem_of_mem_take hw)) HS.out)
      generalize l.getD k (0, []) = x at *
      obtain ⟨xa, xd⟩ := x
      dsimp only at *
      have hz : (ofL xd).size = xd.length := ofL_size _
      have HPD := Lib.hid (put_done s (l.take k) 0 xa 0 xd (by omega))
      rw [← HSN.out] at HPD
      have hw1 : xa < n := HW.out.1
      have HH2 := Lib.hid (fun W => HH.out xd.length W)
      rw [H0.out, show (((0 : Nat) : Int)) = 0 from rfl] at HH2
      have HPT := Lib.hid (fun W => r15put_any (Dk.done s (l.take k) 0) (xd.take 0) xa W (by rw [HLN.out]; simp; omega) (by rw [HLN.out]; omega))
      rw [HPD.out] at HPT
      have hsl : ∀ W', (Instr.slice 9 (.string (ofL xd)) none (some (.int .i64 0)) none).run Try.prog W' = .ok (.string (ofL (xd.take 0))) W' := fun W' => slice_to_l (P := Try.prog) Try.underlying9 xd .i64 0 0 rfl (by omega) W'
      have HB2 := Lib.hid (HB.out.alloc HB.out.size (.cells #[.int .i64 (xa : Int), .string (ofL xd)] 70))
      have b0 : (wr.alloc (.cells #[.int .i64 (xa : Int), .string (ofL xd)] 70)).cell? ⟨wr.heap.size, 0, none⟩ = some (.int .i64 (xa : Int)) := dnew _ _ _ _ _ rfl
      have b1 : (wr.alloc (.cells #[.int .i64 (xa : Int), .string (ofL xd)] 70)).cell? ⟨wr.heap.size, 1, none⟩ = some (.string (ofL xd)) := dnew _ _ _ _ _ rfl
      have hbs : wr.heap.size < (wr.alloc (.cells #[.int .i64 (xa : Int), .string (ofL xd)] 70)).heap.size := by simp
      clear hw1
      generalize ofL (xd.take 0) = E at *
      generalize Dk.done s (l.take k) 0 = dk at *
      go_wp2_with fail
      refine (HH2.out _).mono ?_
      rintro x w2 ⟨rfl, rfl⟩
      go_upto_region 6 with fail
      generalize wr.alloc (.cells #[.int .i64 (xa : Int), .string (ofL xd)] 70) = W at *
      generalize wr.heap.size = bx at *
      clear y0 y1
      go_region_held3 (fun a => a.cell? ⟨bx, 0, none⟩ = some (.int .i64 (xa : Int)) ∧ a.cell? ⟨bx, 1, none⟩ = some (.string (ofL xd)))
        (first | exact ⟨b0, b1⟩ | exact ⟨u0, u1⟩) ((go_at_call 36; refine (HPT.out _).mono ?_; rintro x w7 ⟨rfl, b7⟩; have u0 := (b7.cell (p := ⟨bx, 0, none⟩) hbs).trans b0; have u1 := (b7.cell (p := ⟨bx, 1, none⟩) hbs).trans b1; have HB3 := Lib.hid (Below.trans HB2.out.drew (b7.mono HB2.out.size)); clear b7))
      clear u0 u1 b0 b1
      go_wp2_with fail
      go_roundg (gk - 1)
      case rel => exact ⟨k + 1, by have := HK.out; omega, by go_num, rfl, rfl, HB3.out⟩
      case measure => have := HK.out; omega
    · have e : l.take k = l := List.take_of_length_le (by omega)
      rw [e]
      clear e
      go_wp2_with fail
      go_ret
      exact ⟨rfl, HB.out⟩
theorem rDone_int {n : Nat} {st : Dk.St} (hw : Dk.Wf n st) (hn : n ≤ 4096) (hl : st.wait.length ≤ 100000) (A : Option Addr) (c : Nat) (on am : Bool) (sy ct k : Int) (W : World) (hA : WRow W A st.wait) (hk : k ≤ 9223372036854775807) (hk2 : -9223372036854775808 ≤ k) :
    Calls Try.prog 34 #[sixV (ofL st.last) A st.wait.length c on am sy ct, .int .i64 k] W fun e w' => e = .returned (.string (ofL (Dk.done st.last st.wait k.toNat))) ∧ Below W.heap.size W w' := by
  by_cases h : k < 0
  · rw [show k.toNat = 0 by omega]
    exact rDone_neg st.last st.wait n k A c on am sy ct W hA hl hw.ok hw.len hn h hk2
  · obtain ⟨m, rfl⟩ : ∃ m : Nat, k = (m : Int) := ⟨k.toNat, by omega⟩
    rw [Int.toNat_natCast]
    exact r15Done_any st.last st.wait n m A c on am sy ct W hA hl hw.ok hw.len hn (by omega)
theorem qDown {n : Nat} {F : Nat → Prop} {st : Dk.St} {v : Value} {w : World} (k : Int) (h : Dz F st v w) (hw : Dk.Wf n st) (hn : n ≤ 4096) (hl : st.wait.length ≤ 100000) (hk : k ≤ 9223372036854775807) (hk2 : -9223372036854775808 ≤ k) :
    Calls Try.prog 28 #[v, .int .i64 k] w fun e w' => ∃ v', e = .returned v' ∧ Dz F (Dk.down st k.toNat) v' w' ∧ Below w.heap.size w w' := by
  have h' := h
  obtain ⟨A, c, am, sy, ct, rfl, hA, ha, hF⟩ := h
  refine (r15Down_raw _ (ofL (Dk.done st.last st.wait k.toNat)) _ _ _ _ _ _ _ k w (fun W hb => rDone_int hw hn hl A c st.on am sy ct k W (hA.on hb) hk hk2)).mono ?_
  rintro e w' ⟨rfl, hb⟩
  refine ⟨_, rfl, ?_, hb⟩
  by_cases hon : st.on = true
  · rw [if_pos hon, show Dk.down st k.toNat = { last := Dk.done st.last st.wait k.toNat, wait := [], on := false, arm := none } from if_pos hon]
    exact Dz.bare rfl
  · rw [if_neg hon, show Dk.down st k.toNat = st from if_neg hon]
    exact h'.keep hb
theorem qSync {n : Nat} {F : Nat → Prop} {st : Dk.St} {v : Value} {w : World} (h : Dz F st v w) (hw : Dk.Wf n st) (hn : n ≤ 4096) (hl : st.wait.length ≤ 100000) (hm : ∀ s c, st.arm = some (s, c) → s ≤ 9223372036854775807 ∧ c ≤ 9223372036854775807) :
    Calls Try.prog 25 #[v] w fun e w' => ∃ v', e = .returned (.tuple #[v', .int .i64 (Dk.scode st)]) ∧ Dz F (Dk.sync st) v' w' ∧ Below w.heap.size w w' := by
  have h' := h
  obtain ⟨A, c, am, sy, ct, rfl, hA, ha, hF⟩ := h
  have hwl := Dk.waits_le _ hw.ok
  by_cases hon : st.on = true
  · cases harm : st.arm with
    | none =>
      have ha0 : am = false := by unfold ArmQ at ha; rw [harm] at ha; exact ha
      subst ha0
      rw [show Dk.sync st = { st with last := Dk.done st.last st.wait (Dk.waits st.wait), wait := [] } by unfold Dk.sync; rw [if_neg (by rw [hon]; decide), harm], show Dk.scode st = 0 by unfold Dk.scode; rw [if_neg (by rw [hon]; decide), harm]]
      have e1 := r15Sync_plain (ofL st.last) A st.wait.length c sy ct ((Dk.waits st.wait : Nat) : Int) (ofL (Dk.done st.last st.wait (Dk.waits st.wait))) w
        (fun W hb => r15Waits_any (ofL st.last) st.wait A c true false sy ct W (hA.on hb) hl (fun x hx => (hw.ok x hx).2))
        (fun W hb => r15Done_any st.last st.wait n (Dk.waits st.wait) A c true false sy ct W (hA.on hb) hl hw.ok hw.len hn (by omega))
      rw [hon]
      refine e1.mono ?_
      rintro e w' ⟨rfl, hb⟩
      refine ⟨_, rfl, ?_, hb⟩
      rw [harm]
      exact Dz.bare rfl
    | some x =>
      obtain ⟨s, k⟩ := x
      obtain ⟨rfl, rfl, rfl⟩ : am = true ∧ sy = (s : Int) ∧ ct = (k : Int) := by unfold ArmQ at ha; rw [harm] at ha; exact ha
      have hsk := hm s k harm
      cases s with
      | zero =>
        rw [show Dk.sync st = Dk.down st k by unfold Dk.sync; rw [if_neg (by rw [hon]; decide), harm], show Dk.scode st = 16 by unfold Dk.scode; rw [if_neg (by rw [hon]; decide), harm]; rfl]
        have e1 := r15Sync_down (ofL st.last) A st.wait.length c (k : Int) (ofL (Dk.done st.last st.wait k)) w (fun W hb => by
          have := r15Down_raw (ofL st.last) (ofL (Dk.done st.last st.wait k)) A st.wait.length c true true 0 (k : Int) (k : Int) W (fun W2 hb2 => by
            have := rDone_int hw hn hl A c true true 0 (k : Int) (k : Int) W2 (hA.on (Below.trans hb (hb2.mono hb.size))) (by omega) (by omega)
            rwa [Int.toNat_natCast] at this)
          rwa [if_pos rfl] at this)
        rw [hon]
        refine e1.mono ?_
        rintro e w' ⟨rfl, hb⟩
        refine ⟨_, rfl, ?_, hb⟩
        rw [show Dk.down st k = { last := Dk.done st.last st.wait k, wait := [], on := false, arm := none } from if_pos hon]
        exact Dz.bare rfl
      | succ s =>
        rw [show Dk.sync st = { st with last := Dk.done st.last st.wait (Dk.waits st.wait), wait := [], arm := some (s, k) } by unfold Dk.sync; rw [if_neg (by rw [hon]; decide), harm], show Dk.scode st = 0 by unfold Dk.scode; rw [if_neg (by rw [hon]; decide), harm]; rfl]
        have e1 := r15Sync_armed (ofL st.last) A st.wait.length c ((s + 1 : Nat) : Int) (s : Int) (k : Int) ((Dk.waits st.wait : Nat) : Int) (ofL (Dk.done st.last st.wait (Dk.waits st.wait))) w (by simp; omega) (by rw [IntKind.wrap_i64]; omega)
          (fun W hb => r15Waits_any (ofL st.last) st.wait A c true true (s : Int) (k : Int) W (hA.on hb) hl (fun x hx => (hw.ok x hx).2))
          (fun W hb => r15Done_any st.last st.wait n (Dk.waits st.wait) A c true true (s : Int) (k : Int) W (hA.on hb) hl hw.ok hw.len hn (by omega))
        rw [hon]
        refine e1.mono ?_
        rintro e w' ⟨rfl, hb⟩
        refine ⟨_, rfl, ?_, hb⟩
        exact Dz.bare ⟨rfl, rfl, rfl⟩
  · have hon' : st.on = false := by simpa using hon
    rw [show Dk.sync st = st by unfold Dk.sync; rw [if_pos hon'], show Dk.scode st = 16 by unfold Dk.scode; rw [if_pos hon']]
    rw [hon'] at h' ⊢
    refine (r15Sync_off (ofL st.last) A st.wait.length c am sy ct w).mono ?_
    rintro e w' ⟨rfl, hb⟩
    exact ⟨_, rfl, ⟨A, c, am, sy, ct, by rw [hon'], hA.on hb, ha, fun a e => ⟨Nat.lt_of_lt_of_le (hF a e).1 hb.size, (hF a e).2⟩⟩, hb⟩
theorem qPut {n : Nat} {F : Nat → Prop} {st : Dk.St} {v : Value} {w : World} (a : Int) (d : List UInt8) (h : Dz F st v w) (hFl : ∀ k, F k → k < w.heap.size) (hw : Dk.Wf n st) (hn : n ≤ 4096) (hl : st.wait.length ≤ 100000) :
    Calls Try.prog 30 #[v, .int .i64 a, .string (ofL d)] w fun e w' => ∃ v', e = .returned (.tuple #[v', .int .i64 (Dk.wcode n st a d)]) ∧ Dz F (Dk.write n st a d) v' w' ∧ Below w.heap.size w w' := by
  have h' := h
  obtain ⟨A, c, am, sy, ct, rfl, hA, ha, hF⟩ := h
  by_cases h0 : Dk.code n st a = 0
  · by_cases h64 : 64 < d.length
    · have e1 : Dk.wcode n st a d = 5 := by unfold Dk.wcode; rw [if_neg (by omega), if_pos h64]
      rw [show Dk.write n st a d = st by unfold Dk.write; rw [if_neg (by rw [e1]; decide)], e1]
      refine (r15Put_long _ _ _ _ _ _ _ _ a (ofL d) w (by rw [ofL_size]; exact h64) (fun W hb => by have := rCheck_of hw hn A st.wait.length c am sy ct a W; rwa [h0] at this)).mono ?_
      rintro e w' ⟨rfl, hb⟩
      exact ⟨_, rfl, h'.keep hb, hb⟩
    · have e1 : Dk.wcode n st a d = 0 := by unfold Dk.wcode; rw [if_neg (by omega), if_neg h64]
      rw [show Dk.write n st a d = { st with wait := st.wait ++ [(a.toNat, d)] } from if_pos e1, e1]
      obtain ⟨-, h4, h5⟩ := Dk.code_ok h0
      obtain ⟨k, rfl⟩ : ∃ k : Nat, a = (k : Int) := ⟨a.toNat, by omega⟩
      rw [Int.toNat_natCast]
      refine (r15Put_ok (ofL st.last) A st.wait c st.on am sy ct k d w (by omega) hl hA (fun W hb => by have := rCheck_of hw hn A st.wait.length c am sy ct (k : Int) W; rwa [h0] at this)).mono ?_
      rintro e w' ⟨gg, cap, rfl, hgg, hR, hb⟩
      refine ⟨_, rfl, ⟨some ⟨gg, 0, none⟩, cap, am, sy, ct, ?_, hR, ha, fun a e => ?_⟩, hb⟩
      · simp
      · obtain rfl := Option.some.inj e
        obtain ⟨b, off, e2, hlt, -⟩ := hR.at_ 0 (by simp)
        obtain ⟨rfl, -⟩ : gg = b ∧ 0 = off := by simpa using e2
        exact ⟨hlt, fun f => by have := hFl _ f; dsimp only at this; omega⟩
  · have e1 : Dk.wcode n st a d = Dk.code n st a := by unfold Dk.wcode; rw [if_pos h0]
    rw [show Dk.write n st a d = st by unfold Dk.write; rw [if_neg (by rw [e1]; exact h0)], e1]
    refine (r15Put_no _ _ _ _ _ _ _ _ a _ (ofL d) w h0 (fun W hb => rCheck_of hw hn A st.wait.length c am sy ct a W)).mono ?_
    rintro e w' ⟨rfl, hb⟩
    exact ⟨_, rfl, h'.keep hb, hb⟩
theorem qRead {n : Nat} {F : Nat → Prop} {st : Dk.St} {v : Value} {w : World} (a : Int) (h : Dz F st v w) (hw : Dk.Wf n st) (hn : n ≤ 4096) (hl : st.wait.length ≤ 100000) :
    Calls Try.prog 26 #[v, .int .i64 a] w fun e w' => e = .returned (.tuple #[.string (ofL (Dk.readV n st a)), .int .i64 (Dk.code n st a)]) ∧ Below w.heap.size w w' := by
  obtain ⟨A, c, am, sy, ct, rfl, hA, ha, hF⟩ := h
  have hwl := Dk.waits_le _ hw.ok
  by_cases h0 : Dk.code n st a = 0
  · obtain ⟨-, h4, h5⟩ := Dk.code_ok h0
    obtain ⟨k, rfl⟩ : ∃ k : Nat, a = (k : Int) := ⟨a.toNat, by omega⟩
    have hdl := Dk.done_len (n := n) st.wait (Dk.waits st.wait) hw.ok hw.len
    rw [h0, show Dk.readV n st (k : Int) = Dk.blk (Dk.done st.last st.wait (Dk.waits st.wait)) k by unfold Dk.readV; rw [if_pos h0, Int.toNat_natCast]]
    exact r15Read_ok (ofL st.last) (Dk.done st.last st.wait (Dk.waits st.wait)) A st.wait.length c st.on am sy ct ((Dk.waits st.wait : Nat) : Int) k w (by rw [hdl]; omega) (by rw [hdl]; omega)
      (fun W hb => by have := rCheck_of hw hn A st.wait.length c am sy ct (k : Int) W; rwa [h0] at this)
      (fun W hb => r15Waits_any (ofL st.last) st.wait A c st.on am sy ct W (hA.on hb) hl (fun x hx => (hw.ok x hx).2))
      (fun W hb => r15Done_any st.last st.wait n (Dk.waits st.wait) A c st.on am sy ct W (hA.on hb) hl hw.ok hw.len hn (by omega))
  · rw [show Dk.readV n st a = [] from if_neg h0]
    exact r15Read_no _ _ _ _ _ _ _ _ a _ w h0 (fun W hb => rCheck_of hw hn A st.wait.length c am sy ct a W)
theorem qWaits {n : Nat} {F : Nat → Prop} {st : Dk.St} {v : Value} {w : World} (h : Dz F st v w) (hw : Dk.Wf n st) (hl : st.wait.length ≤ 100000) :
    Calls Try.prog 16 #[v] w fun e w' => e = .returned (.int .i64 ((Dk.waits st.wait : Nat) : Int)) ∧ Below w.heap.size w w' := by
  obtain ⟨A, c, am, sy, ct, rfl, hA, ha, hF⟩ := h
  exact r15Waits_any (ofL st.last) st.wait A c st.on am sy ct w hA hl (fun x hx => (hw.ok x hx).2)
end Go.Proofs.Ytpdgadohfhmcnaa
