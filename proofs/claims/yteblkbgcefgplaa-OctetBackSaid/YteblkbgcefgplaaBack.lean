/-
  THE WALK of OctetBack: what was written is read as it was, numbers as far as they had room, and then nothing is left.
-/
import Derived.Test.YteblkbgcefgplaaBackMath
import Derived.Deep.DeepCutAuto
import Derived.BigQuiet
import Derived.Deep.RegionHeld3
import Derived.Deep.QuietTactic
namespace Go.Proofs.Yteblkbgcefgplaa
open Go.ChangeShapes Go.WideShapes Go.ChangeAt Go.RowKit
attribute [local go_sem ↓] Go.wp_at_zero Go.wp_at_succ

theorem Items.more' {w : World} {B B' : Nat} {A : Option Addr} {l : List It} (h : Items w B A l) (hB : B ≤ B') : Items w B' A l := fun i hi => by
  obtain ⟨b, off, hA, hlt, hf, hat⟩ := h i hi
  exact ⟨b, off, hA, by omega, hf, hat⟩
theorem far_cell {W W' : World} {b g i : Nat} (h : W.grownBy W' (some b)) (hlt : g < W.heap.size) (hne : g ≠ b) : W'.cell? ⟨g, i, none⟩ = W.cell? ⟨g, i, none⟩ :=
  World.cell?_of_block (h.block g hlt (fun e => hne (by injection e)))
/-- what the loop keeps -/
structure BackSt (w : World) (bI : Nat) (r : ByteArray) (wr : World) : Prop where
  at_ : InAt bI r 0 wr
  below : Below w.heap.size w wr
  le : w.heap.size ≤ bI

theorem BackSt.drewN {w : World} {bI : Nat} {r : ByteArray} {wr : World} (h : BackSt w bI r wr) (n : Nat) : BackSt w bI r (wr.drewN n) :=
  ⟨⟨h.at_.c0, h.at_.c1, h.at_.fr, h.at_.lt⟩, ⟨h.below.os, h.below.tape, h.below.output, h.below.size, h.below.block⟩, h.le⟩

set_option maxHeartbeats 2000000 in
theorem back_light (A : Option Addr) (l : List It) (c : Nat) (w : World) (hI : Items w w.heap.size A l) (hl : Light l) :
    Calls Try.prog 5 #[.slice A l.length c] w fun x w' => x = .returned (.bool true) ∧ Below w.heap.size w w' := by
  have h20 := hl.1
  have HL := Lib.hid hl
  have HI := Lib.hid hI
  clear hl hI
  go_enter Try.func5, Try.ntmps5
  go_wp2_with fail
  refine (awake_any _).mono ?_
  rintro x w1 ⟨rfl, b1⟩
  have B1 := Lib.hid b1
  clear b1
  go_wp2_with fail
  refine (light_yes A l c _ ((HI.out.below B1.out).more' B1.out.size) HL.out).mono ?_
  rintro x w2 ⟨rfl, b2⟩
  have B2 := Lib.hid (Below.trans B1.out (b2.mono B1.out.size))
  clear b2
  go_wp2_with fail
  refine (written_any A l c w2 ((HI.out.below B2.out).more' B2.out.size) HL.out).mono ?_
  rintro x w3 ⟨rfl, b3⟩
  have B3 := Lib.hid (Below.trans B2.out (b3.mono B2.out.size))
  clear b3
  go_wp2_with fail
  refine (str_any _ _ _).mono ?_
  rintro x w4 ⟨rfl, b4⟩
  have B4 := Lib.hid (Below.trans B3.out (b4.mono B3.out.size))
  clear b4
  go_wp2_with fail
  refine (new_any _ _).mono ?_
  rintro x w5 ⟨rfl, rfl⟩
  have hsz4 := B4.out.size
  have H0 : Hid (BackSt w w4.heap.size (enc (l.drop 0)) (w4.alloc (.cells #[.string (enc l), .int .i64 0] 55))) := Lib.hid
    ⟨⟨cell_new _ _ _ _ _ rfl, cell_new _ _ _ _ _ rfl, fun j => free_new _ _ _ _ _ rfl, by simp⟩, B4.out.alloc hsz4 _, hsz4⟩
  generalize w4.heap.size = bI at *
  go_wp2_with fail
  go_loopw [19] (fun i wr => ∃ k : Nat, k ≤ l.length ∧ i = .int .i64 k ∧ BackSt w bI (enc (l.drop k)) wr) (fun i _ => l.length - (intOf i).toNat)
  case atStart => exact ⟨0, by omega, rfl, H0.out⟩
  case round =>
    obtain ⟨k, hk, rfl, hst⟩ := hrel
    have HST := Lib.hid hst
    clear hst H0
    by_cases hlt : k < l.length
    · obtain ⟨b, off, rfl, hbl, hf, hat⟩ := HI.out k hlt
      have hat' := hat.below HST.out.below hbl
      have hs := HL.out.2 k hlt
      have hsz := HST.out.below.size
      have hbI := HST.out.at_.lt
      have HD := Lib.hid (enc_drop l k hlt)
      obtain ⟨c0, c1, c2, c3⟩ := hat'
      have hfn := hf.num
      have hlo := hf.lo
      have hhi := hf.hi
      clear hat hf
      generalize l.getD k It.zero = x at *
      have HA := fun o => Lib.hid (HST.out.at_.alloc o)
      have HA' := Lib.hid HA
      clear HA
      by_cases h0 : x.kind = 0
      · have hk0 : ((x.kind : Int) == 0) = true := by simp; omega
        have HE : encIt x = ⟨(Oct.be (Oct.width x.bytes) x.num).toArray⟩ := by unfold encIt; rw [if_pos h0]
        rw [HE] at HD
        have hna := num_app (Oct.width x.bytes) x.num (enc (l.drop (k + 1)))
        have hcall : ∀ W, InAt bI (enc (l.drop k)) 0 W → Calls Try.prog 19 #[.pointer (some ⟨bI, 0, none⟩), .int .i64 x.bytes] W (Post bI W (.int .u64 ((x.num % 256 ^ (Oct.width x.bytes) : Nat) : Int)) (enc (l.drop (k + 1))) 0) := fun W hW => by
          have h := inum_any bI (enc (l.drop k)) 0 x.bytes W hW (fun h => absurd rfl h)
          rw [HD.out, hna.1] at h
          have e := hna.2
          unfold sRaw at e
          simp only [Prod.mk.injEq] at e
          rw [e.1, e.2] at h
          exact h
        have HC := Lib.hid hcall
        clear hcall hna HE h0
        obtain ⟨kd, nm, by', tx⟩ := x
        simp only at *
        generalize hN : nm % 256 ^ (Oct.width by') = N at HC
        have HN := Lib.hid hN
        clear hN
        go_upto_region 13 with fail
        go_cut [6, 7] (fun s6 s7 wx => s6 = .int .u64 (N : Int) ∧ s7 = .int .i64 ((Oct.width by' : Nat) : Int) ∧ BackSt w bI (enc (l.drop (k + 1))) wx ∧ wx.cell? ⟨wr.heap.size, 1, none⟩ = some (.int .u64 (nm : Int)))
        case first =>
          rcases (show by' < 0 ∨ by' = 0 ∨ (0 < by' ∧ by' < 8) ∨ by' = 8 ∨ 8 < by' by omega) with hw | rfl | ⟨hw1, hw2⟩ | rfl | hw
          · have HV : Hid ((0 : Int) = ((Oct.width by' : Nat) : Int)) := Lib.hid (by rw [Oct.width_low (by omega)]; rfl)
            go_region_held3 (fun w' => w'.cell? ⟨wr.heap.size, 2, none⟩ = some (.int .i64 by')) (first | go_keep | (rw [kf]; go_keep) | (simp [kf]))
              ((go_at_call 19; refine (HC.out _ (by first | exact (HA'.out _).out | exact (HA'.out _).out.drew)).mono ?_; rintro e' w6 ⟨rfl, h6, g6⟩; have kf := fun i => far_cell (g := wr.heap.size) (i := i) g6 (by simp) (by omega)))
            all_goals
              go_wp2_with fail
              go_meet
              refine ⟨rfl, congrArg (Value.int .i64) HV.out, ⟨h6, ((HST.out.below.alloc hsz _).drew).grown g6 (by simp; omega) (fun k hk => by injection hk with hk; have := HST.out.le; omega), HST.out.le⟩, ?_⟩
              exact (far_cell (i := 1) g6 (by simp) (by omega)).trans (by simp)
          · have HV : Hid ((0 : Int) = ((Oct.width 0 : Nat) : Int)) := Lib.hid rfl
            go_region_held3 (fun w' => w'.cell? ⟨wr.heap.size, 2, none⟩ = some (.int .i64 0)) (first | go_keep | (rw [kf]; go_keep) | (simp [kf]))
              ((go_at_call 19; refine (HC.out _ (by first | exact (HA'.out _).out | exact (HA'.out _).out.drew)).mono ?_; rintro e' w6 ⟨rfl, h6, g6⟩; have kf := fun i => far_cell (g := wr.heap.size) (i := i) g6 (by simp) (by omega)))
            all_goals
              go_wp2_with fail
              go_meet
              refine ⟨rfl, congrArg (Value.int .i64) HV.out, ⟨h6, ((HST.out.below.alloc hsz _).drew).grown g6 (by simp; omega) (fun k hk => by injection hk with hk; have := HST.out.le; omega), HST.out.le⟩, ?_⟩
              exact (far_cell (i := 1) g6 (by simp) (by omega)).trans (by simp)
          · have HV : Hid (by' = ((Oct.width by' : Nat) : Int)) := Lib.hid (Oct.width_mid hw1 hw2).symm
            go_region_held3 (fun w' => w'.cell? ⟨wr.heap.size, 2, none⟩ = some (.int .i64 by')) (first | go_keep | (rw [kf]; go_keep) | (simp [kf]))
              ((go_at_call 19; refine (HC.out _ (by first | exact (HA'.out _).out | exact (HA'.out _).out.drew)).mono ?_; rintro e' w6 ⟨rfl, h6, g6⟩; have kf := fun i => far_cell (g := wr.heap.size) (i := i) g6 (by simp) (by omega)))
            all_goals
              go_wp2_with fail
              go_meet
              refine ⟨rfl, congrArg (Value.int .i64) HV.out, ⟨h6, ((HST.out.below.alloc hsz _).drew).grown g6 (by simp; omega) (fun k hk => by injection hk with hk; have := HST.out.le; omega), HST.out.le⟩, ?_⟩
              exact (far_cell (i := 1) g6 (by simp) (by omega)).trans (by simp)
          · have HV : Hid ((8 : Int) = ((Oct.width 8 : Nat) : Int)) := Lib.hid rfl
            go_region_held3 (fun w' => w'.cell? ⟨wr.heap.size, 2, none⟩ = some (.int .i64 8)) (first | go_keep | (rw [kf]; go_keep) | (simp [kf]))
              ((go_at_call 19; refine (HC.out _ (by first | exact (HA'.out _).out | exact (HA'.out _).out.drew)).mono ?_; rintro e' w6 ⟨rfl, h6, g6⟩; have kf := fun i => far_cell (g := wr.heap.size) (i := i) g6 (by simp) (by omega)))
            all_goals
              go_wp2_with fail
              go_meet
              refine ⟨rfl, congrArg (Value.int .i64) HV.out, ⟨h6, ((HST.out.below.alloc hsz _).drew).grown g6 (by simp; omega) (fun k hk => by injection hk with hk; have := HST.out.le; omega), HST.out.le⟩, ?_⟩
              exact (far_cell (i := 1) g6 (by simp) (by omega)).trans (by simp)
          · have HV : Hid ((8 : Int) = ((Oct.width by' : Nat) : Int)) := Lib.hid (by rw [Oct.width_high (by omega)]; rfl)
            go_region_held3 (fun w' => w'.cell? ⟨wr.heap.size, 2, none⟩ = some (.int .i64 by')) (first | go_keep | (rw [kf]; go_keep) | (simp [kf]))
              ((go_at_call 19; refine (HC.out _ (by first | exact (HA'.out _).out | exact (HA'.out _).out.drew)).mono ?_; rintro e' w6 ⟨rfl, h6, g6⟩; have kf := fun i => far_cell (g := wr.heap.size) (i := i) g6 (by simp) (by omega)))
            all_goals
              go_wp2_with fail
              go_meet
              refine ⟨rfl, congrArg (Value.int .i64) HV.out, ⟨h6, ((HST.out.below.alloc hsz _).drew).grown g6 (by simp; omega) (fun k hk => by injection hk with hk; have := HST.out.le; omega), HST.out.le⟩, ?_⟩
              exact (far_cell (i := 1) g6 (by simp) (by omega)).trans (by simp)
        case rest =>
          obtain ⟨rfl, rfl, hst6, k1⟩ := hcut
          have H6 := Lib.hid hst6
          have hk8 := Oct.width_le by'
          clear hst6 HC HD
          generalize Oct.width by' = kk at *
          by_cases hkk : kk = 8
          · subst hkk
            have e : N = nm := by rw [← HN.out]; exact Nat.mod_eq_of_lt hfn
            subst e
            go_wp2_with fail
            go_quiet (fail)
            go_wp2_with fail
            go_roundw
            case rel => exact ⟨k + 1, by omega, by go_num, H6.out.drewN nq⟩
            case measure => simp [intOf]; omega
          · have hkk7 : kk < 8 := by omega
            have tb : (N : Int) = (nm : Int) % ((256 ^ kk : Nat) : Int) := by rw [← HN.out]; exact Int.natCast_emod _ _
            clear HN hkk
            rcases (show kk = 0 ∨ kk = 1 ∨ kk = 2 ∨ kk = 3 ∨ kk = 4 ∨ kk = 5 ∨ kk = 6 ∨ kk = 7 by omega) with rfl | rfl | rfl | rfl | rfl | rfl | rfl | rfl
            all_goals
              simp at tb
              go_wp2_with fail
              go_quiet (fail)
              go_wp2_with fail
              go_roundw
              case rel => exact ⟨k + 1, by omega, by go_num, H6.out.drewN nq⟩
              case measure => simp [intOf]; omega
      · by_cases h1 : x.kind = 1
        · have hk0 : ((x.kind : Int) == 0) = false := by simp; omega
          have hk1 : ((x.kind : Int) == 1) = true := by simp; omega
          have HE : encIt x = textB x.text := by unfold encIt; rw [if_neg h0, if_pos h1]
          rw [HE] at HD
          have hta := text_app x.text (enc (l.drop (k + 1))) hs
          have hcall : ∀ W, InAt bI (enc (l.drop k)) 0 W → Calls Try.prog 21 #[.pointer (some ⟨bI, 0, none⟩), .int .i64 100] W (Post bI W (.string x.text) (enc (l.drop (k + 1))) 0) := fun W hW => by
            have h := itext_any bI (enc (l.drop k), 0) 100 W hW (fun h => absurd rfl h)
            rw [HD.out, hta.1, hta.2] at h
            exact h
          have HC := Lib.hid hcall
          clear hcall hta HE h0 h1
          obtain ⟨kd, nm, by', tx⟩ := x
          simp only at *
          go_wp2_with fail
          · go_region_held3 (fun w' => w'.cell? ⟨wr.heap.size, 3, none⟩ = some (.string tx)) (first | go_keep | (rw [kf]; go_keep) | (simp [kf]))
              ((go_at_call 21; refine (HC.out _ (by first | exact (HA'.out _).out | exact (HA'.out _).out.drew)).mono ?_; rintro e' w6 ⟨rfl, h6, g6⟩; have kf := fun i => far_cell (g := wr.heap.size) (i := i) g6 (by simp) (by omega)))
            all_goals
              go_wp2_with fail
              go_roundw
              case rel => exact ⟨k + 1, by omega, by go_num, ⟨h6, ((HST.out.below.alloc hsz _).drew).grown g6 (by simp; omega) (fun k hk => by injection hk with hk; have := HST.out.le; omega), HST.out.le⟩⟩
              case measure => simp [intOf]; omega
        · have hk0 : ((x.kind : Int) == 0) = false := by simp; omega
          have hk1 : ((x.kind : Int) == 1) = false := by simp; omega
          have HE : encIt x = x.text := by unfold encIt; rw [if_neg h0, if_neg h1]
          rw [HE] at HD
          have hta := raw_app x.text (enc (l.drop (k + 1)))
          have hcall : ∀ W, InAt bI (enc (l.drop k)) 0 W → Calls Try.prog 23 #[.pointer (some ⟨bI, 0, none⟩), .int .i64 (x.text.size : Int)] W (Post bI W (.string x.text) (enc (l.drop (k + 1))) 0) := fun W hW => by
            have h := iraw_any bI (enc (l.drop k)) 0 (x.text.size : Int) W hW (fun h => absurd rfl h)
            have e := hta.2
            unfold sRaw at e
            simp only [Prod.mk.injEq] at e
            rw [HD.out, hta.1, e.1, e.2] at h
            exact h
          have HC := Lib.hid hcall
          clear hcall hta HE h0 h1
          obtain ⟨kd, nm, by', tx⟩ := x
          simp only at *
          go_wp2_with fail
          · go_region_held3 (fun w' => w'.cell? ⟨wr.heap.size, 3, none⟩ = some (.string tx)) (first | go_keep | (rw [kf]; go_keep) | (simp [kf]))
              ((go_at_call 23; refine (HC.out _ (by first | exact (HA'.out _).out | exact (HA'.out _).out.drew)).mono ?_; rintro e' w6 ⟨rfl, h6, g6⟩; have kf := fun i => far_cell (g := wr.heap.size) (i := i) g6 (by simp) (by omega)))
            all_goals
              go_wp2_with fail
              go_roundw
              case rel => exact ⟨k + 1, by omega, by go_num, ⟨h6, ((HST.out.below.alloc hsz _).drew).grown g6 (by simp; omega) (fun k hk => by injection hk with hk; have := HST.out.le; omega), HST.out.le⟩⟩
              case measure => simp [intOf]; omega
    · obtain rfl : k = l.length := by omega
      have HE : enc (l.drop l.length) = ByteArray.empty := by rw [List.drop_length]; rfl
      rw [HE] at HST
      have hat := HST.out.at_
      have H1 := Lib.hid (end_any bI ByteArray.empty 0 wr hat)
      have H2 := Lib.hid (left_any bI ByteArray.empty 0 wr hat)
      clear hat HE
      go_wp2_with fail
      refine H1.out.mono ?_
      rintro e' w' ⟨rfl, rfl⟩
      have hz : endOf ByteArray.empty 0 = 0 := rfl
      go_wp2_with fail
      refine H2.out.mono ?_
      rintro e' w' ⟨rfl, rfl⟩
      go_wp2_with fail
      go_ret
      exact ⟨rfl, HST.out.below⟩

set_option maxHeartbeats 1000000 in
theorem back_heavy (A : Option Addr) (l : List It) (c : Nat) (w : World) (hI : Items w w.heap.size A l) (hl : ¬ Light l) (hlen : l.length ≤ 9223372036854775807) :
    Calls Try.prog 5 #[.slice A l.length c] w fun x w' => x = .returned (.bool true) ∧ Below w.heap.size w w' := by
  have HL := Lib.hid hl
  have HI := Lib.hid hI
  clear hl hI
  go_enter Try.func5, Try.ntmps5
  go_wp2_with fail
  refine (awake_any _).mono ?_
  rintro x w1 ⟨rfl, b1⟩
  have B1 := Lib.hid b1
  clear b1
  go_wp2_with fail
  refine (light_no A l c _ ((HI.out.below B1.out).more' B1.out.size) HL.out hlen).mono ?_
  rintro x w2 ⟨rfl, b2⟩
  have B2 := Lib.hid (Below.trans B1.out (b2.mono B1.out.size))
  clear b2
  go_wp2_with fail
  go_ret
  exact ⟨rfl, B2.out⟩
theorem back_walk (A : Option Addr) (l : List It) (c : Nat) (w : World) (hI : Items w w.heap.size A l) (hlen : l.length ≤ 9223372036854775807) :
    Calls Try.prog 5 #[.slice A l.length c] w fun x w' => x = .returned (.bool true) ∧ Below w.heap.size w w' := by
  by_cases hl : Light l
  · exact back_light A l c w hI hl
  · exact back_heavy A l c w hI hl hlen
end Go.Proofs.Yteblkbgcefgplaa
