/-
  MAY A POLICY BE: the program's Check, walked: slots and turns.
-/
import Derived.Test.YtokljdaofjgihaaGreatDoorPolC
namespace Go.Proofs.YtokljdaofjgihaaGreatDoor
open Go.ChangeShapes Go.WideShapes Go.ChangeAt Go.RowKit

theorem contI_any (l : List Int) (A : Option Addr) (c : Nat) (x : Int) (w : World) (hl : l.length ≤ 100000) (hp : Ints w A l) :
    Calls Tryz.prog 74 #[.slice A l.length c, .int .i64 x] w fun e w' => e = .returned (.bool (l.contains x)) ∧ w = w' := by
  by_cases h0 : l.length = 0
  · have hn : l = [] := List.length_eq_zero_iff.1 h0
    subst hn
    refine (Tryz.slices_Contains_int_empty A c x w).mono ?_
    rintro e w' ⟨rfl, rfl⟩
    exact ⟨rfl, rfl⟩
  · obtain ⟨b, off, rfl, -, -⟩ := hp.at_ 0 (by omega)
    have h := Tryz.slices_Contains_int b off l.length c l x w (Nat.le_refl _) (by omega) (fun j hj => by
      obtain ⟨b', off', e, -, hc⟩ := hp.at_ j hj
      obtain ⟨rfl, rfl⟩ : b = b' ∧ off = off' := by simpa using e
      exact hc)
    rw [List.take_length] at h
    refine h.mono ?_
    rintro e w' ⟨rfl, rfl⟩
    exact ⟨rfl, rfl⟩
def ChkSl (n : Nat) (l : List Int) (w : World) (x0 x1 x2 x3 x4 : Value) (g : Nat) (i : Value) (wr : World) : Prop :=
  ∃ k : Nat, k + g = l.length ∧ i = .int .i64 (k : Int) ∧ (∀ j, j < k → (if Pl.has n (l.getD j 0) then 0 else 10) = 0) ∧ Below w.heap.size w wr ∧ Cell5 wr w.heap.size x0 x1 x2 x3 x4
set_option maxHeartbeats 2000000 in
theorem checkSlots_any (p : Pl.Pol) (pa : Option Addr) (pc : Nat) (sa : Option Addr) (sc : Nat) (ga : Option Addr) (gc : Nat) (w : World) (hl : p.slots.length ≤ 100000) (hlp : p.places.length ≤ 100000) (hs : Ints w sa p.slots) :
    Calls Tryz.prog 45 #[polV p pa pc sa sc ga gc] w fun e w' => e = .returned (.int .i64 (Pl.slotsCode p.places.length p.slots : Int)) ∧ Below w.heap.size w w' := by
  have HP := Lib.hid hs
  clear hs
  have HK := Lib.hid (fun W => counted_32 p.slots.length W)
  have HX : Hid (Pl.slotsCode p.places.length p.slots = if Pl.counted p.slots.length 32 ≠ 0 then Pl.counted p.slots.length 32 else Pl.scan (fun i => if Pl.has p.places.length (p.slots.getD i 0) then 0 else 10) p.slots.length) := rfl
  have HH := Lib.hid (fun i W => phas_any p pa pc sa sc ga gc i W hlp)
  obtain ⟨wk, gv, pl, l, gr⟩ := p
  simp only [polV] at *
  try simp only at HK HX HP
  generalize pl.length = np at *
  have HB0 := Lib.hid (show Below w.heap.size w (w.alloc (.cells #[.int .i64 wk, .int .i64 gv, .slice pa np pc, .slice sa l.length sc, .slice ga gr.length gc] 26)) from (Below.refl _ _).alloc (Nat.le_refl _) _)
  have HC0 := Lib.hid (Cell5.new w (.int .i64 wk) (.int .i64 gv) (.slice pa np pc) (.slice sa l.length sc) (.slice ga gr.length gc) 26)
  have HSC0 := Lib.hid (fun h => Pl.scan_zero (f := fun i => if Pl.has np (l.getD i 0) then 0 else 10) (n := l.length) h)
  have HSC1 := Lib.hid (fun k hk h hf => Pl.scan_at (f := fun i => if Pl.has np (l.getD i 0) then 0 else 10) (n := l.length) (k := k) hk h hf)
  generalize Pl.slotsCode np l = M at *
  generalize Pl.scan _ l.length = S at *
  generalize Pl.counted l.length 32 = N at *
  obtain ⟨n, hn⟩ : ∃ n, n = l.length := ⟨_, rfl⟩
  rw [← hn] at HK HB0 HC0 hl HH ⊢
  have HN := Lib.hid hn
  clear hn
  by_cases hN : N = 0
  · have hne := isz hN
    have HM := Lib.hid (show M = S by rw [HX.out, if_neg (by rw [hN]; simp)])
    clear hN
    go_enter Tryz.func45, Tryz.ntmps45
    go_wp2_with fail
    with_reducible refine (HK.out _).mono ?_
    rintro e w' ⟨rfl, rfl⟩
    go_wp2_with fail
    go_loopg [16] n (fun g i wr => ChkSl np l w (.int .i64 wk) (.int .i64 gv) (.slice pa np pc) (.slice sa n sc) (.slice ga gr.length gc) g i wr)
    case atStart => exact ⟨0, by have := HN.out; omega, rfl, fun j hj => absurd hj (by omega), HB0.out, HC0.out⟩
    case round =>
      obtain ⟨k, hk, rfl, hno, hB, hC⟩ := hrel
      have HB := Lib.hid hB
      have HNO := Lib.hid hno
      have HKK := Lib.hid hk
      have HC := Lib.hid hC
      clear hB hno hk hC
      by_cases hlt : k < n
      · have hkl : k < l.length := by have := HN.out; omega
        obtain ⟨b, off, rfl, hbl, hat⟩ := (HP.out.on HB.out).at_ k hkl
        have HQ : Hid (∀ h, Pl.has np (l.getD k 0) = false → S = 10) := fun h hq => by
          have := HSC1.out k hkl h (by rw [hq]; simp)
          rw [this, hq]; rfl
        have HNX : Hid (Pl.has np (l.getD k 0) = true → ∀ j, j < k + 1 → (if Pl.has np (l.getD j 0) then 0 else 10) = 0) := fun h j hj => by
          by_cases e : j = k
          · rw [e, h]; rfl
          · exact HNO.out j (by omega)
        have HCALL := Lib.hid (fun W => HH.out (l.getD k 0) W)
        obtain ⟨p0, p1, p2, p3, p4⟩ := HC.out
        clear hkl
        generalize l.getD k 0 = x at *
        cases hx : Pl.has np x with
        | true =>
          have HNX := Lib.hid (HNX.out hx)
          rw [hx] at HCALL
          clear hx
          go_wp2_with fail
          with_reducible refine (HCALL.out _).mono ?_
          rintro e w1 ⟨rfl, hB⟩
          have HB1 := Lib.hid (bthen HB.out hB (Nat.le_refl _))
          have HC1 := Lib.hid (HC.out.on hB)
          clear hB
          go_wp2_with fail
          go_roundg (gk - 1)
          case rel => exact ⟨k + 1, by have := HKK.out; have := HN.out; omega, by go_num, HNX.out, HB1.out, HC1.out⟩
          case measure => have := HKK.out; have := HN.out; omega
        | false =>
          have HE := Lib.hid (HQ.out HNO.out hx)
          rw [hx] at HCALL
          clear hx
          go_wp2_with fail
          with_reducible refine (HCALL.out _).mono ?_
          rintro e w1 ⟨rfl, hB⟩
          have HB1 := Lib.hid (bthen HB.out hB (Nat.le_refl _))
          clear hB
          go_wp2_with fail
          go_ret
          exact ⟨ret_nat (by rw [HM.out, HE.out]; rfl), HB1.out⟩
      · have HE := Lib.hid (HSC0.out (fun i hi => HNO.out i (by have := HN.out; have := HKK.out; omega)))
        go_wp2_with fail
        go_ret
        exact ⟨ret_nat (by rw [HM.out, HE.out]; rfl), HB.out⟩
  · have hne := nz hN
    have HM := Lib.hid (show M = N by rw [HX.out, if_pos hN])
    clear hN
    go_enter Tryz.func45, Tryz.ntmps45
    go_wp2_with fail
    with_reducible refine (HK.out _).mono ?_
    rintro e w' ⟨rfl, rfl⟩
    go_wp2_with fail
    go_ret
    exact ⟨ret_nat (by rw [HM.out]), HB0.out⟩
def ChkTu (n : Nat) (l : List Int) (w : World) (x0 x1 x2 x3 x4 : Value) (g : Nat) (i : Value) (wr : World) : Prop :=
  ∃ k : Nat, k + g = n ∧ i = .int .i64 (k : Int) ∧ (∀ j : Nat, j < k → (if l.contains (j : Int) then 0 else 15) = 0) ∧ Below w.heap.size w wr ∧ Cell5 wr w.heap.size x0 x1 x2 x3 x4
set_option maxHeartbeats 2000000 in
theorem checkTurns_any (p : Pl.Pol) (pa : Option Addr) (pc : Nat) (sa : Option Addr) (sc : Nat) (ga : Option Addr) (gc : Nat) (w : World) (hl : p.slots.length ≤ 100000) (hlp : p.places.length ≤ 100000) (hs : Ints w sa p.slots) :
    Calls Tryz.prog 47 #[polV p pa pc sa sc ga gc] w fun e w' => e = .returned (.int .i64 (Pl.turnsCode p.places.length p.slots : Int)) ∧ Below w.heap.size w w' := by
  have HP := Lib.hid hs
  clear hs
  obtain ⟨wk, gv, pl, l, gr⟩ := p
  simp only [polV] at *
  try simp only at HP
  have HCI := Lib.hid (fun x W h => contI_any l sa sc x W hl h)
  generalize pl.length = np at *
  have HB0 := Lib.hid (show Below w.heap.size w (w.alloc (.cells #[.int .i64 wk, .int .i64 gv, .slice pa np pc, .slice sa l.length sc, .slice ga gr.length gc] 26)) from (Below.refl _ _).alloc (Nat.le_refl _) _)
  have HC0 := Lib.hid (Cell5.new w (.int .i64 wk) (.int .i64 gv) (.slice pa np pc) (.slice sa l.length sc) (.slice ga gr.length gc) 26)
  have HSC0 := Lib.hid (fun h => Pl.scan_zero (f := fun i => if l.contains (i : Int) then 0 else 15) (n := np) h)
  have HSC1 := Lib.hid (fun k hk h hf => Pl.scan_at (f := fun i => if l.contains (i : Int) then 0 else 15) (n := np) (k := k) hk h hf)
  have HX : Hid (Pl.turnsCode np l = Pl.scan (fun i => if l.contains (i : Int) then 0 else 15) np) := rfl
  rw [← HX.out] at HSC0 HSC1
  generalize Pl.turnsCode np l = M at *
  clear HX
  go_enter Tryz.func47, Tryz.ntmps47
  go_wp2_with fail
  go_loopg [7] np (fun g i wr => ChkTu np l w (.int .i64 wk) (.int .i64 gv) (.slice pa np pc) (.slice sa l.length sc) (.slice ga gr.length gc) g i wr)
  case atStart => exact ⟨0, by omega, rfl, fun j hj => absurd hj (by omega), HB0.out, HC0.out⟩
  case round =>
    obtain ⟨k, hk, rfl, hno, hB, hC⟩ := hrel
    have HB := Lib.hid hB
    have HNO := Lib.hid hno
    have HKK := Lib.hid hk
    have HC := Lib.hid hC
    clear hB hno hk hC
    by_cases hlt : k < np
    · have HCALL := Lib.hid (HCI.out (k : Int) wr (HP.out.on HB.out))
      obtain ⟨p0, p1, p2, p3, p4⟩ := HC.out
      have HQ : Hid (∀ h, l.contains (k : Int) = false → M = 15) := fun h hq => by
        have := HSC1.out k hlt h (by rw [hq]; simp)
        rw [this, hq]; rfl
      have HNX : Hid (l.contains (k : Int) = true → ∀ j : Nat, j < k + 1 → (if l.contains (j : Int) then 0 else 15) = 0) := fun h j hj => by
        by_cases e : j = k
        · rw [e, h]; rfl
        · exact HNO.out j (by omega)
      cases hx : l.contains (k : Int) with
      | true =>
        have HNX := Lib.hid (HNX.out hx)
        rw [hx] at HCALL
        clear hx HQ
        go_wp2_with fail
        with_reducible refine HCALL.out.mono ?_
        rintro e w' ⟨rfl, rfl⟩
        go_wp2_with fail
        go_roundg (gk - 1)
        case rel => exact ⟨k + 1, by have := HKK.out; omega, by go_num, HNX.out, HB.out, HC.out⟩
        case measure => have := HKK.out; omega
      | false =>
        have HE := Lib.hid (HQ.out HNO.out hx)
        rw [hx] at HCALL
        clear hx HQ
        go_wp2_with fail
        with_reducible refine HCALL.out.mono ?_
        rintro e w' ⟨rfl, rfl⟩
        go_wp2_with fail
        go_ret
        exact ⟨ret_nat (by rw [HE.out]; rfl), HB.out⟩
    · have HE := Lib.hid (HSC0.out (fun i hi => HNO.out i (by have := HKK.out; omega)))
      go_wp2_with fail
      go_ret
      exact ⟨ret_nat (by rw [HE.out]; rfl), HB.out⟩
end Go.Proofs.YtokljdaofjgihaaGreatDoor
