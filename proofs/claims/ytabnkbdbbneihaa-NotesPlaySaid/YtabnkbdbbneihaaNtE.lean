/-
  THE CHAPTER's EXAMPLE; what is gone through: walked.
-/
import Derived.Test.YtabnkbdbbneihaaNtD
namespace Go.Proofs.Ytabnkbdbbneihaa
open Go.ChangeShapes Go.WideShapes Go.ChangeAt Go.RowKit

theorem octAw_any (w : World) : Calls Try.prog 27 #[] w fun x w' => x = .returned (.bool true) ∧ Below w.heap.size w w' := by
  go_enter Try.func27, Try.ntmps27
  go_wp2_with fail
  refine (octAwake_any _).mono ?_
  rintro x w1 ⟨rfl, b1⟩
  have B1 := Lib.hid b1
  clear b1
  go_wp2_with fail
  go_ret
  exact ⟨rfl, B1.out⟩
def aw19 (k : Nat) : List Nt := (List.range k).map fun i => ⟨0, i, []⟩
theorem aw19_add (k : Nat) (hk : k < 40) : Nt.addT k ⟨0, k, []⟩ = k + 1 ∧ Nt.addK k (lastN 32 (aw19 k)) ⟨0, k, []⟩ = lastN 32 (aw19 (k + 1)) ∧ Nt.addC k ⟨0, k, []⟩ = 0 := by
  have h0 : ¬ 64 < ([] : List UInt8).length := by decide
  have h1 : ¬ k = 18446744073709551615 := by omega
  unfold Nt.addT Nt.addK Nt.addC
  simp only [if_neg h0, if_neg h1]
  refine ⟨trivial, ?_, trivial⟩
  rw [lastN_snoc (by decide)]
  unfold aw19
  rw [List.range_succ, List.map_append]
  rfl
theorem aw19_end : ∃ L, L = lastN 32 (aw19 40) ∧ L.length = 32 ∧ L.getD 0 Nt.zero = ⟨0, 8, []⟩ := ⟨_, rfl, rfl, rfl⟩
/-- the box of Notes: how many came, what is kept -/
structure NtBox (b : Nat) (T : Nat) (l : List Nt) (w : World) : Prop where
  at_ : ∃ A c, Du2 b (.int .u64 (T : Int)) (.slice A l.length c) w ∧ l.length ≤ c ∧ (A = none → c = 0) ∧ Nts w A l ∧ ∀ a, A = some a → a.block ≠ b
theorem NtBox.on {b T : Nat} {l : List Nt} {w w' : World} (h : NtBox b T l w) (hb : Below w.heap.size w w') : NtBox b T l w' := by
  obtain ⟨A, c, h1, h2, h3, h4, h5⟩ := h.at_
  exact ⟨A, c, h1.on hb, h2, h3, h4.on hb, h5⟩
def Aw19St (w : World) (g : Nat) (i : Value) (wr : World) : Prop := ∃ k : Nat, k + g = 40 ∧ i = .int .i64 (k : Int) ∧ NtBox w.heap.size k (lastN 32 (aw19 k)) wr ∧ Below w.heap.size w wr
set_option maxRecDepth 100000 in
set_option maxHeartbeats 4000000 in
theorem awake19_any (w : World) : Calls Try.prog 7 #[] w fun x w' => x = .returned (.bool true) ∧ Below w.heap.size w w' := by
  have HS := Lib.hid (show NtBox w.heap.size 0 (lastN 32 (aw19 0)) (w.alloc (.cells #[.int .u64 0, .slice none 0 0] 27)) from ⟨none, 0, Du2.new _ _ _ _, Nat.le_refl _, fun _ => rfl, Nts.nil _ _, fun a h => by cases h⟩)
  have HB := Lib.hid (alloc1B w (.cells #[.int .u64 0, .slice none 0 0] 27))
  go_enter Try.func7, Try.ntmps7
  go_wp2_with fail
  go_loopg [7] 40 (fun g i wr => Aw19St w g i wr)
  case atStart => exact ⟨0, rfl, rfl, HS.out, HB.out⟩
  case round =>
    obtain ⟨k, hk, rfl, hbox, hB⟩ := hrel
    obtain ⟨A, c, hd, hc, hn, hN, hne⟩ := hbox.at_
    have HK := Lib.hid hk
    have HBe := Lib.hid hB
    have HBX := Lib.hid hbox
    have e0 := hd.c0
    have e1 := hd.c1
    have ef := hd.fz
    have el := hd.lt
    have HD := Lib.hid hd
    have HNE := Lib.hid hne
    by_cases hlt : k < 40
    · have HA := Lib.hid (aw19_add k hlt)
      have HC := Lib.hid (ntAdd_any k c A (lastN 32 (aw19 k)) ⟨0, k, []⟩ wr (lastN_le _ _) hc hn (by omega) (by simp) hN)
      unfold NtAddPost at HC
      rw [HA.out.1, HA.out.2.1, HA.out.2.2] at HC
      rw [show ofL (⟨0, k, []⟩ : Nt).b = ⟨#[]⟩ from rfl] at HC
      simp only at HC
      generalize hL1 : lastN 32 (aw19 (k + 1)) = L1 at *
      have HL1 := Lib.hid hL1
      clear hL1
      generalize lastN 32 (aw19 k) = L0 at *
      clear hk hbox hB hd hne hN hc hn
      go_wp2_with fail
      refine HC.out.mono ?_
      rintro e w1 ⟨A', c', rfl, hc', hn', hN', hne', b1⟩
      have hd1 := HD.out.on b1
      have f0 := hd1.c0
      have f1 := hd1.c1
      have ff := hd1.fz
      have fl := hd1.lt
      have HX := Lib.hid (show NtBox w.heap.size (k + 1) L1 ((w1.setCell ⟨w.heap.size, 0, none⟩ (.int .u64 ((k : Int) + 1))).setCell ⟨w.heap.size, 1, none⟩ (.slice A' L1.length c')) from
        have hz : ∀ a, A' = some a → a.block ≠ w.heap.size := fun a ha => (hne' a ha).elim (fun h => HNE.out a h) (fun h => by have := h.1; omega)
        ⟨A', c', hd1.set _ _, hc', hn', hN'.put2 hz _ _, hz⟩)
      have HB1 := Lib.hid (((bthen HBe.out b1 (Nat.le_refl _)).setCell (p := ⟨w.heap.size, 0, none⟩) (Nat.le_refl _) (.int .u64 ((k : Int) + 1))).setCell (p := ⟨w.heap.size, 1, none⟩) (Nat.le_refl _) (.slice A' L1.length c'))
      clear e0 e1 ef el hc' hn' hN' hne' b1 hd1
      go_wp2_with fail
      go_roundg (gk - 1)
      case rel => exact ⟨k + 1, by have := HK.out; omega, by go_num, by rw [HL1.out]; exact HX.out, HB1.out⟩
      case measure => have := HK.out; omega
    · have h40 : k = 40 := by omega
      subst h40
      obtain ⟨L, hL, hl32, hL0⟩ := aw19_end
      rw [← hL] at hd hN HD HBX
      clear hbox hL
      have HG9 := Lib.hid (fun W h => ntGet_any 40 c A L 9 W (by omega) (by omega) (by omega) (by omega) h)
      have HG8 := Lib.hid (fun W h => ntGet_any 40 c A L 8 W (by omega) (by omega) (by omega) (by omega) h)
      rw [hl32, show Nt.has 40 32 9 = true from rfl, if_pos rfl, show 9 - (40 - 32) - 1 = 0 from rfl, hL0] at HG9
      rw [hl32, show Nt.has 40 32 8 = false from rfl, if_neg (by decide)] at HG8
      have HN := Lib.hid hN
      have HT := Lib.hid (fun n W => ntTotal_any 40 n c A W)
      rw [hl32] at HD
      have e0 := HD.out.c0
      have e1 := HD.out.c1
      clear hB hd hne hN hc hn hk hl32 hL0 ef HBX HNE
      go_wp2_with fail
      refine (HG9.out _ HN.out).mono ?_
      rintro e w1 ⟨rfl, b1⟩
      have HD1 := Lib.hid (HD.out.on b1)
      have HN1 := Lib.hid (HN.out.on b1)
      have HB1 := Lib.hid (bthen HBe.out b1 (Nat.le_refl _))
      clear e0 e1 el b1
      simp only [ntV]
      have e0 := HD1.out.c0
      have e1 := HD1.out.c1
      have el := HD1.out.lt
      have HQ1 := Lib.hid (show (w1.alloc (.cells #[.int .u64 0, .int .u8 8, .string (ofL [])] 32)).cell? ⟨w1.heap.size, 1, none⟩ = some (.int .u8 8) from cell_new _ _ _ _ _ rfl)
      have HL1 := Lib.hid (alloc1B w1 (.cells #[.int .u64 0, .int .u8 8, .string (ofL [])] 32))
      have HZ1 := Lib.hid (show w1.heap.size < (w1.alloc (.cells #[.int .u64 0, .int .u8 8, .string (ofL [])] 32)).heap.size by simp)
      go_wp2_with fail
      refine (HG8.out _ (HN1.out.on HL1.out)).mono ?_
      rintro e w2 ⟨rfl, b2⟩
      have HQ2 := Lib.hid ((b2.cell (p := ⟨w1.heap.size, 1, none⟩) HZ1.out).trans HQ1.out)
      have HD2 := Lib.hid ((HD1.out.on HL1.out).on b2)
      have HB2 := Lib.hid (bthen (bthen HB1.out HL1.out (Nat.le_refl _)) b2 (Nat.le_refl _))
      have HZ2 := Lib.hid (Nat.lt_of_lt_of_le HZ1.out b2.size)
      clear e0 e1 el b2
      simp only [ntV, Nt.zero]
      have HL2 := Lib.hid (alloc1B w2 (.cells #[.int .u64 0, .int .u8 0, .string (ofL [])] 32))
      have HZ3 := Lib.hid (show w1.heap.size < (w2.alloc (.cells #[.int .u64 0, .int .u8 0, .string (ofL [])] 32)).heap.size by have := HZ2.out; simp; omega)
      go_wp2_with fail
      refine (octAw_any _).mono ?_
      rintro e w3 ⟨rfl, b3⟩
      have e2 := (b3.cell (p := ⟨w1.heap.size, 1, none⟩) HZ3.out).trans ((HL2.out.cell (p := ⟨w1.heap.size, 1, none⟩) HZ2.out).trans HQ2.out)
      have hd3 := (HD2.out.on HL2.out).on b3
      have e0 := hd3.c0
      have e1 := hd3.c1
      have HB3 := Lib.hid (bthen (bthen HB2.out HL2.out (Nat.le_refl _)) b3 (Nat.le_refl _))
      clear b3 hd3
      go_wp2_with fail
      refine (HT.out _ _).mono ?_
      rintro e w4 ⟨rfl, b4⟩
      have HB4 := Lib.hid (bthen HB3.out b4 (Nat.le_refl _))
      clear b4 e0 e1 e2
      go_wp2_with fail
      go_ret
      exact ⟨rfl, HB4.out⟩
end Go.Proofs.Ytabnkbdbbneihaa
