/-
  THE WALK of OctetWrites: the bytes of items, one behind the other.
  (Items that are gone through; and others.)
-/
import Derived.Test.YteblkbgcefgplaaText
namespace Go.Proofs.Yteblkbgcefgplaa
open Go.ChangeShapes Go.WideShapes Go.ChangeAt Go.RowKit

theorem Items.more {w : World} {B B' : Nat} {A : Option Addr} {l : List It} (h : Items w B A l) (hB : B ≤ B') : Items w B' A l := fun i hi => by
  obtain ⟨b, off, hA, hlt, hf, hat⟩ := h i hi
  exact ⟨b, off, hA, by omega, hf, hat⟩
theorem bcell {W w1 : World} (hb : Below W.heap.size W w1) : (∀ b o, b < W.heap.size → w1.cell? ⟨b, o, none⟩ = W.cell? ⟨b, o, none⟩) ∧ (∀ b o, b < W.heap.size → w1.frozen? ⟨b, o, none⟩ = W.frozen? ⟨b, o, none⟩) :=
  ⟨fun b o h => hb.cell (p := ⟨b, o, none⟩) h, fun b o h => hb.frozen (p := ⟨b, o, none⟩) h⟩

set_option maxHeartbeats 2000000 in
theorem writes_light (A : Option Addr) (l : List It) (c : Nat) (w : World) (hI : Items w w.heap.size A l) (hl : Light l) :
    Calls Try.prog 3 #[.slice A l.length c] w fun x w' => x = .returned (.bool true) ∧ Below w.heap.size w w' := by
  have h20 := hl.1
  have HL := Lib.hid hl
  have HI := Lib.hid hI
  clear hl hI
  go_enter Try.func3, Try.ntmps3
  go_wp2_with fail
  refine (awake_any _).mono ?_
  rintro x w1 ⟨rfl, b1⟩
  have B1 := Lib.hid b1
  clear b1
  go_wp2_with fail
  refine (light_yes A l c _ ((HI.out.below B1.out).more B1.out.size) HL.out).mono ?_
  rintro x w2 ⟨rfl, b2⟩
  have B2 := Lib.hid (Below.trans B1.out (b2.mono B1.out.size))
  clear b2
  go_wp2_with fail
  go_loopw [3, 15] (fun s i wr => ∃ k : Nat, k ≤ l.length ∧ i = .int .i64 k ∧ s = .string (enc (l.take k)) ∧ Below w.heap.size w wr) (fun _ i _ => l.length - (intOf i).toNat)
  case atStart => exact ⟨0, by omega, rfl, rfl, B2.out⟩
  case round =>
    obtain ⟨k, hk, rfl, rfl, hb⟩ := hrel
    have HB := Lib.hid hb
    clear hb
    have hacc := enc_size l HL.out k hk
    by_cases hlt : k < l.length
    · obtain ⟨b, off, rfl, hbl, hf, hat⟩ := HI.out k hlt
      have hat' := hat.below HB.out hbl
      have hs := HL.out.2 k hlt
      have hsz := HB.out.size
      have HN := Lib.hid (enc_next l k hlt)
      obtain ⟨c0, c1, c2, c3⟩ := hat'
      have hfn := hf.num
      clear hat hf
      generalize l.getD k It.zero = x at *
      have hes := encIt_size hs
      generalize enc (l.take k) = acc at *
      by_cases h0 : x.kind = 0
      · have hk0 : ((x.kind : Int) == 0) = true := by simp; omega
        have HE : encIt x = ⟨(Oct.be (Oct.width x.bytes) x.num).toArray⟩ := by unfold encIt; rw [if_pos h0]
        have hc := fun W => rnum_any x.bytes x.num W hfn
        rw [← HE] at hc
        have HC := Lib.hid hc
        clear h0 HE hc
        generalize encIt x = ex at *
        go_wp2_with fail
        refine (HC.out _).mono ?_
        rintro e' w3 ⟨rfl, b3⟩
        have B3 := Lib.hid (Below.trans (HB.out.alloc hsz _) (b3.mono (by simp; omega)))
        clear b3
        go_wp2_with fail
        go_roundw
        case rel => exact ⟨k + 1, by omega, by go_num, by rw [HN.out], B3.out⟩
        case measure => simp [intOf]; omega
      · by_cases h1 : x.kind = 1
        · have hk0 : ((x.kind : Int) == 0) = false := by simp; omega
          have hk1 : ((x.kind : Int) == 1) = true := by simp; omega
          have HE : encIt x = textB x.text := by unfold encIt; rw [if_neg h0, if_pos h1]
          have hc := fun W => rtext_any x.text W (by omega)
          rw [← HE] at hc
          have HC := Lib.hid hc
          clear h0 h1 HE hc
          generalize encIt x = ex at *
          go_wp2_with fail
          refine (HC.out _).mono ?_
          rintro e' w3 ⟨rfl, b3⟩
          have B3 := Lib.hid (Below.trans (HB.out.alloc hsz _) (b3.mono (by simp; omega)))
          clear b3
          go_wp2_with fail
          go_roundw
          case rel => exact ⟨k + 1, by omega, by go_num, by rw [HN.out], B3.out⟩
          case measure => simp [intOf]; omega
        · have hk0 : ((x.kind : Int) == 0) = false := by simp; omega
          have hk1 : ((x.kind : Int) == 1) = false := by simp; omega
          have HE := Lib.hid (show encIt x = x.text by unfold encIt; rw [if_neg h0, if_neg h1])
          clear h0 h1
          go_wp2_with fail
          go_roundw
          case rel => exact ⟨k + 1, by omega, by go_num, by rw [HN.out, HE.out], HB.out.alloc hsz _⟩
          case measure => simp [intOf]; omega
    · obtain rfl : k = l.length := by omega
      have HE := Lib.hid (show enc (l.take l.length) = enc l by rw [List.take_length])
      have hwr := written_any A l c wr ((HI.out.below HB.out).more HB.out.size) HL.out
      rw [← HE.out] at hwr
      generalize enc (l.take l.length) = acc at *
      have HW := Lib.hid hwr
      clear hwr
      have hz := HB.out.size
      go_wp2_with fail
      refine HW.out.mono ?_
      rintro e' w3 ⟨rfl, b3⟩
      have B3 := Lib.hid (Below.trans HB.out (b3.mono hz))
      have hz3 := B3.out.size
      clear b3
      go_wp2_with fail
      have hnum : ∀ W, Calls Try.prog 13 #[.agg #[.string acc, .int .i64 0], .int .u64 1, .int .i64 1] W fun x w' => x = .returned (.agg #[.string (acc ++ ⟨#[1]⟩), .int .i64 0]) ∧ Below W.heap.size W w' := fun W => by
        have := num_any acc 0 1 1 W (by omega) (by omega)
        rw [show ByteArray.mk (Oct.be (Oct.width 1) 1).toArray = ⟨#[1]⟩ by decide] at this
        exact this
      refine (hnum _).mono ?_
      clear hnum
      rintro e' w4 ⟨rfl, b4⟩
      have z4 : w3.heap.size < w4.heap.size := by have := b4.size; simp at this; omega
      have p0 := (b4.cell (p := ⟨w3.heap.size, 0, none⟩) (by simp)).trans (cell_new _ _ _ _ _ rfl)
      have p1 := (b4.cell (p := ⟨w3.heap.size, 1, none⟩) (by simp)).trans (cell_new _ _ _ _ _ rfl)
      simp at p0 p1
      have B4 := Lib.hid (Below.trans (B3.out.alloc hz3 _) (b4.mono (by simp; omega)))
      have hz4 := B4.out.size
      clear b4
      go_wp2_with fail
      refine (str_any _ _ _).mono ?_
      rintro e' w5 ⟨rfl, b5⟩
      have z5 : w4.heap.size < w5.heap.size := by have := b5.size; simp at this; omega
      have q0 := (b5.cell (p := ⟨w3.heap.size, 0, none⟩) (by simp; omega)).trans ((cell_old _ _ _ _ (by omega)).trans p0)
      have q1 := (b5.cell (p := ⟨w3.heap.size, 1, none⟩) (by simp; omega)).trans ((cell_old _ _ _ _ (by omega)).trans p1)
      have s0 := (b5.cell (p := ⟨w4.heap.size, 0, none⟩) (by simp)).trans (cell_new _ _ _ _ _ rfl)
      have s1 := (b5.cell (p := ⟨w4.heap.size, 1, none⟩) (by simp)).trans (cell_new _ _ _ _ _ rfl)
      simp at s0 s1
      have B5 := Lib.hid (Below.trans (B4.out.alloc hz4 _) (b5.mono (by simp; omega)))
      clear b5 p0 p1
      go_wp2_with fail
      refine (oerr_any _ _ _).mono ?_
      rintro e' w6 ⟨rfl, b6⟩
      have z6 := b6.size
      have t0 := (b6.cell (p := ⟨w4.heap.size, 0, none⟩) (by simp; omega)).trans s0
      have t1 := (b6.cell (p := ⟨w4.heap.size, 1, none⟩) (by simp; omega)).trans s1
      have B6 := Lib.hid (Below.trans B5.out (b6.mono (by omega)))
      clear b6 q0 q1 s0 s1
      go_wp2_with fail
      refine (str_any _ _ _).mono ?_
      rintro e' w7 ⟨rfl, b7⟩
      have B7 := Lib.hid (Below.trans B6.out (b7.mono (by omega)))
      clear b7
      go_wp2_with fail
      go_ret
      exact ⟨rfl, B7.out⟩

set_option maxHeartbeats 2000000 in
theorem writes_heavy (A : Option Addr) (l : List It) (c : Nat) (w : World) (hI : Items w w.heap.size A l) (hl : ¬ Light l) (hlen : l.length ≤ 9223372036854775807) :
    Calls Try.prog 3 #[.slice A l.length c] w fun x w' => x = .returned (.bool true) ∧ Below w.heap.size w w' := by
  have HL := Lib.hid hl
  have HI := Lib.hid hI
  clear hl hI
  go_enter Try.func3, Try.ntmps3
  go_wp2_with fail
  refine (awake_any _).mono ?_
  rintro x w1 ⟨rfl, b1⟩
  have B1 := Lib.hid b1
  clear b1
  go_wp2_with fail
  refine (light_no A l c _ ((HI.out.below B1.out).more B1.out.size) HL.out hlen).mono ?_
  rintro x w2 ⟨rfl, b2⟩
  have B2 := Lib.hid (Below.trans B1.out (b2.mono B1.out.size))
  clear b2
  go_wp2_with fail
  go_ret
  exact ⟨rfl, B2.out⟩
theorem writes_walk (A : Option Addr) (l : List It) (c : Nat) (w : World) (hI : Items w w.heap.size A l) (hlen : l.length ≤ 9223372036854775807) :
    Calls Try.prog 3 #[.slice A l.length c] w fun x w' => x = .returned (.bool true) ∧ Below w.heap.size w w' := by
  by_cases hl : Light l
  · exact writes_light A l c w hI hl
  · exact writes_heavy A l c w hI hl hlen
end Go.Proofs.Yteblkbgcefgplaa
