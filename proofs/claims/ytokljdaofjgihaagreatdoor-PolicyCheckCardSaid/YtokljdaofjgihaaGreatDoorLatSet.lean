/-
  THE COMPARTMENTS BEHIND A LEVEL, walked.
-/
import Derived.Test.YtokljdaofjgihaaGreatDoorLatNumber
namespace Go.Proofs.YtokljdaofjgihaaGreatDoor
open Go.ChangeShapes Go.WideShapes Go.ChangeAt Go.RowKit

theorem hasPrefix_long (s p : ByteArray) (w : World) (h : ¬ p.size ≤ s.size) :
    Calls Tryz.prog 104 #[.string s, .string p] w fun e w' => e = .returned (.bool false) ∧ w = w' := by
  go_enter Tryz.func104, Tryz.ntmps104
  go_wp2
  go_ret
  exact ⟨rfl, rfl⟩
theorem hasPrefix_any (s p : ByteArray) (r : Bool) (w : World) (h : p.size ≤ s.size) (hr : ((s.extract 0 p.size).toList == p.toList) = r) :
    Calls Tryz.prog 104 #[.string s, .string p] w fun e w' => e = .returned (.bool r) ∧ w = w' := by
  have HR := Lib.hid hr
  clear hr
  go_enter Tryz.func104, Tryz.ntmps104
  go_wp2
  go_ret
  exact ⟨ret_bool HR.out, rfl⟩
set_option maxHeartbeats 1000000 in
theorem cut_yes (l : List UInt8) (w : World) (hl : l.length < 9223372036854775807) :
    Calls Tryz.prog 147 #[.string (ofL (58 :: l)), .string ⟨#[58]⟩] w fun e w' => e = .returned (.tuple #[.string (ofL l), .bool true]) ∧ w = w' := by
  have hs : (ofL (58 :: l)).size = l.length + 1 := by rw [ofL_size, List.length_cons]
  have h1 : (⟨#[58]⟩ : ByteArray).size ≤ (ofL (58 :: l)).size := by rw [hs]; show 1 ≤ _; omega
  have hc := hasPrefix_any (ofL (58 :: l)) ⟨#[58]⟩ true w h1 (by
    simp only [Go.ByteArray.toList_eq, list_extract]; rfl)
  have HC := Lib.hid hc
  have hle : 1 ≤ (ofL (58 :: l)).size := by omega
  have HE := Lib.hid (show (ofL (58 :: l)).extract 1 (ofL (58 :: l)).size = ofL l by rw [extract_drop]; rfl)
  generalize ofL (58 :: l) = s at *
  clear hc h1 hs
  go_enter Tryz.func147, Tryz.ntmps147
  go_wp2_with fail
  refine HC.out.mono ?_
  rintro e w' ⟨rfl, rfl⟩
  go_wp2_with fail
  go_ret2
  exact ⟨ret_two (by rw [← HE.out]; rfl) rfl, rfl⟩
theorem head_no (s : ByteArray) (b : UInt8) (l : List UInt8) (hs : s.data.toList = b :: l) (hb : b ≠ 58) : ((s.extract 0 (⟨#[58]⟩ : ByteArray).size).toList == (⟨#[58]⟩ : ByteArray).toList) = false := by
  simp only [Go.ByteArray.toList_eq, list_extract, hs]
  show ([b] == [58]) = false
  rw [beq_eq_false_iff_ne]
  intro h
  exact hb (List.cons.inj h).1
set_option maxHeartbeats 1000000 in
theorem cut_no (b : UInt8) (l : List UInt8) (w : World) (hl : l.length < 9223372036854775807) (hb : b ≠ 58) :
    Calls Tryz.prog 147 #[.string (ofL (b :: l)), .string ⟨#[58]⟩] w fun e w' => e = .returned (.tuple #[.string (ofL (b :: l)), .bool false]) ∧ w = w' := by
  have hs : (ofL (b :: l)).size = l.length + 1 := by rw [ofL_size, List.length_cons]
  have h1 : (⟨#[58]⟩ : ByteArray).size ≤ (ofL (b :: l)).size := by rw [hs]; show 1 ≤ _; omega
  have hc := hasPrefix_any (ofL (b :: l)) ⟨#[58]⟩ false w h1 (head_no _ b l rfl hb)
  have HC := Lib.hid hc
  generalize ofL (b :: l) = s at *
  clear hc h1 hs
  go_enter Tryz.func147, Tryz.ntmps147
  go_wp2_with fail
  refine HC.out.mono ?_
  rintro e w' ⟨rfl, rfl⟩
  go_wp2_with fail
  go_ret2
  exact ⟨rfl, rfl⟩
theorem scut_yes (l : List UInt8) (w : World) (hl : l.length < 9223372036854775807) :
    Calls Tryz.prog 131 #[.string (ofL (58 :: l)), .string ⟨#[58]⟩] w fun e w' => e = .returned (.tuple #[.string (ofL l), .bool true]) ∧ w = w' := by
  have HC := Lib.hid (cut_yes l w hl)
  go_enter Tryz.func131, Tryz.ntmps131
  go_wp2_with fail
  refine HC.out.mono ?_
  rintro e w' ⟨rfl, rfl⟩
  go_wp2_with fail
  go_ret2
  exact ⟨rfl, rfl⟩
theorem scut_no (b : UInt8) (l : List UInt8) (w : World) (hl : l.length < 9223372036854775807) (hb : b ≠ 58) :
    Calls Tryz.prog 131 #[.string (ofL (b :: l)), .string ⟨#[58]⟩] w fun e w' => e = .returned (.tuple #[.string (ofL (b :: l)), .bool false]) ∧ w = w' := by
  have HC := Lib.hid (cut_no b l w hl hb)
  go_enter Tryz.func131, Tryz.ntmps131
  go_wp2_with fail
  refine HC.out.mono ?_
  rintro e w' ⟨rfl, rfl⟩
  go_wp2_with fail
  go_ret2
  exact ⟨rfl, rfl⟩
theorem number_ofL (l : List UInt8) (most : Nat) (w : World) (hs : l.length ≤ 9223372036854775807) (hm : most ≤ 31) :
    Calls Tryz.prog 111 #[.string (ofL l), .int .i64 (most : Int)] w fun e w' => e = .returned (.tuple #[.int .i64 ((Lat.num most l).1 : Int), .string (ofL (Lat.num most l).2.1), .int .i64 ((Lat.num most l).2.2 : Int)]) ∧ Below w.heap.size w w' :=
  number_any (ofL l) most w (by rw [ofL_size]; exact hs) hm
theorem shr_cast (st c : Nat) : (st : Int) / 2 ^ c = ((st / 2 ^ c : Nat) : Int) := by rw [Int.natCast_ediv, Int.natCast_pow]; rfl
theorem shr_zero {st c : Nat} (h : st / 2 ^ c = 0) : ((st : Int) / 2 ^ c != 0) = false := by rw [shr_cast, h]; rfl
theorem shr_more {st c : Nat} (h : ¬ st / 2 ^ c = 0) : ((st : Int) / 2 ^ c != 0) = true := by rw [shr_cast, bne_iff_ne]; omega
theorem bit_lt {st c : Nat} (h : st / 2 ^ c = 0) (hc : c ≤ 31) : st < 2 ^ c ∧ 2 ^ c ≤ 2147483648 := by
  have hp : 0 < 2 ^ c := Nat.two_pow_pos _
  refine ⟨?_, show 2 ^ c ≤ 2 ^ 31 from Nat.pow_le_pow_right (by decide) hc⟩
  rcases Nat.div_eq_zero_iff.1 h with h | h
  · omega
  · exact h
theorem or_bit {st c : Nat} (h : st / 2 ^ c = 0) (hc : c ≤ 31) : bits .or .u32 (st : Int) (2 ^ c % 4294967296) = ((st + 2 ^ c : Nat) : Int) := by
  obtain ⟨h1, h2⟩ := bit_lt h hc
  have e : (2 ^ c % 4294967296 : Int) = ((2 ^ c : Nat) : Int) := by
    have e0 : (2 ^ c : Int) = ((2 ^ c : Nat) : Int) := by rw [Int.natCast_pow]; rfl
    rw [e0]; omega
  rw [e, u32_or_nat st (2 ^ c) (by omega) (by omega), Nat.or_comm, nat_join c (2 ^ c) st (Nat.mod_self _) h1, Nat.add_comm]
def SetSt (R : Nat × Nat) (w : World) (g : Nat) (s t : Value) (wr : World) : Prop :=
  ∃ (l : List UInt8) (f st : Nat), s = .string (ofL l) ∧ t = .int .u32 (st : Int) ∧ st < 4294967296 ∧ l.length ≤ f ∧ l.length = g ∧ l.length < 9223372036854775807 ∧ Lat.set f st l = R ∧ Below w.heap.size w wr
set_option maxHeartbeats 2000000 in
theorem parseSet_any (l : List UInt8) (f : Nat) (w : World) (hl : l.length < 9223372036854775807) (hf : l.length ≤ f) :
    Calls Tryz.prog 112 #[.string (ofL l)] w fun e w' => e = .returned (.tuple #[.int .u32 ((Lat.set f 0 l).1 : Int), .int .i64 ((Lat.set f 0 l).2 : Int)]) ∧ Below w.heap.size w w' := by
  have hst : SetSt (Lat.set f 0 l) w l.length (.string (ofL l)) (.int .u32 0) w := ⟨l, f, 0, rfl, rfl, by omega, hf, rfl, hl, rfl, Below.refl _ _⟩
  generalize hR : Lat.set f 0 l = R at *
  have HST := Lib.hid hst
  clear hst hR hf
  generalize hs0 : ofL l = s0 at *
  generalize hl0 : l.length = n0 at *
  clear hs0 hl0
  go_enter Tryz.func112, Tryz.ntmps112
  go_wp2_with fail
  go_loopg [0, 4] n0 (fun g s t wr => SetSt R w g s t wr)
  case atStart => exact HST.out
  case round =>
    obtain ⟨m, f, st, rfl, rfl, hst, hlf, hlg, hlm, hR, hB⟩ := hrel
    have HB := Lib.hid hB
    clear hB
    cases m with
    | nil =>
      rw [Lat.set_nil] at hR
      have HR := Lib.hid hR
      clear hR hlf hlg hlm
      have e0 : ofL [] = ⟨#[]⟩ := rfl
      rw [e0]
      clear e0
      go_wp2_with fail
      go_ret2
      exact ⟨ret_two (by rw [← HR.out]; rfl) (by rw [← HR.out]; rfl), HB.out⟩
    | cons b m =>
      have hml : m.length < 9223372036854775807 := by rw [List.length_cons] at hlm; omega
      have hmg : m.length < gk := by rw [← hlg, List.length_cons]; omega
      have hmf : m.length + 1 ≤ f := by rw [← List.length_cons]; exact hlf
      have he : (ofL (b :: m)).toList.isEmpty = false := not_empty (by rw [ofL_size, List.length_cons]; omega)
      clear hlf hlg hlm
      by_cases hb : b = 58
      · subst hb
        obtain ⟨f, rfl⟩ : ∃ f', f = f' + 1 := ⟨f - 1, by omega⟩
        have HC := Lib.hid (fun W => scut_yes m W hml)
        have HN := Lib.hid (fun W => number_ofL m 31 W (by omega) (by omega))
        have hlen := Lat.num_len 31 m
        have hle := Lat.num_le 31 m
        have HS := Lib.hid hR
        by_cases h1 : (Lat.num 31 m).2.2 = 0
        · have H1 := Lib.hid h1
          clear H1
          by_cases h2 : st / 2 ^ (Lat.num 31 m).1 = 0
          · rw [Lat.set_next h1 h2] at hR
            have HR := Lib.hid hR
            have HO := Lib.hid (or_bit h2 hle)
            have hlt := bit_lt h2 hle
            have hk2 := shr_zero h2
            clear hR h2
            generalize Lat.num 31 m = N at *
            obtain ⟨c, rest, code⟩ := N
            simp only at *
            subst h1
            clear HS
            generalize ofL (58 :: m) = s at *
            go_wp2_with fail
            refine (HC.out _).mono ?_
            rintro e w' ⟨rfl, rfl⟩
            go_wp2_with fail
            refine (HN.out _).mono ?_
            rintro e w1 ⟨rfl, hb1⟩
            have HB1 := Lib.hid (Below.trans HB.out (hb1.mono HB.out.size))
            clear hb1
            go_wp2_with fail
            go_roundg rest.length
            case rel => exact ⟨rest, f, st + 2 ^ c, rfl, by rw [← HO.out], by omega, by omega, rfl, by omega, HR.out, HB1.out⟩
            case measure => omega
          · rw [Lat.set_there h1 h2] at hR
            have HR := Lib.hid hR
            have hk2 := shr_more h2
            clear hR h2
            generalize Lat.num 31 m = N at *
            obtain ⟨c, rest, code⟩ := N
            simp only at *
            subst h1
            clear HS
            generalize ofL (58 :: m) = s at *
            go_wp2_with fail
            refine (HC.out _).mono ?_
            rintro e w' ⟨rfl, rfl⟩
            go_wp2_with fail
            refine (HN.out _).mono ?_
            rintro e w1 ⟨rfl, hb1⟩
            have HB1 := Lib.hid (Below.trans HB.out (hb1.mono HB.out.size))
            clear hb1
            go_wp2_with fail
            go_ret2
            exact ⟨ret_two (by rw [← HR.out]; rfl) (by rw [← HR.out]; rfl), HB1.out⟩
        · rw [Lat.set_num h1] at hR
          have hk0 : (((Lat.num 31 m).2.2 : Int) != 0) = true := by rw [bne_iff_ne]; omega
          have HR := Lib.hid hR
          generalize Lat.num 31 m = N at *
          obtain ⟨c, rest, code⟩ := N
          simp only at *
          clear hR HS h1 hlen hle hmg hml hmf
          generalize ofL (58 :: m) = s at *
          go_wp2_with fail
          refine (HC.out _).mono ?_
          rintro e w' ⟨rfl, rfl⟩
          go_wp2_with fail
          refine (HN.out _).mono ?_
          rintro e w1 ⟨rfl, hb1⟩
          have HB1 := Lib.hid (Below.trans HB.out (hb1.mono HB.out.size))
          clear hb1
          go_wp2_with fail
          go_ret2
          exact ⟨ret_two (by rw [← HR.out]; rfl) (by rw [← HR.out]; rfl), HB1.out⟩
      · rw [Lat.set_colon hb] at hR
        have HC := Lib.hid (fun W => scut_no b m W hml hb)
        have HR := Lib.hid hR
        generalize ofL (b :: m) = s at *
        clear hR hb hmf hmg hml
        go_wp2_with fail
        refine (HC.out _).mono ?_
        rintro e w' ⟨rfl, rfl⟩
        go_wp2_with fail
        go_ret2
        exact ⟨ret_two (by rw [← HR.out]; rfl) (by rw [← HR.out]; rfl), HB.out⟩
end Go.Proofs.YtokljdaofjgihaaGreatDoor
