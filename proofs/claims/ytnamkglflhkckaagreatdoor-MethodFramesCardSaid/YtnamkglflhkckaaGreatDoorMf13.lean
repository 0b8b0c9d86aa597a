/-
  WHETHER A METHOD MAY BE: the whole, walked. WHAT A KIND TELLS, as the document has it: walked.
-/
import Derived.Test.YtnamkglflhkckaaGreatDoorMf12

section
namespace Go.Proofs.YtnamkglflhkckaaGreatDoor
open Go.ChangeShapes Go.WideShapes Go.ChangeAt Go.RowKit
def meMore (x : Me) (l : List Nat) (j : Nat) : Bool := !l.contains j && !x.lacks j
theorem me_more_no {x : Me} (h : ∀ j, j < 8 → meMore x (Me.tells x.kd.toNat) j = false) : x.more = false := by
  unfold Me.more
  rw [List.any_eq_false]
  intro j hj
  have := h j (List.mem_range.1 hj)
  unfold meMore at this
  rw [this]; simp
theorem me_more_yes {x : Me} {j : Nat} (hj : j < 8) (h : meMore x (Me.tells x.kd.toNat) j = true) : x.more = true :=
  List.any_eq_true.2 ⟨j, List.mem_range.2 hj, h⟩
theorem me_code_kind {x : Me} (h : 20 < x.kd.toNat) : x.code = 8 := by unfold Me.code; rw [if_pos h]
theorem me_code_more {x : Me} (h : ¬ 20 < x.kd.toNat) (hm : x.more = true) : x.code = 4 := by unfold Me.code; rw [if_neg h, if_pos hm]
theorem me_code_first {x : Me} (h : ¬ 20 < x.kd.toNat) (hm : x.more = false) : x.code = Me.firstc x.pcode (Me.tells x.kd.toNat) := by unfold Me.code; rw [if_neg h, hm]; rfl
theorem me_first_none {f : Nat → Nat} : ∀ {l : List Nat}, (∀ j, j < l.length → f (l.getD j 0) = 0) → Me.firstc f l = 0
  | [], _ => rfl
  | p :: l, h => by
    have h0 : f p = 0 := h 0 (by simp)
    rw [Me.firstc, if_neg (by omega)]
    exact me_first_none fun j hj => h (j + 1) (by simp; omega)
theorem me_first_at {f : Nat → Nat} : ∀ {l : List Nat} {k : Nat}, k < l.length → (∀ j, j < k → f (l.getD j 0) = 0) → f (l.getD k 0) ≠ 0 → Me.firstc f l = f (l.getD k 0)
  | [], k, hk, _, _ => by simp at hk
  | p :: l, 0, _, _, hf => by
    have h0 : f p ≠ 0 := hf
    rw [Me.firstc, if_pos h0]
    rfl
  | p :: l, k + 1, hk, h, hf => by
    have h0 : f p = 0 := h 0 (by omega)
    rw [Me.firstc, if_neg (by omega)]
    exact me_first_at (k := k) (by simpa using hk) (fun j hj => h (j + 1) (by omega)) hf
/-- while it is checked: its box, the row of parts -/
structure MeCk (w : World) (x : Me) (A : Option Addr) (c : Nat) (T : Option Addr) (l : List Nat) (wr : World) : Prop where
  B : Below w.heap.size w wr
  X : Cels wr w.heap.size (meL x A c)
  lt : w.heap.size < wr.heap.size
  P : Parts wr T l
theorem MeCk.on {w : World} {x : Me} {A : Option Addr} {c : Nat} {T : Option Addr} {l : List Nat} {wr w' : World} (h : MeCk w x A c T l wr) (hb : Below wr.heap.size wr w') : MeCk w x A c T l w' :=
  ⟨bthen h.B hb (Nat.le_refl _), h.X.on hb h.lt, Nat.lt_of_lt_of_le h.lt hb.size, h.P.on hb⟩
set_option maxRecDepth 100000 in
set_option maxHeartbeats 4000000 in
theorem me_Check_any (x : Me) (A : Option Addr) (c : Nat) (w : World) (h : MeOk w x A c) (hL : Len w) : Calls Tryz.prog 14 #[meV x A c] w fun e w' => e = .returned (.int .i64 (x.code : Int)) ∧ Below w.heap.size w w' := by
  have HB0 := Lib.hid (show Below w.heap.size w (w.alloc (.cells #[.int .u8 (x.ch.toNat : Int), .int .u8 (x.kd.toNat : Int), .string (ofL x.name), .string (ofL x.other), .string (ofL x.key), .slice A x.head.length c, .string (ofL x.body), .int .u64 (x.n : Int), .int .u64 (x.m : Int), .bool x.yes] 25)) from (Below.refl _ _).alloc (Nat.le_refl _) _)
  have HX0 := Lib.hid (meBox x A c w 25)
  have HLL := Lib.hid hL
  have HR := Lib.hid h
  have HT := Lib.hid (fun W => Me_tells_any x.kd.toNat W)
  have HLK := Lib.hid (fun p hp W => me_lacks_any x A c p hp W)
  have HCK := Lib.hid (fun p hp W h1 h2 => me_check_any x A c p hp W h1 h2)
  have HM0 := Lib.hid (fun g => me_more_no (x := x) g)
  have HM1 := Lib.hid (fun j (hj : j < 8) g => me_more_yes (x := x) hj g)
  have HC8 := Lib.hid (fun g => me_code_kind (x := x) g)
  have HC4 := Lib.hid (fun g k => me_code_more (x := x) g k)
  have HCF := Lib.hid (fun g k => me_code_first (x := x) g k)
  have hlen := Me.tells_len x.kd.toNat
  have HLT := Lib.hid (Me.tells_lt x.kd.toNat)
  clear h hL
  simp only [meV] at HLK HCK ⊢
  generalize x.code = C at *
  by_cases h20 : 20 < x.kd.toNat
  · have HC := Lib.hid (HC8.out h20)
    have hz : decide ((20 : Int) < (x.kd.toNat : Int)) = true := decide_eq_true (by omega)
    clear h20 hlen
    go_enter Tryz.func14, Tryz.ntmps14
    go_wp2_with fail
    go_ret
    exact ⟨ret_nat (by rw [HC.out]; rfl), HB0.out⟩
  · have hz : decide ((20 : Int) < (x.kd.toNat : Int)) = false := decide_eq_false (by omega)
    have HC4 := Lib.hid (HC4.out h20)
    have HCF := Lib.hid (HCF.out h20)
    clear h20 HC8
    generalize Me.tells x.kd.toNat = l at *
    go_enter Tryz.func14, Tryz.ntmps14
    go_wp2_with fail
    refine (HT.out _).mono ?_
    rintro e w1 ⟨T, tc, rfl, hp1, b1, -⟩
    have HS1 := Lib.hid (show MeCk w x A c T l w1 from ⟨bthen HB0.out b1 (Nat.le_refl _), HX0.out.on b1 (by simp), by have := b1.size; simp at this; omega, hp1⟩)
    clear hp1 b1
    go_wp2_with fail
    go_loopg [14] 8 (fun g i wr => ∃ k : Nat, k + g = 8 ∧ i = .int .i64 (k : Int) ∧ (∀ j, j < k → meMore x l j = false) ∧ MeCk w x A c T l wr)
    case atStart => exact ⟨0, by omega, rfl, fun j hj => absurd hj (by omega), HS1.out⟩
    case round =>
      obtain ⟨k, hk, rfl, hno, hS⟩ := hrel
      have HS := Lib.hid hS
      have HNO := Lib.hid hno
      clear hS hno HS1
      by_cases hlt : k < 8
      · have HCT := Lib.hid (fun W hp => Me_contains_any l T tc k W (by omega) hp)
        have HNX : Hid (meMore x l k = false → ∀ j, j < k + 1 → meMore x l j = false) := fun g j hj => by
          by_cases e : j = k
          · rw [e]; exact g
          · exact HNO.out j (by omega)
        have HLK := Lib.hid (HLK.out k hlt)
        have HDF : Hid (meMore x l k = (!l.contains k && !x.lacks k)) := rfl
        have HMY := Lib.hid (fun g => HM1.out k hlt g)
        generalize meMore x l k = MK at *
        cases hc : l.contains k with
        | true =>
          have HN := Lib.hid (HNX.out (by rw [HDF.out, hc]; rfl))
          rw [hc] at HCT
          clear hc
          go_wp2_with fail
          refine (HCT.out _ HS.out.P).mono ?_
          rintro e w2 ⟨rfl, rfl⟩
          go_wp2_with fail
          go_roundg (gk - 1)
          case rel => exact ⟨k + 1, by omega, by go_num, HN.out, HS.out⟩
          case measure => omega
        | false =>
          rw [hc] at HCT
          have c0 := HS.out.X 0 _ rfl
          have c1 := HS.out.X 1 _ rfl
          have c2 := HS.out.X 2 _ rfl
          have c3 := HS.out.X 3 _ rfl
          have c4 := HS.out.X 4 _ rfl
          have c5 := HS.out.X 5 _ rfl
          have c6 := HS.out.X 6 _ rfl
          have c7 := HS.out.X 7 _ rfl
          have c8 := HS.out.X 8 _ rfl
          have c9 := HS.out.X 9 _ rfl
          cases hl : x.lacks k with
          | true =>
            have HN := Lib.hid (HNX.out (by rw [HDF.out, hc, hl]; rfl))
            rw [hl] at HLK
            clear hc hl
            go_wp2_with fail
            refine (HCT.out _ HS.out.P).mono ?_
            rintro e w2 ⟨rfl, rfl⟩
            go_wp2_with fail
            refine (HLK.out _).mono ?_
            rintro e w3 ⟨rfl, b3⟩
            have HS3 := Lib.hid (HS.out.on b3)
            clear b3 c0 c1 c2 c3 c4 c5 c6 c7 c8 c9
            go_wp2_with fail
            go_roundg (gk - 1)
            case rel => exact ⟨k + 1, by omega, by go_num, HN.out, HS3.out⟩
            case measure => omega
          | false =>
            have HC := Lib.hid (HC4.out (HMY.out (by rw [HDF.out, hc, hl]; rfl)))
            rw [hl] at HLK
            clear hc hl
            go_wp2_with fail
            refine (HCT.out _ HS.out.P).mono ?_
            rintro e w2 ⟨rfl, rfl⟩
            go_wp2_with fail
            refine (HLK.out _).mono ?_
            rintro e w3 ⟨rfl, b3⟩
            have HS3 := Lib.hid (HS.out.on b3)
            clear b3 c0 c1 c2 c3 c4 c5 c6 c7 c8 c9
            go_wp2_with fail
            go_ret
            exact ⟨ret_nat (by rw [HC.out]; rfl), HS3.out.B⟩
      · have HC := Lib.hid (HCF.out (HM0.out fun j hj => HNO.out j (by omega)))
        have H0 := Lib.hid (fun g => me_first_none (f := x.pcode) (l := l) g)
        have H1 := Lib.hid (fun k hk g gf => me_first_at (f := x.pcode) (l := l) (k := k) hk g gf)
        generalize Me.firstc x.pcode l = F at *
        obtain ⟨n, hn⟩ : ∃ n, n = l.length := ⟨_, rfl⟩
        have HN := Lib.hid hn
        rw [← hn] at hlen ⊢
        clear hn
        go_wp2_with fail
        go_loopg [30] n (fun g i wr => ∃ k : Nat, k + g = n ∧ i = .int .i64 (k : Int) ∧ (∀ j, j < k → x.pcode (l.getD j 0) = 0) ∧ MeCk w x A c T l wr)
        case atStart => exact ⟨0, by omega, rfl, fun j hj => absurd hj (by omega), HS.out⟩
        case round =>
          obtain ⟨m, hm, rfl, hno, hS⟩ := hrel
          have HSM := Lib.hid hS
          have HNM := Lib.hid hno
          clear hS hno
          by_cases hlm : m < n
          · have hml : m < l.length := by have := HN.out; omega
            obtain ⟨b, rfl, hbl, hat⟩ := HSM.out.P.at_ hml
            have hp8 : l.getD m 0 < 8 := HLT.out _ (by rw [List.getD_eq_getElem?_getD, List.getElem?_eq_getElem hml]; exact List.getElem_mem hml)
            have HK := Lib.hid (HCK.out (l.getD m 0) hp8)
            have HNX : Hid (x.pcode (l.getD m 0) = 0 → ∀ j, j < m + 1 → x.pcode (l.getD j 0) = 0) := fun g j hj => by
              by_cases e : j = m
              · rw [e]; exact g
              · exact HNM.out j (by omega)
            have HFA := Lib.hid (fun gf => H1.out m hml HNM.out gf)
            generalize x.pcode (l.getD m 0) = PC at *
            generalize l.getD m 0 = p at *
            clear hp8 hml
            have c0 := HSM.out.X 0 _ rfl
            have c1 := HSM.out.X 1 _ rfl
            have c2 := HSM.out.X 2 _ rfl
            have c3 := HSM.out.X 3 _ rfl
            have c4 := HSM.out.X 4 _ rfl
            have c5 := HSM.out.X 5 _ rfl
            have c6 := HSM.out.X 6 _ rfl
            have c7 := HSM.out.X 7 _ rfl
            have c8 := HSM.out.X 8 _ rfl
            have c9 := HSM.out.X 9 _ rfl
            have HRW := Lib.hid (HR.out.on HSM.out.B)
            have HLW := Lib.hid (HLL.out.on HSM.out.B)
            by_cases h0 : PC = 0
            · have HN2 := Lib.hid (HNX.out h0)
              have hk0 := code_eq h0
              clear h0 HNX HFA
              go_wp2_with fail
              refine (HK.out _ HRW.out HLW.out).mono ?_
              rintro e w3 ⟨rfl, b3⟩
              have HS3 := Lib.hid (HSM.out.on b3)
              clear b3 c0 c1 c2 c3 c4 c5 c6 c7 c8 c9
              go_wp2_with fail
              go_roundg (gk - 1)
              case rel => exact ⟨m + 1, by omega, by go_num, HN2.out, HS3.out⟩
              case measure => omega
            · have HC2 := Lib.hid (HFA.out h0)
              have hk0 := code_ne h0
              clear h0 HNX HFA
              go_wp2_with fail
              refine (HK.out _ HRW.out HLW.out).mono ?_
              rintro e w3 ⟨rfl, b3⟩
              have HS3 := Lib.hid (HSM.out.on b3)
              clear b3 c0 c1 c2 c3 c4 c5 c6 c7 c8 c9
              go_wp2_with fail
              go_ret
              exact ⟨ret_nat (by rw [HC.out, HC2.out]), HS3.out.B⟩
          · have HC2 := Lib.hid (H0.out fun j hj => HNM.out j (by have := HN.out; omega))
            go_wp2_with fail
            go_ret
            exact ⟨ret_nat (by rw [HC.out, HC2.out]; rfl), HSM.out.B⟩
end Go.Proofs.YtnamkglflhkckaaGreatDoor
end
section
namespace Go.Proofs.YtnamkglflhkckaaGreatDoor
open Go.ChangeShapes Go.WideShapes Go.ChangeAt Go.RowKit
def hasV (h : Me.Has) : Value := .agg #[.bool h.name, .bool h.other, .bool h.lack, .bool h.key, .bool h.pat, .bool h.head, .bool h.body, .bool h.n, .bool h.m, .bool h.yes]
theorem r11Of_0 (w : World) : Calls Tryz.prog 49 #[.int .u8 0] w fun e w' => e = .returned (hasV (Me.has 0)) ∧ Below w.heap.size w w' := by
  rw [show hasV (Me.has 0) = .agg #[.bool false, .bool false, .bool false, .bool false, .bool false, .bool false, .bool false, .bool true, .bool false, .bool false] from rfl]
  go_enter Tryz.func49, Tryz.ntmps49
  go_wp2_with fail
  exact bodyPost_ret (v := .agg #[.bool false, .bool false, .bool false, .bool false, .bool false, .bool false, .bool false, .bool true, .bool false, .bool false]) (by simp [results, Tryz.results49, go_sem]) rfl ⟨rfl, (Below.refl _ _).alloc (Nat.le_refl _) _⟩
theorem r11Of_1 (w : World) : Calls Tryz.prog 49 #[.int .u8 1] w fun e w' => e = .returned (hasV (Me.has 1)) ∧ Below w.heap.size w w' := by
  rw [show hasV (Me.has 1) = .agg #[.bool false, .bool false, .bool false, .bool false, .bool false, .bool false, .bool false, .bool false, .bool false, .bool false] from rfl]
  go_enter Tryz.func49, Tryz.ntmps49
  go_wp2_with fail
  exact bodyPost_ret (v := .agg #[.bool false, .bool false, .bool false, .bool false, .bool false, .bool false, .bool false, .bool false, .bool false, .bool false]) (by simp [results, Tryz.results49, go_sem]) rfl ⟨rfl, (Below.refl _ _).alloc (Nat.le_refl _) _⟩
theorem r11Of_2 (w : World) : Calls Tryz.prog 49 #[.int .u8 2] w fun e w' => e = .returned (hasV (Me.has 2)) ∧ Below w.heap.size w w' := by
  rw [show hasV (Me.has 2) = .agg #[.bool false, .bool false, .bool false, .bool false, .bool false, .bool false, .bool false, .bool false, .bool false, .bool false] from rfl]
  go_enter Tryz.func49, Tryz.ntmps49
  go_wp2_with fail
  exact bodyPost_ret (v := .agg #[.bool false, .bool false, .bool false, .bool false, .bool false, .bool false, .bool false, .bool false, .bool false, .bool false]) (by simp [results, Tryz.results49, go_sem]) rfl ⟨rfl, (Below.refl _ _).alloc (Nat.le_refl _) _⟩
theorem r11Of_3 (w : World) : Calls Tryz.prog 49 #[.int .u8 3] w fun e w' => e = .returned (hasV (Me.has 3)) ∧ Below w.heap.size w w' := by
  rw [show hasV (Me.has 3) = .agg #[.bool true, .bool true, .bool true, .bool false, .bool false, .bool false, .bool false, .bool true, .bool false, .bool false] from rfl]
  go_enter Tryz.func49, Tryz.ntmps49
  go_wp2_with fail
  exact bodyPost_ret (v := .agg #[.bool true, .bool true, .bool true, .bool false, .bool false, .bool false, .bool false, .bool true, .bool false, .bool false]) (by simp [results, Tryz.results49, go_sem]) rfl ⟨rfl, (Below.refl _ _).alloc (Nat.le_refl _) _⟩
theorem r11Of_4 (w : World) : Calls Tryz.prog 49 #[.int .u8 4] w fun e w' => e = .returned (hasV (Me.has 4)) ∧ Below w.heap.size w w' := by
  rw [show hasV (Me.has 4) = .agg #[.bool true, .bool false, .bool false, .bool false, .bool false, .bool false, .bool false, .bool false, .bool false, .bool false] from rfl]
  go_enter Tryz.func49, Tryz.ntmps49
  go_wp2_with fail
  exact bodyPost_ret (v := .agg #[.bool true, .bool false, .bool false, .bool false, .bool false, .bool false, .bool false, .bool false, .bool false, .bool false]) (by simp [results, Tryz.results49, go_sem]) rfl ⟨rfl, (Below.refl _ _).alloc (Nat.le_refl _) _⟩
theorem r11Of_5 (w : World) : Calls Tryz.prog 49 #[.int .u8 5] w fun e w' => e = .returned (hasV (Me.has 5)) ∧ Below w.heap.size w w' := by
  rw [show hasV (Me.has 5) = .agg #[.bool true, .bool true, .bool true, .bool false, .bool false, .bool false, .bool false, .bool true, .bool true, .bool false] from rfl]
  go_enter Tryz.func49, Tryz.ntmps49
  go_wp2_with fail
  exact bodyPost_ret (v := .agg #[.bool true, .bool true, .bool true, .bool false, .bool false, .bool false, .bool false, .bool true, .bool true, .bool false]) (by simp [results, Tryz.results49, go_sem]) rfl ⟨rfl, (Below.refl _ _).alloc (Nat.le_refl _) _⟩
theorem r11Of_6 (w : World) : Calls Tryz.prog 49 #[.int .u8 6] w fun e w' => e = .returned (hasV (Me.has 6)) ∧ Below w.heap.size w w' := by
  rw [show hasV (Me.has 6) = .agg #[.bool true, .bool false, .bool false, .bool false, .bool false, .bool false, .bool false, .bool false, .bool false, .bool false] from rfl]
  go_enter Tryz.func49, Tryz.ntmps49
  go_wp2_with fail
  exact bodyPost_ret (v := .agg #[.bool true, .bool false, .bool false, .bool false, .bool false, .bool false, .bool false, .bool false, .bool false, .bool false]) (by simp [results, Tryz.results49, go_sem]) rfl ⟨rfl, (Below.refl _ _).alloc (Nat.le_refl _) _⟩
theorem r11Of_7 (w : World) : Calls Tryz.prog 49 #[.int .u8 7] w fun e w' => e = .returned (hasV (Me.has 7)) ∧ Below w.heap.size w w' := by
  rw [show hasV (Me.has 7) = .agg #[.bool true, .bool true, .bool false, .bool true, .bool true, .bool true, .bool false, .bool false, .bool false, .bool true] from rfl]
  go_enter Tryz.func49, Tryz.ntmps49
  go_wp2_with fail
  exact bodyPost_ret (v := .agg #[.bool true, .bool true, .bool false, .bool true, .bool true, .bool true, .bool false, .bool false, .bool false, .bool true]) (by simp [results, Tryz.results49, go_sem]) rfl ⟨rfl, (Below.refl _ _).alloc (Nat.le_refl _) _⟩
theorem r11Of_8 (w : World) : Calls Tryz.prog 49 #[.int .u8 8] w fun e w' => e = .returned (hasV (Me.has 8)) ∧ Below w.heap.size w w' := by
  rw [show hasV (Me.has 8) = .agg #[.bool true, .bool true, .bool false, .bool true, .bool true, .bool true, .bool false, .bool false, .bool false, .bool true] from rfl]
  go_enter Tryz.func49, Tryz.ntmps49
  go_wp2_with fail
  exact bodyPost_ret (v := .agg #[.bool true, .bool true, .bool false, .bool true, .bool true, .bool true, .bool false, .bool false, .bool false, .bool true]) (by simp [results, Tryz.results49, go_sem]) rfl ⟨rfl, (Below.refl _ _).alloc (Nat.le_refl _) _⟩
theorem r11Of_9 (w : World) : Calls Tryz.prog 49 #[.int .u8 9] w fun e w' => e = .returned (hasV (Me.has 9)) ∧ Below w.heap.size w w' := by
  rw [show hasV (Me.has 9) = .agg #[.bool true, .bool true, .bool false, .bool true, .bool true, .bool true, .bool false, .bool false, .bool false, .bool true] from rfl]
  go_enter Tryz.func49, Tryz.ntmps49
  go_wp2_with fail
  exact bodyPost_ret (v := .agg #[.bool true, .bool true, .bool false, .bool true, .bool true, .bool true, .bool false, .bool false, .bool false, .bool true]) (by simp [results, Tryz.results49, go_sem]) rfl ⟨rfl, (Below.refl _ _).alloc (Nat.le_refl _) _⟩
theorem r11Of_10 (w : World) : Calls Tryz.prog 49 #[.int .u8 10] w fun e w' => e = .returned (hasV (Me.has 10)) ∧ Below w.heap.size w w' := by
  rw [show hasV (Me.has 10) = .agg #[.bool true, .bool true, .bool false, .bool true, .bool true, .bool true, .bool false, .bool false, .bool false, .bool true] from rfl]
  go_enter Tryz.func49, Tryz.ntmps49
  go_wp2_with fail
  exact bodyPost_ret (v := .agg #[.bool true, .bool true, .bool false, .bool true, .bool true, .bool true, .bool false, .bool false, .bool false, .bool true]) (by simp [results, Tryz.results49, go_sem]) rfl ⟨rfl, (Below.refl _ _).alloc (Nat.le_refl _) _⟩
theorem r11Of_11 (w : World) : Calls Tryz.prog 49 #[.int .u8 11] w fun e w' => e = .returned (hasV (Me.has 11)) ∧ Below w.heap.size w w' := by
  rw [show hasV (Me.has 11) = .agg #[.bool true, .bool false, .bool false, .bool true, .bool false, .bool true, .bool true, .bool false, .bool true, .bool false] from rfl]
  go_enter Tryz.func49, Tryz.ntmps49
  go_wp2_with fail
  exact bodyPost_ret (v := .agg #[.bool true, .bool false, .bool false, .bool true, .bool false, .bool true, .bool true, .bool false, .bool true, .bool false]) (by simp [results, Tryz.results49, go_sem]) rfl ⟨rfl, (Below.refl _ _).alloc (Nat.le_refl _) _⟩
theorem r11Of_12 (w : World) : Calls Tryz.prog 49 #[.int .u8 12] w fun e w' => e = .returned (hasV (Me.has 12)) ∧ Below w.heap.size w w' := by
  rw [show hasV (Me.has 12) = .agg #[.bool false, .bool false, .bool false, .bool false, .bool false, .bool false, .bool false, .bool true, .bool false, .bool false] from rfl]
  go_enter Tryz.func49, Tryz.ntmps49
  go_wp2_with fail
  exact bodyPost_ret (v := .agg #[.bool false, .bool false, .bool false, .bool false, .bool false, .bool false, .bool false, .bool true, .bool false, .bool false]) (by simp [results, Tryz.results49, go_sem]) rfl ⟨rfl, (Below.refl _ _).alloc (Nat.le_refl _) _⟩
theorem r11Of_13 (w : World) : Calls Tryz.prog 49 #[.int .u8 13] w fun e w' => e = .returned (hasV (Me.has 13)) ∧ Below w.heap.size w w' := by
  rw [show hasV (Me.has 13) = .agg #[.bool true, .bool false, .bool false, .bool false, .bool false, .bool false, .bool false, .bool true, .bool false, .bool false] from rfl]
  go_enter Tryz.func49, Tryz.ntmps49
  go_wp2_with fail
  exact bodyPost_ret (v := .agg #[.bool true, .bool false, .bool false, .bool false, .bool false, .bool false, .bool false, .bool true, .bool false, .bool false]) (by simp [results, Tryz.results49, go_sem]) rfl ⟨rfl, (Below.refl _ _).alloc (Nat.le_refl _) _⟩
theorem r11Of_14 (w : World) : Calls Tryz.prog 49 #[.int .u8 14] w fun e w' => e = .returned (hasV (Me.has 14)) ∧ Below w.heap.size w w' := by
  rw [show hasV (Me.has 14) = .agg #[.bool false, .bool false, .bool false, .bool false, .bool false, .bool false, .bool false, .bool true, .bool false, .bool false] from rfl]
  go_enter Tryz.func49, Tryz.ntmps49
  go_wp2_with fail
  exact bodyPost_ret (v := .agg #[.bool false, .bool false, .bool false, .bool false, .bool false, .bool false, .bool false, .bool true, .bool false, .bool false]) (by simp [results, Tryz.results49, go_sem]) rfl ⟨rfl, (Below.refl _ _).alloc (Nat.le_refl _) _⟩
theorem r11Of_15 (w : World) : Calls Tryz.prog 49 #[.int .u8 15] w fun e w' => e = .returned (hasV (Me.has 15)) ∧ Below w.heap.size w w' := by
  rw [show hasV (Me.has 15) = .agg #[.bool true, .bool false, .bool false, .bool false, .bool false, .bool false, .bool false, .bool false, .bool false, .bool false] from rfl]
  go_enter Tryz.func49, Tryz.ntmps49
  go_wp2_with fail
  exact bodyPost_ret (v := .agg #[.bool true, .bool false, .bool false, .bool false, .bool false, .bool false, .bool false, .bool false, .bool false, .bool false]) (by simp [results, Tryz.results49, go_sem]) rfl ⟨rfl, (Below.refl _ _).alloc (Nat.le_refl _) _⟩
theorem r11Of_16 (w : World) : Calls Tryz.prog 49 #[.int .u8 16] w fun e w' => e = .returned (hasV (Me.has 16)) ∧ Below w.heap.size w w' := by
  rw [show hasV (Me.has 16) = .agg #[.bool false, .bool false, .bool false, .bool false, .bool false, .bool false, .bool false, .bool true, .bool true, .bool true] from rfl]
  go_enter Tryz.func49, Tryz.ntmps49
  go_wp2_with fail
  exact bodyPost_ret (v := .agg #[.bool false, .bool false, .bool false, .bool false, .bool false, .bool false, .bool false, .bool true, .bool true, .bool true]) (by simp [results, Tryz.results49, go_sem]) rfl ⟨rfl, (Below.refl _ _).alloc (Nat.le_refl _) _⟩
theorem r11Of_17 (w : World) : Calls Tryz.prog 49 #[.int .u8 17] w fun e w' => e = .returned (hasV (Me.has 17)) ∧ Below w.heap.size w w' := by
  rw [show hasV (Me.has 17) = .agg #[.bool false, .bool false, .bool false, .bool false, .bool false, .bool false, .bool false, .bool false, .bool false, .bool false] from rfl]
  go_enter Tryz.func49, Tryz.ntmps49
  go_wp2_with fail
  exact bodyPost_ret (v := .agg #[.bool false, .bool false, .bool false, .bool false, .bool false, .bool false, .bool false, .bool false, .bool false, .bool false]) (by simp [results, Tryz.results49, go_sem]) rfl ⟨rfl, (Below.refl _ _).alloc (Nat.le_refl _) _⟩
theorem r11Of_18 (w : World) : Calls Tryz.prog 49 #[.int .u8 18] w fun e w' => e = .returned (hasV (Me.has 18)) ∧ Below w.heap.size w w' := by
  rw [show hasV (Me.has 18) = .agg #[.bool false, .bool false, .bool false, .bool false, .bool false, .bool false, .bool false, .bool false, .bool false, .bool false] from rfl]
  go_enter Tryz.func49, Tryz.ntmps49
  go_wp2_with fail
  exact bodyPost_ret (v := .agg #[.bool false, .bool false, .bool false, .bool false, .bool false, .bool false, .bool false, .bool false, .bool false, .bool false]) (by simp [results, Tryz.results49, go_sem]) rfl ⟨rfl, (Below.refl _ _).alloc (Nat.le_refl _) _⟩
theorem r11Of_19 (w : World) : Calls Tryz.prog 49 #[.int .u8 19] w fun e w' => e = .returned (hasV (Me.has 19)) ∧ Below w.heap.size w w' := by
  rw [show hasV (Me.has 19) = .agg #[.bool false, .bool false, .bool false, .bool false, .bool false, .bool false, .bool false, .bool false, .bool false, .bool false] from rfl]
  go_enter Tryz.func49, Tryz.ntmps49
  go_wp2_with fail
  exact bodyPost_ret (v := .agg #[.bool false, .bool false, .bool false, .bool false, .bool false, .bool false, .bool false, .bool false, .bool false, .bool false]) (by simp [results, Tryz.results49, go_sem]) rfl ⟨rfl, (Below.refl _ _).alloc (Nat.le_refl _) _⟩
theorem r11Of_20 (w : World) : Calls Tryz.prog 49 #[.int .u8 20] w fun e w' => e = .returned (hasV (Me.has 20)) ∧ Below w.heap.size w w' := by
  rw [show hasV (Me.has 20) = .agg #[.bool false, .bool false, .bool false, .bool false, .bool false, .bool false, .bool false, .bool false, .bool false, .bool false] from rfl]
  go_enter Tryz.func49, Tryz.ntmps49
  go_wp2_with fail
  exact bodyPost_ret (v := .agg #[.bool false, .bool false, .bool false, .bool false, .bool false, .bool false, .bool false, .bool false, .bool false, .bool false]) (by simp [results, Tryz.results49, go_sem]) rfl ⟨rfl, (Below.refl _ _).alloc (Nat.le_refl _) _⟩
theorem r11Of_any (k : Nat) (hk : k ≤ 20) (w : World) : Calls Tryz.prog 49 #[.int .u8 (k : Int)] w fun e w' => e = .returned (hasV (Me.has k)) ∧ Below w.heap.size w w' := by
  rcases Me.le20 hk with rfl | rfl | rfl | rfl | rfl | rfl | rfl | rfl | rfl | rfl | rfl | rfl | rfl | rfl | rfl | rfl | rfl | rfl | rfl | rfl | rfl
  · exact r11Of_0 w
  · exact r11Of_1 w
  · exact r11Of_2 w
  · exact r11Of_3 w
  · exact r11Of_4 w
  · exact r11Of_5 w
  · exact r11Of_6 w
  · exact r11Of_7 w
  · exact r11Of_8 w
  · exact r11Of_9 w
  · exact r11Of_10 w
  · exact r11Of_11 w
  · exact r11Of_12 w
  · exact r11Of_13 w
  · exact r11Of_14 w
  · exact r11Of_15 w
  · exact r11Of_16 w
  · exact r11Of_17 w
  · exact r11Of_18 w
  · exact r11Of_19 w
  · exact r11Of_20 w
end Go.Proofs.YtnamkglflhkckaaGreatDoor
end
