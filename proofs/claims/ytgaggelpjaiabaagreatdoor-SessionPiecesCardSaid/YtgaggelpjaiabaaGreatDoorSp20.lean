/-
  WHETHER A METHOD MAY BE: the whole, walked. A METHOD's PARTS WRITTEN: walked.
-/
import Derived.Test.YtgaggelpjaiabaaGreatDoorSp14
import Derived.Test.YtgaggelpjaiabaaGreatDoorSp19

section
namespace Go.Proofs.YtgaggelpjaiabaaGreatDoor
open Go.ChangeShapes Go.WideShapes Go.ChangeAt Go.RowKit
def meMore (x : Me) (l : List Nat) (j : Nat) : Bool := !l.contains j && !x.lacks j
theorem me_more_no {x : Me} (h : ∀ j, j < 8 → meMore x (Me.tells x.kd.toNat) j = false) : x.more = false := by
  unfold Me.more
  rw [List.any_eq_false]
  intro j hj
  have := h j (List.mem_range.1 hj)
  unfold meMore at this
  rw [this]; simp
theorem me_more_yes {x : Me} {j : Nat} (hj : j < 8) (h : meMore x (Me.tells x.kd.toNat) j = true) : x.more = true :=
  List.any_eq_true.2 ⟨j, List.mem_range.2 hj, h⟩
theorem me_code_kind {x : Me} (h : 20 < x.kd.toNat) : x.code = 8 := by unfold Me.code; rw [if_pos h]
theorem me_code_more {x : Me} (h : ¬ 20 < x.kd.toNat) (hm : x.more = true) : x.code = 4 := by unfold Me.code; rw [if_neg h, if_pos hm]
theorem me_code_first {x : Me} (h : ¬ 20 < x.kd.toNat) (hm : x.more = false) : x.code = Me.firstc x.pcode (Me.tells x.kd.toNat) := by unfold Me.code; rw [if_neg h, hm]; rfl
theorem me_first_none {f : Nat → Nat} : ∀ {l : List Nat}, (∀ j, j < l.length → f (l.getD j 0) = 0) → Me.firstc f l = 0
  | [], _ => rfl
  | p :: l, h => by
    have h0 : f p = 0 := h 0 (by simp)
    rw [Me.firstc, if_neg (by omega)]
    exact me_first_none fun j hj => h (j + 1) (by simp; omega)
theorem me_first_at {f : Nat → Nat} : ∀ {l : List Nat} {k : Nat}, k < l.length → (∀ j, j < k → f (l.getD j 0) = 0) → f (l.getD k 0) ≠ 0 → Me.firstc f l = f (l.getD k 0)
  | [], k, hk, _, _ => by simp at hk
  | p :: l, 0, _, _, hf => by
    have h0 : f p ≠ 0 := hf
    rw [Me.firstc, if_pos h0]
    rfl
  | p :: l, k + 1, hk, h, hf => by
    have h0 : f p = 0 := h 0 (by omega)
    rw [Me.firstc, if_neg (by omega)]
    exact me_first_at (k := k) (by simpa using hk) (fun j hj => h (j + 1) (by omega)) hf
/-- while it is checked: its box, the row of parts -/
structure MeCk (w : World) (x : Me) (A : Option Addr) (c : Nat) (T : Option Addr) (l : List Nat) (wr : World) : Prop where
  B : Below w.heap.size w wr
  X : Cels wr w.heap.size (meL x A c)
  lt : w.heap.size < wr.heap.size
  P : Parts wr T l
theorem MeCk.on {w : World} {x : Me} {A : Option Addr} {c : Nat} {T : Option Addr} {l : List Nat} {wr w' : World} (h : MeCk w x A c T l wr) (hb : Below wr.heap.size wr w') : MeCk w x A c T l w' :=
  ⟨bthen h.B hb (Nat.le_refl _), h.X.on hb h.lt, Nat.lt_of_lt_of_le h.lt hb.size, h.P.on hb⟩
set_option maxRecDepth 100000 in
set_option maxHeartbeats 4000000 in
theorem me_Check_any (x : Me) (A : Option Addr) (c : Nat) (w : World) (h : MeOk w x A c) (hL : Len w) : Calls Tryz.prog 62 #[meV x A c] w fun e w' => e = .returned (.int .i64 (x.code : Int)) ∧ Below w.heap.size w w' := by
  have HB0 := Lib.hid (show Below w.heap.size w (w.alloc (.cells #[.int .u8 (x.ch.toNat : Int), .int .u8 (x.kd.toNat : Int), .string (ofL x.name), .string (ofL x.other), .string (ofL x.key), .slice A x.head.length c, .string (ofL x.body), .int .u64 (x.n : Int), .int .u64 (x.m : Int), .bool x.yes] 25)) from (Below.refl _ _).alloc (Nat.le_refl _) _)
  have HX0 := Lib.hid (meBox x A c w 25)
  have HLL := Lib.hid hL
  have HR := Lib.hid h
  have HT := Lib.hid (fun W => Me_tells_any x.kd.toNat W)
  have HLK := Lib.hid (fun p hp W => me_lacks_any x A c p hp W)
  have HCK := Lib.hid (fun p hp W h1 h2 => me_check_any x A c p hp W h1 h2)
  have HM0 := Lib.hid (fun g => me_more_no (x := x) g)
  have HM1 := Lib.hid (fun j (hj : j < 8) g => me_more_yes (x := x) hj g)
  have HC8 := Lib.hid (fun g => me_code_kind (x := x) g)
  have HC4 := Lib.hid (fun g k => me_code_more (x := x) g k)
  have HCF := Lib.hid (fun g k => me_code_first (x := x) g k)
  have hlen := Me.tells_len x.kd.toNat
  have HLT := Lib.hid (Me.tells_lt x.kd.toNat)
  clear h hL
  simp only [meV] at HLK HCK ⊢
  generalize x.code = C at *
  by_cases h20 : 20 < x.kd.toNat
  · have HC := Lib.hid (HC8.out h20)
    have hz : decide ((20 : Int) < (x.kd.toNat : Int)) = true := decide_eq_true (by omega)
    clear h20 hlen
    go_enter Tryz.func62, Tryz.ntmps62
    go_wp2_with fail
    go_ret
    exact ⟨ret_nat (by rw [HC.out]; rfl), HB0.out⟩
  · have hz : decide ((20 : Int) < (x.kd.toNat : Int)) = false := decide_eq_false (by omega)
    have HC4 := Lib.hid (HC4.out h20)
    have HCF := Lib.hid (HCF.out h20)
    clear h20 HC8
    generalize Me.tells x.kd.toNat = l at *
    go_enter Tryz.func62, Tryz.ntmps62
    go_wp2_with fail
    refine (HT.out _).mono ?_
    rintro e w1 ⟨T, tc, rfl, hp1, b1, -⟩
    have HS1 := Lib.hid (show MeCk w x A c T l w1 from ⟨bthen HB0.out b1 (Nat.le_refl _), HX0.out.on b1 (by simp), by have := b1.size; simp at this; omega, hp1⟩)
    clear hp1 b1
    go_wp2_with fail
    go_loopg [14] 8 (fun g i wr => ∃ k : Nat, k + g = 8 ∧ i = .int .i64 (k : Int) ∧ (∀ j, j < k → meMore x l j = false) ∧ MeCk w x A c T l wr)
    case atStart => exact ⟨0, by omega, rfl, fun j hj => absurd hj (by omega), HS1.out⟩
    case round =>
      obtain ⟨k, hk, rfl, hno, hS⟩ := hrel
      have HS := Lib.hid hS
      have HNO := Lib.hid hno
      clear hS hno HS1
      by_cases hlt : k < 8
      · have HCT := Lib.hid (fun W hp => Me_contains_any l T tc k W (by omega) hp)
        have HNX : Hid (meMore x l k = false → ∀ j, j < k + 1 → meMore x l j = false) := fun g j hj => by
          by_cases e : j = k
          · rw [e]; exact g
          · exact HNO.out j (by omega)
        have HLK := Lib.hid (HLK.out k hlt)
        have HDF : Hid (meMore x l k = (!l.contains k && !x.lacks k)) := rfl
        have HMY := Lib.hid (fun g => HM1.out k hlt g)
        generalize meMore x l k = MK at *
        cases hc : l.contains k with
        | true =>
          have HN := Lib.hid (HNX.out (by rw [HDF.out, hc]; rfl))
          rw [hc] at HCT
          clear hc
          go_wp2_with fail
          refine (HCT.out _ HS.out.P).mono ?_
          rintro e w2 ⟨rfl, rfl⟩
          go_wp2_with fail
          go_roundg (gk - 1)
          case rel => exact ⟨k + 1, by omega, by go_num, HN.out, HS.out⟩
          case measure => omega
        | false =>
          rw [hc] at HCT
          have c0 := HS.out.X 0 _ rfl
          have c1 := HS.out.X 1 _ rfl
          have c2 := HS.out.X 2 _ rfl
          have c3 := HS.out.X 3 _ rfl
          have c4 := HS.out.X 4 _ rfl
          have c5 := HS.out.X 5 _ rfl
          have c6 := HS.out.X 6 _ rfl
          have c7 := HS.out.X 7 _ rfl
          have c8 := HS.out.X 8 _ rfl
          have c9 := HS.out.X 9 _ rfl
          cases hl : x.lacks k with
          | true =>
            have HN := Lib.hid (HNX.out (by rw [HDF.out, hc, hl]; rfl))
            rw [hl] at HLK
            clear hc hl
            go_wp2_with fail
            refine (HCT.out _ HS.out.P).mono ?_
            rintro e w2 ⟨rfl, rfl⟩
            go_wp2_with fail
            refine (HLK.out _).mono ?_
            rintro e w3 ⟨rfl, b3⟩
            have HS3 := Lib.hid (HS.out.on b3)
            clear b3 c0 c1 c2 c3 c4 c5 c6 c7 c8 c9
            go_wp2_with fail
            go_roundg (gk - 1)
            case rel => exact ⟨k + 1, by omega, by go_num, HN.out, HS3.out⟩
            case measure => omega
          | false =>
            have HC := Lib.hid (HC4.out (HMY.out (by rw [HDF.out, hc, hl]; rfl)))
            rw [hl] at HLK
            clear hc hl
            go_wp2_with fail
            refine (HCT.out _ HS.out.P).mono ?_
            rintro e w2 ⟨rfl, rfl⟩
            go_wp2_with fail
            refine (HLK.out _).mono ?_
            rintro e w3 ⟨rfl, b3⟩
            have HS3 := Lib.hid (HS.out.on b3)
            clear b3 c0 c1 c2 c3 c4 c5 c6 c7 c8 c9
            go_wp2_with fail
            go_ret
            exact ⟨ret_nat (by rw [HC.out]; rfl), HS3.out.B⟩
      · have HC := Lib.hid (HCF.out (HM0.out fun j hj => HNO.out j (by omega)))
        have H0 := Lib.hid (fun g => me_first_none (f := x.pcode) (l := l) g)
        have H1 := Lib.hid (fun k hk g gf => me_first_at (f := x.pcode) (l := l) (k := k) hk g gf)
        generalize Me.firstc x.pcode l = F at *
        obtain ⟨n, hn⟩ : ∃ n, n = l.length := ⟨_, rfl⟩
        have HN := Lib.hid hn
        rw [← hn] at hlen ⊢
        clear hn
        go_wp2_with fail
        go_loopg [30] n (fun g i wr => ∃ k : Nat, k + g = n ∧ i = .int .i64 (k : Int) ∧ (∀ j, j < k → x.pcode (l.getD j 0) = 0) ∧ MeCk w x A c T l wr)
        case atStart => exact ⟨0, by omega, rfl, fun j hj => absurd hj (by omega), HS.out⟩
        case round =>
          obtain ⟨m, hm, rfl, hno, hS⟩ := hrel
          have HSM := Lib.hid hS
          have HNM := Lib.hid hno
          clear hS hno
          by_cases hlm : m < n
          · have hml : m < l.length := by have := HN.out; omega
            obtain ⟨b, rfl, hbl, hat⟩ := HSM.out.P.at_ hml
            have hp8 : l.getD m 0 < 8 := HLT.out _ (by rw [List.getD_eq_getElem?_getD, List.getElem?_eq_getElem hml]; exact List.getElem_mem hml)
            have HK := Lib.hid (HCK.out (l.getD m 0) hp8)
            have HNX : Hid (x.pcode (l.getD m 0) = 0 → ∀ j, j < m + 1 → x.pcode (l.getD j 0) = 0) := fun g j hj => by
              by_cases e : j = m
              · rw [e]; exact g
              · exact HNM.out j (by omega)
            have HFA := Lib.hid (fun gf => H1.out m hml HNM.out gf)
            generalize x.pcode (l.getD m 0) = PC at *
            generalize l.getD m 0 = p at *
            clear hp8 hml
            have c0 := HSM.out.X 0 _ rfl
            have c1 := HSM.out.X 1 _ rfl
            have c2 := HSM.out.X 2 _ rfl
            have c3 := HSM.out.X 3 _ rfl
            have c4 := HSM.out.X 4 _ rfl
            have c5 := HSM.out.X 5 _ rfl
            have c6 := HSM.out.X 6 _ rfl
            have c7 := HSM.out.X 7 _ rfl
            have c8 := HSM.out.X 8 _ rfl
            have c9 := HSM.out.X 9 _ rfl
            have HRW := Lib.hid (HR.out.on HSM.out.B)
            have HLW := Lib.hid (HLL.out.on HSM.out.B)
            by_cases h0 : PC = 0
            · have HN2 := Lib.hid (HNX.out h0)
              have hk0 := code_eq h0
              clear h0 HNX HFA
              go_wp2_with fail
              refine (HK.out _ HRW.out HLW.out).mono ?_
              rintro e w3 ⟨rfl, b3⟩
              have HS3 := Lib.hid (HSM.out.on b3)
              clear b3 c0 c1 c2 c3 c4 c5 c6 c7 c8 c9
              go_wp2_with fail
              go_roundg (gk - 1)
              case rel => exact ⟨m + 1, by omega, by go_num, HN2.out, HS3.out⟩
              case measure => omega
            · have HC2 := Lib.hid (HFA.out h0)
              have hk0 := code_ne h0
              clear h0 HNX HFA
              go_wp2_with fail
              refine (HK.out _ HRW.out HLW.out).mono ?_
              rintro e w3 ⟨rfl, b3⟩
              have HS3 := Lib.hid (HSM.out.on b3)
              clear b3 c0 c1 c2 c3 c4 c5 c6 c7 c8 c9
              go_wp2_with fail
              go_ret
              exact ⟨ret_nat (by rw [HC.out, HC2.out]), HS3.out.B⟩
          · have HC2 := Lib.hid (H0.out fun j hj => HNM.out j (by have := HN.out; omega))
            go_wp2_with fail
            go_ret
            exact ⟨ret_nat (by rw [HC.out, HC2.out]; rfl), HSM.out.B⟩
end Go.Proofs.YtgaggelpjaiabaaGreatDoor
end
section
namespace Go.Proofs.YtgaggelpjaiabaaGreatDoor
open Go.ChangeShapes Go.WideShapes Go.ChangeAt Go.RowKit
set_option maxHeartbeats 1000000 in
theorem me_wyes_any (y : List UInt8) (b : Bool) (w : World) (hy : y.length ≤ 100000) : Calls Tryz.prog 138 #[.agg #[.string (ofL y), .int .i64 0], .bool b] w fun e w' => e = .returned (.agg #[.string (ofL (y ++ Pt.yesEnc b)), .int .i64 0]) ∧ Below w.heap.size w w' := by
  have HB0 := Lib.hid (show Below w.heap.size w (w.alloc (.cells #[.string (ofL y), .int .i64 0] 168)) from (Below.refl _ _).alloc (Nat.le_refl _) _)
  have HO := Lib.hid (OutB.zero HB0.out (w.heap.size + 1) (by simp) 168)
  have H1 := Lib.hid (fun W => num_l y 1 1 1 W (by omega) (by omega) rfl (by omega))
  have H0 := Lib.hid (fun W => num_l y 0 1 1 W (by omega) (by omega) rfl (by omega))
  rw [show Oct.be 1 1 = [1] from rfl, show ((1 : Nat) : Int) = 1 from rfl] at H1
  rw [show Oct.be 1 0 = [0] from rfl, show ((0 : Nat) : Int) = 0 from rfl] at H0
  cases b with
  | true =>
    rw [show Pt.yesEnc true = [1] from rfl]
    generalize y ++ [1] = z at *
    go_enter Tryz.func138, Tryz.ntmps138
    go_wp2_with fail
    refine (H1.out _).mono ?_
    rintro e w4 ⟨rfl, b4⟩
    have hO := HO.out.on b4
    have HO4 := Lib.hid hO
    obtain ⟨d0, d1, df, dl, -, -⟩ := hO
    clear b4
    go_wp2_with fail
    have HP := HO4.out.put z
    exact bodyPost_ret (v := .agg #[.string (ofL z), .int .i64 0]) (by simp [results, Tryz.results138, go_sem, HP.c0, HP.c1]) rfl ⟨rfl, HP.B⟩
  | false =>
    rw [show Pt.yesEnc false = [0] from rfl]
    generalize y ++ [0] = z at *
    go_enter Tryz.func138, Tryz.ntmps138
    go_wp2_with fail
    refine (H0.out _).mono ?_
    rintro e w4 ⟨rfl, b4⟩
    have hO := HO.out.on b4
    have HO4 := Lib.hid hO
    obtain ⟨d0, d1, df, dl, -, -⟩ := hO
    clear b4
    go_wp2_with fail
    have HP := HO4.out.put z
    exact bodyPost_ret (v := .agg #[.string (ofL z), .int .i64 0]) (by simp [results, Tryz.results138, go_sem, HP.c0, HP.c1]) rfl ⟨rfl, HP.B⟩
set_option maxHeartbeats 1000000 in
theorem me_write_0 (x : Me) (A : Option Addr) (c : Nat) (y : List UInt8) (w : World) (hy : y.length ≤ 100000) (h : MeOk w x A c) (hf : Me.Fits x) (hp : x.pcode 0 = 0) :
    Calls Tryz.prog 105 #[meV x A c, .agg #[.string (ofL y), .int .i64 0], .int .i64 0] w fun e w' => e = .returned (.agg #[.string (ofL (y ++ x.enc1 0)), .int .i64 0]) ∧ Below w.heap.size w w' := by
  have HB2 := Lib.hid (show Below w.heap.size w ((w.alloc (.cells #[.int .u8 (x.ch.toNat : Int), .int .u8 (x.kd.toNat : Int), .string (ofL x.name), .string (ofL x.other), .string (ofL x.key), .slice A x.head.length c, .string (ofL x.body), .int .u64 (x.n : Int), .int .u64 (x.m : Int), .bool x.yes] 25)).alloc (.cells #[.string (ofL y), .int .i64 0] 168)) from ((Below.refl _ _).alloc (Nat.le_refl _) _).alloc (by simp) _)
  have HO := Lib.hid (OutB.zero HB2.out (w.heap.size + 1 + 1) (by simp) 168)
  have hl : x.name.length ≤ 65535 := by
    have := (Hd.name_ok_len (show Wrd.nameCode x.name = 0 from hp)).1
    omega
  have H1 := Lib.hid (fun W => text_l y x.name W (by omega) hl)
  rw [show y ++ x.enc1 0 = y ++ (Oct.be 2 x.name.length ++ x.name) from rfl]
  generalize y ++ (Oct.be 2 x.name.length ++ x.name) = z at *
  have _ := And.intro h (And.intro hf hp)
  clear h hf hp hy
  simp only [meV]
  go_enter Tryz.func105, Tryz.ntmps105
  go_wp2_with fail
  refine (H1.out _).mono ?_
  rintro e w5 ⟨rfl, b5⟩
  have hO := HO.out.on b5
  have HO5 := Lib.hid hO
  obtain ⟨d0, d1, df, dl, -, -⟩ := hO
  clear b5
  go_wp2_with fail
  have HP := HO5.out.put z
  exact bodyPost_ret (v := .agg #[.string (ofL z), .int .i64 0]) (by simp [results, Tryz.results105, go_sem, HP.c0, HP.c1]) rfl ⟨rfl, HP.B⟩
set_option maxHeartbeats 1000000 in
theorem me_write_1 (x : Me) (A : Option Addr) (c : Nat) (y : List UInt8) (w : World) (hy : y.length ≤ 100000) (h : MeOk w x A c) (hf : Me.Fits x) (hp : x.pcode 1 = 0) :
    Calls Tryz.prog 105 #[meV x A c, .agg #[.string (ofL y), .int .i64 0], .int .i64 1] w fun e w' => e = .returned (.agg #[.string (ofL (y ++ x.enc1 1)), .int .i64 0]) ∧ Below w.heap.size w w' := by
  have HB2 := Lib.hid (show Below w.heap.size w ((w.alloc (.cells #[.int .u8 (x.ch.toNat : Int), .int .u8 (x.kd.toNat : Int), .string (ofL x.name), .string (ofL x.other), .string (ofL x.key), .slice A x.head.length c, .string (ofL x.body), .int .u64 (x.n : Int), .int .u64 (x.m : Int), .bool x.yes] 25)).alloc (.cells #[.string (ofL y), .int .i64 0] 168)) from ((Below.refl _ _).alloc (Nat.le_refl _) _).alloc (by simp) _)
  have HO := Lib.hid (OutB.zero HB2.out (w.heap.size + 1 + 1) (by simp) 168)
  have hl : x.other.length ≤ 65535 := by
    have := Me.ocode_len (show x.ocode = 0 from hp)
    omega
  have H1 := Lib.hid (fun W => text_l y x.other W (by omega) hl)
  rw [show y ++ x.enc1 1 = y ++ (Oct.be 2 x.other.length ++ x.other) from rfl]
  generalize y ++ (Oct.be 2 x.other.length ++ x.other) = z at *
  have _ := And.intro h (And.intro hf hp)
  clear h hf hp hy
  simp only [meV]
  go_enter Tryz.func105, Tryz.ntmps105
  go_wp2_with fail
  refine (H1.out _).mono ?_
  rintro e w5 ⟨rfl, b5⟩
  have hO := HO.out.on b5
  have HO5 := Lib.hid hO
  obtain ⟨d0, d1, df, dl, -, -⟩ := hO
  clear b5
  go_wp2_with fail
  have HP := HO5.out.put z
  exact bodyPost_ret (v := .agg #[.string (ofL z), .int .i64 0]) (by simp [results, Tryz.results105, go_sem, HP.c0, HP.c1]) rfl ⟨rfl, HP.B⟩
set_option maxHeartbeats 1000000 in
theorem me_write_2 (x : Me) (A : Option Addr) (c : Nat) (y : List UInt8) (w : World) (hy : y.length ≤ 100000) (h : MeOk w x A c) (hf : Me.Fits x) (hp : x.pcode 2 = 0) :
    Calls Tryz.prog 105 #[meV x A c, .agg #[.string (ofL y), .int .i64 0], .int .i64 2] w fun e w' => e = .returned (.agg #[.string (ofL (y ++ x.enc1 2)), .int .i64 0]) ∧ Below w.heap.size w w' := by
  have HB2 := Lib.hid (show Below w.heap.size w ((w.alloc (.cells #[.int .u8 (x.ch.toNat : Int), .int .u8 (x.kd.toNat : Int), .string (ofL x.name), .string (ofL x.other), .string (ofL x.key), .slice A x.head.length c, .string (ofL x.body), .int .u64 (x.n : Int), .int .u64 (x.m : Int), .bool x.yes] 25)).alloc (.cells #[.string (ofL y), .int .i64 0] 168)) from ((Below.refl _ _).alloc (Nat.le_refl _) _).alloc (by simp) _)
  have HO := Lib.hid (OutB.zero HB2.out (w.heap.size + 1 + 1) (by simp) 168)
  have hl : x.key.length ≤ 65535 := by
    have := Me.kcode_len (show x.kcode = 0 from hp)
    omega
  have H1 := Lib.hid (fun W => text_l y x.key W (by omega) hl)
  rw [show y ++ x.enc1 2 = y ++ (Oct.be 2 x.key.length ++ x.key) from rfl]
  generalize y ++ (Oct.be 2 x.key.length ++ x.key) = z at *
  have _ := And.intro h (And.intro hf hp)
  clear h hf hp hy
  simp only [meV]
  go_enter Tryz.func105, Tryz.ntmps105
  go_wp2_with fail
  refine (H1.out _).mono ?_
  rintro e w5 ⟨rfl, b5⟩
  have hO := HO.out.on b5
  have HO5 := Lib.hid hO
  obtain ⟨d0, d1, df, dl, -, -⟩ := hO
  clear b5
  go_wp2_with fail
  have HP := HO5.out.put z
  exact bodyPost_ret (v := .agg #[.string (ofL z), .int .i64 0]) (by simp [results, Tryz.results105, go_sem, HP.c0, HP.c1]) rfl ⟨rfl, HP.B⟩
set_option maxHeartbeats 1000000 in
theorem me_write_3 (x : Me) (A : Option Addr) (c : Nat) (y : List UInt8) (w : World) (hy : y.length ≤ 100000) (h : MeOk w x A c) (hf : Me.Fits x) (hp : x.pcode 3 = 0) :
    Calls Tryz.prog 105 #[meV x A c, .agg #[.string (ofL y), .int .i64 0], .int .i64 3] w fun e w' => e = .returned (.agg #[.string (ofL (y ++ x.enc1 3)), .int .i64 0]) ∧ Below w.heap.size w w' := by
  have HB2 := Lib.hid (show Below w.heap.size w ((w.alloc (.cells #[.int .u8 (x.ch.toNat : Int), .int .u8 (x.kd.toNat : Int), .string (ofL x.name), .string (ofL x.other), .string (ofL x.key), .slice A x.head.length c, .string (ofL x.body), .int .u64 (x.n : Int), .int .u64 (x.m : Int), .bool x.yes] 25)).alloc (.cells #[.string (ofL y), .int .i64 0] 168)) from ((Below.refl _ _).alloc (Nat.le_refl _) _).alloc (by simp) _)
  have HO := Lib.hid (OutB.zero HB2.out (w.heap.size + 1 + 1) (by simp) 168)
  have h0 : Hd.hcode x.head = 0 := hp
  have HR := Lib.hid (h.row.on (HB2.out.alloc HB2.out.size (.cells #[.string ⟨#[]⟩, .int .i64 0] 168)))
  have H0 := Lib.hid (fun W g => hbytes_any x.head A c W h.len h.cap h.lite g)
  rw [show hbytesV x.head = .tuple #[.string (ofL (Hd.henc x.head)), .int .i64 0] by unfold hbytesV; rw [if_pos h0]] at H0
  have hl : (Hd.henc x.head).length ≤ 1000 := by
    have := (hfine_of h0).pre x.head.length
    rw [hpre_all (Nat.le_refl _)] at this
    exact this
  have H1 := Lib.hid (fun W => raw_l y (Hd.henc x.head) W (by omega) (by omega))
  have HOX := Lib.hid (show OutB w (w.heap.size + 1) y (((w.alloc (.cells #[.int .u8 (x.ch.toNat : Int), .int .u8 (x.kd.toNat : Int), .string (ofL x.name), .string (ofL x.other), .string (ofL x.key), .slice A x.head.length c, .string (ofL x.body), .int .u64 (x.n : Int), .int .u64 (x.m : Int), .bool x.yes] 25)).alloc (.cells #[.string (ofL y), .int .i64 0] 168)).alloc (.cells #[.string ⟨#[]⟩, .int .i64 0] 168)) from (show OutB w (w.heap.size + 1) y ((w.alloc (.cells #[.int .u8 (x.ch.toNat : Int), .int .u8 (x.kd.toNat : Int), .string (ofL x.name), .string (ofL x.other), .string (ofL x.key), .slice A x.head.length c, .string (ofL x.body), .int .u64 (x.n : Int), .int .u64 (x.m : Int), .bool x.yes] 25)).alloc (.cells #[.string (ofL y), .int .i64 0] 168)) from by
    have := OutB.new (show Below w.heap.size w (w.alloc (.cells #[.int .u8 (x.ch.toNat : Int), .int .u8 (x.kd.toNat : Int), .string (ofL x.name), .string (ofL x.other), .string (ofL x.key), .slice A x.head.length c, .string (ofL x.body), .int .u64 (x.n : Int), .int .u64 (x.m : Int), .bool x.yes] 25)) from (Below.refl _ _).alloc (Nat.le_refl _) _) y 168
    simpa using this).on ((Below.refl _ _).alloc (Nat.le_refl _) _))
  rw [show y ++ x.enc1 3 = y ++ Hd.henc x.head from rfl]
  generalize y ++ Hd.henc x.head = z at *
  generalize Hd.henc x.head = hx at *
  have _ := And.intro h (And.intro hf hp)
  clear h hf hp hy
  simp only [meV]
  go_enter Tryz.func105, Tryz.ntmps105
  go_wp2_with fail
  refine (H0.out _ HR.out).mono ?_
  rintro e w4 ⟨rfl, b4⟩
  have HO := Lib.hid (HO.out.on b4)
  have hX := HOX.out.on b4
  obtain ⟨q0, q1, -, ql, -, -⟩ := hX
  clear b4 HOX
  go_wp2_with fail
  refine (H1.out _).mono ?_
  rintro e w5 ⟨rfl, b5⟩
  have hO := HO.out.on b5
  have HO5 := Lib.hid hO
  obtain ⟨d0, d1, df, dl, -, -⟩ := hO
  clear b5 q0 q1 ql
  go_wp2_with fail
  have HP := HO5.out.put z
  exact bodyPost_ret (v := .agg #[.string (ofL z), .int .i64 0]) (by simp [results, Tryz.results105, go_sem, HP.c0, HP.c1]) rfl ⟨rfl, HP.B⟩
set_option maxHeartbeats 1000000 in
theorem me_write_4 (x : Me) (A : Option Addr) (c : Nat) (y : List UInt8) (w : World) (hy : y.length ≤ 100000) (h : MeOk w x A c) (hf : Me.Fits x) (hp : x.pcode 4 = 0) :
    Calls Tryz.prog 105 #[meV x A c, .agg #[.string (ofL y), .int .i64 0], .int .i64 4] w fun e w' => e = .returned (.agg #[.string (ofL (y ++ x.enc1 4)), .int .i64 0]) ∧ Below w.heap.size w w' := by
  have HB2 := Lib.hid (show Below w.heap.size w ((w.alloc (.cells #[.int .u8 (x.ch.toNat : Int), .int .u8 (x.kd.toNat : Int), .string (ofL x.name), .string (ofL x.other), .string (ofL x.key), .slice A x.head.length c, .string (ofL x.body), .int .u64 (x.n : Int), .int .u64 (x.m : Int), .bool x.yes] 25)).alloc (.cells #[.string (ofL y), .int .i64 0] 168)) from ((Below.refl _ _).alloc (Nat.le_refl _) _).alloc (by simp) _)
  have HO := Lib.hid (OutB.zero HB2.out (w.heap.size + 1 + 1) (by simp) 168)
  have hl : x.body.length ≤ 65535 := by
    have h0 : (if 256 < x.body.length then 5 else 0) = 0 := hp
    by_cases hh : 256 < x.body.length
    · rw [if_pos hh] at h0; omega
    · omega
  have H1 := Lib.hid (fun W => text_l y x.body W (by omega) hl)
  rw [show y ++ x.enc1 4 = y ++ (Oct.be 2 x.body.length ++ x.body) from rfl]
  generalize y ++ (Oct.be 2 x.body.length ++ x.body) = z at *
  have _ := And.intro h (And.intro hf hp)
  clear h hf hp hy
  simp only [meV]
  go_enter Tryz.func105, Tryz.ntmps105
  go_wp2_with fail
  refine (H1.out _).mono ?_
  rintro e w5 ⟨rfl, b5⟩
  have hO := HO.out.on b5
  have HO5 := Lib.hid hO
  obtain ⟨d0, d1, df, dl, -, -⟩ := hO
  clear b5
  go_wp2_with fail
  have HP := HO5.out.put z
  exact bodyPost_ret (v := .agg #[.string (ofL z), .int .i64 0]) (by simp [results, Tryz.results105, go_sem, HP.c0, HP.c1]) rfl ⟨rfl, HP.B⟩
set_option maxHeartbeats 1000000 in
theorem me_write_5 (x : Me) (A : Option Addr) (c : Nat) (y : List UInt8) (w : World) (hy : y.length ≤ 100000) (h : MeOk w x A c) (hf : Me.Fits x) (hp : x.pcode 5 = 0) :
    Calls Tryz.prog 105 #[meV x A c, .agg #[.string (ofL y), .int .i64 0], .int .i64 5] w fun e w' => e = .returned (.agg #[.string (ofL (y ++ x.enc1 5)), .int .i64 0]) ∧ Below w.heap.size w w' := by
  have HB2 := Lib.hid (show Below w.heap.size w ((w.alloc (.cells #[.int .u8 (x.ch.toNat : Int), .int .u8 (x.kd.toNat : Int), .string (ofL x.name), .string (ofL x.other), .string (ofL x.key), .slice A x.head.length c, .string (ofL x.body), .int .u64 (x.n : Int), .int .u64 (x.m : Int), .bool x.yes] 25)).alloc (.cells #[.string (ofL y), .int .i64 0] 168)) from ((Below.refl _ _).alloc (Nat.le_refl _) _).alloc (by simp) _)
  have HO := Lib.hid (OutB.zero HB2.out (w.heap.size + 1 + 1) (by simp) 168)
  have H1 := Lib.hid (fun W => num_l y x.n 8 8 W hf.n (by omega) rfl (by omega))
  rw [show y ++ x.enc1 5 = y ++ Oct.be 8 x.n from rfl]
  generalize y ++ Oct.be 8 x.n = z at *
  have _ := And.intro h (And.intro hf hp)
  clear h hf hp hy
  simp only [meV]
  go_enter Tryz.func105, Tryz.ntmps105
  go_wp2_with fail
  refine (H1.out _).mono ?_
  rintro e w5 ⟨rfl, b5⟩
  have hO := HO.out.on b5
  have HO5 := Lib.hid hO
  obtain ⟨d0, d1, df, dl, -, -⟩ := hO
  clear b5
  go_wp2_with fail
  have HP := HO5.out.put z
  exact bodyPost_ret (v := .agg #[.string (ofL z), .int .i64 0]) (by simp [results, Tryz.results105, go_sem, HP.c0, HP.c1]) rfl ⟨rfl, HP.B⟩
set_option maxHeartbeats 1000000 in
theorem me_write_6 (x : Me) (A : Option Addr) (c : Nat) (y : List UInt8) (w : World) (hy : y.length ≤ 100000) (h : MeOk w x A c) (hf : Me.Fits x) (hp : x.pcode 6 = 0) :
    Calls Tryz.prog 105 #[meV x A c, .agg #[.string (ofL y), .int .i64 0], .int .i64 6] w fun e w' => e = .returned (.agg #[.string (ofL (y ++ x.enc1 6)), .int .i64 0]) ∧ Below w.heap.size w w' := by
  have HB2 := Lib.hid (show Below w.heap.size w ((w.alloc (.cells #[.int .u8 (x.ch.toNat : Int), .int .u8 (x.kd.toNat : Int), .string (ofL x.name), .string (ofL x.other), .string (ofL x.key), .slice A x.head.length c, .string (ofL x.body), .int .u64 (x.n : Int), .int .u64 (x.m : Int), .bool x.yes] 25)).alloc (.cells #[.string (ofL y), .int .i64 0] 168)) from ((Below.refl _ _).alloc (Nat.le_refl _) _).alloc (by simp) _)
  have HO := Lib.hid (OutB.zero HB2.out (w.heap.size + 1 + 1) (by simp) 168)
  have H1 := Lib.hid (fun W => num_l y x.m 8 8 W hf.m (by omega) rfl (by omega))
  rw [show y ++ x.enc1 6 = y ++ Oct.be 8 x.m from rfl]
  generalize y ++ Oct.be 8 x.m = z at *
  have _ := And.intro h (And.intro hf hp)
  clear h hf hp hy
  simp only [meV]
  go_enter Tryz.func105, Tryz.ntmps105
  go_wp2_with fail
  refine (H1.out _).mono ?_
  rintro e w5 ⟨rfl, b5⟩
  have hO := HO.out.on b5
  have HO5 := Lib.hid hO
  obtain ⟨d0, d1, df, dl, -, -⟩ := hO
  clear b5
  go_wp2_with fail
  have HP := HO5.out.put z
  exact bodyPost_ret (v := .agg #[.string (ofL z), .int .i64 0]) (by simp [results, Tryz.results105, go_sem, HP.c0, HP.c1]) rfl ⟨rfl, HP.B⟩
set_option maxHeartbeats 1000000 in
theorem me_write_7 (x : Me) (A : Option Addr) (c : Nat) (y : List UInt8) (w : World) (hy : y.length ≤ 100000) (h : MeOk w x A c) (hf : Me.Fits x) (hp : x.pcode 7 = 0) :
    Calls Tryz.prog 105 #[meV x A c, .agg #[.string (ofL y), .int .i64 0], .int .i64 7] w fun e w' => e = .returned (.agg #[.string (ofL (y ++ x.enc1 7)), .int .i64 0]) ∧ Below w.heap.size w w' := by
  have HB2 := Lib.hid (show Below w.heap.size w ((w.alloc (.cells #[.int .u8 (x.ch.toNat : Int), .int .u8 (x.kd.toNat : Int), .string (ofL x.name), .string (ofL x.other), .string (ofL x.key), .slice A x.head.length c, .string (ofL x.body), .int .u64 (x.n : Int), .int .u64 (x.m : Int), .bool x.yes] 25)).alloc (.cells #[.string (ofL y), .int .i64 0] 168)) from ((Below.refl _ _).alloc (Nat.le_refl _) _).alloc (by simp) _)
  have HO := Lib.hid (OutB.zero HB2.out (w.heap.size + 1 + 1) (by simp) 168)
  have H1 := Lib.hid (fun W => me_wyes_any y x.yes W hy)
  rw [show y ++ x.enc1 7 = y ++ Pt.yesEnc x.yes from rfl]
  generalize y ++ Pt.yesEnc x.yes = z at *
  have _ := And.intro h (And.intro hf hp)
  clear h hf hp hy
  simp only [meV]
  go_enter Tryz.func105, Tryz.ntmps105
  go_wp2_with fail
  refine (H1.out _).mono ?_
  rintro e w5 ⟨rfl, b5⟩
  have hO := HO.out.on b5
  have HO5 := Lib.hid hO
  obtain ⟨d0, d1, df, dl, -, -⟩ := hO
  clear b5
  go_wp2_with fail
  have HP := HO5.out.put z
  exact bodyPost_ret (v := .agg #[.string (ofL z), .int .i64 0]) (by simp [results, Tryz.results105, go_sem, HP.c0, HP.c1]) rfl ⟨rfl, HP.B⟩
theorem me_write_any (x : Me) (A : Option Addr) (c p : Nat) (hp8 : p < 8) (y : List UInt8) (w : World) (hy : y.length ≤ 100000) (h : MeOk w x A c) (hf : Me.Fits x) (hp : x.pcode p = 0) :
    Calls Tryz.prog 105 #[meV x A c, .agg #[.string (ofL y), .int .i64 0], .int .i64 (p : Int)] w fun e w' => e = .returned (.agg #[.string (ofL (y ++ x.enc1 p)), .int .i64 0]) ∧ Below w.heap.size w w' := by
  rcases Me.lt8 hp8 with rfl | rfl | rfl | rfl | rfl | rfl | rfl | rfl
  · exact me_write_0 x A c y w hy h hf hp
  · exact me_write_1 x A c y w hy h hf hp
  · exact me_write_2 x A c y w hy h hf hp
  · exact me_write_3 x A c y w hy h hf hp
  · exact me_write_4 x A c y w hy h hf hp
  · exact me_write_5 x A c y w hy h hf hp
  · exact me_write_6 x A c y w hy h hf hp
  · exact me_write_7 x A c y w hy h hf hp
end Go.Proofs.YtgaggelpjaiabaaGreatDoor
end
