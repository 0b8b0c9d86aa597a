/-
  WHETHER A METHOD MAY BE: the whole, walked. A PAIR WRITTEN: walked.
-/
import Derived.Test.YtnamkglflhkckaaGreatDoorMr03
import Derived.Test.YtnamkglflhkckaaGreatDoorMr06
import Derived.Test.YtnamkglflhkckaaGreatDoorMr10
import Derived.Deep.RegionHeld3
import Derived.Deep.DeepCutAuto
section
namespace Go.Proofs.YtnamkglflhkckaaGreatDoor
open Go.ChangeShapes Go.WideShapes Go.ChangeAt Go.RowKit
def meMore (x : Me) (l : List Nat) (j : Nat) : Bool := !l.contains j && !x.lacks j
theorem me_more_no {x : Me} (h : ∀ j, j < 8 → meMore x (Me.tells x.kd.toNat) j = false) : x.more = false := by
  unfold Me.more
  rw [List.any_eq_false]
  intro j hj
  have := h j (List.mem_range.1 hj)
  unfold meMore at this
  rw [this]; simp
theorem me_more_yes {x : Me} {j : Nat} (hj : j < 8) (h : meMore x (Me.tells x.kd.toNat) j = true) : x.more = true :=
  List.any_eq_true.2 ⟨j, List.mem_range.2 hj, h⟩
theorem me_code_kind {x : Me} (h : 20 < x.kd.toNat) : x.code = 8 := by unfold Me.code; rw [if_pos h]
theorem me_code_more {x : Me} (h : ¬ 20 < x.kd.toNat) (hm : x.more = true) : x.code = 4 := by unfold Me.code; rw [if_neg h, if_pos hm]
theorem me_code_first {x : Me} (h : ¬ 20 < x.kd.toNat) (hm : x.more = false) : x.code = Me.firstc x.pcode (Me.tells x.kd.toNat) := by unfold Me.code; rw [if_neg h, hm]; rfl
theorem me_first_none {f : Nat → Nat} : ∀ {l : List Nat}, (∀ j, j < l.length → f (l.getD j 0) = 0) → Me.firstc f l = 0
  | [], _ => rfl
  | p :: l, h => by
    have h0 : f p = 0 := h 0 (by simp)
    rw [Me.firstc, if_neg (by omega)]
    exact me_first_none fun j hj => h (j + 1) (by simp; omega)
theorem me_first_at {f : Nat → Nat} : ∀ {l : List Nat} {k : Nat}, k < l.length → (∀ j, j < k → f (l.getD j 0) = 0) → f (l.getD k 0) ≠ 0 → Me.firstc f l = f (l.getD k 0)
  | [], k, hk, _, _ => by simp at hk
  | p :: l, 0, _, _, hf => by
    have h0 : f p ≠ 0 := hf
    rw [Me.firstc, if_pos h0]
    rfl
  | p :: l, k + 1, hk, h, hf => by
    have h0 : f p = 0 := h 0 (by omega)
    rw [Me.firstc, if_neg (by omega)]
    exact me_first_at (k := k) (by simpa using hk) (fun j hj => h (j + 1) (by omega)) hf
/-- while it is checked: its box, the row of parts -/
structure MeCk (w : World) (x : Me) (A : Option Addr) (c : Nat) (T : Option Addr) (l : List Nat) (wr : World) : Prop where
  B : Below w.heap.size w wr
  X : Cels wr w.heap.size (meL x A c)
  lt : w.heap.size < wr.heap.size
  P : Parts wr T l
theorem MeCk.on {w : World} {x : Me} {A : Option Addr} {c : Nat} {T : Option Addr} {l : List Nat} {wr w' : World} (h : MeCk w x A c T l wr) (hb : Below wr.heap.size wr w') : MeCk w x A c T l w' :=
  ⟨bthen h.B hb (Nat.le_refl _), h.X.on hb h.lt, Nat.lt_of_lt_of_le h.lt hb.size, h.P.on hb⟩
set_option maxRecDepth 100000 in
set_option maxHeartbeats 4000000 in
theorem me_Check_any (x : Me) (A : Option Addr) (c : Nat) (w : World) (h : MeOk w x A c) (hL : Len w) : Calls Tryz.prog 14 #[meV x A c] w fun e w' => e = .returned (.int .i64 (x.code : Int)) ∧ Below w.heap.size w w' := by
  have HB0 := Lib.hid (show Below w.heap.size w (w.alloc (.cells #[.int .u8 (x.ch.toNat : Int), .int .u8 (x.kd.toNat : Int), .string (ofL x.name), .string (ofL x.other), .string (ofL x.key), .slice A x.head.length c, .string (ofL x.body), .int .u64 (x.n : Int), .int .u64 (x.m : Int), .bool x.yes] 25)) from (Below.refl _ _).alloc (Nat.le_refl _) _)
  have HX0 := Lib.hid (meBox x A c w 25)
  have HLL := Lib.hid hL
  have HR := Lib.hid h
  have HT := Lib.hid (fun W => Me_tells_any x.kd.toNat W)
  have HLK := Lib.hid (fun p hp W => me_lacks_any x A c p hp W)
  have HCK := Lib.hid (fun p hp W h1 h2 => me_check_any x A c p hp W h1 h2)
  have HM0 := Lib.hid (fun g => me_more_no (x := x) g)
  have HM1 := Lib.hid (fun j (hj : j < 8) g => me_more_yes (x := x) hj g)
  have HC8 := Lib.hid (fun g => me_code_kind (x := x) g)
  have HC4 := Lib.hid (fun g k => me_code_more (x := x) g k)
  have HCF := Lib.hid (fun g k => me_code_first (x := x) g k)
  have hlen := Me.tells_len x.kd.toNat
  have HLT := Lib.hid (Me.tells_lt x.kd.toNat)
  clear h hL
  simp only [meV] at HLK HCK ⊢
  generalize x.code = C at *
  by_cases h20 : 20 < x.kd.toNat
  · have HC := Lib.hid (HC8.out h20)
    have hz : decide ((20 : Int) < (x.kd.toNat : Int)) = true := decide_eq_true (by omega)
    clear h20 hlen
    go_enter Tryz.func14, Tryz.ntmps14
    go_wp2_with fail
    go_ret
    exact ⟨ret_nat (by rw [HC.out]; rfl), HB0.out⟩
  · have hz : decide ((20 : Int) < (x.kd.toNat : Int)) = false := decide_eq_false (by omega)
    have HC4 := Lib.hid (HC4.out h20)
    have HCF := Lib.hid (HCF.out h20)
    clear h20 HC8
    generalize Me.tells x.kd.toNat = l at *
    go_enter Tryz.func14, Tryz.ntmps14
    go_wp2_with fail
    refine (HT.out _).mono ?_
    rintro e w1 ⟨T, tc, rfl, hp1, b1, -⟩
    have HS1 := Lib.hid (show MeCk w x A c T l w1 from ⟨bthen HB0.out b1 (Nat.le_refl _), HX0.out.on b1 (by simp), by have := b1.size; simp at this; omega, hp1⟩)
    clear hp1 b1
    go_wp2_with fail
    go_loopg [14] 8 (fun g i wr => ∃ k : Nat, k + g = 8 ∧ i = .int .i64 (k : Int) ∧ (∀ j, j < k → meMore x l j = false) ∧ MeCk w x A c T l wr)
    case atStart => exact ⟨0, by omega, rfl, fun j hj => absurd hj (by omega), HS1.out⟩
    case round =>
      obtain ⟨k, hk, rfl, hno, hS⟩ := hrel
      have HS := Lib.hid hS
      have HNO := Lib.hid hno
      clear hS hno HS1
      by_cases hlt : k < 8
      · have HCT := Lib.hid (fun W hp => Me_contains_any l T tc k W (by omega) hp)
        have HNX : Hid (meMore x l k = false → ∀ j, j < k + 1 → meMore x l j = false) := fun g j hj => by
          by_cases e : j = k
          · rw [e]; exact g
          · exact HNO.out j (by omega)
        have HLK := Lib.hid (HLK.out k hlt)
        have HDF : Hid (meMore x l k = (!l.contains k && !x.lacks k)) := rfl
        have HMY := Lib.hid (fun g => HM1.out k hlt g)
        generalize meMore x l k = MK at *
        cases hc : l.contains k with
        | true =>
          have HN := Lib.hid (HNX.out (by rw [HDF.out, hc]; rfl))
          rw [hc] at HCT
          clear hc
          go_wp2_with fail
          refine (HCT.out _ HS.out.P).mono ?_
          rintro e w2 ⟨rfl, rfl⟩
          go_wp2_with fail
          go_roundg (gk - 1)
          case rel => exact ⟨k + 1, by omega, by go_num, HN.out, HS.out⟩
          case measure => omega
        | false =>
          rw [hc] at HCT
          have c0 := HS.out.X 0 _ rfl
          have c1 := HS.out.X 1 _ rfl
          have c2 := HS.out.X 2 _ rfl
          have c3 := HS.out.X 3 _ rfl
          have c4 := HS.out.X 4 _ rfl
          have c5 := HS.out.X 5 _ rfl
          have c6 := HS.out.X 6 _ rfl
          have c7 := HS.out.X 7 _ rfl
          have c8 := HS.out.X 8 _ rfl
          have c9 := HS.out.X 9 _ rfl
          cases hl : x.lacks k with
          | true =>
            have HN := Lib.hid (HNX.out (by rw [HDF.out, hc, hl]; rfl))
            rw [hl] at HLK
            clear hc hl
            go_wp2_with fail
            refine (HCT.out _ HS.out.P).mono ?_
            rintro e w2 ⟨rfl, rfl⟩
            go_wp2_with fail
            refine (HLK.out _).mono ?_
            rintro e w3 ⟨rfl, b3⟩
            have HS3 := Lib.hid (HS.out.on b3)
            clear b3 c0 c1 c2 c3 c4 c5 c6 c7 c8 c9
            go_wp2_with fail
            go_roundg (gk - 1)
            case rel => exact ⟨k + 1, by omega, by go_num, HN.out, HS3.out⟩
            case measure => omega
          | false =>
            have HC := Lib.hid (HC4.out (HMY.out (by rw [HDF.out, hc, hl]; rfl)))
            rw [hl] at HLK
            clear hc hl
            go_wp2_with fail
            refine (HCT.out _ HS.out.P).mono ?_
            rintro e w2 ⟨rfl, rfl⟩
            go_wp2_with fail
            refine (HLK.out _).mono ?_
            rintro e w3 ⟨rfl, b3⟩
            have HS3 := Lib.hid (HS.out.on b3)
            clear b3 c0 c1 c2 c3 c4 c5 c6 c7 c8 c9
            go_wp2_with fail
            go_ret
            exact ⟨ret_nat (by rw [HC.out]; rfl), HS3.out.B⟩
      · have HC := Lib.hid (HCF.out (HM0.out fun j hj => HNO.out j (by omega)))
        have H0 := Lib.hid (fun g => me_first_none (f := x.pcode) (l := l) g)
        have H1 := Lib.hid (fun k hk g gf => me_first_at (f := x.pcode) (l := l) (k := k) hk g gf)
        generalize Me.firstc x.pcode l = F at *
        obtain ⟨n, hn⟩ : ∃ n, n = l.length := ⟨_, rfl⟩
        have HN := Lib.hid hn
        rw [← hn] at hlen ⊢
        clear hn
        go_wp2_with fail
        go_loopg [30] n (fun g i wr => ∃ k : Nat, k + g = n ∧ i = .int .i64 (k : Int) ∧ (∀ j, j < k → x.pcode (l.getD j 0) = 0) ∧ MeCk w x A c T l wr)
        case atStart => exact ⟨0, by omega, rfl, fun j hj => absurd hj (by omega), HS.out⟩
        case round =>
          obtain ⟨m, hm, rfl, hno, hS⟩ := hrel
          have HSM := Lib.hid hS
          have HNM := Lib.hid hno
          clear hS hno
          by_cases hlm : m < n
          · have hml : m < l.length := by have := HN.out; omega
            obtain ⟨b, rfl, hbl, hat⟩ := HSM.out.P.at_ hml
            have hp8 : l.getD m 0 < 8 := HLT.out _ (by rw [List.getD_eq_getElem?_getD, List.getElem?_eq_getElem hml]; exact List.getElem_mem hml)
            have HK := Lib.hid (HCK.out (l.getD m 0) hp8)
            have HNX : Hid (x.pcode (l.getD m 0) = 0 → ∀ j, j < m + 1 → x.pcode (l.getD j 0) = 0) := fun g j hj => by
              by_cases e : j = m
              · rw [e]; exact g
              · exact HNM.out j (by omega)
            have HFA := Lib.hid (fun gf => H1.out m hml HNM.out gf)
            generalize x.pcode (l.getD m 0) = PC at *
            generalize l.getD m 0 = p at *
            clear hp8 hml
            have c0 := HSM.out.X 0 _ rfl
            have c1 := HSM.out.X 1 _ rfl
            have c2 := HSM.out.X 2 _ rfl
            have c3 := HSM.out.X 3 _ rfl
            have c4 := HSM.out.X 4 _ rfl
            have c5 := HSM.out.X 5 _ rfl
            have c6 := HSM.out.X 6 _ rfl
            have c7 := HSM.out.X 7 _ rfl
            have c8 := HSM.out.X 8 _ rfl
            have c9 := HSM.out.X 9 _ rfl
            have HRW := Lib.hid (HR.out.on HSM.out.B)
            have HLW := Lib.hid (HLL.out.on HSM.out.B)
            by_cases h0 : PC = 0
            · have HN2 := Lib.hid (HNX.out h0)
              have hk0 := code_eq h0
              clear h0 HNX HFA
              go_wp2_with fail
              refine (HK.out _ HRW.out HLW.out).mono ?_
              rintro e w3 ⟨rfl, b3⟩
              have HS3 := Lib.hid (HSM.out.on b3)
              clear b3 c0 c1 c2 c3 c4 c5 c6 c7 c8 c9
              go_wp2_with fail
              go_roundg (gk - 1)
              case rel => exact ⟨m + 1, by omega, by go_num, HN2.out, HS3.out⟩
              case measure => omega
            · have HC2 := Lib.hid (HFA.out h0)
              have hk0 := code_ne h0
              clear h0 HNX HFA
              go_wp2_with fail
              refine (HK.out _ HRW.out HLW.out).mono ?_
              rintro e w3 ⟨rfl, b3⟩
              have HS3 := Lib.hid (HSM.out.on b3)
              clear b3 c0 c1 c2 c3 c4 c5 c6 c7 c8 c9
              go_wp2_with fail
              go_ret
              exact ⟨ret_nat (by rw [HC.out, HC2.out]), HS3.out.B⟩
          · have HC2 := Lib.hid (H0.out fun j hj => HNM.out j (by have := HN.out; omega))
            go_wp2_with fail
            go_ret
            exact ⟨ret_nat (by rw [HC.out, HC2.out]; rfl), HSM.out.B⟩
end Go.Proofs.YtnamkglflhkckaaGreatDoor
end
section
namespace Go.Proofs.YtnamkglflhkckaaGreatDoor
open Go.ChangeShapes Go.WideShapes Go.ChangeAt Go.RowKit
/-- the three boxes of head.write: what is written so far, the pair, the answer -/
structure WrC (w : World) (a b c : Nat) (k : List UInt8) (kd : Nat) (n : Int) (t : List UInt8) (W : World) : Prop where
  o : ∃ (s : ByteArray) (e : Int), W.cell? ⟨a, 0, none⟩ = some (.string s) ∧ W.cell? ⟨a, 1, none⟩ = some (.int .i64 e)
  so : ∀ j, W.frozen? ⟨a, j, none⟩ = false
  p : PrAt W b 0 ⟨k, kd, n, t⟩
  r0 : W.cell? ⟨c, 0, none⟩ = some (.string ⟨#[]⟩)
  r1 : W.cell? ⟨c, 1, none⟩ = some (.int .i64 0)
  sr : ∀ j, W.frozen? ⟨c, j, none⟩ = false
  la : a < W.heap.size
  lb : b < W.heap.size
  lc : c < W.heap.size
  ab : a ≠ b
  ac : a ≠ c
  bc : b ≠ c
  ge : w.heap.size ≤ a
  gc : w.heap.size ≤ c
  B : Below w.heap.size w W
theorem WrC.on {w : World} {a b c : Nat} {k : List UInt8} {kd : Nat} {n : Int} {t : List UInt8} {W W' : World} (h : WrC w a b c k kd n t W) (hb : Below W.heap.size W W') : WrC w a b c k kd n t W' := by
  obtain ⟨s, e, h0, h1⟩ := h.o
  exact ⟨⟨s, e, (hb.cell (p := ⟨a, 0, none⟩) h.la).trans h0, (hb.cell (p := ⟨a, 1, none⟩) h.la).trans h1⟩, fun j => (hb.frozen (p := ⟨a, j, none⟩) h.la).trans (h.so j), h.p.below hb h.lb,
    (hb.cell (p := ⟨c, 0, none⟩) h.lc).trans h.r0, (hb.cell (p := ⟨c, 1, none⟩) h.lc).trans h.r1, fun j => (hb.frozen (p := ⟨c, j, none⟩) h.lc).trans (h.sr j),
    Nat.lt_of_lt_of_le h.la hb.size, Nat.lt_of_lt_of_le h.lb hb.size, Nat.lt_of_lt_of_le h.lc hb.size, h.ab, h.ac, h.bc, h.ge, h.gc, bthen h.B hb (Nat.le_refl _)⟩
abbrev WrS (w : World) (a b c : Nat) (k : List UInt8) (kd : Nat) (n : Int) (t : List UInt8) (W : World) : Prop :=
  (W.cell? ⟨b, 0, none⟩ = some (.string (ofL k)) ∧ W.cell? ⟨b, 1, none⟩ = some (.int .u8 (kd : Int)) ∧ b < W.heap.size) ∧ WrC w a b c k kd n t W
theorem WrC.s {w : World} {a b c : Nat} {k : List UInt8} {kd : Nat} {n : Int} {t : List UInt8} {W : World} (h : WrC w a b c k kd n t W) : WrS w a b c k kd n t W := ⟨⟨h.p.c0, h.p.c1, h.lb⟩, h⟩
theorem WrS.on {w : World} {a b c : Nat} {k : List UInt8} {kd : Nat} {n : Int} {t : List UInt8} {W W' : World} (h : WrS w a b c k kd n t W) (hb : Below W.heap.size W W') : WrS w a b c k kd n t W' := (h.2.on hb).s
theorem ne_blk9 {a b : Nat} (h : a ≠ b) (i j : Nat) : (⟨a, i, none⟩ : Addr) ≠ ⟨b, j, none⟩ := by simp only [ne_eq, Addr.mk.injEq, not_and]; omega
/-- what is written is laid into its box -/
theorem WrC.done {w : World} {a b c : Nat} {k : List UInt8} {kd : Nat} {n : Int} {t : List UInt8} {W : World} (h : WrC w a b c k kd n t W) (s : ByteArray) :
    WrC w a b c k kd n t ((W.setCell ⟨a, 0, none⟩ (.string s)).setCell ⟨a, 1, none⟩ (.int .i64 0)) ∧ ((W.setCell ⟨a, 0, none⟩ (.string s)).setCell ⟨a, 1, none⟩ (.int .i64 0)).cell? ⟨a, 0, none⟩ = some (.string s) ∧ ((W.setCell ⟨a, 0, none⟩ (.string s)).setCell ⟨a, 1, none⟩ (.int .i64 0)).cell? ⟨a, 1, none⟩ = some (.int .i64 0) := by
  obtain ⟨s0, e0, h0, h1⟩ := h.o
  have hC : Cels W a [.string s0, .int .i64 e0] := fun j v hj => by
    match j, hj with
    | 0, hj => obtain rfl := Option.some.inj hj; exact h0
    | 1, hj => obtain rfl := Option.some.inj hj; exact h1
  have hD := (hC.put 0 (.string s) (by simp)).put 1 (.int .i64 0) (by simp)
  have f0 := hD 0 _ rfl
  have f1 := hD 1 _ rfl
  have x : ∀ (g i : Nat), a ≠ g → ((W.setCell ⟨a, 0, none⟩ (.string s)).setCell ⟨a, 1, none⟩ (.int .i64 0)).cell? ⟨g, i, none⟩ = W.cell? ⟨g, i, none⟩ := fun g i hg =>
    (World.cell?_setCell_other _ _ _ _ (ne_blk9 hg _ _)).trans (World.cell?_setCell_other _ _ _ _ (ne_blk9 hg _ _))
  exact ⟨⟨⟨s, 0, f0, f1⟩, fun j => ((Soft.put (Soft.put h.so _ _) _ _) j), ⟨(x b 0 h.ab).trans h.p.c0, (x b 1 h.ab).trans h.p.c1, (x b 2 h.ab).trans h.p.c2, (x b 3 h.ab).trans h.p.c3⟩,
    (x c 0 h.ac).trans h.r0, (x c 1 h.ac).trans h.r1, fun j => ((Soft.put (Soft.put h.sr _ _) _ _) j), by simpa [World.setCell] using h.la, by simpa [World.setCell] using h.lb, by simpa [World.setCell] using h.lc, h.ab, h.ac, h.bc, h.ge, h.gc, (h.B.setCell h.ge _).setCell h.ge _⟩, f0, f1⟩
/-- the answer is laid into its box -/
theorem WrC.last {w : World} {a b c : Nat} {k : List UInt8} {kd : Nat} {n : Int} {t : List UInt8} {W : World} (h : WrC w a b c k kd n t W) (s : ByteArray) :
    ((W.setCell ⟨c, 0, none⟩ (.string s)).setCell ⟨c, 1, none⟩ (.int .i64 0)).cell? ⟨c, 0, none⟩ = some (.string s) ∧ ((W.setCell ⟨c, 0, none⟩ (.string s)).setCell ⟨c, 1, none⟩ (.int .i64 0)).cell? ⟨c, 1, none⟩ = some (.int .i64 0) ∧ Below w.heap.size w ((W.setCell ⟨c, 0, none⟩ (.string s)).setCell ⟨c, 1, none⟩ (.int .i64 0)) := by
  have hC : Cels W c [.string ⟨#[]⟩, .int .i64 0] := fun j v hj => by
    match j, hj with
    | 0, hj => obtain rfl := Option.some.inj hj; exact h.r0
    | 1, hj => obtain rfl := Option.some.inj hj; exact h.r1
  have hD := (hC.put 0 (.string s) (by simp)).put 1 (.int .i64 0) (by simp)
  exact ⟨hD 0 _ rfl, hD 1 _ rfl, (h.B.setCell h.gc _).setCell h.gc _⟩
theorem WrC.start (w : World) (x : List UInt8) (k : List UInt8) (kd : Nat) (n : Int) (t : List UInt8) (t1 t2 t3 : TypeId) :
    WrC w w.heap.size (w.heap.size + 1) (w.heap.size + 1 + 1) k kd n t (((w.alloc (.cells #[.string (ofL x), .int .i64 0] t1)).alloc (.cells #[.string (ofL k), .int .u8 (kd : Int), .int .i64 n, .string (ofL t)] t2)).alloc (.cells #[.string ⟨#[]⟩, .int .i64 0] t3)) := by
  have e1 : (w.alloc (.cells #[.string (ofL x), .int .i64 0] t1)).heap.size = w.heap.size + 1 := by simp
  have e2 : ((w.alloc (.cells #[.string (ofL x), .int .i64 0] t1)).alloc (.cells #[.string (ofL k), .int .u8 (kd : Int), .int .i64 n, .string (ofL t)] t2)).heap.size = w.heap.size + 1 + 1 := by simp
  have B1 := (Below.refl (w.alloc (.cells #[.string (ofL x), .int .i64 0] t1)).heap.size (w.alloc (.cells #[.string (ofL x), .int .i64 0] t1))).alloc (Nat.le_refl _) (.cells #[.string (ofL k), .int .u8 (kd : Int), .int .i64 n, .string (ofL t)] t2)
  have B2 := B1.alloc B1.size (.cells #[.string ⟨#[]⟩, .int .i64 0] t3)
  have B3 := (Below.refl ((w.alloc (.cells #[.string (ofL x), .int .i64 0] t1)).alloc (.cells #[.string (ofL k), .int .u8 (kd : Int), .int .i64 n, .string (ofL t)] t2)).heap.size ((w.alloc (.cells #[.string (ofL x), .int .i64 0] t1)).alloc (.cells #[.string (ofL k), .int .u8 (kd : Int), .int .i64 n, .string (ofL t)] t2))).alloc (Nat.le_refl _) (.cells #[.string ⟨#[]⟩, .int .i64 0] t3)
  have hP : PrAt ((w.alloc (.cells #[.string (ofL x), .int .i64 0] t1)).alloc (.cells #[.string (ofL k), .int .u8 (kd : Int), .int .i64 n, .string (ofL t)] t2)) (w.heap.size + 1) 0 ⟨k, kd, n, t⟩ := by
    rw [← e1]; exact prOf (Cels.new _ _ _)
  refine ⟨⟨ofL x, 0, (B2.cell (p := ⟨w.heap.size, 0, none⟩) (by simp)).trans (cell_new _ _ _ _ _ rfl), (B2.cell (p := ⟨w.heap.size, 1, none⟩) (by simp)).trans (cell_new _ _ _ _ _ rfl)⟩, fun j => (B2.frozen (p := ⟨w.heap.size, j, none⟩) (by simp)).trans (free_new _ _ _ _ _ rfl), hP.below B3 (by simp), ?_, ?_, ?_, by simp; omega, by simp, by simp, by omega, by omega, by omega, Nat.le_refl _, by omega, (((Below.refl _ _).alloc (Nat.le_refl _) _).alloc (by simp) _).alloc (by simp; omega) _⟩
  · rw [← e2]; exact cell_new _ _ _ _ _ rfl
  · rw [← e2]; exact cell_new _ _ _ _ _ rfl
  · intro j; rw [← e2]; exact free_new _ _ _ _ _ rfl
set_option maxRecDepth 100000 in
set_option maxHeartbeats 16000000 in
theorem hwrite_one (x k : List UInt8) (kd : Nat) (n : Int) (t : List UInt8) (w : World) (hx : x.length ≤ 100000) (hk : k.length ≤ 1000) (ht : t.length ≤ 1000) (hkd : kd ≤ 2) :
    Calls Tryz.prog 167 #[.agg #[.string (ofL x), .int .i64 0], .agg #[.string (ofL k), .int .u8 (kd : Int), .int .i64 n, .string (ofL t)]] w fun e w' => e = .returned (.agg #[.string (ofL (x ++ Hd.penc ⟨k, kd, n, t⟩)), .int .i64 0]) ∧ Below w.heap.size w w' := by
  have H1 := Lib.hid (fun W => text_l x k W (by omega) (by omega))
  have H2 := Lib.hid (fun W => num_l (x ++ (Oct.be 2 k.length ++ k)) kd 1 1 W (by omega) (by omega) rfl (by simp [Oct.length_be]; omega))
  have hE : x ++ Hd.penc ⟨k, kd, n, t⟩ = x ++ (Oct.be 2 k.length ++ k) ++ Oct.be 1 kd ++ Hd.pbody ⟨k, kd, n, t⟩ := by unfold Hd.penc Oct.text; simp [List.append_assoc]
  have hz : (x ++ (Oct.be 2 k.length ++ k) ++ Oct.be 1 kd).length ≤ 110000 := by simp [Oct.length_be]; omega
  rw [hE]
  clear hE
  generalize x ++ (Oct.be 2 k.length ++ k) = E0 at *
  generalize hE1 : E0 ++ Oct.be 1 kd = E1 at *
  clear hE1
  generalize hEf : E1 ++ Hd.pbody ⟨k, kd, n, t⟩ = E2 at *
  have HEF := Lib.hid hEf
  clear hEf
  have hw1 : IntKind.u64.wrap (kd : Int) = (kd : Int) := by rw [IntKind.wrap_u64]; omega
  have hwn : IntKind.u64.wrap n = ((Hd.n64 n : Nat) : Int) := by rw [IntKind.wrap_u64]; exact (Hd.n64_cast n).symm
  have HS := Lib.hid (WrC.start w x k kd n t 112 176 112)
  have HO := Lib.hid (show (((w.alloc (.cells #[.string (ofL x), .int .i64 0] 112)).alloc (.cells #[.string (ofL k), .int .u8 (kd : Int), .int .i64 n, .string (ofL t)] 176)).alloc (.cells #[.string ⟨#[]⟩, .int .i64 0] 112)).cell? ⟨w.heap.size, 0, none⟩ = some (.string (ofL x)) ∧ (((w.alloc (.cells #[.string (ofL x), .int .i64 0] 112)).alloc (.cells #[.string (ofL k), .int .u8 (kd : Int), .int .i64 n, .string (ofL t)] 176)).alloc (.cells #[.string ⟨#[]⟩, .int .i64 0] 112)).cell? ⟨w.heap.size, 1, none⟩ = some (.int .i64 0) from
    ⟨(cell_old _ _ _ _ (by simp; omega)).trans ((cell_old _ _ _ _ (by simp)).trans (cell_new _ _ _ _ _ rfl)), (cell_old _ _ _ _ (by simp; omega)).trans ((cell_old _ _ _ _ (by simp)).trans (cell_new _ _ _ _ _ rfl))⟩)
  clear hx hk
  go_enter Tryz.func167, Tryz.ntmps167
  go_upto_region 1 with fail
  generalize hw3 : ((w.alloc (.cells #[.string (ofL x), .int .i64 0] 112)).alloc (.cells #[.string (ofL k), .int .u8 (kd : Int), .int .i64 n, .string (ofL t)] 176)).alloc (.cells #[.string ⟨#[]⟩, .int .i64 0] 112) = w3 at *
  clear hw3
  have hX0 : WrS w w.heap.size (w.heap.size + 1) (w.heap.size + 1 + 1) k kd n t w3.drew := (HS.out.on (Below.refl _ _).drew).s
  have HX := Lib.hid hX0
  clear hX0
  obtain ⟨d0, d1⟩ := HO.out
  have q3 : w.heap.size < w3.heap.size := HS.out.la
  clear HS HO
  refine wp_region_noPanic ?_
  refine wp_region_held_drew (S := WrS w w.heap.size (w.heap.size + 1) (w.heap.size + 1 + 1) k kd n t) (by kernel_rfl) ?_ (fun hHeld => ?_)
  · (try dsimp only); (first | assumption | exact HX.out | exact WrS.on (by assumption) hb2 | exact (WrC.done (by assumption) _).1.s)
  refine wpAnyH_take (i := 1) (v := ?_) rfl (by kernel_rfl) (by kernel_rfl) (by kernel_rfl) (fun _ _ _ h => h) (Or.inl ⟨by rfl, ?_⟩) (by assumption) ?_
  rotate_left
  · intro w hSw; (try dsimp only at hSw); go_simp; try with_reducible rfl
  (try simp only [List.getElem_toArray, List.getElem_cons_succ, List.getElem_cons_zero, Act.put, List.setIfInBounds_toArray, List.set_cons_zero, List.set_cons_succ])
  refine wpAnyH_take (i := 2) (v := ?_) rfl (by kernel_rfl) (by kernel_rfl) (by kernel_rfl) (fun _ _ _ h => h) (Or.inl ⟨by rfl, ?_⟩) (by assumption) ?_
  rotate_left
  · intro w hSw; (try dsimp only at hSw); go_simp; try with_reducible rfl
  (try simp only [List.getElem_toArray, List.getElem_cons_succ, List.getElem_cons_zero, Act.put, List.setIfInBounds_toArray, List.set_cons_zero, List.set_cons_succ])
  refine wpAnyH_take (i := 4) (v := ?_) rfl (by kernel_rfl) (by kernel_rfl) (by kernel_rfl) (fun _ _ _ h => h) (Or.inl ⟨by rfl, ?_⟩) (by assumption) ?_
  rotate_left
  · intro w hSw; (try dsimp only at hSw); go_simp; try with_reducible rfl
  (try simp only [List.getElem_toArray, List.getElem_cons_succ, List.getElem_cons_zero, Act.put, List.setIfInBounds_toArray, List.set_cons_zero, List.set_cons_succ])
  refine wpAnyH_take (i := 5) (v := ?_) rfl (by kernel_rfl) (by kernel_rfl) (by kernel_rfl) (fun _ _ _ h => h) (Or.inl ⟨by rfl, ?_⟩) (by assumption) ?_
  rotate_left
  · intro w hSw; (try dsimp only at hSw); go_simp; try with_reducible rfl
  (try simp only [List.getElem_toArray, List.getElem_cons_succ, List.getElem_cons_zero, Act.put, List.setIfInBounds_toArray, List.set_cons_zero, List.set_cons_succ])
  refine wpAnyH_take (i := 6) (v := ?_) rfl (by kernel_rfl) (by kernel_rfl) (by kernel_rfl) (fun _ _ _ h => h) (Or.inl ⟨by rfl, ?_⟩) (by assumption) ?_
  rotate_left
  · intro w hSw; (try dsimp only at hSw); go_simp; try with_reducible rfl
  (try simp only [List.getElem_toArray, List.getElem_cons_succ, List.getElem_cons_zero, Act.put, List.setIfInBounds_toArray, List.set_cons_zero, List.set_cons_succ])
  refine wpAnyH_ready (rs := [0]) (by kernel_rfl) (by simp) ?_
  refine AllReadyH.cons rfl (fun K hK => ?_) (AllReadyH.nil)
  · go_simp
    refine hK.out _ _ ?_ (fun hHeld => ?_)
    · (try dsimp only); (first | assumption | exact HX.out | exact WrS.on (by assumption) hb2 | exact (WrC.done (by assumption) _).1.s)
    clear hK K
    (try simp only [List.getElem_toArray, List.getElem_cons_succ, List.getElem_cons_zero, Act.put, List.setIfInBounds_toArray, List.set_cons_zero, List.set_cons_succ])
    refine wpAnyH_ready (rs := [3]) (by kernel_rfl) (by simp) ?_
    refine AllReadyH.cons rfl (fun K hK => ?_) (AllReadyH.nil)
    · go_simp
      (go_at_call 115; ((refine (H1.out _).mono ?_); rintro e' wz ⟨rfl, hb2⟩); clear d0 d1)
      refine hK.out _ _ ?_ (fun hHeld => ?_)
      · (try dsimp only); (first | assumption | exact HX.out | exact WrS.on (by assumption) hb2 | exact (WrC.done (by assumption) _).1.s)
      clear hK K
      (try simp only [List.getElem_toArray, List.getElem_cons_succ, List.getElem_cons_zero, Act.put, List.setIfInBounds_toArray, List.set_cons_zero, List.set_cons_succ])
      refine wpAnyH_ready (rs := [7]) (by kernel_rfl) (by simp) ?_
      refine AllReadyH.cons rfl (fun K hK => ?_) (AllReadyH.nil)
      · go_simp
        (go_at_call 118; ((refine (H2.out _).mono ?_); rintro e' wz ⟨rfl, hb2⟩); have HZ := Lib.hid (WrS.on hHeld hb2).2; have hZ := (WrS.on hHeld hb2).2; obtain ⟨s0, e0, d0, d1⟩ := hZ.o; have q2 := hZ.so; have q3 := hZ.la; clear hZ)
        refine hK.out _ _ ?_ (fun hHeld => ?_)
        · (try dsimp only); (first | assumption | exact HX.out | exact WrS.on (by assumption) hb2 | exact (WrC.done (by assumption) _).1.s)
        clear hK K
        (try simp only [List.getElem_toArray, List.getElem_cons_succ, List.getElem_cons_zero, Act.put, List.setIfInBounds_toArray, List.set_cons_zero, List.set_cons_succ])
        refine wpAnyH_ready (rs := [8]) (by kernel_rfl) (by simp) ?_
        refine AllReadyH.cons rfl (fun K hK => ?_) (AllReadyH.nil)
        · go_simp
          refine hK.out _ _ ?_ (fun hHeld => ?_)
          · (try dsimp only); (first | assumption | exact HX.out | exact WrS.on (by assumption) hb2 | exact (WrC.done (by assumption) _).1.s)
          clear hK K
          (try simp only [List.getElem_toArray, List.getElem_cons_succ, List.getElem_cons_zero, Act.put, List.setIfInBounds_toArray, List.set_cons_zero, List.set_cons_succ])
          refine wpAnyH_done (by kernel_rfl) ?_ _
          refine NoPanic.normal ?_
          have HE := Lib.hid (HZ.out.done (ofL E1))
          clear hHeld HZ HX d0 d1 q2 q3
          generalize hw4 : (wz.setCell ⟨w.heap.size, 0, none⟩ (.string (ofL E1))).setCell ⟨w.heap.size, 1, none⟩ (.int .i64 0) = w4 at *
          clear hw4
          obtain ⟨hC4, d0, d1⟩ := HE.out
          have HC4 := Lib.hid hC4
          obtain ⟨c0, c1, c2, c3⟩ := hC4.p
          have q1 := hC4.lb
          have q2 := hC4.la
          simp only [Nat.zero_add] at c0 c1 c2 c3
          clear hC4 HE H1 H2 hb2
          obtain rfl | rfl | rfl : kd = 0 ∨ kd = 1 ∨ kd = 2 := by omega
          · have H3 := Lib.hid (fun W => num_l E1 (Hd.n64 n) 8 8 W (Hd.n64_lt n) (by omega) rfl (by omega))
            have hres : E1 ++ Oct.be 8 (Hd.n64 n) = E2 := by rw [← HEF.out]; rfl
            rw [hres] at H3
            clear hres hz
            go_wp2_with fail
            refine (H3.out _).mono ?_
            rintro e w5 ⟨rfl, b5⟩
            have hC5 := HC4.out.on b5
            have HC5 := Lib.hid hC5
            have HD := Lib.hid (hC5.done (ofL E2)).1
            obtain ⟨s0, e0, f0, f1⟩ := hC5.o
            have f2 := hC5.so
            have f3 := hC5.la
            clear d0 d1 c0 c1 c2 c3 q1 q2 b5 hC5
            obtain ⟨-, h0, h1⟩ := HC5.out.done (ofL E2)
            have hr0 := HD.out.r0
            have hr1 := HD.out.r1
            have hsr := HD.out.sr
            have hlc := HD.out.lc
            go_wp2_with fail
            obtain ⟨g0, g1, g2⟩ := HD.out.last (ofL E2)
            exact bodyPost_ret (v := .agg #[.string (ofL E2), .int .i64 0]) (by simp [results, Tryz.results167, go_sem, g0, g1]) rfl ⟨rfl, g2⟩
          · have H3 := Lib.hid (fun W => text_l E1 t W (by omega) (by omega))
            have hres : E1 ++ (Oct.be 2 t.length ++ t) = E2 := by rw [← HEF.out]; rfl
            rw [hres] at H3
            clear hres hz
            go_wp2_with fail
            refine (H3.out _).mono ?_
            rintro e w5 ⟨rfl, b5⟩
            have hC5 := HC4.out.on b5
            have HC5 := Lib.hid hC5
            have HD := Lib.hid (hC5.done (ofL E2)).1
            obtain ⟨s0, e0, f0, f1⟩ := hC5.o
            have f2 := hC5.so
            have f3 := hC5.la
            clear d0 d1 c0 c1 c2 c3 q1 q2 b5 hC5
            obtain ⟨-, h0, h1⟩ := HC5.out.done (ofL E2)
            have hr0 := HD.out.r0
            have hr1 := HD.out.r1
            have hsr := HD.out.sr
            have hlc := HD.out.lc
            go_wp2_with fail
            obtain ⟨g0, g1, g2⟩ := HD.out.last (ofL E2)
            exact bodyPost_ret (v := .agg #[.string (ofL E2), .int .i64 0]) (by simp [results, Tryz.results167, go_sem, g0, g1]) rfl ⟨rfl, g2⟩
          · have H3 := Lib.hid (fun W => num_l E1 (Hd.n64 n) 1 1 W (Hd.n64_lt n) (by omega) rfl (by omega))
            have hres : E1 ++ Oct.be 1 (Hd.n64 n) = E2 := by rw [← HEF.out]; rfl
            rw [hres] at H3
            clear hres hz
            go_wp2_with fail
            refine (H3.out _).mono ?_
            rintro e w5 ⟨rfl, b5⟩
            have hC5 := HC4.out.on b5
            have HC5 := Lib.hid hC5
            have HD := Lib.hid (hC5.done (ofL E2)).1
            obtain ⟨s0, e0, f0, f1⟩ := hC5.o
            have f2 := hC5.so
            have f3 := hC5.la
            clear d0 d1 c0 c1 c2 c3 q1 q2 b5 hC5
            obtain ⟨-, h0, h1⟩ := HC5.out.done (ofL E2)
            have hr0 := HD.out.r0
            have hr1 := HD.out.r1
            have hsr := HD.out.sr
            have hlc := HD.out.lc
            go_wp2_with fail
            obtain ⟨g0, g1, g2⟩ := HD.out.last (ofL E2)
            exact bodyPost_ret (v := .agg #[.string (ofL E2), .int .i64 0]) (by simp [results, Tryz.results167, go_sem, g0, g1]) rfl ⟨rfl, g2⟩
end Go.Proofs.YtnamkglflhkckaaGreatDoor
end
