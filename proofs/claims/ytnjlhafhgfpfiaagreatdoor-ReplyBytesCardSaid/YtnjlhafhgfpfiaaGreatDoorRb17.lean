/-
  WHETHER A REPLY MAY BE: the whole, walked. PLAIN: what may be, of replies, as the document says it. WHAT A REPLY's KIND TELLS, as the document has it: walked.
-/
import Derived.Test.YtnjlhafhgfpfiaaGreatDoorRb14
import Derived.Test.YtnjlhafhgfpfiaaGreatDoorRb16
import Derived.Deep.DeepCutAuto
section
namespace Go.Proofs.YtnjlhafhgfpfiaaGreatDoor
open Go.ChangeShapes Go.WideShapes Go.ChangeAt Go.RowKit
def reMore (x : Re) (l : List Nat) (j : Nat) : Bool := !l.contains j && !x.lacks j
theorem re_more_no {x : Re} (h : ∀ j, j < 9 → reMore x (Re.tells x.kd.toNat) j = false) : x.more = false := by
  unfold Re.more
  rw [List.any_eq_false]
  intro j hj
  have := h j (List.mem_range.1 hj)
  unfold reMore at this
  rw [this]; simp
theorem re_more_yes {x : Re} {j : Nat} (hj : j < 9) (h : reMore x (Re.tells x.kd.toNat) j = true) : x.more = true :=
  List.any_eq_true.2 ⟨j, List.mem_range.2 hj, h⟩
theorem re_code_kind {x : Re} (h : 7 < x.kd.toNat) : x.code = 8 := by unfold Re.code; rw [if_pos h]
theorem re_code_more {x : Re} (h : ¬ 7 < x.kd.toNat) (hm : x.more = true) : x.code = 4 := by unfold Re.code; rw [if_neg h, if_pos hm]
theorem re_code_first {x : Re} (h : ¬ 7 < x.kd.toNat) (hm : x.more = false) : x.code = Re.firstc x.pcode (Re.tells x.kd.toNat) := by unfold Re.code; rw [if_neg h, hm]; rfl
theorem re_first_none {f : Nat → Nat} : ∀ {l : List Nat}, (∀ j, j < l.length → f (l.getD j 0) = 0) → Re.firstc f l = 0
  | [], _ => rfl
  | p :: l, h => by
    have h0 : f p = 0 := h 0 (by simp)
    rw [Re.firstc, if_neg (by omega)]
    exact re_first_none fun j hj => h (j + 1) (by simp; omega)
theorem re_first_at {f : Nat → Nat} : ∀ {l : List Nat} {k : Nat}, k < l.length → (∀ j, j < k → f (l.getD j 0) = 0) → f (l.getD k 0) ≠ 0 → Re.firstc f l = f (l.getD k 0)
  | [], k, hk, _, _ => by simp at hk
  | p :: l, 0, _, _, hf => by
    have h0 : f p ≠ 0 := hf
    rw [Re.firstc, if_pos h0]
    rfl
  | p :: l, k + 1, hk, h, hf => by
    have h0 : f p = 0 := h 0 (by omega)
    rw [Re.firstc, if_neg (by omega)]
    exact re_first_at (k := k) (by simpa using hk) (fun j hj => h (j + 1) (by omega)) hf
/-- while it is checked: its box, the row of parts -/
structure ReCk (w : World) (x : Re) (A : Option Addr) (c : Nat) (T : Option Addr) (l : List Nat) (wr : World) : Prop where
  B : Below w.heap.size w wr
  X : Cels wr w.heap.size (reL x A c)
  lt : w.heap.size < wr.heap.size
  P : Parts wr T l
theorem ReCk.on {w : World} {x : Re} {A : Option Addr} {c : Nat} {T : Option Addr} {l : List Nat} {wr w' : World} (h : ReCk w x A c T l wr) (hb : Below wr.heap.size wr w') : ReCk w x A c T l w' :=
  ⟨bthen h.B hb (Nat.le_refl _), h.X.on hb h.lt, Nat.lt_of_lt_of_le h.lt hb.size, h.P.on hb⟩
set_option maxRecDepth 100000 in
set_option maxHeartbeats 4000000 in
theorem re_Check_any (x : Re) (A : Option Addr) (c : Nat) (w : World) (h : ReOk w x A c) (hL : Len w) : Calls Tryz.prog 35 #[reV x A c] w fun e w' => e = .returned (.int .i64 (x.code : Int)) ∧ Below w.heap.size w w' := by
  have HB0 := Lib.hid (show Below w.heap.size w (w.alloc (.cells #[.int .u8 (x.ch.toNat : Int), .int .u8 (x.kd.toNat : Int), .int .u64 (x.n : Int), .int .u64 (x.m : Int), .bool x.yes, .string (ofL x.name), .int .u64 (x.id : Int), .string (ofL x.shop), .string (ofL x.key), .slice A x.head.length c, .string (ofL x.body), .int .u64 (x.due : Int), .int .u8 (x.hops : Int)] 30)) from (Below.refl _ _).alloc (Nat.le_refl _) _)
  have HX0 := Lib.hid (reBox x A c w 30)
  have HLL := Lib.hid hL
  have HR := Lib.hid h
  have HT := Lib.hid (fun W => Re_tells_any x.kd.toNat W)
  have HLK := Lib.hid (fun p hp W => re_lacks_any x A c p hp W)
  have HCK := Lib.hid (fun p hp W h1 h2 => re_check_any x A c p hp W h1 h2)
  have HM0 := Lib.hid (fun g => re_more_no (x := x) g)
  have HM1 := Lib.hid (fun j (hj : j < 9) g => re_more_yes (x := x) hj g)
  have HC8 := Lib.hid (fun g => re_code_kind (x := x) g)
  have HC4 := Lib.hid (fun g k => re_code_more (x := x) g k)
  have HCF := Lib.hid (fun g k => re_code_first (x := x) g k)
  have hlen := Re.tells_len x.kd.toNat
  have HLT := Lib.hid (Re.tells_lt x.kd.toNat)
  clear h hL
  simp only [reV] at HLK HCK ⊢
  generalize x.code = C at *
  by_cases h20 : 7 < x.kd.toNat
  · have HC := Lib.hid (HC8.out h20)
    have hz : decide ((7 : Int) < (x.kd.toNat : Int)) = true := decide_eq_true (by omega)
    clear h20 hlen
    go_enter Tryz.func35, Tryz.ntmps35
    go_wp2_with fail
    go_ret
    exact ⟨ret_nat (by rw [HC.out]; rfl), HB0.out⟩
  · have hz : decide ((7 : Int) < (x.kd.toNat : Int)) = false := decide_eq_false (by omega)
    have HC4 := Lib.hid (HC4.out h20)
    have HCF := Lib.hid (HCF.out h20)
    clear h20 HC8
    generalize Re.tells x.kd.toNat = l at *
    go_enter Tryz.func35, Tryz.ntmps35
    go_wp2_with fail
    refine (HT.out _).mono ?_
    rintro e w1 ⟨T, tc, rfl, hp1, b1, -⟩
    have HS1 := Lib.hid (show ReCk w x A c T l w1 from ⟨bthen HB0.out b1 (Nat.le_refl _), HX0.out.on b1 (by simp), by have := b1.size; simp at this; omega, hp1⟩)
    clear hp1 b1
    go_wp2_with fail
    go_loopg [14] 9 (fun g i wr => ∃ k : Nat, k + g = 9 ∧ i = .int .i64 (k : Int) ∧ (∀ j, j < k → reMore x l j = false) ∧ ReCk w x A c T l wr)
    case atStart => exact ⟨0, by omega, rfl, fun j hj => absurd hj (by omega), HS1.out⟩
    case round =>
      obtain ⟨k, hk, rfl, hno, hS⟩ := hrel
      have HS := Lib.hid hS
      have HNO := Lib.hid hno
      clear hS hno HS1
      by_cases hlt : k < 9
      · have HCT := Lib.hid (fun W hp => Re_contains_any l T tc k W (by omega) hp)
        have HNX : Hid (reMore x l k = false → ∀ j, j < k + 1 → reMore x l j = false) := fun g j hj => by
          by_cases e : j = k
          · rw [e]; exact g
          · exact HNO.out j (by omega)
        have HLK := Lib.hid (HLK.out k hlt)
        have HDF : Hid (reMore x l k = (!l.contains k && !x.lacks k)) := rfl
        have HMY := Lib.hid (fun g => HM1.out k hlt g)
        generalize reMore x l k = MK at *
        cases hc : l.contains k with
        | true =>
          have HN := Lib.hid (HNX.out (by rw [HDF.out, hc]; rfl))
          rw [hc] at HCT
          clear hc
          go_wp2_with fail
          refine (HCT.out _ HS.out.P).mono ?_
          rintro e w2 ⟨rfl, rfl⟩
          go_wp2_with fail
          go_roundg (gk - 1)
          case rel => exact ⟨k + 1, by omega, by go_num, HN.out, HS.out⟩
          case measure => omega
        | false =>
          rw [hc] at HCT
          have c0 := HS.out.X 0 _ rfl
          have c1 := HS.out.X 1 _ rfl
          have c2 := HS.out.X 2 _ rfl
          have c3 := HS.out.X 3 _ rfl
          have c4 := HS.out.X 4 _ rfl
          have c5 := HS.out.X 5 _ rfl
          have c6 := HS.out.X 6 _ rfl
          have c7 := HS.out.X 7 _ rfl
          have c8 := HS.out.X 8 _ rfl
          have c9 := HS.out.X 9 _ rfl
          have c10 := HS.out.X 10 _ rfl
          have c11 := HS.out.X 11 _ rfl
          have c12 := HS.out.X 12 _ rfl
          cases hl : x.lacks k with
          | true =>
            have HN := Lib.hid (HNX.out (by rw [HDF.out, hc, hl]; rfl))
            rw [hl] at HLK
            clear hc hl
            go_wp2_with fail
            refine (HCT.out _ HS.out.P).mono ?_
            rintro e w2 ⟨rfl, rfl⟩
            go_wp2_with fail
            refine (HLK.out _).mono ?_
            rintro e w3 ⟨rfl, b3⟩
            have HS3 := Lib.hid (HS.out.on b3)
            clear b3 c0 c1 c2 c3 c4 c5 c6 c7 c8 c9 c10 c11 c12
            go_wp2_with fail
            go_roundg (gk - 1)
            case rel => exact ⟨k + 1, by omega, by go_num, HN.out, HS3.out⟩
            case measure => omega
          | false =>
            have HC := Lib.hid (HC4.out (HMY.out (by rw [HDF.out, hc, hl]; rfl)))
            rw [hl] at HLK
            clear hc hl
            go_wp2_with fail
            refine (HCT.out _ HS.out.P).mono ?_
            rintro e w2 ⟨rfl, rfl⟩
            go_wp2_with fail
            refine (HLK.out _).mono ?_
            rintro e w3 ⟨rfl, b3⟩
            have HS3 := Lib.hid (HS.out.on b3)
            clear b3 c0 c1 c2 c3 c4 c5 c6 c7 c8 c9 c10 c11 c12
            go_wp2_with fail
            go_ret
            exact ⟨ret_nat (by rw [HC.out]; rfl), HS3.out.B⟩
      · have HC := Lib.hid (HCF.out (HM0.out fun j hj => HNO.out j (by omega)))
        have H0 := Lib.hid (fun g => re_first_none (f := x.pcode) (l := l) g)
        have H1 := Lib.hid (fun k hk g gf => re_first_at (f := x.pcode) (l := l) (k := k) hk g gf)
        generalize Re.firstc x.pcode l = F at *
        obtain ⟨n, hn⟩ : ∃ n, n = l.length := ⟨_, rfl⟩
        have HN := Lib.hid hn
        rw [← hn] at hlen ⊢
        clear hn
        go_wp2_with fail
        go_loopg [30] n (fun g i wr => ∃ k : Nat, k + g = n ∧ i = .int .i64 (k : Int) ∧ (∀ j, j < k → x.pcode (l.getD j 0) = 0) ∧ ReCk w x A c T l wr)
        case atStart => exact ⟨0, by omega, rfl, fun j hj => absurd hj (by omega), HS.out⟩
        case round =>
          obtain ⟨m, hm, rfl, hno, hS⟩ := hrel
          have HSM := Lib.hid hS
          have HNM := Lib.hid hno
          clear hS hno
          by_cases hlm : m < n
          · have hml : m < l.length := by have := HN.out; omega
            obtain ⟨b, rfl, hbl, hat⟩ := HSM.out.P.at_ hml
            have hp8 : l.getD m 0 < 8 := HLT.out _ (by rw [List.getD_eq_getElem?_getD, List.getElem?_eq_getElem hml]; exact List.getElem_mem hml)
            have HK := Lib.hid (HCK.out (l.getD m 0) hp8)
            have HNX : Hid (x.pcode (l.getD m 0) = 0 → ∀ j, j < m + 1 → x.pcode (l.getD j 0) = 0) := fun g j hj => by
              by_cases e : j = m
              · rw [e]; exact g
              · exact HNM.out j (by omega)
            have HFA := Lib.hid (fun gf => H1.out m hml HNM.out gf)
            generalize x.pcode (l.getD m 0) = PC at *
            generalize l.getD m 0 = p at *
            clear hp8 hml
            have c0 := HSM.out.X 0 _ rfl
            have c1 := HSM.out.X 1 _ rfl
            have c2 := HSM.out.X 2 _ rfl
            have c3 := HSM.out.X 3 _ rfl
            have c4 := HSM.out.X 4 _ rfl
            have c5 := HSM.out.X 5 _ rfl
            have c6 := HSM.out.X 6 _ rfl
            have c7 := HSM.out.X 7 _ rfl
            have c8 := HSM.out.X 8 _ rfl
            have c9 := HSM.out.X 9 _ rfl
            have c10 := HSM.out.X 10 _ rfl
            have c11 := HSM.out.X 11 _ rfl
            have c12 := HSM.out.X 12 _ rfl
            have HRW := Lib.hid (HR.out.on HSM.out.B)
            have HLW := Lib.hid (HLL.out.on HSM.out.B)
            by_cases h0 : PC = 0
            · have HN2 := Lib.hid (HNX.out h0)
              have hk0 := code_eq h0
              clear h0 HNX HFA
              go_wp2_with fail
              refine (HK.out _ HRW.out HLW.out).mono ?_
              rintro e w3 ⟨rfl, b3⟩
              have HS3 := Lib.hid (HSM.out.on b3)
              clear b3 c0 c1 c2 c3 c4 c5 c6 c7 c8 c9 c10 c11 c12
              go_wp2_with fail
              go_roundg (gk - 1)
              case rel => exact ⟨m + 1, by omega, by go_num, HN2.out, HS3.out⟩
              case measure => omega
            · have HC2 := Lib.hid (HFA.out h0)
              have hk0 := code_ne h0
              clear h0 HNX HFA
              go_wp2_with fail
              refine (HK.out _ HRW.out HLW.out).mono ?_
              rintro e w3 ⟨rfl, b3⟩
              have HS3 := Lib.hid (HSM.out.on b3)
              clear b3 c0 c1 c2 c3 c4 c5 c6 c7 c8 c9 c10 c11 c12
              go_wp2_with fail
              go_ret
              exact ⟨ret_nat (by rw [HC.out, HC2.out]), HS3.out.B⟩
          · have HC2 := Lib.hid (H0.out fun j hj => HNM.out j (by have := HN.out; omega))
            go_wp2_with fail
            go_ret
            exact ⟨ret_nat (by rw [HC.out, HC2.out]; rfl), HSM.out.B⟩
end Go.Proofs.YtnjlhafhgfpfiaaGreatDoor
end
section
namespace Go.Proofs.YtnjlhafhgfpfiaaGreatDoor.Re
/-- is something there that may not be, whatever the kind? -/
def wrong1 (x : Re) : Prop := x.id ≠ 0 ∨ x.due ≠ 0 ∨ x.hops ≠ 0 ∨ (x.n ≠ 0 ∧ tellsN x.kd.toNat = false) ∨ (x.m ≠ 0 ∧ tellsM x.kd.toNat = false) ∨ (x.name ≠ [] ∧ x.kd.toNat ≠ 0)
def wrong2 (x : Re) : Prop := x.yes = true ∨ x.shop ≠ [] ∨ x.key ≠ [] ∨ 0 < x.head.length ∨ x.body ≠ []
theorem more_eq (x : Re) (h : x.kd.toNat ≤ 7) : x.more = true ↔ wrong1 x ∨ (x.kd.toNat ≠ 3 ∧ wrong2 x) := by
  obtain ⟨c, k, n, m, yes, name, id, shop, key, head, body, due, hops⟩ := x
  unfold more wrong1 wrong2
  rw [show List.range 9 = [0, 1, 2, 3, 4, 5, 6, 7, 8] from rfl]
  simp only at h
  rcases le7 h with e | e | e | e | e | e | e | e <;> simp only [e] <;> simp [tells, lacks, tellsN, tellsM, List.length_pos_iff] <;> grind
theorem code_kind {x : Re} (h : 7 < x.kd.toNat) : x.code = 8 := by unfold code; rw [if_pos h]
theorem code_wrong1 {x : Re} (h : ¬ 7 < x.kd.toNat) (hw : wrong1 x) : x.code = 4 := by
  unfold code
  rw [if_neg h, if_pos ((more_eq x (by omega)).2 (Or.inl hw))]
theorem code_wrong2 {x : Re} (h : ¬ 7 < x.kd.toNat) (h3 : x.kd.toNat ≠ 3) (hw : wrong2 x) : x.code = 4 := by
  unfold code
  rw [if_neg h, if_pos ((more_eq x (by omega)).2 (Or.inr ⟨h3, hw⟩))]
theorem code_right {x : Re} (h : ¬ 7 < x.kd.toNat) (h1 : ¬ wrong1 x) (h2 : x.kd.toNat ≠ 3 → ¬ wrong2 x) : x.code = firstc x.pcode (tells x.kd.toNat) := by
  unfold code
  have hm : x.more = false := by
    cases hm : x.more with
    | false => rfl
    | true =>
      rcases (more_eq x (by omega)).1 hm with h | ⟨h3, h⟩
      · exact absurd h h1
      · exact absurd h (h2 h3)
  rw [if_neg h, hm]
  rfl
theorem code_name {x : Re} (h1 : ¬ wrong1 x) (h2 : ¬ wrong2 x) (h0 : x.kd.toNat = 0) : x.code = Wrd.nameCode x.name := by
  rw [code_right (by omega) h1 (fun _ => h2), h0]
  show firstc x.pcode [3] = _
  unfold firstc
  show (if Wrd.nameCode x.name ≠ 0 then Wrd.nameCode x.name else 0) = _
  split <;> omega
theorem firstc_nums {x : Re} {l : List Nat} (h : ∀ p ∈ l, p < 3) : firstc x.pcode l = 0 := by
  induction l with
  | nil => rfl
  | cons p l ih =>
    have hp := h p (by simp)
    have h0 : x.pcode p = 0 := by unfold pcode; repeat' (first | rw [if_neg (by omega)])
    rw [firstc, if_neg (by omega)]
    exact ih fun q hq => h q (by simp [hq])
theorem code_none {x : Re} (h : ¬ 7 < x.kd.toNat) (h1 : ¬ wrong1 x) (h2 : ¬ wrong2 x) (h0 : x.kd.toNat ≠ 0) (h3 : x.kd.toNat ≠ 3) : x.code = 0 := by
  rw [code_right h h1 (fun _ => h2)]
  refine firstc_nums fun p hp => ?_
  rcases le7 (k := x.kd.toNat) (by omega) with e | e | e | e | e | e | e | e <;> rw [e] at hp <;> simp [tells] at hp <;> omega
theorem code_sent {x : Re} (h1 : ¬ wrong1 x) (h3 : x.kd.toNat = 3) : x.code = if Wrd.nameCode x.shop ≠ 0 then Wrd.nameCode x.shop else if Wrd.keyCode [] x.key ≠ 0 then Wrd.keyCode [] x.key else if Hd.hcode x.head ≠ 0 then Hd.hcode x.head else if 256 < x.body.length then 5 else 0 := by
  rw [code_right (by omega) h1 (fun h => absurd h3 h), h3]
  show firstc x.pcode [0, 1, 2, 4, 5, 6, 7] = _
  have p0 : x.pcode 0 = 0 := rfl
  have p1 : x.pcode 1 = 0 := rfl
  have p2 : x.pcode 2 = 0 := rfl
  have p4 : x.pcode 4 = Wrd.nameCode x.shop := rfl
  have p5 : x.pcode 5 = Wrd.keyCode [] x.key := rfl
  have p6 : x.pcode 6 = Hd.hcode x.head := rfl
  have p7 : x.pcode 7 = if 256 < x.body.length then 5 else 0 := rfl
  simp only [firstc, p0, p1, p2, p4, p5, p6, p7]
  simp only [ne_eq, not_true_eq_false, if_false]
  repeat' (first | rfl | split)
  all_goals omega
end Go.Proofs.YtnjlhafhgfpfiaaGreatDoor.Re
end
section
namespace Go.Proofs.YtnjlhafhgfpfiaaGreatDoor
open Go.ChangeShapes Go.WideShapes Go.ChangeAt Go.RowKit
theorem tellsN_any (n : Nat) (w : World) : Calls Tryz.prog 20 #[.int .u8 (n : Int)] w fun e w' => e = .returned (.bool (Re.tellsN n)) ∧ w = w' := by
  by_cases e2 : n = 2
  · subst e2
    go_enter Tryz.func20, Tryz.ntmps20
    go_wp2_with fail
    go_ret
    exact ⟨rfl, rfl⟩
  · have z2 : ((n : Int) == 2) = false := beq_eq_false_iff_ne.2 (by omega)
    by_cases e3 : n = 3
    · subst e3
      clear z2
      go_enter Tryz.func20, Tryz.ntmps20
      go_wp2_with fail
      go_ret
      exact ⟨rfl, rfl⟩
    · have z3 : ((n : Int) == 3) = false := beq_eq_false_iff_ne.2 (by omega)
      by_cases e5 : n = 5
      · subst e5
        clear z2
        clear z3
        go_enter Tryz.func20, Tryz.ntmps20
        go_wp2_with fail
        go_ret
        exact ⟨rfl, rfl⟩
      · have z5 : ((n : Int) == 5) = false := beq_eq_false_iff_ne.2 (by omega)
        by_cases e6 : n = 6
        · subst e6
          clear z2
          clear z3
          clear z5
          go_enter Tryz.func20, Tryz.ntmps20
          go_wp2_with fail
          go_ret
          exact ⟨rfl, rfl⟩
        · have z6 : ((n : Int) == 6) = false := beq_eq_false_iff_ne.2 (by omega)
          by_cases e7 : n = 7
          · subst e7
            clear z2
            clear z3
            clear z5
            clear z6
            go_enter Tryz.func20, Tryz.ntmps20
            go_wp2_with fail
            go_ret
            exact ⟨rfl, rfl⟩
          · have z7 : ((n : Int) == 7) = false := beq_eq_false_iff_ne.2 (by omega)
            have hf : Re.tellsN n = false := by unfold Re.tellsN; simp; omega
            rw [hf]
            clear hf e2 e3 e5 e6 e7
            go_enter Tryz.func20, Tryz.ntmps20
            go_wp2_with fail
            go_ret
            exact ⟨rfl, rfl⟩
theorem tellsM_any (n : Nat) (w : World) : Calls Tryz.prog 21 #[.int .u8 (n : Int)] w fun e w' => e = .returned (.bool (Re.tellsM n)) ∧ w = w' := by
  by_cases e3 : n = 3
  · subst e3
    go_enter Tryz.func21, Tryz.ntmps21
    go_wp2_with fail
    go_ret
    exact ⟨rfl, rfl⟩
  · have z3 : ((n : Int) == 3) = false := beq_eq_false_iff_ne.2 (by omega)
    by_cases e6 : n = 6
    · subst e6
      clear z3
      go_enter Tryz.func21, Tryz.ntmps21
      go_wp2_with fail
      go_ret
      exact ⟨rfl, rfl⟩
    · have z6 : ((n : Int) == 6) = false := beq_eq_false_iff_ne.2 (by omega)
      have hf : Re.tellsM n = false := by unfold Re.tellsM; simp; omega
      rw [hf]
      clear hf e3 e6
      go_enter Tryz.func21, Tryz.ntmps21
      go_wp2_with fail
      go_ret
      exact ⟨rfl, rfl⟩
end Go.Proofs.YtnjlhafhgfpfiaaGreatDoor
end
