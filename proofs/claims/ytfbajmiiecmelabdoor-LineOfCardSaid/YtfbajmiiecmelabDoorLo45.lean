/-
  ANY ACT; two lines that are the same; whether one is there: walked.
-/
import Derived.Test.YtfbajmiiecmelabDoorLo44

section
namespace Go.Proofs.YtfbajmiiecmelabDoor
open Go.ChangeShapes Go.WideShapes Go.ChangeAt Go.RowKit
def doL (l : List It) (d : Nat) (x : Ml) : List It := if d % 6 = 2 then Ln.lend l else if d % 6 = 3 then Ln.back l x.id else if d % 6 = 4 then Ln.remove l x.id else if d % 6 = 5 then Ln.wake l else Ln.add l ⟨x, false, false⟩
/-- such lines come about here -/
structure FineS (l : List It) : Prop where
  fine : Ln.Fine l
  few : ∀ x ∈ l, maLight x.m = true
theorem FineS.nil : FineS [] := ⟨Ln.Fine.nil, fun x hx => by simp at hx⟩
theorem FineS.map {l : List It} (h : FineS l) {f : It → It} (hf : ∀ x, (f x).m = x.m) : FineS (l.map f) := ⟨h.fine.map hf, fun x hx => by
  obtain ⟨y, hy, rfl⟩ := List.mem_map.1 hx
  rw [hf]; exact h.few y hy⟩
theorem FineS.wake {l : List It} (h : FineS l) : FineS (Ln.wake l) := h.map fun _ => rfl
theorem FineS.lend {l : List It} (h : FineS l) : FineS (Ln.lend l) := by
  unfold Ln.lend
  split
  · exact h
  · exact h.map fun _ => rfl
theorem FineS.step {l : List It} (h : FineS l) (d : Nat) {x : Ml} (hx : Ml.Fits x) (hl : maLight x = true) : FineS (doL l d x) := by
  unfold doL
  split
  · exact h.lend
  · split
    · unfold Ln.back
      split
      · exact h.map fun y => by split <;> rfl
      · exact h
    · split
      · refine ⟨h.fine.remove _, fun y hy => ?_⟩
        unfold Ln.remove at hy
        split at hy
        · exact h.few y hy
        · exact h.few y (List.mem_of_mem_eraseIdx hy)
      · split
        · exact h.wake
        · refine ⟨h.fine.add hx, fun y hy => ?_⟩
          unfold Ln.add at hy
          split at hy
          · rcases List.mem_append.1 hy with hy | hy
            · exact h.few y hy
            · obtain rfl := List.mem_singleton.1 hy; exact hl
          · exact h.few y hy
/-! ### two lines that are the same -/
set_option maxRecDepth 100000 in
set_option maxHeartbeats 4000000 in
theorem lnSame1_self (x : It) (Ax Ay : Option Addr) (cx cy : Nat) (w : World) (hl : x.m.head.length ≤ 100000) (hA : Prs w Ax x.m.head) (hB : Prs w Ay x.m.head) :
    Calls Tryd.prog 24 #[itV x Ax cx, itV x Ay cy] w fun e w' => e = .returned (.bool true) ∧ Below w.heap.size w w' := by
  have hb0 := two_allocs w (.cells #[.int .u64 (x.m.id : Int), .string (ofL x.m.shop), .string (ofL x.m.key), .slice Ax x.m.head.length cx, .string (ofL x.m.body), .int .u64 (x.m.due : Int), .int .u8 (x.m.hops : Int), .bool x.lent, .bool x.again] 30) (.cells #[.int .u64 (x.m.id : Int), .string (ofL x.m.shop), .string (ofL x.m.key), .slice Ay x.m.head.length cy, .string (ofL x.m.body), .int .u64 (x.m.due : Int), .int .u8 (x.m.hops : Int), .bool x.lent, .bool x.again] 30)
  have HC := Lib.hid (ml_Same_any x.m x.m Ax cx Ay cy _ hl hl (hA.on hb0) (hB.on hb0))
  rw [maEq_self] at HC
  have HB0 := Lib.hid hb0
  simp only [maV] at HC
  simp only [itV]
  clear hb0 hA hB
  obtain ⟨m, lent, again⟩ := x
  cases lent <;> cases again
  all_goals
    go_enter Tryd.func24, Tryd.ntmps24
    go_wp2_with fail
    refine HC.out.mono ?_
    rintro e w2 ⟨rfl, hb⟩
    have HB2 := Lib.hid (bthen HB0.out hb (Nat.le_refl _))
    clear hb
    go_wp2_with fail
    go_ret
    exact ⟨rfl, HB2.out⟩
def EqSt (w : World) (n g : Nat) (i : Value) (wr : World) : Prop := ∃ k : Nat, k + g = n ∧ i = .int .i64 (k : Int) ∧ Below w.heap.size w wr
set_option maxRecDepth 100000 in
set_option maxHeartbeats 4000000 in
theorem eqFIt_self (l : List It) (A B : Option Addr) (ca cb : Nat) (m1 m2 : List ItP) (w : World) (hl : l.length ≤ 100000) (h1 : m1.map (·.x) = l) (h2 : m2.map (·.x) = l) (hA : Its w A m1) (hB : Its w B m2) :
    Calls Tryd.prog 23 #[.slice A l.length ca, .slice B l.length cb, .func (.func 24) #[] #[]] w fun e w' => e = .returned (.bool true) ∧ Below w.heap.size w w' := by
  have HA := Lib.hid hA
  have HB := Lib.hid hB
  have HX1 := Lib.hid (fun i hi => xs_get h1 (i := i) hi)
  have HX2 := Lib.hid (fun i hi => xs_get h2 (i := i) hi)
  have HL1 := Lib.hid (xs_len h1)
  have HL2 := Lib.hid (xs_len h2)
  clear hA hB h1 h2
  go_enter Tryd.func23, Tryd.ntmps23
  go_wp2_with fail
  go_loopg [17] l.length (fun g i wr => EqSt w l.length g i wr)
  case atStart => exact ⟨0, by omega, rfl, Below.refl _ _⟩
  case round =>
    obtain ⟨k, hk, rfl, hbl⟩ := hrel
    have HK := Lib.hid hk
    have HBL := Lib.hid hbl
    clear hk hbl
    by_cases hlt : k < l.length
    · have hk1 : k < m1.length := by have := HL1.out; omega
      have hk2 : k < m2.length := by have := HL2.out; omega
      obtain ⟨b1, o1, rfl, hb1, hat1⟩ := (HA.out.on HBL.out).at_ k hk1
      obtain ⟨b2, o2, rfl, hb2, hat2⟩ := (HB.out.on HBL.out).at_ k hk2
      have ho1 := (HA.out.on HBL.out).ok m1[k] (List.getElem_mem hk1)
      have ho2 := (HB.out.on HBL.out).ok m2[k] (List.getElem_mem hk2)
      have e12 : m2[k].x = m1[k].x := (HX2.out k hk2).trans (HX1.out k hk1).symm
      generalize m1[k] = p at *
      generalize m2[k] = q at *
      obtain ⟨x, Ax, cx⟩ := p
      obtain ⟨y, Ay, cy⟩ := q
      dsimp only at hat1 hat2 ho1 ho2 e12
      subst e12
      have HSM := Lib.hid (fun W hA hB => lnSame1_self y Ax Ay cx cy W ho1.ok.len hA hB)
      have HP1 := Lib.hid ho1.ok.row
      have HP2 := Lib.hid ho2.ok.row
      simp only [itV] at HSM
      have c0 := hat1 0 _ rfl
      have d0 := hat2 0 _ rfl
      have c1 := hat1 1 _ rfl
      have d1 := hat2 1 _ rfl
      have c2 := hat1 2 _ rfl
      have d2 := hat2 2 _ rfl
      have c3 := hat1 3 _ rfl
      have d3 := hat2 3 _ rfl
      have c4 := hat1 4 _ rfl
      have d4 := hat2 4 _ rfl
      have c5 := hat1 5 _ rfl
      have d5 := hat2 5 _ rfl
      have c6 := hat1 6 _ rfl
      have d6 := hat2 6 _ rfl
      have c7 := hat1 7 _ rfl
      have d7 := hat2 7 _ rfl
      have c8 := hat1 8 _ rfl
      have d8 := hat2 8 _ rfl
      rw [Nat.add_zero] at c0 d0
      clear hat1 hat2 ho1 ho2
      have HT := Lib.hid (two_allocs wr (.cells #[.int .u64 (y.m.id : Int), .string (ofL y.m.shop), .string (ofL y.m.key), .slice Ax y.m.head.length cx, .string (ofL y.m.body), .int .u64 (y.m.due : Int), .int .u8 (y.m.hops : Int), .bool y.lent, .bool y.again] 30) (.cells #[.int .u64 (y.m.id : Int), .string (ofL y.m.shop), .string (ofL y.m.key), .slice Ay y.m.head.length cy, .string (ofL y.m.body), .int .u64 (y.m.due : Int), .int .u8 (y.m.hops : Int), .bool y.lent, .bool y.again] 30))
      have HB1 := Lib.hid (bthen HBL.out HT.out (Nat.le_refl _))
      go_wp2_with fail
      refine (HSM.out _ (HP1.out.on HT.out) (HP2.out.on HT.out)).mono ?_
      rintro e w2 ⟨rfl, hb⟩
      have HB2 := Lib.hid (bthen HB1.out hb (Nat.le_refl _))
      clear hb
      go_wp2_with fail
      go_roundg (gk - 1)
      case rel => exact ⟨k + 1, by have := HK.out; omega, by go_num, HB2.out⟩
      case measure => have := HK.out; omega
    · go_wp2_with fail
      go_ret
      exact ⟨rfl, HBL.out⟩
theorem lnSame_self (v1 v2 : Value) (l : List It) (w : World) (hl : l.length ≤ 100000) (h1 : LnIn w v1 l) (h2 : LnIn w v2 l) :
    Calls Tryd.prog 11 #[v1, v2] w fun e w' => e = .returned (.bool true) ∧ Below w.heap.size w w' := by
  obtain ⟨A, c, m, rfl, hm, -, hI⟩ := h1
  obtain ⟨A2, c2, m2, rfl, hm2, -, hI2⟩ := h2
  have hb0 := two_allocs w (.cells #[.slice A l.length c] 34) (.cells #[.slice A2 l.length c2] 34)
  have HC := Lib.hid (eqFIt_self l A A2 c c2 m m2 _ hl hm hm2 (hI.on hb0) (hI2.on hb0))
  have HB0 := Lib.hid hb0
  clear hb0 hI hI2
  go_enter Tryd.func11, Tryd.ntmps11
  go_wp2_with fail
  refine HC.out.mono ?_
  rintro e w3 ⟨rfl, hb⟩
  have HB3 := Lib.hid (bthen HB0.out hb (Nat.le_refl _))
  clear hb
  go_wp2_with fail
  go_ret
  exact ⟨rfl, HB3.out⟩
/-! ### is one of an ID there? -/
end Go.Proofs.YtfbajmiiecmelabDoor
end
