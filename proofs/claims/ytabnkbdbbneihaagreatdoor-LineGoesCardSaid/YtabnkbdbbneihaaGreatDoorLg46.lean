/-
  BOXES OF LINES; ACTS THAT COME IN; the example, plain.
-/
import Derived.Test.YtabnkbdbbneihaaGreatDoorLg45

section
namespace Go.Proofs.YtabnkbdbbneihaaGreatDoor
open Go.ChangeShapes Go.WideShapes Go.ChangeAt Go.RowKit
/-- a variable's box that holds a line; the line lies elsewhere -/
def LnBox (w : World) (b : Nat) (l : List It) (W : World) : Prop := ∃ A c U, BoxC w b [.slice A l.length c] W ∧ LnU U W (.agg #[.slice A l.length c]) l ∧ ¬ U b
theorem LnBox.on {w W W' : World} {b : Nat} {l : List It} (h : LnBox w b l W) (hb : Below W.heap.size W W') : LnBox w b l W' := by
  obtain ⟨A, c, U, h1, h2, h3⟩ := h
  exact ⟨A, c, U, h1.on hb, h2.on hb, h3⟩
theorem LnBox.new {w W : World} (hs : w.heap.size ≤ W.heap.size) {A : Option Addr} {c : Nat} {l : List It} {U : Nat → Prop} (h : LnU U W (.agg #[.slice A l.length c]) l) : LnBox w W.heap.size l (W.alloc (.cells #[.slice A l.length c] 27)) := by
  refine ⟨A, c, _, BoxC.new hs #[.slice A l.length c] 27, h.cut.on (one_alloc W _), fun h => ?_⟩
  have := h.2
  omega
theorem LnBox.put {w W : World} {b : Nat} {l l' : List It} {A : Option Addr} {c : Nat} {U : Nat → Prop} (h : LnBox w b l W) (hu : LnU U W (.agg #[.slice A l'.length c]) l') (hb : ¬ U b) : LnBox w b l' (W.setCell ⟨b, 0, none⟩ (.slice A l'.length c)) := by
  obtain ⟨A0, c0, U0, h1, h2, h3⟩ := h
  exact ⟨A, c, U, h1.put 0 (.slice A l'.length c) (by simp), hu.aside hb 0 _, hb⟩
/-! ### acts that come in -/
structure AcP where
  d : Nat
  x : Ml
  A : Option Addr
  c : Nat
def acL (p : AcP) : List Value := .int .u8 (p.d : Int) :: maL p.x p.A p.c
structure Acs (w : World) (A : Option Addr) (l : List AcP) : Prop where
  at_ : ∀ i (h : i < l.length), ∃ b off, A = some ⟨b, off, none⟩ ∧ b < w.heap.size ∧ ∀ j v, (acL l[i])[j]? = some v → w.cell? ⟨b, off + i * 8 + j, none⟩ = some v
  in_ : ∀ p ∈ l, MaIn w p.x p.A p.c
  dlt : ∀ p ∈ l, p.d < 256
theorem MaIn.on {w w' : World} {x : Ml} {A : Option Addr} {c : Nat} (h : MaIn w x A c) (hb : Below w.heap.size w w') : MaIn w' x A c := ⟨h.row.on hb, h.cap, h.big, h.txt, h.fits⟩
theorem Acs.on {w w' : World} {A : Option Addr} {l : List AcP} (h : Acs w A l) (hb : Below w.heap.size w w') : Acs w' A l := ⟨fun i hi => by
  obtain ⟨b, off, hA, hlt, hc⟩ := h.at_ i hi
  exact ⟨b, off, hA, Nat.lt_of_lt_of_le hlt hb.size, fun j v hv => (hb.cell (p := ⟨b, off + i * 8 + j, none⟩) hlt).trans (hc j v hv)⟩, fun p hp => (h.in_ p hp).on hb, h.dlt⟩
def FewAc (l : List AcP) : Prop := l.length ≤ 100 ∧ ∀ p ∈ l, maLight p.x = true
def LigSt (w : World) (l : List AcP) (g : Nat) (i : Value) (wr : World) : Prop :=
  ∃ k : Nat, k + g = l.length ∧ i = .int .i64 (k : Int) ∧ (∀ p ∈ l.take k, maLight p.x = true) ∧ Below w.heap.size w wr
set_option maxHeartbeats 4000000 in
theorem light18_any (A : Option Addr) (ca : Nat) (l : List AcP) (w : World) (hl : l.length ≤ 9223372036854775807) (hA : Acs w A l) :
    Calls Tryz.prog 8 #[.slice A l.length ca] w fun e w' => (e = .returned (.bool true) ∧ FewAc l ∨ e = .returned (.bool false)) ∧ Below w.heap.size w w' := by
  have HA := Lib.hid hA
  clear hA
  go_enter Tryz.func8, Tryz.ntmps8
  go_wp2_with fail
  go_loopg [7] l.length (fun g i wr => LigSt w l g i wr)
  case atStart => exact ⟨0, by omega, rfl, fun p hp => by simp at hp, Below.refl _ _⟩
  case round =>
    obtain ⟨k, hk, rfl, hall, hb⟩ := hrel
    have HK := Lib.hid hk
    have HALL := Lib.hid hall
    have HB := Lib.hid hb
    clear hk hall hb
    by_cases hlt : k < l.length
    · obtain ⟨b, off, rfl, hbl, hat⟩ := (HA.out.on HB.out).at_ k hlt
      have hin := (HA.out.on HB.out).in_ l[k] (List.getElem_mem hlt)
      have HTK := Lib.hid (show maLight l[k].x = true → ∀ p ∈ l.take (k + 1), maLight p.x = true from fun h p hp => by
        rw [List.take_succ_eq_append_getElem hlt] at hp
        rcases List.mem_append.1 hp with hp | hp
        · exact HALL.out p hp
        · obtain rfl := List.mem_singleton.1 hp; exact h)
      generalize l[k] = p at *
      obtain ⟨d, x, Ax, cx⟩ := p
      unfold acL maL at hat
      dsimp only at hat hin HTK
      have c0 := hat 0 _ rfl
      have c1 := hat 1 _ rfl
      have c2 := hat 2 _ rfl
      have c3 := hat 3 _ rfl
      have c4 := hat 4 _ rfl
      have c5 := hat 5 _ rfl
      have c6 := hat 6 _ rfl
      have c7 := hat 7 _ rfl
      rw [Nat.add_zero] at c0
      have HLI := Lib.hid (fun W h => ml_light_any x Ax cx W hin.big h)
      have HIN := Lib.hid hin
      have HA1 := Lib.hid (one_alloc wr (.cells #[.int .u8 (d : Int), .int .u64 (x.id : Int), .string (ofL x.shop), .string (ofL x.key), .slice Ax x.head.length cx, .string (ofL x.body), .int .u64 (x.due : Int), .int .u8 (x.hops : Int)] 33))
      have HB1 := Lib.hid (HB.out.alloc HB.out.size (.cells #[.int .u8 (d : Int), .int .u64 (x.id : Int), .string (ofL x.shop), .string (ofL x.key), .slice Ax x.head.length cx, .string (ofL x.body), .int .u64 (x.due : Int), .int .u8 (x.hops : Int)] 33))
      simp only [maV] at HLI
      clear hat hin
      cases hli : maLight x
      · rw [hli] at HLI
        go_wp2_with fail
        refine (HLI.out _ (HIN.out.row.on HA1.out)).mono ?_
        rintro e w2 ⟨rfl, b2⟩
        have HB2 := Lib.hid (bthen HB1.out b2 (Nat.le_refl _))
        clear b2
        go_wp2_with fail
        go_ret
        exact ⟨Or.inr rfl, HB2.out⟩
      · rw [hli] at HLI
        have HN := Lib.hid (HTK.out hli)
        go_wp2_with fail
        refine (HLI.out _ (HIN.out.row.on HA1.out)).mono ?_
        rintro e w2 ⟨rfl, b2⟩
        have HB2 := Lib.hid (bthen HB1.out b2 (Nat.le_refl _))
        clear b2
        go_wp2_with fail
        go_roundg (gk - 1)
        case rel => exact ⟨k + 1, by have := HK.out; omega, by go_num, HN.out, HB2.out⟩
        case measure => have := HK.out; omega
    · have HF := Lib.hid (show l.length ≤ 100 → FewAc l from fun h => ⟨h, fun p hp => HALL.out p (by rw [List.take_of_length_le (by omega)]; exact hp)⟩)
      by_cases h100 : l.length ≤ 100
      · have hd : decide ((l.length : Int) ≤ 100) = true := decide_eq_true (by omega)
        go_wp2_with fail
        go_ret
        exact ⟨Or.inl ⟨rfl, HF.out h100⟩, HB.out⟩
      · have hd : decide ((l.length : Int) ≤ 100) = false := decide_eq_false (by omega)
        go_wp2_with fail
        go_ret
        exact ⟨Or.inr rfl, HB.out⟩
/-! ### the chapter's example -/
def e3 : Ml := ⟨3, [97], [], [], [], 0, 0⟩
def e5 : Ml := ⟨5, [97], [], [], [], 0, 0⟩
theorem e3_go (w : World) : MaGo w e3 none 0 := ⟨⟨by decide, by decide, by decide, by decide, by decide, lite_nil, Prs.nil _ _⟩, ⟨by decide, by decide, by decide, fun p hp => absurd hp (by simp [e3])⟩⟩
theorem e5_go (w : World) : MaGo w e5 none 0 := ⟨⟨by decide, by decide, by decide, by decide, by decide, lite_nil, Prs.nil _ _⟩, ⟨by decide, by decide, by decide, fun p hp => absurd hp (by simp [e5])⟩⟩
theorem law13Awake_any (w : World) (hL : Len w) : Calls Tryz.prog 40 #[] w fun e w' => e = .returned (.bool true) ∧ Below w.heap.size w w' := by
  have HA := Lib.hid (awake13_any w hL)
  go_enter Tryz.func40, Tryz.ntmps40
  go_wp2_with fail
  refine HA.out.mono ?_
  rintro x w1 ⟨rfl, b1⟩
  have B1 := Lib.hid b1
  clear b1
  go_wp2_with fail
  go_ret
  exact ⟨rfl, B1.out⟩
/-- the line at each step -/
def x3 (a b : Bool) : It := ⟨e3, a, b⟩
def x5 (a b : Bool) : It := ⟨e5, a, b⟩
theorem ex_add3 : Ln.add [] ⟨e3, false, false⟩ = [x3 false false] ∧ Ln.acode [] ⟨e3, false, false⟩ = 0 := by decide
theorem ex_add5 : Ln.add [x3 false false] ⟨e5, false, false⟩ = [x3 false false, x5 false false] ∧ Ln.acode [x3 false false] ⟨e5, false, false⟩ = 0 := by decide
theorem ex_lend3 : Ln.lend [x3 false false, x5 false false] = [x3 true false, x5 false false] ∧ Ln.lentIt [x3 false false, x5 false false] = x3 true false ∧ Ln.next [x3 false false, x5 false false] = 0 := by decide
theorem ex_lend5 : Ln.lend [x3 true false, x5 false false] = [x3 true false, x5 true false] ∧ Ln.lentIt [x3 true false, x5 false false] = x5 true false ∧ Ln.next [x3 true false, x5 false false] = 1 := by decide
theorem ex_back3 : Ln.back [x3 true false, x5 true false] 3 = [x3 false true, x5 true false] ∧ Ln.bcode [x3 true false, x5 true false] 3 = 0 := by decide
theorem ex_first : tellM [x3 false true, x5 true false] (Ln.next [x3 false true, x5 true false]) = e3 ∧ Ln.next [x3 false true, x5 true false] = 0 := by decide
end Go.Proofs.YtabnkbdbbneihaaGreatDoor
end
