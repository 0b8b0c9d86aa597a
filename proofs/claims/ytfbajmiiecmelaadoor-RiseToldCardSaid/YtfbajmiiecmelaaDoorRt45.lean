/-
  MESSAGES THAT COME IN; WHAT IS GONE THROUGH: walked. RISE: all of them, their heads their own: walked. THE LAW RiseNumbers, walked. A CELL carried on.
-/
import Derived.Test.YtfbajmiiecmelaaDoorRt04
import Derived.Test.YtfbajmiiecmelaaDoorRt29
import Derived.Test.YtfbajmiiecmelaaDoorRt43
import Derived.Test.YtfbajmiiecmelaaDoorRt44

section
namespace Go.Proofs.YtfbajmiiecmelaaDoor
open Go.ChangeShapes Go.WideShapes Go.ChangeAt Go.RowKit
theorem MaIn.onR {w w' : World} {x : Ml} {A : Option Addr} {c : Nat} (h : MaIn w x A c) (hb : Below w.heap.size w w') : MaIn w' x A c := ⟨h.row.on hb, h.cap, h.big, h.txt, h.fits⟩
/-- messages that came in -/
structure MaRow (w : World) (A : Option Addr) (l : List Mp) : Prop where
  row : Rws w A (mcs l)
  h : ∀ p ∈ l, MaIn w p.x p.A p.c
theorem MaRow.on {w w' : World} {A : Option Addr} {l : List Mp} (h : MaRow w A l) (hb : Below w.heap.size w w') : MaRow w' A l := ⟨Rws.on h.row hb, fun p hp => (h.h p hp).onR hb⟩
theorem mp_mem {l : List Mp} {i : Nat} (hi : i < l.length) : l.getD i Mp.zero ∈ l := by
  rw [List.getD_eq_getElem?_getD, List.getElem?_eq_getElem hi]; exact List.getElem_mem hi
theorem MaRow.get {w : World} {A : Option Addr} {l : List Mp} (h : MaRow w A l) {i : Nat} (hi : i < l.length) :
    MaIn w (l.getD i Mp.zero).x (l.getD i Mp.zero).A (l.getD i Mp.zero).c ∧ ∃ b off, A = some ⟨b, off, none⟩ ∧ b < w.heap.size ∧ ∀ j v, (mpL (l.getD i Mp.zero))[j]? = some v → w.cell? ⟨b, off + i * 7 + j, none⟩ = some v := by
  refine ⟨h.h _ (mp_mem hi), ?_⟩
  obtain ⟨b, off, e, hlt, hc⟩ := Rws.lies h.row (by rw [mcs_len]; omega)
  refine ⟨b, off, e, hlt, fun j v hv => ?_⟩
  have hj : j < 7 := by
    rcases Nat.lt_or_ge j 7 with h | h
    · exact h
    · rw [List.getElem?_eq_none (by show (mpL _).length ≤ j; exact h)] at hv; cases hv
  have := hc _ _ ((mcs_at hi hj).trans hv)
  rw [← Nat.add_assoc] at this
  exact this
def RsFew (l : List Mp) : Prop := l.length ≤ 40 ∧ ∀ i, i < l.length → maLight (l.getD i Mp.zero).x = true
def Li20St (w : World) (l : List Mp) (g : Nat) (i : Value) (wr : World) : Prop :=
  ∃ k : Nat, k + g = l.length ∧ i = .int .i64 (k : Int) ∧ (∀ j, j < k → maLight (l.getD j Mp.zero).x = true) ∧ Below w.heap.size w wr
def Li20Post (l : List Mp) (w : World) (e : Ending) (w' : World) : Prop := (e = .returned (.bool true) ∧ RsFew l ∨ e = .returned (.bool false)) ∧ Below w.heap.size w w'
set_option maxHeartbeats 4000000 in
theorem light20_any (A : Option Addr) (ca : Nat) (l : List Mp) (w : World) (hl : l.length ≤ 9223372036854775807) (hA : MaRow w A l) :
    Calls Tryd.prog 6 #[.slice A l.length ca] w (Li20Post l w) := by
  have HA := Lib.hid hA
  clear hA
  go_enter Tryd.func6, Tryd.ntmps6
  go_wp2_with fail
  go_loopg [7] l.length (fun g i wr => Li20St w l g i wr)
  case atStart => exact ⟨0, by omega, rfl, fun j hj => absurd hj (by omega), Below.refl _ _⟩
  case round =>
    obtain ⟨k, hk, rfl, hall, hB⟩ := hrel
    have HK := Lib.hid hk
    have HALL := Lib.hid hall
    have HB := Lib.hid hB
    clear hk hall hB
    by_cases hlt : k < l.length
    · obtain ⟨hin, b, off, rfl, hb, hc⟩ := (HA.out.on HB.out).get hlt
      have HN := Lib.hid (show maLight (l.getD k Mp.zero).x = true → ∀ j, j < k + 1 → maLight (l.getD j Mp.zero).x = true from fun h j hj => by
        by_cases e : j = k
        · rw [e]; exact h
        · exact HALL.out j (by omega))
      generalize l.getD k Mp.zero = p at *
      obtain ⟨x, Ax, cx⟩ := p
      dsimp only at *
      have q0 := hc 0 _ rfl
      have q1 := hc 1 _ rfl
      have q2 := hc 2 _ rfl
      have q3 := hc 3 _ rfl
      have q4 := hc 4 _ rfl
      have q5 := hc 5 _ rfl
      have q6 := hc 6 _ rfl
      rw [Nat.add_zero] at q0
      dsimp only at q0 q1 q2 q3 q4 q5 q6
      have h0 : Below wr.heap.size wr (wr.alloc (.cells #[.int .u64 (x.id : Int), .string (ofL x.shop), .string (ofL x.key), .slice Ax x.head.length cx, .string (ofL x.body), .int .u64 (x.due : Int), .int .u8 (x.hops : Int)] 32)) := (Below.refl _ _).alloc (Nat.le_refl _) _
      have HB2 := Lib.hid (bthen HB.out h0 (Nat.le_refl _))
      have HC := Lib.hid (ml_light_any x Ax cx _ hin.big (hin.row.on h0))
      simp only [maV] at HC
      clear hc hin h0
      generalize maLight x = LX at *
      go_wp2_with fail
      refine HC.out.mono ?_
      rintro e w1 ⟨rfl, b1⟩
      have HB3 := Lib.hid (bthen HB2.out b1 (Nat.le_refl _))
      clear b1
      cases LX with
      | false =>
        go_wp2_with fail
        go_ret
        exact ⟨Or.inr rfl, HB3.out⟩
      | true =>
        go_wp2_with fail
        go_roundg (gk - 1)
        case rel => exact ⟨k + 1, by have := HK.out; omega, by go_num, HN.out trivial, HB3.out⟩
        case measure => have := HK.out; omega
    · by_cases h80 : l.length ≤ 40
      · have HF := Lib.hid (show RsFew l from ⟨h80, fun i hi => HALL.out i (by have := HK.out; omega)⟩)
        have hd : decide ((l.length : Int) ≤ 40) = true := decide_eq_true (by omega)
        go_wp2_with fail
        go_ret
        exact ⟨Or.inl ⟨rfl, HF.out⟩, HB.out⟩
      · have hd : decide ((l.length : Int) ≤ 40) = false := decide_eq_false (by omega)
        go_wp2_with fail
        go_ret
        exact ⟨Or.inr rfl, HB.out⟩
end Go.Proofs.YtfbajmiiecmelaaDoor
end
section
namespace Go.Proofs.YtfbajmiiecmelaaDoor
open Go.ChangeShapes Go.WideShapes Go.ChangeAt Go.RowKit
theorem rs_prs_in {w : World} {A : Option Addr} {l : List Hd.Pr} (h : Prs w A l) (hl : l ≠ []) {a : Addr} (ha : A = some a) : a.block < w.heap.size := by
  obtain ⟨b, off, e, hlt, -⟩ := h.at_ 0 (List.length_pos_iff.2 hl)
  rw [ha] at e
  obtain rfl := Option.some.inj e
  exact hlt
end Go.Proofs.YtfbajmiiecmelaaDoor
end
section
namespace Go.Proofs.YtfbajmiiecmelaaDoor
open Go.ChangeShapes Go.WideShapes Go.ChangeAt Go.RowKit
/-- of the first k those that may be -/
def rsG (l : List Mp) (k : Nat) : List Ml := Rs.good ((l.take k).map Mp.x)
theorem rsG_le (l : List Mp) (k : Nat) : (rsG l k).length ≤ k := Nat.le_trans (Rs.good_le _) (by rw [List.length_map, List.length_take]; omega)
theorem rs_add {l : List Mp} {k : Nat} (hk : k < l.length) (hL : l.length ≤ 160) : Rs.addT (rsG l k).length (l.getD k Mp.zero).x = (rsG l (k + 1)).length ∧ Rs.addK (rsG l k).length (lastN 16 (rsG l k)) (l.getD k Mp.zero).x = lastN 16 (rsG l (k + 1)) ∧ Rs.addC (rsG l k).length (l.getD k Mp.zero).x = (l.getD k Mp.zero).x.code := by
  have e : l.getD k Mp.zero = l[k] := by rw [List.getD_eq_getElem?_getD, List.getElem?_eq_getElem hk]; rfl
  have h := Rs.add_good ((l.take k).map Mp.x) (l.getD k Mp.zero).x (by rw [List.length_map, List.length_take]; omega)
  rw [show (l.take k).map Mp.x ++ [(l.getD k Mp.zero).x] = (l.take (k + 1)).map Mp.x by rw [e, List.take_succ_eq_append_getElem hk, List.map_append]; rfl] at h
  exact h
end Go.Proofs.YtfbajmiiecmelaaDoor
end
section
namespace Go.Proofs.YtfbajmiiecmelaaDoor
open Go.ChangeShapes Go.WideShapes Go.ChangeAt Go.RowKit
theorem cell_on {a a' : World} (hb : Below a.heap.size a a') {p : Addr} {v : Value} (h : a.cell? p = some v) : a'.cell? p = some v := (hb.cell (World.block_lt_of_cell? a _ h)).trans h
theorem below_put {B b j : Nat} {w w' : World} {v : Value} (hge : B ≤ b) (h : Below B w w') : Below B w (w'.setCell ⟨b, j, none⟩ v) := h.setCell (p := ⟨b, j, none⟩) hge v
end Go.Proofs.YtfbajmiiecmelaaDoor
end
