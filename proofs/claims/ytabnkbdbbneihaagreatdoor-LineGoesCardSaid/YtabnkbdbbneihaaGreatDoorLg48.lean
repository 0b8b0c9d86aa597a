/-
  ANY ACT; two lines that are the same; whether one is there: walked. THE FIRST LATE ONE; the laws' acts: walked. THE LAW LineWakes.
-/
import Derived.Test.YtabnkbdbbneihaaGreatDoorLg47
import Derived.BigQuiet
import Derived.Deep.RegionHeld3
section
namespace Go.Proofs.YtabnkbdbbneihaaGreatDoor
open Go.ChangeShapes Go.WideShapes Go.ChangeAt Go.RowKit
def doL (l : List It) (d : Nat) (x : Ml) : List It := if d % 6 = 2 then Ln.lend l else if d % 6 = 3 then Ln.back l x.id else if d % 6 = 4 then Ln.remove l x.id else if d % 6 = 5 then Ln.wake l else Ln.add l ⟨x, false, false⟩
/-- such lines come about here -/
structure FineS (l : List It) : Prop where
  fine : Ln.Fine l
  few : ∀ x ∈ l, maLight x.m = true
theorem FineS.nil : FineS [] := ⟨Ln.Fine.nil, fun x hx => by simp at hx⟩
theorem FineS.heads {l : List It} (h : FineS l) : ∀ x ∈ l, x.m.head.length ≤ 100000 := fun x hx => by have := ml_len (h.few x hx); omega
theorem FineS.map {l : List It} (h : FineS l) {f : It → It} (hf : ∀ x, (f x).m = x.m) : FineS (l.map f) := ⟨h.fine.map hf, fun x hx => by
  obtain ⟨y, hy, rfl⟩ := List.mem_map.1 hx
  rw [hf]; exact h.few y hy⟩
theorem FineS.wake {l : List It} (h : FineS l) : FineS (Ln.wake l) := h.map fun _ => rfl
theorem FineS.lend {l : List It} (h : FineS l) : FineS (Ln.lend l) := by
  unfold Ln.lend
  split
  · exact h
  · exact h.map fun _ => rfl
theorem FineS.step {l : List It} (h : FineS l) (d : Nat) {x : Ml} (hx : Ml.Fits x) (hl : maLight x = true) : FineS (doL l d x) := by
  unfold doL
  split
  · exact h.lend
  · split
    · unfold Ln.back
      split
      · exact h.map fun y => by split <;> rfl
      · exact h
    · split
      · refine ⟨h.fine.remove _, fun y hy => ?_⟩
        unfold Ln.remove at hy
        split at hy
        · exact h.few y hy
        · exact h.few y (List.mem_of_mem_eraseIdx hy)
      · split
        · exact h.wake
        · refine ⟨h.fine.add hx, fun y hy => ?_⟩
          unfold Ln.add at hy
          split at hy
          · rcases List.mem_append.1 hy with hy | hy
            · exact h.few y hy
            · obtain rfl := List.mem_singleton.1 hy; exact hl
          · exact h.few y hy
theorem done18_any (d : Nat) (x : Ml) (Ax : Option Addr) (cx : Nat) (v : Value) (l : List It) (w : World) (U : Nat → Prop) (hf : FineS l) (h : LnU U w v l) (hg : MaGo w x Ax cx) (hL : Len w) : Calls Tryz.prog 10 #[v, .slice none 0 0, .agg #[.int .u8 (d : Int), .int .u64 (x.id : Int), .string (ofL x.shop), .string (ofL x.key), .slice Ax x.head.length cx, .string (ofL x.body), .int .u64 (x.due : Int), .int .u8 (x.hops : Int)]] w (DoneN U (doL l d x) w) := by
  have hl : l.length ≤ 1000 := by have := hf.fine.len; omega
  unfold doL
  by_cases h2 : d % 6 = 2
  · rw [if_pos h2]; exact done18_lend d x Ax cx v l w U hl h (by omega) hf.heads
  · rw [if_neg h2]
    by_cases h3 : d % 6 = 3
    · rw [if_pos h3]; exact done18_back d x Ax cx v l w U hl h (by omega)
    · rw [if_neg h3]
      by_cases h4 : d % 6 = 4
      · rw [if_pos h4]; exact done18_remove d x Ax cx v l w U hl h (by omega) hf.heads
      · rw [if_neg h4]
        by_cases h5 : d % 6 = 5
        · rw [if_pos h5]; exact done18_wake d x Ax cx v l w U hl h (by omega)
        · rw [if_neg h5]; exact done18_add d x Ax cx v l w U hl h (d % 6) (by omega) (by omega) hg hL
/-! ### two lines that are the same -/
/-! ### is one of an ID there? -/
def HasSt (w : World) (_id : Nat) (l : List It) (g : Nat) (i : Value) (wr : World) : Prop := ∃ k : Nat, k + g = l.length ∧ i = .int .i64 (k : Int) ∧ Below w.heap.size w wr
set_option maxHeartbeats 4000000 in
theorem has18_no (l : List It) (id : Nat) (A : Option Addr) (c : Nat) (w : World) (hl : l.length ≤ 100000) (h : LnIn w (.agg #[.slice A l.length c]) l) (hno : ∀ x ∈ l, x.m.id ≠ id) :
    Calls Tryz.prog 13 #[.slice A l.length c, .int .u64 (id : Int)] w fun e w' => e = .returned (.bool false) ∧ Below w.heap.size w w' := by
  obtain ⟨A0, c0, m, ev, hm, -, hI⟩ := h
  obtain ⟨rfl, rfl⟩ : A = A0 ∧ c = c0 := by simpa using ev
  have HI := Lib.hid hI
  have HX1 := Lib.hid (fun i hi => xs_get hm (i := i) hi)
  have HL1 := Lib.hid (xs_len hm)
  have HNO := Lib.hid hno
  clear hI hm ev hno
  go_enter Tryz.func13, Tryz.ntmps13
  go_wp2_with fail
  go_loopg [9] l.length (fun g i wr => HasSt w id l g i wr)
  case atStart => exact ⟨0, by omega, rfl, Below.refl _ _⟩
  case round =>
    obtain ⟨k, hk, rfl, hbl⟩ := hrel
    have HK := Lib.hid hk
    have HBL := Lib.hid hbl
    clear hk hbl
    by_cases hlt : k < l.length
    · have hk1 : k < m.length := by have := HL1.out; omega
      obtain ⟨b1, o1, rfl, hb1, hat1⟩ := (HI.out.on HBL.out).at_ k hk1
      have e12 := HX1.out k hk1
      have hne : m[k].x.m.id ≠ id := by
        rw [e12, Ln.getD_lt hlt]; exact HNO.out _ (List.getElem_mem hlt)
      generalize m[k] = p at *
      obtain ⟨x, Ax, cx⟩ := p
      dsimp only at hat1 hne
      have c0 := hat1 0 _ rfl
      have c1 := hat1 1 _ rfl
      have c2 := hat1 2 _ rfl
      have c3 := hat1 3 _ rfl
      have c4 := hat1 4 _ rfl
      have c5 := hat1 5 _ rfl
      have c6 := hat1 6 _ rfl
      have c7 := hat1 7 _ rfl
      have c8 := hat1 8 _ rfl
      rw [Nat.add_zero] at c0
      have hb : ((x.m.id : Int) == (id : Int)) = false := by simp; omega
      have hb' : (x.m.id == id) = false := by simp; omega
      have HB1 := Lib.hid (HBL.out.alloc HBL.out.size (.cells #[.int .u64 (x.m.id : Int), .string (ofL x.m.shop), .string (ofL x.m.key), .slice Ax x.m.head.length cx, .string (ofL x.m.body), .int .u64 (x.m.due : Int), .int .u8 (x.m.hops : Int), .bool x.lent, .bool x.again] 41))
      clear hat1 e12 hne
      go_wp2_with fail
      go_roundg (gk - 1)
      case rel => exact ⟨k + 1, by have := HK.out; omega, by go_num, HB1.out⟩
      case measure => have := HK.out; omega
    · go_wp2_with fail
      go_ret
      exact ⟨rfl, HBL.out⟩
end Go.Proofs.YtabnkbdbbneihaaGreatDoor
end
section
namespace Go.Proofs.YtabnkbdbbneihaaGreatDoor
open Go.ChangeShapes Go.WideShapes Go.ChangeAt Go.RowKit
def AcSt (w : World) (b n g : Nat) (i : Value) (wr : World) : Prop := ∃ (k : Nat) (q : List It), k + g = n ∧ i = .int .i64 (k : Int) ∧ FineS q ∧ LnBox w b q wr ∧ Below w.heap.size w wr
end Go.Proofs.YtabnkbdbbneihaaGreatDoor
end
section
namespace Go.Proofs.YtabnkbdbbneihaaGreatDoor
open Go.ChangeShapes Go.WideShapes Go.ChangeAt Go.RowKit
theorem cell_on {a a' : World} (hb : Below a.heap.size a a') {p : Addr} {v : Value} (h : a.cell? p = some v) : a'.cell? p = some v := (hb.cell (World.block_lt_of_cell? a _ h)).trans h
theorem LnBox.putN {w W : World} {b n : Nat} {l' : List It} {A : Option Addr} {c : Nat} {U : Nat → Prop} {x : Value} (hn : l'.length = n) (h : BoxC w b [x] W) (hu : LnU U W (.agg #[.slice A n c]) l') (hb : ¬ U b) : LnBox w b l' (W.setCell ⟨b, 0, none⟩ (.slice A n c)) := by
  subst hn
  exact ⟨A, c, U, h.put 0 _ (by simp), hu.aside hb 0 _, hb⟩
end Go.Proofs.YtabnkbdbbneihaaGreatDoor
end
