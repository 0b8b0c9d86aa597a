/-
  WHETHER A HEAD HAS EACH of some pairs; the document's own question: walked.
-/
import Derived.Test.YtaoidjjmeejbbaaDoorMs17

section
namespace Go.Proofs.YtaoidjjmeejbbaaDoor
open Go.ChangeShapes Go.WideShapes Go.ChangeAt Go.RowKit
theorem each_no {h m : List Hd.Pr} {k : Nat} (hk : k < m.length) (e : hasP h (Hd.pr m k) = false) : m.all (hasP h) = false := by
  rw [List.all_eq_false]
  exact ⟨m[k], List.getElem_mem hk, by rw [Hd.pr_at hk] at e; rw [e]; simp⟩
theorem each_yes {h m : List Hd.Pr} (g : ∀ k, k < m.length → hasP h (Hd.pr m k) = true) : m.all (hasP h) = true := by
  rw [List.all_eq_true]
  intro x hx
  obtain ⟨i, hi, rfl⟩ := List.getElem_of_mem hx
  have := g i hi
  rwa [Hd.pr_at hi] at this
def EachIn (h : List Hd.Pr) (x : Hd.Pr) (w : World) (p n g : Nat) (i : Value) (wr : World) : Prop :=
  ∃ j : Nat, j + g = n ∧ i = .int .i64 (j : Int) ∧ (∀ t, t < j → prEq x (Hd.pr h t) = false) ∧ PrAt wr p 0 x ∧ Below w.heap.size w wr
set_option maxRecDepth 100000 in
set_option maxHeartbeats 4000000 in
theorem hasEach_any (h m : List Hd.Pr) (A : Option Addr) (c : Nat) (B : Option Addr) (d : Nat) (w : World) (hh : h.length ≤ 100000) (hm : m.length ≤ 100000) (hA : Prs w A h) (hB : Prs w B m) :
    Calls Tryd.prog 116 #[.slice A h.length c, .slice B m.length d] w fun e w' => e = .returned (.bool (m.all (hasP h))) ∧ Below w.heap.size w w' := by
  have HA := Lib.hid hA
  have HB := Lib.hid hB
  have HNO := Lib.hid (fun k hk e => each_no (h := h) (m := m) (k := k) hk e)
  have HYES := Lib.hid (fun g => each_yes (h := h) (m := m) g)
  clear hA hB
  generalize m.all (hasP h) = M at *
  obtain ⟨n, hn⟩ : ∃ n, n = h.length := ⟨_, rfl⟩
  obtain ⟨o, ho⟩ : ∃ o, o = m.length := ⟨_, rfl⟩
  rw [← hn, ← ho]
  have HN := Lib.hid hn
  have HO := Lib.hid ho
  have hnl : n ≤ 100000 := by omega
  have hol : o ≤ 100000 := by omega
  clear hn ho
  go_enter Tryd.func116, Tryd.ntmps116
  go_wp2_with fail
  go_step3
  go_wp2_with fail
  go_step3
  go_wp2_with fail
  go_loopg [11] o (fun g i wr => ∃ k : Nat, k + g = o ∧ i = .int .i64 (k : Int) ∧ (∀ t, t < k → hasP h (Hd.pr m t) = true) ∧ Below w.heap.size w wr)
  case atStart => exact ⟨0, by omega, rfl, fun t ht => absurd ht (by omega), Below.refl _ _⟩
  case round =>
    obtain ⟨k, hk, rfl, hall, hBl⟩ := hrel
    have HBL := Lib.hid hBl
    have HALL := Lib.hid hall
    clear hBl hall
    by_cases hlt : k < o
    · obtain ⟨b, off, rfl, hbl, hat⟩ := (HB.out.on HBL.out).at_ k (by have := HO.out; omega)
      obtain ⟨x, hx⟩ : ∃ x, Hd.pr m k = x := ⟨_, rfl⟩
      have HX := Lib.hid hx
      rw [hx] at hat
      clear hx
      have HBX := Lib.hid (PrAt.new x wr)
      have HB1 := Lib.hid (HBL.out.alloc HBL.out.size (.cells #[.string (ofL x.key), .int .u8 (x.kind : Int), .int .i64 x.num, .string (ofL x.txt)] 65))
      obtain ⟨c0, c1, c2, c3⟩ := hat
      go_wp2_with fail
      generalize wr.alloc (.cells #[.string (ofL x.key), .int .u8 (x.kind : Int), .int .i64 x.num, .string (ofL x.txt)] 65) = w1 at *
      obtain ⟨p, hp⟩ : ∃ p, p = wr.heap.size := ⟨_, rfl⟩
      rw [← hp] at HBX ⊢
      clear hp c0 c1 c2 c3 hbl
      obtain ⟨g0, hg0⟩ : ∃ g0, g0 = gk := ⟨_, rfl⟩
      go_loopg [17] n (fun g i wr => EachIn h x w p n g i wr)
      case atStart => exact ⟨0, by omega, rfl, fun t ht => absurd ht (by omega), HBX.out, HB1.out⟩
      case round =>
        obtain ⟨j, hj, rfl, hno, hbx, hB2⟩ := hrel
        have HB2 := Lib.hid hB2
        have HNJ := Lib.hid hno
        have HBJ := Lib.hid hbx
        clear hB2 hno hbx
        by_cases hlj : j < n
        · obtain ⟨b2, off2, rfl, hbl2, hat2⟩ := (HA.out.on HB2.out).at_ j (by have := HN.out; omega)
          obtain ⟨d0, d1, d2, d3⟩ := HBJ.out
          simp only [Nat.zero_add] at d0 d1 d2 d3
          have hpl := World.block_lt_of_cell? _ _ d0
          simp only at hpl
          have hq := fun W => pr_eq (Hd.pr h j) x W
          cases he : prEq x (Hd.pr h j) with
          | true =>
            have HF := Lib.hid (show ∀ t, t < k + 1 → hasP h (Hd.pr m t) = true from fun t ht => by
              by_cases e : t = k
              · rw [e, HX.out]; exact hasP_yes (k := j) (by have := HN.out; omega) he
              · exact HALL.out t (by omega))
            rw [prEq_comm, he] at hq
            clear he
            generalize Hd.pr h j = y at *
            obtain ⟨y1, y2, y3, y4⟩ := y
            obtain ⟨x1, x2, x3, x4⟩ := x
            obtain ⟨c0, c1, c2, c3⟩ := hat2
            simp only [prV] at hq c0 c1 c2 c3 d0 d1 d2 d3
            go_wp2_with fail
            go_roundg (g0 - 1)
            case rel => exact ⟨k + 1, by omega, by go_num, HF.out, HB2.out.alloc HB2.out.size _⟩
            case measure => omega
          | false =>
            have HNX := Lib.hid (show ∀ t, t < j + 1 → prEq x (Hd.pr h t) = false from fun t ht => by
              by_cases e : t = j
              · rw [e]; exact he
              · exact HNJ.out t (by omega))
            rw [prEq_comm, he] at hq
            clear he
            generalize Hd.pr h j = y at *
            obtain ⟨y1, y2, y3, y4⟩ := y
            obtain ⟨x1, x2, x3, x4⟩ := x
            obtain ⟨c0, c1, c2, c3⟩ := hat2
            simp only [prV] at hq c0 c1 c2 c3 d0 d1 d2 d3
            have HBY := Lib.hid (HBJ.out.below ((Below.refl _ _).alloc (Nat.le_refl _) (.cells #[.string (ofL y1), .int .u8 (y2 : Int), .int .i64 y3, .string (ofL y4)] 65)) hpl)
            go_wp2_with fail
            go_roundg (gk - 1)
            case rel => exact ⟨j + 1, by omega, by go_num, HNX.out, HBY.out, HB2.out.alloc HB2.out.size _⟩
            case measure => omega
        · have HF := Lib.hid (HNO.out k (by have := HO.out; omega) (by rw [HX.out]; exact hasP_no fun t ht => HNJ.out t (by have := HN.out; omega)))
          go_wp2_with fail
          rw [Exit.noGoto_ret]
          go_ret
          exact ⟨ret_bool HF.out.symm, HB2.out⟩
    · have HF := Lib.hid (HYES.out (fun t ht => HALL.out t (by have := HO.out; omega)))
      go_wp2_with fail
      rw [Exit.noGoto_ret]
      go_ret
      exact ⟨ret_bool HF.out.symm, HBL.out⟩
end Go.Proofs.YtaoidjjmeejbbaaDoor
end
