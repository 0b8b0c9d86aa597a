/-
  ROWS OF ANY ELEMENTS in memory, by their cells. WHAT THE WORDS' TEXTS TAKE FROM BELOW, where a seat holds no lattice. NAMES AND WORDS' BYTES, walked.
-/
import Derived.Test.YtecjngodfciokaaGreatDoorDl01
import Derived.Test.YtecjngodfciokaaGreatDoorDl02
import Derived.Test.YtecjngodfciokaaGreatDoorDl03
import Derived.Deep.LoopGhost
import Derived.Deep.AppendLies
import Derived.Laws.AppendOwnNone
import Derived.ArgAppend
import Derived.Lib.Walk
import Derived.Lib.SliceRun
import Derived.Lib.AppendZerosOnto
import Derived.WalkMore
import Derived.Test.YtecjngodfciokaaGreatDoorRows
section
namespace Go.Proofs.YtecjngodfciokaaGreatDoor
open Go.ChangeShapes Go.WideShapes Go.ChangeAt Go.RowKit
/-- the cells of a row lie at A -/
structure Rws (w : World) (A : Option Addr) (cs : List Value) : Prop where
  at_ : ∀ j v, cs[j]? = some v → ∃ b off, A = some ⟨b, off, none⟩ ∧ b < w.heap.size ∧ w.cell? ⟨b, off + j, none⟩ = some v
theorem Rws.on {w w' : World} {A : Option Addr} {cs : List Value} (h : Rws w A cs) (hb : Below w.heap.size w w') : Rws w' A cs := ⟨fun j v hv => by
  obtain ⟨b, off, hA, hlt, hc⟩ := h.at_ j v hv
  exact ⟨b, off, hA, Nat.lt_of_lt_of_le hlt hb.size, (hb.cell (p := ⟨b, off + j, none⟩) hlt).trans hc⟩⟩
theorem Rws.far {w w' : World} {A : Option Addr} {cs : List Value} {B : Nat} (h : Rws w A cs) (hb : Below B w w') (hB : ∀ a, A = some a → a.block < B) : Rws w' A cs := ⟨fun j v hv => by
  obtain ⟨b, off, rfl, hlt, hc⟩ := h.at_ j v hv
  exact ⟨b, off, rfl, Nat.lt_of_lt_of_le hlt hb.size, (hb.cell (p := ⟨b, off + j, none⟩) (hB ⟨b, off, none⟩ rfl)).trans hc⟩⟩
theorem Rws.nil (w : World) (A : Option Addr) : Rws w A [] := ⟨fun j v hv => by simp at hv⟩
theorem Rws.no {w : World} {cs : List Value} (h : Rws w none cs) : cs = [] := by
  cases cs with
  | nil => rfl
  | cons x t => obtain ⟨b, off, e, _⟩ := h.at_ 0 x rfl; cases e
theorem Rws.lies {w : World} {A : Option Addr} {cs : List Value} (h : Rws w A cs) (hp : 0 < cs.length) : ∃ b off, A = some ⟨b, off, none⟩ ∧ b < w.heap.size ∧ ∀ j v, cs[j]? = some v → w.cell? ⟨b, off + j, none⟩ = some v := by
  obtain ⟨b, off, e, hlt, -⟩ := h.at_ 0 _ (List.getElem?_eq_getElem hp)
  refine ⟨b, off, e, hlt, fun j v hv => ?_⟩
  obtain ⟨b', off', e', -, hc⟩ := h.at_ j v hv
  rw [e] at e'
  cases e'
  exact hc
theorem Rws.drop {w : World} {b off k : Nat} {cs : List Value} (h : Rws w (some ⟨b, off, none⟩) cs) : Rws w (some ⟨b, off + k, none⟩) (cs.drop k) := ⟨fun j v hv => by
  rw [List.getElem?_drop] at hv
  obtain ⟨b', off', e, hlt, hc⟩ := h.at_ (k + j) v hv
  cases e
  exact ⟨b, off + k, rfl, hlt, by rw [Nat.add_assoc]; exact hc⟩⟩
theorem Rws.of_own {w : World} {B e sz n : Nat} {v : Value} {xs : List Value} (h : w.ownsRow B e sz v n xs) : ∃ A c, v = .slice A n c ∧ n ≤ c ∧ (A = none → c = 0) ∧ Rws w A xs ∧ ∀ a, A = some a → B ≤ a.block ∧ a.block < w.heap.size := by
  have hl := h.1
  obtain ⟨A, c, rfl, hc, ho, hx⟩ := Rw.own_cells h
  refine ⟨A, c, rfl, hc, ?_, ⟨fun j u hj => ?_⟩, fun a ha => h.lt _ (ho a ha)⟩
  · rintro rfl
    rcases h.2 with ⟨e1, _⟩ | ⟨g, cap, cur, e1, _⟩
    · exact (Value.slice.inj e1).2.2
    · exact absurd (Value.slice.inj e1).1 (by simp)
  · have hj2 : j < n * sz := by rw [← hl]; exact (List.getElem?_eq_some_iff.1 hj).1
    have hn : 0 < n := by
      rcases Nat.eq_zero_or_pos n with h0 | h0
      · rw [h0, Nat.zero_mul] at hj2; omega
      · exact h0
    obtain ⟨g, rfl, hg, hcell⟩ := hx hn
    exact ⟨g, 0, rfl, hg, by rw [Nat.zero_add, hcell j hj2]; exact hj⟩
theorem rws_add (b off j : Nat) : (⟨b, off, none⟩ : Addr).add j = ⟨b, off + j, none⟩ := by
  unfold Addr.add
  split
  · rename_i h0
    have : j = 0 := by simpa using h0
    rw [this]; rfl
  · rfl
theorem Rws.of_news {w : World} {b off : Nat} {cs : List Value} (h : ∀ j u, cs[j]? = some u → w.cell? ⟨b, off + j, none⟩ = some u) : Rws w (some ⟨b, off, none⟩) cs := ⟨fun j u hu =>
  ⟨b, off, rfl, World.block_lt_of_cell? w _ (h j u hu), h j u hu⟩⟩
/-- a row of elements, appended to one of one's own -/
theorem wpList_append_rws {P : Program} (w : World) {ops : Array Oper} {rest : List Oper} {o : Oper} {a : Act} {Q : Exit → Act → World → Prop} (hgd : o.guard = none) (s x : Operand) (t : TypeId)
    (ho : o.op = .call { callee := .builtin .append, args := #[s, x], argTypes := #[t, t] })
    (base : Nat) (E : TypeId) (i : TypeInfo) (z : Value) (sz by_ : Nat) (ht : P.underlying t = some (.slice E)) (hi : P.info? E = some i) (hz : i.zero = some z)
    (hsize : i.size = sz) (hby : i.bytes = by_) (hzs : z.cells.size = sz) (h0 : 0 < sz) (hsmall : by_ ≤ 1000) {v : Value} {m : Nat} {xs : List Value} (hs : a.eval s = v) (hown : w.ownsRow base E sz v m xs)
    {A : Option Addr} {n c : Nat} {cs : List Value} (hx : a.eval x = .slice A n c) (hl : Rws w A cs) (hlen : cs.length = n * sz) (hone : ∀ u ∈ cs, u.oneCell' = true) (hn : m + n ≤ 100000) (hnil : A = none → c = 0) (hbase : base ≤ w.heap.size)
    (h : ∀ v' w', w'.ownsRow base E sz v' (m + n) (xs ++ cs) → w.grownBy w' v.ownBlock → wpList P ops Q rest (a.put o.dst v') w') : wpList P ops Q (o :: rest) a w := by
  cases A with
  | none =>
    have e := hl.no
    subst e
    have hn0 : n = 0 := by
      rcases Nat.eq_zero_or_pos n with h1 | h1
      · exact h1
      · have := Nat.mul_pos h1 h0
        simp at hlen; omega
    subst hn0
    have ec := hnil rfl
    subst ec
    refine wpList_append_own_none hgd s x t ho base E i sz ht hi v m xs hs hown hx (h _ _ ?_ (World.grownBy.refl _ _))
    rw [List.append_nil]
    exact hown
  | some ad =>
    have hb1 : (m + n) * by_ ≤ 100000 * 1000 := Nat.mul_le_mul hn hsmall
    refine wpList_append_own w hgd s x t ho base E i z sz by_ ht hi hz hsize hby hzs h0 v m xs hs hown ad n c cs hx hlen ?_ hone (by unfold maxLen; omega) (by omega) hbase ?_
    · intro j u hu
      obtain ⟨b, off, e, -, hc⟩ := hl.at_ j u hu
      cases e
      rw [rws_add]
      exact hc
    · intro v' w' h1 h2 _
      exact h v' w' h1 h2
end Go.Proofs.YtecjngodfciokaaGreatDoor
end
section
namespace Go.Proofs.YtecjngodfciokaaGreatDoor
open Go.ChangeShapes Go.WideShapes Go.ChangeAt Go.RowKit
theorem drewN_below {B : Nat} {a w : World} (h : Below B a w) (n : Nat) : Below B a (w.drewN n) := ⟨h.os, h.tape, h.output, h.size, h.block⟩
theorem not_empty {s : ByteArray} (h : s.size ≠ 0) : s.toList.isEmpty = false := by
  rw [Go.ByteArray.toList_eq]
  cases hl : s.data.toList with
  | nil => exact absurd (by show s.data.size = 0; rw [← Array.length_toList, hl]; rfl) h
  | cons b l => rfl
theorem code_ne {n : Nat} (h : n ≠ 0) : ((n : Int) != 0) = true := by rw [bne_iff_ne]; omega
def Box (b : Nat) (x y : Value) (w : World) : Prop := w.cell? ⟨b, 0, none⟩ = some x ∧ w.cell? ⟨b, 1, none⟩ = some y ∧ ∀ j, w.frozen? ⟨b, j, none⟩ = false
theorem Box.new (x y : Value) (t : TypeId) (w : World) : Box w.heap.size x y (w.alloc (.cells #[x, y] t)) := ⟨cell_new _ _ _ _ _ rfl, cell_new _ _ _ _ _ rfl, fun _ => free_new _ _ _ _ _ rfl⟩
theorem Box.below {b B : Nat} {x y : Value} {w w' : World} (h : Box b x y w) (hb : Below B w w') (hB : b < B) : Box b x y w' :=
  ⟨(hb.cell (p := ⟨b, 0, none⟩) hB).trans h.1, (hb.cell (p := ⟨b, 1, none⟩) hB).trans h.2.1, fun j => (hb.frozen (p := ⟨b, j, none⟩) hB).trans (h.2.2 j)⟩
theorem code_eq {n : Nat} (h : n = 0) : ((n : Int) != 0) = false := by rw [h]; rfl
theorem octAwake2_any (w : World) : Calls Tryz.prog 116 #[] w fun x w' => x = .returned (.bool true) ∧ Below w.heap.size w w' := by
  go_enter Tryz.func116, Tryz.ntmps116
  go_wp2_with fail
  refine (octAwake_any _).mono ?_
  rintro x w1 ⟨rfl, b1⟩
  have B1 := Lib.hid b1
  clear b1
  go_wp2_with fail
  go_ret
  exact ⟨rfl, B1.out⟩
end Go.Proofs.YtecjngodfciokaaGreatDoor
end
section
namespace Go.Proofs.YtecjngodfciokaaGreatDoor
open Go.ChangeShapes Go.WideShapes Go.ChangeAt Go.RowKit
theorem mark_nat (b : UInt8) : Wrd.mark b = ((decide (97 ≤ b.toNat) && decide (b.toNat ≤ 122)) || (decide (48 ≤ b.toNat) && decide (b.toNat ≤ 57)) || decide (b.toNat = 45) || decide (b.toNat = 95)) := rfl
set_option maxHeartbeats 1000000 in
theorem mark_any (b : UInt8) (w : World) : Calls Tryz.prog 99 #[.int .u8 (b.toNat : Int)] w fun e w' => e = .returned (.bool (Wrd.mark b)) ∧ w = w' := by
  have hb := b.toNat_lt
  have HM := Lib.hid (mark_nat b)
  generalize Wrd.mark b = M at *
  generalize b.toNat = n at *
  go_enter Tryz.func99, Tryz.ntmps99
  go_wp2
  all_goals
    go_ret
    refine ⟨ret_bool ?_, rfl⟩
    rw [HM.out, Bool.eq_iff_iff]
    simp
    omega
set_option maxHeartbeats 1000000 in
theorem letter_any (b : UInt8) (w : World) : Calls Tryz.prog 65 #[.int .u8 (b.toNat : Int)] w fun e w' => e = .returned (.bool (Wrd.mark b)) ∧ w = w' := by
  have hb := b.toNat_lt
  have HM := Lib.hid (mark_nat b)
  generalize Wrd.mark b = M at *
  generalize b.toNat = n at *
  go_enter Tryz.func65, Tryz.ntmps65
  go_wp2
  all_goals
    go_ret
    refine ⟨ret_bool ?_, rfl⟩
    rw [HM.out, Bool.eq_iff_iff]
    simp
    omega
theorem all_take (l : List UInt8) (k : Nat) (h : k < l.length) : (l.take (k + 1)).all Wrd.mark = ((l.take k).all Wrd.mark && Wrd.mark l[k]) := by
  rw [List.take_succ_eq_append_getElem h, List.all_append]; simp
theorem all_not {l : List UInt8} {k : Nat} (h : k < l.length) (hm : Wrd.mark l[k] = false) : l.all Wrd.mark = false := by
  rw [List.all_eq_false]
  exact ⟨l[k], List.getElem_mem h, by rw [hm]; simp⟩
theorem str_ne {l : List UInt8} (h : l.length ≠ 0) : (ofL l).toList.isEmpty = false := not_empty (by rw [ofL_size]; exact h)
theorem ofL_nil {l : List UInt8} (h : l.length = 0) : ofL l = ⟨#[]⟩ := by rw [List.length_eq_zero_iff.1 h]; rfl
set_option maxHeartbeats 1000000 in
theorem plain_any (l : List UInt8) (w : World) (hl : l.length ≤ 100000) : Calls Tryz.prog 81 #[.string (ofL l)] w fun e w' => e = .returned (.bool (Wrd.plain l)) ∧ w = w' := by
  have hsz : (ofL l).size = l.length := ofL_size l
  have HG : Hid (∀ p (h : p < l.length), (ofL l)[p]'(by rw [hsz]; exact h) = l[p]) := fun p h => rfl
  have HA := Lib.hid (fun k h => all_take l k h)
  have HN := Lib.hid (fun k (h : k < l.length) => all_not (l := l) (k := k) h)
  have HP : Hid (Wrd.plain l = (l.all Wrd.mark && decide (l.length ≠ 0))) := rfl
  generalize Wrd.plain l = PL at *
  go_enter Tryz.func81, Tryz.ntmps81
  go_wp2_with fail
  go_loopg [6] l.length (fun g i wr => ∃ k : Nat, k + g = l.length ∧ i = .int .i64 k ∧ (l.take k).all Wrd.mark = true ∧ wr = w)
  case atStart => exact ⟨0, by omega, rfl, by simp, rfl⟩
  case round =>
    obtain ⟨k, hk, rfl, hall, rfl⟩ := hrel
    have HALL := Lib.hid hall
    clear hall
    by_cases hlt : k < l.length
    · have hks : k < (ofL l).size := by omega
      have HGK := Lib.hid (HG.out k hlt)
      have HM := Lib.hid (fun W => mark_any (ofL l)[k] W)
      cases hm : Wrd.mark (l[k]'hlt) with
      | true =>
        have HT := Lib.hid (show (l.take (k + 1)).all Wrd.mark = true by rw [HA.out k hlt, HALL.out, hm]; rfl)
        rw [← HGK.out] at hm
        rw [hm] at HM
        clear hm
        go_wp2_with fail
        refine (HM.out _).mono ?_
        rintro e w' ⟨rfl, rfl⟩
        go_wp2_with fail
        go_roundg (gk - 1)
        case rel => exact ⟨k + 1, by omega, by go_num, HT.out, rfl⟩
        case measure => omega
      | false =>
        have HF := Lib.hid (show PL = false by rw [HP.out, HN.out k hlt hm]; rfl)
        rw [← HGK.out] at hm
        rw [hm] at HM
        clear hm
        go_wp2_with fail
        refine (HM.out _).mono ?_
        rintro e w' ⟨rfl, rfl⟩
        go_wp2_with fail
        go_ret
        exact ⟨ret_bool HF.out.symm, rfl⟩
    · have hkl : k = l.length := by omega
      have HT := Lib.hid (show l.all Wrd.mark = true by have := HALL.out; rw [hkl, List.take_length] at this; exact this)
      by_cases h0 : l.length = 0
      · have HF := Lib.hid (show PL = false by rw [HP.out, HT.out, h0]; rfl)
        have he : (ofL l) = ⟨#[]⟩ := ofL_nil h0
        have hks : ¬ k < (ofL l).size := by omega
        rw [he] at hks ⊢
        clear hkl he h0
        go_wp2_with fail
        go_ret
        exact ⟨ret_bool HF.out.symm, rfl⟩
      · have HF := Lib.hid (show PL = true by rw [HP.out, HT.out]; simp [h0])
        have he := str_ne h0
        have hks : ¬ k < (ofL l).size := by omega
        clear hkl h0
        go_wp2_with fail
        go_ret
        exact ⟨ret_bool HF.out.symm, rfl⟩
end Go.Proofs.YtecjngodfciokaaGreatDoor
end
