/-
  PLAIN: what may be, of replies, as the document says it. WHAT A REPLY's KIND TELLS, as the document has it: walked.
-/
import Derived.Test.YtnamkglflhkckaaDoorRr16
import Derived.Test.YtnamkglflhkckaaDoorRr19
import Derived.Deep.DeepCutAuto
section
namespace Go.Proofs.YtnamkglflhkckaaDoor.Re
/-- is something there that may not be, whatever the kind? -/
def wrong1 (x : Re) : Prop := x.id ≠ 0 ∨ x.due ≠ 0 ∨ x.hops ≠ 0 ∨ (x.n ≠ 0 ∧ tellsN x.kd.toNat = false) ∨ (x.m ≠ 0 ∧ tellsM x.kd.toNat = false) ∨ (x.name ≠ [] ∧ x.kd.toNat ≠ 0)
def wrong2 (x : Re) : Prop := x.yes = true ∨ x.shop ≠ [] ∨ x.key ≠ [] ∨ 0 < x.head.length ∨ x.body ≠ []
theorem more_eq (x : Re) (h : x.kd.toNat ≤ 7) : x.more = true ↔ wrong1 x ∨ (x.kd.toNat ≠ 3 ∧ wrong2 x) := by
  obtain ⟨c, k, n, m, yes, name, id, shop, key, head, body, due, hops⟩ := x
  unfold more wrong1 wrong2
  rw [show List.range 9 = [0, 1, 2, 3, 4, 5, 6, 7, 8] from rfl]
  simp only at h
  rcases le7 h with e | e | e | e | e | e | e | e <;> simp only [e] <;> simp [tells, lacks, tellsN, tellsM, List.length_pos_iff] <;> grind
theorem code_kind {x : Re} (h : 7 < x.kd.toNat) : x.code = 8 := by unfold code; rw [if_pos h]
theorem code_wrong1 {x : Re} (h : ¬ 7 < x.kd.toNat) (hw : wrong1 x) : x.code = 4 := by
  unfold code
  rw [if_neg h, if_pos ((more_eq x (by omega)).2 (Or.inl hw))]
theorem code_wrong2 {x : Re} (h : ¬ 7 < x.kd.toNat) (h3 : x.kd.toNat ≠ 3) (hw : wrong2 x) : x.code = 4 := by
  unfold code
  rw [if_neg h, if_pos ((more_eq x (by omega)).2 (Or.inr ⟨h3, hw⟩))]
theorem code_right {x : Re} (h : ¬ 7 < x.kd.toNat) (h1 : ¬ wrong1 x) (h2 : x.kd.toNat ≠ 3 → ¬ wrong2 x) : x.code = firstc x.pcode (tells x.kd.toNat) := by
  unfold code
  have hm : x.more = false := by
    cases hm : x.more with
    | false => rfl
    | true =>
      rcases (more_eq x (by omega)).1 hm with h | ⟨h3, h⟩
      · exact absurd h h1
      · exact absurd h (h2 h3)
  rw [if_neg h, hm]
  rfl
theorem code_name {x : Re} (h1 : ¬ wrong1 x) (h2 : ¬ wrong2 x) (h0 : x.kd.toNat = 0) : x.code = Wrd.nameCode x.name := by
  rw [code_right (by omega) h1 (fun _ => h2), h0]
  show firstc x.pcode [3] = _
  unfold firstc
  show (if Wrd.nameCode x.name ≠ 0 then Wrd.nameCode x.name else 0) = _
  split <;> omega
theorem firstc_nums {x : Re} {l : List Nat} (h : ∀ p ∈ l, p < 3) : firstc x.pcode l = 0 := by
  induction l with
  | nil => rfl
  | cons p l ih =>
    have hp := h p (by simp)
    have h0 : x.pcode p = 0 := by unfold pcode; repeat' (first | rw [if_neg (by omega)])
    rw [firstc, if_neg (by omega)]
    exact ih fun q hq => h q (by simp [hq])
theorem code_none {x : Re} (h : ¬ 7 < x.kd.toNat) (h1 : ¬ wrong1 x) (h2 : ¬ wrong2 x) (h0 : x.kd.toNat ≠ 0) (h3 : x.kd.toNat ≠ 3) : x.code = 0 := by
  rw [code_right h h1 (fun _ => h2)]
  refine firstc_nums fun p hp => ?_
  rcases le7 (k := x.kd.toNat) (by omega) with e | e | e | e | e | e | e | e <;> rw [e] at hp <;> simp [tells] at hp <;> omega
theorem code_sent {x : Re} (h1 : ¬ wrong1 x) (h3 : x.kd.toNat = 3) : x.code = if Wrd.nameCode x.shop ≠ 0 then Wrd.nameCode x.shop else if Wrd.keyCode [] x.key ≠ 0 then Wrd.keyCode [] x.key else if Hd.hcode x.head ≠ 0 then Hd.hcode x.head else if 256 < x.body.length then 5 else 0 := by
  rw [code_right (by omega) h1 (fun h => absurd h3 h), h3]
  show firstc x.pcode [0, 1, 2, 4, 5, 6, 7] = _
  have p0 : x.pcode 0 = 0 := rfl
  have p1 : x.pcode 1 = 0 := rfl
  have p2 : x.pcode 2 = 0 := rfl
  have p4 : x.pcode 4 = Wrd.nameCode x.shop := rfl
  have p5 : x.pcode 5 = Wrd.keyCode [] x.key := rfl
  have p6 : x.pcode 6 = Hd.hcode x.head := rfl
  have p7 : x.pcode 7 = if 256 < x.body.length then 5 else 0 := rfl
  simp only [firstc, p0, p1, p2, p4, p5, p6, p7]
  simp only [ne_eq, not_true_eq_false, if_false]
  repeat' (first | rfl | split)
  all_goals omega
end Go.Proofs.YtnamkglflhkckaaDoor.Re
end
section
namespace Go.Proofs.YtnamkglflhkckaaDoor
open Go.ChangeShapes Go.WideShapes Go.ChangeAt Go.RowKit
theorem tellsN_any (n : Nat) (w : World) : Calls Tryd.prog 38 #[.int .u8 (n : Int)] w fun e w' => e = .returned (.bool (Re.tellsN n)) ∧ w = w' := by
  by_cases e2 : n = 2
  · subst e2
    go_enter Tryd.func38, Tryd.ntmps38
    go_wp2_with fail
    go_ret
    exact ⟨rfl, rfl⟩
  · have z2 : ((n : Int) == 2) = false := beq_eq_false_iff_ne.2 (by omega)
    by_cases e3 : n = 3
    · subst e3
      clear z2
      go_enter Tryd.func38, Tryd.ntmps38
      go_wp2_with fail
      go_ret
      exact ⟨rfl, rfl⟩
    · have z3 : ((n : Int) == 3) = false := beq_eq_false_iff_ne.2 (by omega)
      by_cases e5 : n = 5
      · subst e5
        clear z2
        clear z3
        go_enter Tryd.func38, Tryd.ntmps38
        go_wp2_with fail
        go_ret
        exact ⟨rfl, rfl⟩
      · have z5 : ((n : Int) == 5) = false := beq_eq_false_iff_ne.2 (by omega)
        by_cases e6 : n = 6
        · subst e6
          clear z2
          clear z3
          clear z5
          go_enter Tryd.func38, Tryd.ntmps38
          go_wp2_with fail
          go_ret
          exact ⟨rfl, rfl⟩
        · have z6 : ((n : Int) == 6) = false := beq_eq_false_iff_ne.2 (by omega)
          by_cases e7 : n = 7
          · subst e7
            clear z2
            clear z3
            clear z5
            clear z6
            go_enter Tryd.func38, Tryd.ntmps38
            go_wp2_with fail
            go_ret
            exact ⟨rfl, rfl⟩
          · have z7 : ((n : Int) == 7) = false := beq_eq_false_iff_ne.2 (by omega)
            have hf : Re.tellsN n = false := by unfold Re.tellsN; simp; omega
            rw [hf]
            clear hf e2 e3 e5 e6 e7
            go_enter Tryd.func38, Tryd.ntmps38
            go_wp2_with fail
            go_ret
            exact ⟨rfl, rfl⟩
theorem tellsM_any (n : Nat) (w : World) : Calls Tryd.prog 40 #[.int .u8 (n : Int)] w fun e w' => e = .returned (.bool (Re.tellsM n)) ∧ w = w' := by
  by_cases e3 : n = 3
  · subst e3
    go_enter Tryd.func40, Tryd.ntmps40
    go_wp2_with fail
    go_ret
    exact ⟨rfl, rfl⟩
  · have z3 : ((n : Int) == 3) = false := beq_eq_false_iff_ne.2 (by omega)
    by_cases e6 : n = 6
    · subst e6
      clear z3
      go_enter Tryd.func40, Tryd.ntmps40
      go_wp2_with fail
      go_ret
      exact ⟨rfl, rfl⟩
    · have z6 : ((n : Int) == 6) = false := beq_eq_false_iff_ne.2 (by omega)
      have hf : Re.tellsM n = false := by unfold Re.tellsM; simp; omega
      rw [hf]
      clear hf e3 e6
      go_enter Tryd.func40, Tryd.ntmps40
      go_wp2_with fail
      go_ret
      exact ⟨rfl, rfl⟩
end Go.Proofs.YtnamkglflhkckaaDoor
end
