/-
  RISE READ: what the law wants, plain and in memory.
-/
import Derived.Test.YtjkaljokkpabfaaGreatDoorRr42
import Derived.Test.YtjkaljokkpabfaaGreatDoorRr48

section
namespace Go.Proofs.YtjkaljokkpabfaaGreatDoor
open Go.ChangeShapes Go.WideShapes Go.ChangeAt Go.RowKit
namespace Rs
theorem lFail_ne (s : LSt) {c : Int} (hc : c ≠ 0) : (lFail s c).2 ≠ 0 := by
  unfold lFail
  split
  · rename_i h
    rcases h with h | h
    · exact absurd h hc
    · exact h
  · exact hc
theorem readA_fine {s : LSt} (h : lOk s) : RsFine (readA s).1 (readA s).2 := by
  unfold readA
  by_cases he : (readE s).2 ≠ 0
  · rw [if_pos he]; exact ⟨by simp, by simp, fun h => absurd h (Nat.lt_irrefl 0), by decide, fun x hx => by simp at hx⟩
  · rw [if_neg he]
    have hm : ¬ 16 < readN s ∧ readN s = min (readT s) 16 := by
      have hk := lOk_raw (lOk_raw h 8) 1
      by_cases h1 : 16 < readN s
      · exfalso
        apply he
        have e : readS s = lFail (lRaw (lRaw s 8) 1) 6 := by unfold readS mid; rw [if_pos h1]
        unfold readE
        rw [rds_err _ (by rw [e]; exact lOk_fail hk _) (by rw [e]; exact lFail_ne _ (by decide)), e]
        exact lFail_ne _ (by decide)
      · by_cases h2 : readN s = min (readT s) 16
        · exact ⟨h1, h2⟩
        · exfalso
          apply he
          have e : readS s = lFail (lRaw (lRaw s 8) 1) 7 := by unfold readS mid; rw [if_neg h1, if_pos h2]
          unfold readE
          rw [rds_err _ (by rw [e]; exact lOk_fail hk _) (by rw [e]; exact lFail_ne _ (by decide)), e]
          exact lFail_ne _ (by decide)
    have hn := rds_len (readN s) (readS s)
    exact ⟨by rw [hn]; omega, by rw [hn]; omega, fun h => by rw [hn]; have h' : 0 < readT s := h; omega, readT_lt s, rds_fits _ _⟩
theorem add_fine {T : Nat} {L : List Ml} {x : Ml} (h : RsFine T L) (hx : Ml.Fits x) : RsFine (addT T x) (addK T L x) := by
  refine ⟨addK_le h.le, ?_, ?_, addT_le h.big, ?_⟩
  · unfold addT addK
    split
    · exact h.lt
    · split
      · exact h.lt
      · have := h.lt; rw [List.length_append, List.length_drop]; simp; omega
  · unfold addT addK
    split
    · exact h.po
    · split
      · exact h.po
      · intro _; rw [List.length_append]; simp
  · unfold addK
    split
    · exact h.fi
    · split
      · exact h.fi
      · intro y hy
        rcases List.mem_append.1 hy with hy | hy
        · exact h.fi y (List.mem_of_mem_drop hy)
        · obtain rfl := List.mem_singleton.1 hy; exact hx
end Rs
theorem drewB20 (w : World) (n : Nat) : Below w.heap.size w (w.drewN n) := ⟨rfl, rfl, rfl, Nat.le_refl _, fun _ _ => rfl⟩
theorem ierr_b (b : Nat) (s : LSt) (w : World) (h : InL b s w) : Calls Tryz.prog 9 #[.pointer (some ⟨b, 0, none⟩)] w fun x w' => x = .returned (.int .i64 s.2) ∧ Below w.heap.size w w' :=
  (ierr_l b s w h).mono fun _ _ ⟨h1, h2⟩ => ⟨h1, by rw [← h2]; exact Below.refl _ _⟩
theorem ileft_b (b : Nat) (s : LSt) (w : World) (h : InL b s w) : Calls Tryz.prog 10 #[.pointer (some ⟨b, 0, none⟩)] w fun x w' => x = .returned (.int .i64 (s.1.length : Int)) ∧ Below w.heap.size w w' :=
  (ileft_l b s w h).mono fun _ _ ⟨h1, h2⟩ => ⟨h1, by rw [← h2]; exact Below.refl _ _⟩
theorem rileft_b (b : Nat) (S : ByteArray) (s : LSt) (w : World) (h : RefL b S s w) (hS : S.size ≤ 1000000) : Calls Tryz.prog 11 #[.pointer (some ⟨b, 0, none⟩)] w fun x w' => x = .returned (.int .i64 (s.1.length : Int)) ∧ Below w.heap.size w w' :=
  (rileft_l b S s w h hS).mono fun _ _ ⟨h1, n, h2⟩ => ⟨h1, by rw [h2]; exact drewB20 _ _⟩
theorem MaX.gr {w W W' : World} {x : Ml} {A : Option Addr} {c q b : Nat} (h : MaX w x A c q W) (hr : Prs w A x.head) (hg : W.grownBy W' (some b)) (h1 : q < b) (h2 : w.heap.size ≤ b) : MaX w x A c q W' := by
  have B := below_in h.B hg h.B.size h2
  exact ⟨h.p.keptR hg (fun e => by have := Option.some.inj e; omega), hr.on B, B⟩
theorem MaOk.gr {w w' : World} {x : Ml} {A : Option Addr} {c b : Nat} (h : MaOk w x A c) (hg : w.grownBy w' (some b)) (hb : x.head ≠ [] → ∀ a, A = some a → b < a.block) : MaOk w' x A c := by
  obtain ⟨h1, h2, h3, h4, h5, h6, h7⟩ := h
  refine ⟨h1, h2, h3, h4, h5, h6, ?_⟩
  by_cases e : x.head = []
  · rw [e]; exact Prs.nil _ _
  · exact h7.grown hg (fun a ha e2 => by have := hb e a ha; have := Option.some.inj e2; omega)
theorem Mas.gr {w w' : World} {A : Option Addr} {l : List Mp} {b : Nat} (h : Mas w A l) (hg : w.grownBy w' (some b)) (hA : ∀ a, A = some a → b < a.block) (hh : ∀ q ∈ l, q.x.head ≠ [] → ∀ a, q.A = some a → b < a.block) : Mas w' A l :=
  ⟨h.row.keptR hg (fun a ha e => by have := hA a ha; have := Option.some.inj e; omega), fun q hq => (h.hd q hq).gr hg (hh q hq)⟩
end Go.Proofs.YtjkaljokkpabfaaGreatDoor
end
