/-
  ONE TAKEN AWAY: walked.
-/
import Derived.Test.YtabnkbdbbneihaaGreatDoorLg38

section
namespace Go.Proofs.YtabnkbdbbneihaaGreatDoor
open Go.ChangeShapes Go.WideShapes Go.ChangeAt Go.RowKit
theorem putAll_eq (q : Nat) : ∀ (vs : List Value) (j : Nat) (W : World), putAll q j vs W = W.setCells q j vs
  | [], _, _ => rfl
  | v :: vs, j, W => putAll_eq q vs (j + 1) (W.setCell ⟨q, j, none⟩ v)
theorem its_drop : ∀ (m : List ItP) (i : Nat), (its m).drop (i * 9) = its (m.drop i)
  | m, 0 => by simp
  | [], i + 1 => by simp [its]
  | p :: m, i + 1 => by
    show (itL p.x p.A p.c ++ its m).drop ((i + 1) * 9) = _
    rw [show (i + 1) * 9 = (itL p.x p.A p.c).length + i * 9 by show (i + 1) * 9 = 9 + i * 9; omega, List.drop_append, List.drop_of_length_le (Nat.le_add_right _ _), List.nil_append, Nat.add_sub_cancel_left, its_drop m i]
    rfl
theorem setAll_split (vs : List Value) : ∀ (xs : List Value) (j : Nat), j + vs.length ≤ xs.length → setAll xs j vs = xs.take j ++ vs ++ xs.drop (j + vs.length)
  | xs, 0, h => by rw [setAll_zero _ _ (by omega)]; simp
  | x :: xs, j + 1, h => by
    rw [setAll_cons, setAll_split vs xs j (by simp at h; omega), show j + 1 + vs.length = (j + vs.length) + 1 by omega]
    rfl
  | [], j + 1, h => by simp at h
theorem its_take (m : List ItP) (i : Nat) : (its m).take (i * 9) = its (m.take i) := by
  have h1 : its m = its (m.take i) ++ its (m.drop i) := by rw [← its_app, List.take_append_drop]
  by_cases h : i ≤ m.length
  · rw [h1, List.take_left' (by rw [its_len, List.length_take, Nat.min_eq_left h])]
  · rw [List.take_of_length_le (by rw [its_len]; omega), List.take_of_length_le (by omega)]
/-- moved down by one, and the last one emptied -/
theorem del_cells {m : List ItP} {k N : Nat} (hk : k ≤ N) (hN : m.length = N + 1) (z : List Value) (hz : z.length = 9) : setAll (setAll (its m) (k * 9) (its (m.drop (k + 1)))) (N * 9) z = its (m.eraseIdx k) ++ z := by
  have hl := its_len m
  have hd : (its (m.drop (k + 1))).length = (N - k) * 9 := by rw [its_len, List.length_drop, hN]; omega
  have he : (m.eraseIdx k).length = N := by rw [List.length_eraseIdx, if_pos (by omega)]; omega
  have h1 : setAll (its m) (k * 9) (its (m.drop (k + 1))) = its (m.eraseIdx k) ++ (its m).drop (N * 9) := by
    rw [setAll_split _ _ _ (by rw [hd, hl]; omega), hd, its_take, List.eraseIdx_eq_take_drop_succ, its_app, show k * 9 + (N - k) * 9 = N * 9 by omega]
  rw [h1, setAll_split _ _ _ (by rw [List.length_append, its_len, he, List.length_drop, hl]; omega)]
  have e1 : (its (m.eraseIdx k) ++ (its m).drop (N * 9)).take (N * 9) = its (m.eraseIdx k) := List.take_left' (by rw [its_len, he])
  rw [e1, List.drop_of_length_le (by rw [List.length_append, its_len, he, List.length_drop, hl]; omega), List.append_nil]
theorem del_append {w0 W : World} {m : List ItP} {R k N c o : Nat} (h : BoxC w0 R (its m) W) (hN : m.length = N + 1) (hk : k ≤ N) (hc : N + 1 ≤ c) (ho : o = (k + 1) * 9 ∨ N = k) :
    (Builtin.append_ #[25, 25] 25 #[.slice (some ⟨R, 0, none⟩) k c, .slice (some ⟨R, o, none⟩) (N - k) (c - (k + 1))]).run Tryz.prog W = .ok (.slice (some ⟨R, 0, none⟩) N c) (W.setCells R (k * 9) (its (m.drop (k + 1)))) := by
  obtain ⟨i1, hi1, hz0, hz1, hz2⟩ := info_parts infoIt
  have hl := its_len m
  have hd : (its (m.drop (k + 1))).length = (N - k) * 9 := by rw [its_len, List.length_drop, hN]; omega
  have hr := run_append_room_cells (P := Tryz.prog) W 25 25 41 i1 Tryz.underlying25 hi1 R 0 k c ⟨R, o, none⟩ (N - k) (c - (k + 1)) (its (m.drop (k + 1))) (by rw [hd, hz1]) (fun j u hj => by
    rcases ho with rfl | rfl
    · rw [addr_at1]
      refine h.cs _ _ ?_
      rw [← its_drop, List.getElem?_drop] at hj
      exact hj
    · rw [List.drop_of_length_le (by omega)] at hj
      simp [its] at hj) (its_one _) (by omega) (fun j hj => by
    rw [hz1, Nat.zero_add, h.cs (k * 9 + j) _ (List.getElem?_eq_getElem (by rw [hl]; omega))]; rfl) (fun j hj => h.s _)
  rw [hz1, Nat.zero_add, show k + (N - k) = N by omega] at hr
  exact hr
theorem clear_one {w0 W : World} {xs : List Value} {R o cc : Nat} (h : BoxC w0 R xs W) (ho : o + 9 ≤ xs.length) (ty : TypeId) : (Builtin.clear_ #[25] ty #[.slice (some ⟨R, o, none⟩) 1 cc]).run Tryz.prog W = .ok (.tuple #[]) (W.setCells R o [.int .u64 0, .string ⟨#[]⟩, .string ⟨#[]⟩, .slice none 0 0, .string ⟨#[]⟩, .int .u64 0, .int .u8 0, .bool false, .bool false]) := by
  have hst := run_storeCells_cells (P := Tryz.prog) R o [.int .u64 0, .string ⟨#[]⟩, .string ⟨#[]⟩, .slice none 0 0, .string ⟨#[]⟩, .int .u64 0, .int .u8 0, .bool false, .bool false] 0 W (by
    intro j hj
    have hj' : j < 9 := hj
    rw [Nat.add_zero, h.cs (o + j) _ (List.getElem?_eq_getElem (by omega))]; rfl) (by intro j hj; exact h.s _) (by intro v hv; simp only [List.mem_cons, List.not_mem_nil, or_false] at hv; rcases hv with rfl | rfl | rfl | rfl | rfl | rfl | rfl | rfl | rfl <;> rfl)
  simp only [Nat.add_zero] at hst
  have hzv := Tryz.zeroValue41
  have hzc : (Builtin.zeroCells (Value.agg #[.int .u64 0, .string ⟨#[]⟩, .string ⟨#[]⟩, .slice none 0 0, .string ⟨#[]⟩, .int .u64 0, .int .u8 0, .bool false, .bool false]).cells 1).toList = [.int .u64 0, .string ⟨#[]⟩, .string ⟨#[]⟩, .slice none 0 0, .string ⟨#[]⟩, .int .u64 0, .int .u8 0, .bool false, .bool false] := by
    simp only [Value.cells]
    simp [Builtin.zeroCells]
    rfl
  simp [Builtin.clear_, run_underlying Tryz.underlying25, hzv, hzc, hst]
set_option maxRecDepth 100000 in
set_option maxHeartbeats 4000000 in
theorem deleteIt_any {w0 : World} {m : List ItP} {k N R c : Nat} (w : World) (h : BoxC w0 R (its m) w) (hN : m.length = N + 1) (hk : k ≤ N) (hc : N + 1 ≤ c) :
    Calls Tryz.prog 96 #[.slice (some ⟨R, 0, none⟩) (N + 1) c, .int .i64 (k : Int), .int .i64 ((k + 1 : Nat) : Int)] w fun e w' => e = .returned (.slice (some ⟨R, 0, none⟩) N c) ∧ w' = (w.drew.setCells R (k * 9) (its (m.drop (k + 1)))).setCells R (N * 9) [.int .u64 0, .string ⟨#[]⟩, .string ⟨#[]⟩, .slice none 0 0, .string ⟨#[]⟩, .int .u64 0, .int .u8 0, .bool false, .bool false] := by
  obtain ⟨K1, hK1⟩ : ∃ K1, K1 = k + 1 := ⟨_, rfl⟩
  obtain ⟨n, hn⟩ : ∃ n, n = N + 1 := ⟨_, rfl⟩
  rw [← hK1, ← hn]
  have hk1 : ((k : Int) == (K1 : Int)) = false := by simp; omega
  have h1 : k ≤ c := by omega
  have h2 : K1 ≤ c := by omega
  have h3 : N ≤ c := by omega
  have h4 : K1 ≤ n := by omega
  have h5 : k ≤ n := by omega
  have h6 : N ≤ n := by omega
  have h7 : n ≤ c := by omega
  have h8 : ¬ c = N := by omega
  have h9 : k ≤ K1 := by omega
  have h10 : ¬ n = N := by omega
  have h11 : ¬ n = k := by omega
  have hcl : ∀ ty, (Builtin.clear_ #[25] ty #[.slice (some ⟨R, N * 9, none⟩) (n - N) (c - N)]).run Tryz.prog (w.drew.setCells R (k * 9) (its (m.drop K1))) = .ok (.tuple #[]) ((w.drew.setCells R (k * 9) (its (m.drop K1))).setCells R (N * 9) [.int .u64 0, .string ⟨#[]⟩, .string ⟨#[]⟩, .slice none 0 0, .string ⟨#[]⟩, .int .u64 0, .int .u8 0, .bool false, .bool false]) := fun ty => by
    rw [show n - N = 1 by omega]
    refine clear_one (W := w.drew.setCells R (k * 9) (its (m.drop K1))) (w0 := w0) (R := R) (o := N * 9) (cc := c - N) (xs := setAll (its m) (k * 9) (its (m.drop K1))) ?_ ?_ ty
    · rw [← putAll_eq]
      exact BoxC.putSome _ _ (h.on (Below.refl _ _).drew) (by rw [its_len, its_len, List.length_drop, hN]; omega)
    · rw [setAll_split _ _ _ (by rw [its_len, its_len, List.length_drop, hN]; omega)]
      simp only [List.length_append, List.length_take, List.length_drop, its_len, hN]
      omega
  by_cases hck : c = K1
  · have HAP := Lib.hid (del_append (W := w.drew) (o := 0) (h.on (Below.refl _ _).drew) hN hk hc (.inr (by omega)))
    rw [← hK1, show N - k = n - K1 by omega] at HAP
    subst hck
    rw [Nat.sub_self, show n - c = 0 by omega] at HAP
    generalize w.drew.setCells R (k * 9) (its (m.drop c)) = w2 at *
    clear hn hN hk hc h hK1
    go_enter Tryz.func96, Tryz.ntmps96
    go_wp2_with fail
    go_region_law (first
      | (refine step_append_run (by rfl) _ _ 25 (by rfl) _ _ (by rfl) (by rfl) HAP.out ?_))
    go_wp2_with fail
    go_ret
    exact ⟨rfl, rfl⟩
  · have HAP := Lib.hid (del_append (W := w.drew) (o := K1 * 9) (h.on (Below.refl _ _).drew) hN hk hc (.inl (by rw [hK1])))
    rw [← hK1, show N - k = n - K1 by omega] at HAP
    generalize w.drew.setCells R (k * 9) (its (m.drop K1)) = w2 at *
    clear hK1 hn hN hk hc h
    go_enter Tryz.func96, Tryz.ntmps96
    go_wp2_with fail
    go_region_law (first
      | (refine step_append_run (by rfl) _ _ 25 (by rfl) _ _ (by rfl) (by rfl) HAP.out ?_))
    go_wp2_with fail
    go_ret
    exact ⟨rfl, rfl⟩
end Go.Proofs.YtabnkbdbbneihaaGreatDoor
end
