/-
  NOTES' CALLS: one more, how many, one of a number, all of them: walked.
-/
import Derived.Test.YtabnkbdbbneihaaNtB
import Derived.Deep.RegionHeld3
import Derived.Deep.DeepCutAuto
namespace Go.Proofs.Ytabnkbdbbneihaa
open Go.ChangeShapes Go.WideShapes Go.ChangeAt Go.RowKit

theorem ntTotal_any (T n c : Nat) (A : Option Addr) (w : World) : Calls Try.prog 26 #[.agg #[.int .u64 (T : Int), .slice A n c]] w fun e w' => e = .returned (.int .u64 (T : Int)) ∧ Below w.heap.size w w' := by
  go_enter Try.func26, Try.ntmps26
  go_wp2_with fail
  go_ret
  exact ⟨rfl, (Below.refl _ _).alloc (Nat.le_refl _) _⟩
def NtAllPost (l : List Nt) (w : World) (e : Ending) (w' : World) : Prop := ∃ A c, e = .returned (.slice A l.length c) ∧ l.length ≤ c ∧ (A = none → c = 0) ∧ Nts w' A l ∧ (∀ a, A = some a → w.heap.size ≤ a.block) ∧ Below w.heap.size w w'
theorem ntAll_any (T c : Nat) (A : Option Addr) (l : List Nt) (w : World) (hl : l.length ≤ 100000) (h : Nts w A l) : Calls Try.prog 25 #[.agg #[.int .u64 (T : Int), .slice A l.length c]] w (NtAllPost l w) := by
  have HB0 := Lib.hid (alloc1B w (.cells #[.int .u64 (T : Int), .slice A l.length c] 27))
  have HC := Lib.hid (cloneNt_any l.length (ncs l) A c (w.alloc (.cells #[.int .u64 (T : Int), .slice A l.length c] 27)) hl (Nts.on h HB0.out) (ncs_len l) (ncs_one l))
  clear h
  go_enter Try.func25, Try.ntmps25
  go_wp2_with fail
  refine HC.out.mono ?_
  rintro e w1 ⟨A', c', rfl, ho, b1⟩
  have hsz : w.heap.size ≤ (w.alloc (.cells #[.int .u64 (T : Int), .slice A l.length c] 27)).heap.size := by simp
  have HX := Lib.hid (show NtAllPost l w (.returned (.slice A' l.length c')) w1 from by
    obtain ⟨A2, c2, e2, hc, hn, hr, hb⟩ := Rws.of_own ho
    obtain ⟨rfl, -, rfl⟩ := Value.slice.inj e2
    exact ⟨A', c', rfl, hc, hn, hr, fun a ha => Nat.le_trans hsz (hb a ha).1, HB0.out.trans (b1.mono hsz)⟩)
  clear ho b1
  go_wp2_with fail
  go_ret
  exact HX.out
set_option maxRecDepth 100000 in
set_option maxHeartbeats 2000000 in
theorem ntGet_any (T c : Nat) (A : Option Addr) (l : List Nt) (k : Nat) (w : World) (hl : l.length ≤ 100000) (hlT : l.length ≤ T) (hT : T < 18446744073709551616) (_hk : k < 18446744073709551616) (h : Nts w A l) :
    Calls Try.prog 14 #[.agg #[.int .u64 (T : Int), .slice A l.length c], .int .u64 (k : Int)] w fun e w' => e = .returned (.tuple #[ntV (if Nt.has T l.length k then l.getD (k - (T - l.length) - 1) Nt.zero else Nt.zero), .bool (Nt.has T l.length k)]) ∧ Below w.heap.size w w' := by
  have H := Lib.hid h
  clear h
  by_cases h1 : k ≤ T - l.length
  · have hh : Nt.has T l.length k = false := by unfold Nt.has; simp; omega
    rw [hh]
    go_enter Try.func14, Try.ntmps14
    go_wp2_with fail
    refine bodyPost_ret (v := .tuple #[.agg #[.int .u64 0, .int .u8 0, .string ⟨#[]⟩], .bool false]) (by simp [results, Try.results14, go_sem]) rfl ?_
    exact ⟨rfl, ((Below.refl _ _).alloc (Nat.le_refl _) _).alloc (by simp) _⟩
  · by_cases h2 : T < k
    · have hh : Nt.has T l.length k = false := by unfold Nt.has; simp; omega
      rw [hh]
      go_enter Try.func14, Try.ntmps14
      go_wp2_with fail
      refine bodyPost_ret (v := .tuple #[.agg #[.int .u64 0, .int .u8 0, .string ⟨#[]⟩], .bool false]) (by simp [results, Try.results14, go_sem]) rfl ?_
      exact ⟨rfl, ((Below.refl _ _).alloc (Nat.le_refl _) _).alloc (by simp) _⟩
    · have hh : Nt.has T l.length k = true := by unfold Nt.has; simp; omega
      rw [hh]
      obtain ⟨i, hi, hik⟩ : ∃ i, i < l.length ∧ (k : Int) - ((T : Int) - (l.length : Int)) - 1 = (i : Int) := ⟨k - (T - l.length) - 1, by omega, by omega⟩
      have hi2 : k - (T - l.length) - 1 = i := by omega
      rw [hi2, if_pos rfl]
      obtain ⟨b, off, rfl, hb, e0, e1, e2⟩ := (H.out.on (Below.trans (alloc1B w (.cells #[.int .u64 (T : Int), .slice A l.length c] 27)) ((alloc1B _ (.cells #[.int .u64 0, .int .u8 0, .string ⟨#[]⟩] 32)).mono (by simp)))).get hi
      simp only [ntV]
      generalize l.getD i Nt.zero = x at *
      go_enter Try.func14, Try.ntmps14
      go_wp2_with fail
      refine bodyPost_ret (v := .tuple #[.agg #[.int .u64 (x.t : Int), .int .u8 (x.k : Int), .string (ofL x.b)], .bool true]) (by simp [results, Try.results14, go_sem]) rfl ?_
      exact ⟨rfl, ((Below.refl _ _).alloc (Nat.le_refl _) _).alloc (by simp) _⟩
def NtAddPost (A : Option Addr) (T : Nat) (l : List Nt) (x : Nt) (w : World) (e : Ending) (w' : World) : Prop := ∃ A' c', e = .returned (.tuple #[.agg #[.int .u64 (Nt.addT T x : Int), .slice A' (Nt.addK T l x).length c'], .int .i64 (Nt.addC T x : Int)]) ∧ (Nt.addK T l x).length ≤ c' ∧ (A' = none → c' = 0) ∧ Nts w' A' (Nt.addK T l x) ∧ (∀ a, A' = some a → A = some a ∨ w.heap.size ≤ a.block ∧ a.block < w'.heap.size) ∧ Below w.heap.size w w'
set_option maxRecDepth 100000 in
set_option maxHeartbeats 2000000 in
theorem ntAdd_any (T c : Nat) (A : Option Addr) (l : List Nt) (x : Nt) (w : World) (hl : l.length ≤ 32) (hc : l.length ≤ c) (hn : A = none → c = 0) (hT : T < 18446744073709551616) (hx : x.b.length ≤ 9223372036854775807) (h : Nts w A l) :
    Calls Try.prog 9 #[.agg #[.int .u64 (T : Int), .slice A l.length c], .agg #[.int .u64 (x.t : Int), .int .u8 (x.k : Int), .string (ofL x.b)]] w (NtAddPost A T l x w) := by
  have hz : (ofL x.b).size = x.b.length := ofL_size x.b
  have H := Lib.hid h
  have HN := Lib.hid hn
  clear h hn
  unfold NtAddPost Nt.addT Nt.addK Nt.addC
  by_cases h1 : 64 < x.b.length
  · simp only [if_pos h1]
    go_enter Try.func9, Try.ntmps9
    go_wp2_with fail
    refine bodyPost_ret (v := .tuple #[.agg #[.int .u64 (T : Int), .slice A l.length c], .int .i64 5]) (by simp [results, Try.results9, go_sem]) rfl ?_
    have hb : Below w.heap.size w (((w.alloc (.cells #[.int .u64 (T : Int), .slice A l.length c] 27)).alloc (.cells #[.int .u64 (x.t : Int), .int .u8 (x.k : Int), .string (ofL x.b)] 32)).alloc (.cells #[.int .u64 (T : Int), .slice A l.length c] 27)) := ((((Below.refl _ _).alloc (Nat.le_refl _) _).alloc (by simp) _).alloc (by simp; omega) _)
    exact ⟨A, c, rfl, hc, HN.out, H.out.on hb, fun a h => .inl h, hb⟩
  · simp only [if_neg h1]
    by_cases h2 : T = 18446744073709551615
    · simp only [if_pos h2]
      subst h2
      go_enter Try.func9, Try.ntmps9
      go_wp2_with fail
      refine bodyPost_ret (v := .tuple #[.agg #[.int .u64 18446744073709551615, .slice A l.length c], .int .i64 18]) (by simp [results, Try.results9, go_sem]) rfl ?_
      have hb : Below w.heap.size w (((w.alloc (.cells #[.int .u64 18446744073709551615, .slice A l.length c] 27)).alloc (.cells #[.int .u64 (x.t : Int), .int .u8 (x.k : Int), .string (ofL x.b)] 32)).alloc (.cells #[.int .u64 18446744073709551615, .slice A l.length c] 27)) := ((((Below.refl _ _).alloc (Nat.le_refl _) _).alloc (by simp) _).alloc (by simp; omega) _)
      exact ⟨A, c, rfl, hc, HN.out, H.out.on hb, fun a h => .inl h, hb⟩
    · simp only [if_neg h2]
      obtain ⟨G, hG, hGl⟩ : ∃ G : Nat, max 0 ((l.length : Int) + 1 - 32) = (G : Int) ∧ G = l.length + 1 - 32 := ⟨l.length + 1 - 32, by omega, rfl⟩
      have hT2 : T < 18446744073709551615 := by omega
      have hwr : IntKind.u64.wrap ((T : Int) + 1) = (T : Int) + 1 := by simp [IntKind.wrap, IntKind.signed, IntKind.bits]; omega
      rw [show l.length + 1 - 32 = l.length - 31 by omega]
      have HRW := Lib.hid (rws_slice (G := l.length - 31) (by omega) hc HN.out (ncs_len l) H.out)
      rw [ncs_drop] at HRW
      have HS0 := Lib.hid (show (fun a => a.cell? ⟨w.heap.size, 0, none⟩ = some (.int .u64 (T : Int)) ∧ a.cell? ⟨w.heap.size, 1, none⟩ = some (.slice A l.length c) ∧ a.cell? ⟨w.heap.size + 1, 0, none⟩ = some (.int .u64 (x.t : Int)) ∧ a.cell? ⟨w.heap.size + 1, 1, none⟩ = some (.int .u8 (x.k : Int)) ∧ a.cell? ⟨w.heap.size + 1, 2, none⟩ = some (.string (ofL x.b)) ∧ Below w.heap.size w a ∧ w.heap.size + 3 ≤ a.heap.size) (((w.alloc (.cells #[.int .u64 (T : Int), .slice A l.length c] 27)).alloc (.cells #[.int .u64 (x.t : Int), .int .u8 (x.k : Int), .string (ofL x.b)] 32)).alloc (.cells #[.int .u64 0, .slice none 0 0] 27)).drew from by
        refine ⟨?_, ?_, ?_, ?_, ?_, ?_, ?_⟩
        · go_simp
        · go_simp
        · go_simp
        · go_simp
        · go_simp
        · exact (((Below.refl _ _).alloc (Nat.le_refl _) _).alloc (by simp) _).alloc (by simp; omega) _ |>.drew
        · simp)
      have HCA := Lib.hid (fun (W W' : World) (h : (fun a => a.cell? ⟨w.heap.size, 0, none⟩ = some (.int .u64 (T : Int)) ∧ a.cell? ⟨w.heap.size, 1, none⟩ = some (.slice A l.length c) ∧ a.cell? ⟨w.heap.size + 1, 0, none⟩ = some (.int .u64 (x.t : Int)) ∧ a.cell? ⟨w.heap.size + 1, 1, none⟩ = some (.int .u8 (x.k : Int)) ∧ a.cell? ⟨w.heap.size + 1, 2, none⟩ = some (.string (ofL x.b)) ∧ Below w.heap.size w a ∧ w.heap.size + 3 ≤ a.heap.size) W) (hb : Below W.heap.size W W') => show (fun a => a.cell? ⟨w.heap.size, 0, none⟩ = some (.int .u64 (T : Int)) ∧ a.cell? ⟨w.heap.size, 1, none⟩ = some (.slice A l.length c) ∧ a.cell? ⟨w.heap.size + 1, 0, none⟩ = some (.int .u64 (x.t : Int)) ∧ a.cell? ⟨w.heap.size + 1, 1, none⟩ = some (.int .u8 (x.k : Int)) ∧ a.cell? ⟨w.heap.size + 1, 2, none⟩ = some (.string (ofL x.b)) ∧ Below w.heap.size w a ∧ w.heap.size + 3 ≤ a.heap.size) W' from by
        obtain ⟨h0, h1, h2, h3, h4, h5, h6⟩ := h
        exact ⟨(hb.cell (p := ⟨w.heap.size, 0, none⟩) (by show w.heap.size < _; omega)).trans h0, (hb.cell (p := ⟨w.heap.size, 1, none⟩) (by show w.heap.size < _; omega)).trans h1, (hb.cell (p := ⟨w.heap.size + 1, 0, none⟩) (by show w.heap.size + 1 < _; omega)).trans h2, (hb.cell (p := ⟨w.heap.size + 1, 1, none⟩) (by show w.heap.size + 1 < _; omega)).trans h3, (hb.cell (p := ⟨w.heap.size + 1, 2, none⟩) (by show w.heap.size + 1 < _; omega)).trans h4, bthen h5 hb (Nat.le_refl _), Nat.le_trans h6 hb.size⟩)
      have HAL := Lib.hid (fun (W : World) o (h : (fun a => a.cell? ⟨w.heap.size, 0, none⟩ = some (.int .u64 (T : Int)) ∧ a.cell? ⟨w.heap.size, 1, none⟩ = some (.slice A l.length c) ∧ a.cell? ⟨w.heap.size + 1, 0, none⟩ = some (.int .u64 (x.t : Int)) ∧ a.cell? ⟨w.heap.size + 1, 1, none⟩ = some (.int .u8 (x.k : Int)) ∧ a.cell? ⟨w.heap.size + 1, 2, none⟩ = some (.string (ofL x.b)) ∧ Below w.heap.size w a ∧ w.heap.size + 3 ≤ a.heap.size) W) => show (fun a => a.cell? ⟨w.heap.size, 0, none⟩ = some (.int .u64 (T : Int)) ∧ a.cell? ⟨w.heap.size, 1, none⟩ = some (.slice A l.length c) ∧ a.cell? ⟨w.heap.size + 1, 0, none⟩ = some (.int .u64 (x.t : Int)) ∧ a.cell? ⟨w.heap.size + 1, 1, none⟩ = some (.int .u8 (x.k : Int)) ∧ a.cell? ⟨w.heap.size + 1, 2, none⟩ = some (.string (ofL x.b)) ∧ Below w.heap.size w a ∧ w.heap.size + 3 ≤ a.heap.size) (W.alloc o) from HCA.out W _ h ((Below.refl _ _).alloc (Nat.le_refl _) _))
      have HST := Lib.hid (fun (W : World) u v (h : (fun a => a.cell? ⟨w.heap.size, 0, none⟩ = some (.int .u64 (T : Int)) ∧ a.cell? ⟨w.heap.size, 1, none⟩ = some (.slice A l.length c) ∧ a.cell? ⟨w.heap.size + 1, 0, none⟩ = some (.int .u64 (x.t : Int)) ∧ a.cell? ⟨w.heap.size + 1, 1, none⟩ = some (.int .u8 (x.k : Int)) ∧ a.cell? ⟨w.heap.size + 1, 2, none⟩ = some (.string (ofL x.b)) ∧ Below w.heap.size w a ∧ w.heap.size + 3 ≤ a.heap.size) W) => show (fun a => a.cell? ⟨w.heap.size, 0, none⟩ = some (.int .u64 (T : Int)) ∧ a.cell? ⟨w.heap.size, 1, none⟩ = some (.slice A l.length c) ∧ a.cell? ⟨w.heap.size + 1, 0, none⟩ = some (.int .u64 (x.t : Int)) ∧ a.cell? ⟨w.heap.size + 1, 1, none⟩ = some (.int .u8 (x.k : Int)) ∧ a.cell? ⟨w.heap.size + 1, 2, none⟩ = some (.string (ofL x.b)) ∧ Below w.heap.size w a ∧ w.heap.size + 3 ≤ a.heap.size) ((W.setCell ⟨w.heap.size + 1 + 1, 0, none⟩ u).setCell ⟨w.heap.size + 1 + 1, 1, none⟩ v) from by
        obtain ⟨h0, h1, h2, h3, h4, h5, h6⟩ := h
        have hs : Below (w.heap.size + 2) W ((W.setCell ⟨w.heap.size + 1 + 1, 0, none⟩ u).setCell ⟨w.heap.size + 1 + 1, 1, none⟩ v) := ((Below.refl (w.heap.size + 2) W).setCell (p := ⟨w.heap.size + 1 + 1, 0, none⟩) (Nat.le_refl _) u).setCell (p := ⟨w.heap.size + 1 + 1, 1, none⟩) (Nat.le_refl _) v
        exact ⟨(hs.cell (p := ⟨w.heap.size, 0, none⟩) (by show w.heap.size < _; omega)).trans h0, (hs.cell (p := ⟨w.heap.size, 1, none⟩) (by show w.heap.size < _; omega)).trans h1, (hs.cell (p := ⟨w.heap.size + 1, 0, none⟩) (by show w.heap.size + 1 < _; omega)).trans h2, (hs.cell (p := ⟨w.heap.size + 1, 1, none⟩) (by show w.heap.size + 1 < _; omega)).trans h3, (hs.cell (p := ⟨w.heap.size + 1, 2, none⟩) (by show w.heap.size + 1 < _; omega)).trans h4, h5.trans (hs.mono (by omega)), Nat.le_trans h6 hs.size⟩)
      go_enter Try.func9, Try.ntmps9
      go_wp2_with fail
      refine wp_region_noPanic ?_
      refine wp_region_held_drew (S := (fun a => a.cell? ⟨w.heap.size, 0, none⟩ = some (.int .u64 (T : Int)) ∧ a.cell? ⟨w.heap.size, 1, none⟩ = some (.slice A l.length c) ∧ a.cell? ⟨w.heap.size + 1, 0, none⟩ = some (.int .u64 (x.t : Int)) ∧ a.cell? ⟨w.heap.size + 1, 1, none⟩ = some (.int .u8 (x.k : Int)) ∧ a.cell? ⟨w.heap.size + 1, 2, none⟩ = some (.string (ofL x.b)) ∧ Below w.heap.size w a ∧ w.heap.size + 3 ≤ a.heap.size)) (by kernel_rfl) ?_ (fun hHeld => ?_)
      · (try dsimp only); first | exact HS0.out | exact HAL.out _ _ (by assumption) | exact HCA.out _ _ (by assumption) b1 | exact HST.out _ _ _ (by assumption)
      refine wpAnyH_take (i := 0) (v := ?_) rfl (by kernel_rfl) (by kernel_rfl) (by kernel_rfl) (fun _ _ _ h => h) (Or.inl ⟨by rfl, ?_⟩) (by assumption) ?_
      rotate_left
      · intro w hSw; (try dsimp only at hSw); go_simp; try with_reducible rfl
      (try simp only [List.getElem_toArray, List.getElem_cons_zero, Act.put, List.setIfInBounds_toArray, List.set_cons_zero, List.set_cons_succ])
      refine wpAnyH_take (i := 1) (v := ?_) rfl (by kernel_rfl) (by kernel_rfl) (by kernel_rfl) (fun _ _ _ h => h) (Or.inl ⟨by rfl, ?_⟩) (by assumption) ?_
      rotate_left
      · intro w hSw; (try dsimp only at hSw); go_simp; try with_reducible rfl
      (try simp only [List.getElem_toArray, List.getElem_cons_succ, List.getElem_cons_zero, Act.put, List.setIfInBounds_toArray, List.set_cons_zero, List.set_cons_succ])
      refine wpAnyH_take (i := 2) (v := ?_) rfl (by kernel_rfl) (by kernel_rfl) (by kernel_rfl) (fun _ _ _ h => h) (Or.inl ⟨by rfl, ?_⟩) (by assumption) ?_
      rotate_left
      · intro w hSw; (try dsimp only at hSw); go_simp; try with_reducible rfl
      (try simp only [List.getElem_toArray, List.getElem_cons_succ, List.getElem_cons_zero, Act.put, List.setIfInBounds_toArray, List.set_cons_zero, List.set_cons_succ])
      refine wpAnyH_take (i := 3) (v := ?_) rfl (by kernel_rfl) (by kernel_rfl) (by kernel_rfl) (fun _ _ _ h => h) (Or.inl ⟨by rfl, ?_⟩) (by assumption) ?_
      rotate_left
      · intro w hSw; (try dsimp only at hSw); go_simp; try with_reducible rfl
      (try simp only [List.getElem_toArray, List.getElem_cons_succ, List.getElem_cons_zero, Act.put, List.setIfInBounds_toArray, List.set_cons_zero, List.set_cons_succ])
      refine wpAnyH_take (i := 4) (v := ?_) rfl (by kernel_rfl) (by kernel_rfl) (by kernel_rfl) (fun _ _ _ h => h) (Or.inl ⟨by rfl, ?_⟩) (by assumption) ?_
      rotate_left
      · intro w hSw; (try dsimp only at hSw); go_simp; try with_reducible rfl
      (try simp only [List.getElem_toArray, List.getElem_cons_succ, List.getElem_cons_zero, Act.put, List.setIfInBounds_toArray, List.set_cons_zero, List.set_cons_succ])
      refine wpAnyH_take (i := 5) (v := ?_) rfl (by kernel_rfl) (by kernel_rfl) (by kernel_rfl) (fun _ _ _ h => h) (Or.inl ⟨by rfl, ?_⟩) (by assumption) ?_
      rotate_left
      · intro w hSw; (try dsimp only at hSw); go_simp; try with_reducible rfl
      (try simp only [List.getElem_toArray, List.getElem_cons_succ, List.getElem_cons_zero, Act.put, List.setIfInBounds_toArray, List.set_cons_zero, List.set_cons_succ])
      refine wpAnyH_take (i := 6) (v := ?_) rfl (by kernel_rfl) (by kernel_rfl) (by kernel_rfl) (fun _ _ _ h => h) (Or.inl ⟨by rfl, ?_⟩) (by assumption) ?_
      rotate_left
      · intro w hSw; (try dsimp only at hSw); go_simp; try with_reducible rfl
      (try simp only [List.getElem_toArray, List.getElem_cons_succ, List.getElem_cons_zero, Act.put, List.setIfInBounds_toArray, List.set_cons_zero, List.set_cons_succ])
      refine wpAnyH_take (i := 7) (v := ?_) rfl (by kernel_rfl) (by kernel_rfl) (by kernel_rfl) (fun _ _ _ h => h) (Or.inl ⟨by rfl, ?_⟩) (by assumption) ?_
      rotate_left
      · intro w hSw; (try dsimp only at hSw); go_simp; try with_reducible rfl
      (try simp only [List.getElem_toArray, List.getElem_cons_succ, List.getElem_cons_zero, Act.put, List.setIfInBounds_toArray, List.set_cons_zero, List.set_cons_succ])
      refine wpAnyH_ready (rs := [8]) (by kernel_rfl) (by simp) ?_
      refine AllReadyH.cons rfl (fun K hK => ?_) (AllReadyH.nil)
      · go_simp
        refine hK.out _ _ ?_ (fun hHeld => ?_)
        · (try dsimp only); first | exact HS0.out | exact HAL.out _ _ (by assumption) | exact HCA.out _ _ (by assumption) b1 | exact HST.out _ _ _ (by assumption)
        clear hK K
        (try simp only [List.getElem_toArray, List.getElem_cons_succ, List.getElem_cons_zero, Act.put, List.setIfInBounds_toArray, List.set_cons_zero, List.set_cons_succ])
        refine wpAnyH_ready (rs := [9]) (by kernel_rfl) (by simp) ?_
        refine AllReadyH.cons rfl (fun K hK => ?_) (AllReadyH.nil)
        · go_simp
          refine hK.out _ _ ?_ (fun hHeld => ?_)
          · (try dsimp only); first | exact HS0.out | exact HAL.out _ _ (by assumption) | exact HCA.out _ _ (by assumption) b1 | exact HST.out _ _ _ (by assumption)
          clear hK K
          (try simp only [List.getElem_toArray, List.getElem_cons_succ, List.getElem_cons_zero, Act.put, List.setIfInBounds_toArray, List.set_cons_zero, List.set_cons_succ])
          refine wpAnyH_ready (rs := [10]) (by kernel_rfl) (by simp) ?_
          refine AllReadyH.cons rfl (fun K hK => ?_) (AllReadyH.nil)
          · go_simp
            (have hB5 := hHeld.2.2.2.2.2.1
             refine (concatNt_any (if c = l.length - 31 then A else Option.map (fun x => x.add ((l.length - 31) * 3)) A) (some ⟨w.heap.size + 1 + 1 + 1, 0, none⟩) (l.length - (l.length - 31)) 1 (c - (l.length - 31)) 1 (w.heap.size + 1 + 1 + 1 + 1) 2 (ncs (l.drop (l.length - 31))) (ncs [x]) _ (by omega) ?h0 ?h1 (HRW.out.1.on hB5) ?h2 (by rw [ncs_len, List.length_drop]) (by rw [ncs_len]; rfl) (ncs_one _) (ncs_one _) HRW.out.2 (fun e => by cases e)).mono ?h3
             case h0 => go_simp
             case h1 => go_simp
             case h2 =>
               rw [ncs_one1]
               refine Rws.of_news fun j u hu => ?_
               match j, hu with
               | 0, hu => obtain rfl := Option.some.inj hu; go_simp
               | 1, hu => obtain rfl := Option.some.inj hu; go_simp
               | 2, hu => obtain rfl := Option.some.inj hu; go_simp
             rintro e w1 ⟨v, rfl, ho, b1⟩
             obtain ⟨N1, hN1⟩ : ∃ N1, l.length - (l.length - 31) + 1 = N1 := ⟨_, rfl⟩
             rw [hN1] at ho
             have HN1 := Lib.hid hN1
             clear hN1
             have q0 := (b1.cell (p := ⟨w.heap.size + 1 + 1, 0, none⟩) (by simp)).trans (show _ = some (.int .u64 0) from by go_simp)
             have q1 := (b1.cell (p := ⟨w.heap.size + 1 + 1, 1, none⟩) (by simp)).trans (show _ = some (.slice none 0 0) from by go_simp)
             have qf := fun j => (b1.frozen (p := ⟨w.heap.size + 1 + 1, j, none⟩) (by simp)).trans (show _ = false from by go_simp)
             have ql : w.heap.size + 1 + 1 < w1.heap.size := Nat.lt_of_lt_of_le (by simp) b1.size
             have HB5 := Lib.hid (bthen hB5 b1 (Nat.le_refl _))
             have HO := Lib.hid ho
             have HLT := Lib.hid hHeld.2.2.2.2.2.2
             obtain ⟨A6, c6, rfl, -, -⟩ := Rw.own_cells ho
             clear ho)
            refine hK.out _ _ ?_ (fun hHeld => ?_)
            · (try dsimp only); first | exact HS0.out | exact HAL.out _ _ (by assumption) | exact HCA.out _ _ (by assumption) b1 | exact HST.out _ _ _ (by assumption)
            clear hK K
            (try simp only [List.getElem_toArray, List.getElem_cons_succ, List.getElem_cons_zero, Act.put, List.setIfInBounds_toArray, List.set_cons_zero, List.set_cons_succ])
            refine wpAnyH_take (i := 11) (v := ?_) rfl (by kernel_rfl) (by kernel_rfl) (by kernel_rfl) (fun _ _ _ h => h) (Or.inl ⟨by rfl, ?_⟩) (by assumption) ?_
            rotate_left
            · intro w hSw; (try dsimp only at hSw); go_simp; try with_reducible rfl
            (try simp only [List.getElem_toArray, List.getElem_cons_succ, List.getElem_cons_zero, Act.put, List.setIfInBounds_toArray, List.set_cons_zero, List.set_cons_succ])
            refine wpAnyH_ready (rs := [12]) (by kernel_rfl) (by simp) ?_
            refine AllReadyH.cons rfl (fun K hK => ?_) (AllReadyH.nil)
            · go_simp
              refine hK.out _ _ ?_ (fun hHeld => ?_)
              · (try dsimp only); first | exact HS0.out | exact HAL.out _ _ (by assumption) | exact HCA.out _ _ (by assumption) b1 | exact HST.out _ _ _ (by assumption)
              clear hK K
              (try simp only [List.getElem_toArray, List.getElem_cons_succ, List.getElem_cons_zero, Act.put, List.setIfInBounds_toArray, List.set_cons_zero, List.set_cons_succ])
              refine wpAnyH_take (i := 13) (v := ?_) rfl (by kernel_rfl) (by kernel_rfl) (by kernel_rfl) (fun _ _ _ h => h) (Or.inl ⟨by rfl, ?_⟩) (by assumption) ?_
              rotate_left
              · intro w hSw; (try dsimp only at hSw); go_simp; try with_reducible rfl
              (try simp only [List.getElem_toArray, List.getElem_cons_succ, List.getElem_cons_zero, Act.put, List.setIfInBounds_toArray, List.set_cons_zero, List.set_cons_succ])
              refine wpAnyH_done (by kernel_rfl) ?_ _
              refine NoPanic.normal ?_
              have hB6 := hHeld.2.2.2.2.2.1
              have HB6 := Lib.hid hB6
              clear hHeld
              have g0 : ((w1.setCell ⟨w.heap.size + 1 + 1, 0, none⟩ (.int .u64 ((T : Int) + 1))).setCell ⟨w.heap.size + 1 + 1, 1, none⟩ (.slice A6 N1 c6)).cell? ⟨w.heap.size + 1 + 1, 0, none⟩ = some (.int .u64 ((T : Int) + 1)) := (World.cell?_setCell_other _ _ _ _ (by simp)).trans (World.cell?_setCell_same _ _ _ q0)
              have g1 : ((w1.setCell ⟨w.heap.size + 1 + 1, 0, none⟩ (.int .u64 ((T : Int) + 1))).setCell ⟨w.heap.size + 1 + 1, 1, none⟩ (.slice A6 N1 c6)).cell? ⟨w.heap.size + 1 + 1, 1, none⟩ = some (.slice A6 N1 c6) := World.cell?_setCell_same _ _ _ ((World.cell?_setCell_other _ _ _ _ (by simp)).trans q1)
              have hg := only_setCell (p := ⟨w.heap.size + 1 + 1, 1, none⟩) (only_setCell (p := ⟨w.heap.size + 1 + 1, 0, none⟩) (World.grownBy.refl w1 (some (w.heap.size + 1 + 1))) rfl (.int .u64 ((T : Int) + 1))) rfl (.slice A6 N1 c6)
              have HO6 := Lib.hid (HO.out.kept hg (.inr (Rw.own_row HO.out (by have := HLT.out; omega))))
              clear hg hB6
              generalize (if c = l.length - 31 then A else Option.map (fun x => x.add ((l.length - 31) * 3)) A) = A9
              go_wp2_with fail
              refine bodyPost_ret (v := .tuple #[.agg #[.int .u64 ((T : Int) + 1), .slice A6 N1 c6], .int .i64 0]) (by simp [results, Try.results9, go_sem, g0, g1]) rfl ?_
              obtain ⟨A7, c7, e7, hc7, hn7, hr7, hb7⟩ := Rws.of_own HO6.out
              obtain ⟨rfl, -, rfl⟩ := Value.slice.inj e7
              have hlen : N1 = (l.drop (l.length - 31) ++ [x]).length := by rw [← HN1.out, List.length_append, List.length_drop]; rfl
              rw [← ncs_app] at hr7
              subst hlen
              exact ⟨A6, c6, by simp, hc7, hn7, hr7, fun a ha => .inr ⟨by have := hb7 a ha; have := HLT.out; omega, (hb7 a ha).2⟩, HB6.out⟩
end Go.Proofs.Ytabnkbdbbneihaa
