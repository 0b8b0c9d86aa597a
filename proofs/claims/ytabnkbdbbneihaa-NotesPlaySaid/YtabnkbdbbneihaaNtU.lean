/-
  NOTES' BYTES: the document's, walked.
-/
import Derived.Test.YtabnkbdbbneihaaNtT
namespace Go.Proofs.Ytabnkbdbbneihaa
open Go.ChangeShapes Go.WideShapes Go.ChangeAt Go.RowKit

theorem rnumN_l (n k : Nat) (b : Int) (w : World) (hn : n < 18446744073709551616) (hk : k ≤ 8) (hb : b = (k : Int)) :
    Calls Try.prog 33 #[.int .u64 (n : Int), .int .i64 b] w fun e w' => e = .returned (.string (ofL (Oct.be k n))) ∧ Below w.heap.size w w' := by
  subst hb
  exact rnum_at k hk n w hn
theorem rtextN_l (s : List UInt8) (w : World) (hs : s.length ≤ 65535) :
    Calls Try.prog 34 #[.string (ofL s)] w fun e w' => e = .returned (.string (ofL (Oct.be 2 s.length ++ s))) ∧ Below w.heap.size w w' := by
  have h := rtext_any (ofL s) w (by rw [ofL_size]; exact hs)
  have e : textB (ofL s) = ofL (Oct.be 2 s.length ++ s) := by
    unfold textB
    rw [ofL_size, show ByteArray.mk (Oct.be 2 s.length).toArray = ofL (Oct.be 2 s.length) from rfl, ofL_app]
  rw [e] at h
  exact h
def RbSt (w : World) (E : List UInt8) (l : List Nt) (g : Nat) (s i : Value) (wr : World) : Prop := ∃ k : Nat, k + g = l.length ∧ i = .int .i64 (k : Int) ∧ s = .string (ofL (Nt.pre E l k)) ∧ Below w.heap.size w wr
set_option maxRecDepth 100000 in
set_option maxHeartbeats 8000000 in
theorem r19Bytes_any (T c : Nat) (A : Option Addr) (l : List Nt) (w : World) (hl : l.length ≤ 32) (hT : T < 18446744073709551616) (hf : ∀ x ∈ l, x.Fits) (h64 : ∀ x ∈ l, x.b.length ≤ 64) (h : Nts w A l) :
    Calls Try.prog 18 #[.agg #[.int .u64 (T : Int), .slice A l.length c]] w fun e w' => e = .returned (.string (ofL (Nt.enc T l))) ∧ Below w.heap.size w w' := by
  have HA := Lib.hid h
  have HN8 := Lib.hid (fun W => rnumN_l T 8 8 W hT (by omega) rfl)
  have HN1 := Lib.hid (fun W => rnumN_l l.length 1 1 W (by omega) (by omega) rfl)
  obtain ⟨E1, hE1⟩ : ∃ E1, Oct.be 8 T ++ Oct.be 1 l.length = E1 := ⟨_, rfl⟩
  have hc1 : ofL (Oct.be 8 T) ++ ofL (Oct.be 1 l.length) = ofL E1 := by rw [ofL_app, hE1]
  have hs8 : (ofL (Oct.be 8 T)).size = 8 := by rw [ofL_size, Oct.length_be]
  have hs1 : (ofL (Oct.be 1 l.length)).size = 1 := by rw [ofL_size, Oct.length_be]
  have HEL := Lib.hid (show E1.length ≤ 100 by rw [← hE1]; simp [Oct.length_be])
  generalize ofL (Oct.be 8 T) = d8 at *
  generalize ofL (Oct.be 1 l.length) = d1 at *
  have HE1 := Lib.hid hE1
  clear hE1
  have hwl : IntKind.u64.wrap (l.length : Int) = (l.length : Int) := by rw [IntKind.wrap_u64]; omega
  have HF := Lib.hid hf
  have H64 := Lib.hid h64
  clear h hf h64
  have hS0 := Lib.hid (show (fun a => a.cell? ⟨w.heap.size, 0, none⟩ = some (.int .u64 (T : Int)) ∧ a.cell? ⟨w.heap.size, 1, none⟩ = some (.slice A l.length c) ∧ Below w.heap.size w a ∧ w.heap.size < a.heap.size) (w.alloc (.cells #[.int .u64 (T : Int), .slice A l.length c] 30)).drew from ⟨by go_simp, by go_simp, (alloc1B _ _).drew, by simp⟩)
  have HON := Lib.hid (fun (W W' : World) (h : (fun a => a.cell? ⟨w.heap.size, 0, none⟩ = some (.int .u64 (T : Int)) ∧ a.cell? ⟨w.heap.size, 1, none⟩ = some (.slice A l.length c) ∧ Below w.heap.size w a ∧ w.heap.size < a.heap.size) W) (hb : Below W.heap.size W W') => show (fun a => a.cell? ⟨w.heap.size, 0, none⟩ = some (.int .u64 (T : Int)) ∧ a.cell? ⟨w.heap.size, 1, none⟩ = some (.slice A l.length c) ∧ Below w.heap.size w a ∧ w.heap.size < a.heap.size) W' from ⟨(hb.cell (p := ⟨w.heap.size, 0, none⟩) h.2.2.2).trans h.1, (hb.cell (p := ⟨w.heap.size, 1, none⟩) h.2.2.2).trans h.2.1, bthen h.2.2.1 hb (Nat.le_refl _), Nat.lt_of_lt_of_le h.2.2.2 hb.size⟩)
  go_enter Try.func18, Try.ntmps18
  go_wp2_with fail
  refine wp_region_noPanic ?_
  refine wp_region_held_drew (S := (fun a => a.cell? ⟨w.heap.size, 0, none⟩ = some (.int .u64 (T : Int)) ∧ a.cell? ⟨w.heap.size, 1, none⟩ = some (.slice A l.length c) ∧ Below w.heap.size w a ∧ w.heap.size < a.heap.size)) (by kernel_rfl) ?_ (fun hHeld => ?_)
  · (try dsimp only); first | with_reducible exact hS0.out | with_reducible assumption | with_reducible exact HON.out _ _ (by assumption) hb2
  refine wpAnyH_take (i := 0) (v := ?_) rfl (by kernel_rfl) (by kernel_rfl) (by kernel_rfl) (fun _ _ _ h => h) (Or.inl ⟨by rfl, ?_⟩) (by assumption) ?_
  rotate_left
  · intro w hSw; (try dsimp only at hSw); go_simp; try with_reducible rfl
  (try simp only [List.getElem_toArray, List.getElem_cons_zero, Act.put, List.setIfInBounds_toArray, List.set_cons_zero, List.set_cons_succ])
  refine wpAnyH_take (i := 1) (v := ?_) rfl (by kernel_rfl) (by kernel_rfl) (by kernel_rfl) (fun _ _ _ h => h) (Or.inl ⟨by rfl, ?_⟩) (by assumption) ?_
  rotate_left
  · intro w hSw; (try dsimp only at hSw); go_simp; try with_reducible rfl
  (try simp only [List.getElem_toArray, List.getElem_cons_succ, List.getElem_cons_zero, Act.put, List.setIfInBounds_toArray, List.set_cons_zero, List.set_cons_succ])
  refine wpAnyH_take (i := 3) (v := ?_) rfl (by kernel_rfl) (by kernel_rfl) (by kernel_rfl) (fun _ _ _ h => h) (Or.inl ⟨by rfl, ?_⟩) (by assumption) ?_
  rotate_left
  · intro w hSw; (try dsimp only at hSw); go_simp; try with_reducible rfl
  (try simp only [List.getElem_toArray, List.getElem_cons_succ, List.getElem_cons_zero, Act.put, List.setIfInBounds_toArray, List.set_cons_zero, List.set_cons_succ])
  refine wpAnyH_take (i := 4) (v := ?_) rfl (by kernel_rfl) (by kernel_rfl) (by kernel_rfl) (fun _ _ _ h => h) (Or.inl ⟨by rfl, ?_⟩) (by assumption) ?_
  rotate_left
  · intro w hSw; (try dsimp only at hSw); go_simp; try with_reducible rfl
  (try simp only [List.getElem_toArray, List.getElem_cons_succ, List.getElem_cons_zero, Act.put, List.setIfInBounds_toArray, List.set_cons_zero, List.set_cons_succ])
  refine wpAnyH_take (i := 5) (v := ?_) rfl (by kernel_rfl) (by kernel_rfl) (by kernel_rfl) (fun _ _ _ h => h) (Or.inl ⟨by rfl, ?_⟩) (by assumption) ?_
  rotate_left
  · intro w hSw; (try dsimp only at hSw); go_simp; try with_reducible rfl
  (try simp only [List.getElem_toArray, List.getElem_cons_succ, List.getElem_cons_zero, Act.put, List.setIfInBounds_toArray, List.set_cons_zero, List.set_cons_succ])
  refine wpAnyH_take (i := 6) (v := ?_) rfl (by kernel_rfl) (by kernel_rfl) (by kernel_rfl) (fun _ _ _ h => h) (Or.inl ⟨by rfl, ?_⟩) (by assumption) ?_
  rotate_left
  · intro w hSw; (try dsimp only at hSw); go_simp; try with_reducible rfl
  (try simp only [List.getElem_toArray, List.getElem_cons_succ, List.getElem_cons_zero, Act.put, List.setIfInBounds_toArray, List.set_cons_zero, List.set_cons_succ])
  refine wpAnyH_ready (rs := [2]) (by kernel_rfl) (by simp) ?_
  refine AllReadyH.cons rfl (fun K hK => ?_) (AllReadyH.nil)
  · go_simp
    (go_at_call 33; refine (HN8.out _).mono ?_; rintro e wx ⟨rfl, hb2⟩)
    refine hK.out _ _ ?_ (fun hHeld => ?_)
    · (try dsimp only); first | with_reducible exact hS0.out | with_reducible assumption | with_reducible exact HON.out _ _ (by assumption) hb2
    clear hK K
    (try simp only [List.getElem_toArray, List.getElem_cons_succ, List.getElem_cons_zero, Act.put, List.setIfInBounds_toArray, List.set_cons_zero, List.set_cons_succ])
    refine wpAnyH_ready (rs := [7]) (by kernel_rfl) (by simp) ?_
    refine AllReadyH.cons rfl (fun K hK => ?_) (AllReadyH.nil)
    · go_simp
      (go_at_call 33; refine (HN1.out _).mono ?_; rintro e wx ⟨rfl, hb2⟩)
      refine hK.out _ _ ?_ (fun hHeld => ?_)
      · (try dsimp only); first | with_reducible exact hS0.out | with_reducible assumption | with_reducible exact HON.out _ _ (by assumption) hb2
      clear hK K
      (try simp only [List.getElem_toArray, List.getElem_cons_succ, List.getElem_cons_zero, Act.put, List.setIfInBounds_toArray, List.set_cons_zero, List.set_cons_succ])
      refine wpAnyH_take (i := 8) (v := ?_) rfl (by kernel_rfl) (by kernel_rfl) (by kernel_rfl) (fun _ _ _ h => h) (Or.inl ⟨by rfl, ?_⟩) (by assumption) ?_
      rotate_left
      · intro w hSw; (try dsimp only at hSw); go_simp; try with_reducible rfl
      (try simp only [List.getElem_toArray, List.getElem_cons_succ, List.getElem_cons_zero, Act.put, List.setIfInBounds_toArray, List.set_cons_zero, List.set_cons_succ])
      refine wpAnyH_take (i := 9) (v := ?_) rfl (by kernel_rfl) (by kernel_rfl) (by kernel_rfl) (fun _ _ _ h => h) (Or.inl ⟨by rfl, ?_⟩) (by assumption) ?_
      rotate_left
      · intro w hSw; (try dsimp only at hSw); go_simp; try with_reducible rfl
      (try simp only [List.getElem_toArray, List.getElem_cons_succ, List.getElem_cons_zero, Act.put, List.setIfInBounds_toArray, List.set_cons_zero, List.set_cons_succ])
      refine wpAnyH_done (by kernel_rfl) ?_ _
      refine NoPanic.normal ?_
      have HB1 := Lib.hid hHeld.2.2.1
      have e1 := hHeld.2.1
      have el := hHeld.2.2.2
      clear hHeld hS0 HON hc1 hs8 hs1
      go_wp2_with fail
      clear e1 el
      go_loopg [3, 18] l.length (fun g s i wr => RbSt w E1 l g s i wr)
      case atStart => exact ⟨0, by omega, rfl, by rw [Nt.pre_zero], HB1.out⟩
      case round =>
        obtain ⟨k, hk, rfl, rfl, hB⟩ := hrel
        have HK := Lib.hid hk
        have HBE := Lib.hid hB
        clear hk hB
        by_cases hlt : k < l.length
        · obtain ⟨bb, off, rfl, hb, y0, y1, y2⟩ := (HA.out.on HBE.out).get hlt
          have hmem : l.getD k Nt.zero ∈ l := by rw [List.getD_eq_getElem?_getD, List.getElem?_eq_getElem hlt]; exact List.getElem_mem hlt
          have hfit := HF.out _ hmem
          have h64 := H64.out _ hmem
          have HPR := Lib.hid (Nt.pre_succ E1 l hlt)
          have hwk : IntKind.u64.wrap ((l.getD k Nt.zero).k : Int) = ((l.getD k Nt.zero).k : Int) := by rw [IntKind.wrap_u64]; have := hfit.2.1; omega
          have ht := hfit.1
          have hkk := hfit.2.1
          clear hfit hmem
          have hpl := Nt.pre_len E1 l H64.out k (by omega)
          have hE1l : E1.length ≤ 100 := HEL.out
          generalize l.getD k Nt.zero = x at *
          generalize Nt.pre E1 l k = P at *
          have hsP : (ofL P).size ≤ 3000 := by rw [ofL_size]; omega
          have hs8 : (ofL (Oct.be 8 x.t)).size = 8 := by rw [ofL_size, Oct.length_be]
          have hs1 : (ofL (Oct.be 1 x.k)).size = 1 := by rw [ofL_size, Oct.length_be]
          have hst : (ofL (Oct.be 2 x.b.length ++ x.b)).size ≤ 66 := by rw [ofL_size, List.length_append, Oct.length_be]; omega
          have n1 : ¬ 9223372036854775807 < (ofL P).size + 8 := by omega
          have n2 : ¬ 9223372036854775807 < (ofL P).size + 8 + 1 := by omega
          have n3 : ¬ 9223372036854775807 < (ofL P).size + 8 + 1 + (ofL (Oct.be 2 x.b.length ++ x.b)).size := by omega
          clear hpl hE1l
          have HX8 := Lib.hid (fun W => rnumN_l x.t 8 8 W ht (by omega) rfl)
          have HX1 := Lib.hid (fun W => rnumN_l x.k 1 1 W (by omega) (by omega) rfl)
          have HXT := Lib.hid (fun W => rtextN_l x.b W (by omega))
          have hP1 : ofL P ++ ofL (Oct.be 8 x.t) ++ ofL (Oct.be 1 x.k) ++ ofL (Oct.be 2 x.b.length ++ x.b) = ofL (P ++ Nt.enc1 x) := by
            unfold Nt.enc1
            rw [ofL_app, ofL_app, ofL_app]
            simp only [List.append_assoc]
          generalize ofL (Oct.be 8 x.t) = d8 at *
          generalize ofL (Oct.be 1 x.k) = d1 at *
          generalize ofL (Oct.be 2 x.b.length ++ x.b) = dt at *
          generalize P ++ Nt.enc1 x = P1 at *
          go_wp2_with fail
          have hS2 := Lib.hid (show (fun a => a.cell? ⟨wr.heap.size, 0, none⟩ = some (.int .u64 (x.t : Int)) ∧ a.cell? ⟨wr.heap.size, 1, none⟩ = some (.int .u8 (x.k : Int)) ∧ a.cell? ⟨wr.heap.size, 2, none⟩ = some (.string (ofL x.b)) ∧ Below w.heap.size w a ∧ wr.heap.size < a.heap.size) (wr.alloc (.cells #[.int .u64 (x.t : Int), .int .u8 (x.k : Int), .string (ofL x.b)] 38)).drew from ⟨by go_simp, by go_simp, by go_simp, (HBE.out.alloc HBE.out.size _).drew, by simp⟩)
          have HON2 := Lib.hid (fun (W W' : World) (h : (fun a => a.cell? ⟨wr.heap.size, 0, none⟩ = some (.int .u64 (x.t : Int)) ∧ a.cell? ⟨wr.heap.size, 1, none⟩ = some (.int .u8 (x.k : Int)) ∧ a.cell? ⟨wr.heap.size, 2, none⟩ = some (.string (ofL x.b)) ∧ Below w.heap.size w a ∧ wr.heap.size < a.heap.size) W) (hb : Below W.heap.size W W') => show (fun a => a.cell? ⟨wr.heap.size, 0, none⟩ = some (.int .u64 (x.t : Int)) ∧ a.cell? ⟨wr.heap.size, 1, none⟩ = some (.int .u8 (x.k : Int)) ∧ a.cell? ⟨wr.heap.size, 2, none⟩ = some (.string (ofL x.b)) ∧ Below w.heap.size w a ∧ wr.heap.size < a.heap.size) W' from ⟨(hb.cell (p := ⟨wr.heap.size, 0, none⟩) h.2.2.2.2).trans h.1, (hb.cell (p := ⟨wr.heap.size, 1, none⟩) h.2.2.2.2).trans h.2.1, (hb.cell (p := ⟨wr.heap.size, 2, none⟩) h.2.2.2.2).trans h.2.2.1, bthen h.2.2.2.1 hb (Nat.le_refl _), Nat.lt_of_lt_of_le h.2.2.2.2 hb.size⟩)
          refine wp_region_noPanic ?_
          refine wp_region_held_drew (S := (fun a => a.cell? ⟨wr.heap.size, 0, none⟩ = some (.int .u64 (x.t : Int)) ∧ a.cell? ⟨wr.heap.size, 1, none⟩ = some (.int .u8 (x.k : Int)) ∧ a.cell? ⟨wr.heap.size, 2, none⟩ = some (.string (ofL x.b)) ∧ Below w.heap.size w a ∧ wr.heap.size < a.heap.size)) (by kernel_rfl) ?_ (fun hHeld => ?_)
          · (try dsimp only); first | with_reducible exact hS2.out | with_reducible assumption | with_reducible exact HON2.out _ _ (by assumption) hb2
          refine wpAnyH_take (i := 0) (v := ?_) rfl (by kernel_rfl) (by kernel_rfl) (by kernel_rfl) (fun _ _ _ h => h) (Or.inl ⟨by rfl, ?_⟩) (by assumption) ?_
          rotate_left
          · intro w hSw; (try dsimp only at hSw); go_simp; try with_reducible rfl
          (try simp only [List.getElem_toArray, List.getElem_cons_zero, Act.put, List.setIfInBounds_toArray, List.set_cons_zero, List.set_cons_succ])
          refine wpAnyH_take (i := 1) (v := ?_) rfl (by kernel_rfl) (by kernel_rfl) (by kernel_rfl) (fun _ _ _ h => h) (Or.inl ⟨by rfl, ?_⟩) (by assumption) ?_
          rotate_left
          · intro w hSw; (try dsimp only at hSw); go_simp; try with_reducible rfl
          (try simp only [List.getElem_toArray, List.getElem_cons_succ, List.getElem_cons_zero, Act.put, List.setIfInBounds_toArray, List.set_cons_zero, List.set_cons_succ])
          refine wpAnyH_take (i := 2) (v := ?_) rfl (by kernel_rfl) (by kernel_rfl) (by kernel_rfl) (fun _ _ _ h => h) (Or.inl ⟨by rfl, ?_⟩) (by assumption) ?_
          rotate_left
          · intro w hSw; (try dsimp only at hSw); go_simp; try with_reducible rfl
          (try simp only [List.getElem_toArray, List.getElem_cons_succ, List.getElem_cons_zero, Act.put, List.setIfInBounds_toArray, List.set_cons_zero, List.set_cons_succ])
          refine wpAnyH_take (i := 5) (v := ?_) rfl (by kernel_rfl) (by kernel_rfl) (by kernel_rfl) (fun _ _ _ h => h) (Or.inl ⟨by rfl, ?_⟩) (by assumption) ?_
          rotate_left
          · intro w hSw; (try dsimp only at hSw); go_simp; try with_reducible rfl
          (try simp only [List.getElem_toArray, List.getElem_cons_succ, List.getElem_cons_zero, Act.put, List.setIfInBounds_toArray, List.set_cons_zero, List.set_cons_succ])
          refine wpAnyH_take (i := 6) (v := ?_) rfl (by kernel_rfl) (by kernel_rfl) (by kernel_rfl) (fun _ _ _ h => h) (Or.inl ⟨by rfl, ?_⟩) (by assumption) ?_
          rotate_left
          · intro w hSw; (try dsimp only at hSw); go_simp; try with_reducible rfl
          (try simp only [List.getElem_toArray, List.getElem_cons_succ, List.getElem_cons_zero, Act.put, List.setIfInBounds_toArray, List.set_cons_zero, List.set_cons_succ])
          refine wpAnyH_take (i := 7) (v := ?_) rfl (by kernel_rfl) (by kernel_rfl) (by kernel_rfl) (fun _ _ _ h => h) (Or.inl ⟨by rfl, ?_⟩) (by assumption) ?_
          rotate_left
          · intro w hSw; (try dsimp only at hSw); go_simp; try with_reducible rfl
          (try simp only [List.getElem_toArray, List.getElem_cons_succ, List.getElem_cons_zero, Act.put, List.setIfInBounds_toArray, List.set_cons_zero, List.set_cons_succ])
          refine wpAnyH_take (i := 10) (v := ?_) rfl (by kernel_rfl) (by kernel_rfl) (by kernel_rfl) (fun _ _ _ h => h) (Or.inl ⟨by rfl, ?_⟩) (by assumption) ?_
          rotate_left
          · intro w hSw; (try dsimp only at hSw); go_simp; try with_reducible rfl
          (try simp only [List.getElem_toArray, List.getElem_cons_succ, List.getElem_cons_zero, Act.put, List.setIfInBounds_toArray, List.set_cons_zero, List.set_cons_succ])
          refine wpAnyH_take (i := 11) (v := ?_) rfl (by kernel_rfl) (by kernel_rfl) (by kernel_rfl) (fun _ _ _ h => h) (Or.inl ⟨by rfl, ?_⟩) (by assumption) ?_
          rotate_left
          · intro w hSw; (try dsimp only at hSw); go_simp; try with_reducible rfl
          (try simp only [List.getElem_toArray, List.getElem_cons_succ, List.getElem_cons_zero, Act.put, List.setIfInBounds_toArray, List.set_cons_zero, List.set_cons_succ])
          refine wpAnyH_ready (rs := [3]) (by kernel_rfl) (by simp) ?_
          refine AllReadyH.cons rfl (fun K hK => ?_) (AllReadyH.nil)
          · go_simp
            (go_at_call 33; refine (HX8.out _).mono ?_; rintro e wx ⟨rfl, hb2⟩)
            refine hK.out _ _ ?_ (fun hHeld => ?_)
            · (try dsimp only); first | with_reducible exact hS2.out | with_reducible assumption | with_reducible exact HON2.out _ _ (by assumption) hb2
            clear hK K
            (try simp only [List.getElem_toArray, List.getElem_cons_succ, List.getElem_cons_zero, Act.put, List.setIfInBounds_toArray, List.set_cons_zero, List.set_cons_succ])
            refine wpAnyH_take (i := 4) (v := ?_) rfl (by kernel_rfl) (by kernel_rfl) (by kernel_rfl) (fun _ _ _ h => h) (Or.inl ⟨by rfl, ?_⟩) (by assumption) ?_
            rotate_left
            · intro w hSw; (try dsimp only at hSw); go_simp; try with_reducible rfl
            (try simp only [List.getElem_toArray, List.getElem_cons_succ, List.getElem_cons_zero, Act.put, List.setIfInBounds_toArray, List.set_cons_zero, List.set_cons_succ])
            refine wpAnyH_ready (rs := [8]) (by kernel_rfl) (by simp) ?_
            refine AllReadyH.cons rfl (fun K hK => ?_) (AllReadyH.nil)
            · go_simp
              (go_at_call 33; refine (HX1.out _).mono ?_; rintro e wx ⟨rfl, hb2⟩)
              refine hK.out _ _ ?_ (fun hHeld => ?_)
              · (try dsimp only); first | with_reducible exact hS2.out | with_reducible assumption | with_reducible exact HON2.out _ _ (by assumption) hb2
              clear hK K
              (try simp only [List.getElem_toArray, List.getElem_cons_succ, List.getElem_cons_zero, Act.put, List.setIfInBounds_toArray, List.set_cons_zero, List.set_cons_succ])
              refine wpAnyH_take (i := 9) (v := ?_) rfl (by kernel_rfl) (by kernel_rfl) (by kernel_rfl) (fun _ _ _ h => h) (Or.inl ⟨by rfl, ?_⟩) (by assumption) ?_
              rotate_left
              · intro w hSw; (try dsimp only at hSw); go_simp; try with_reducible rfl
              (try simp only [List.getElem_toArray, List.getElem_cons_succ, List.getElem_cons_zero, Act.put, List.setIfInBounds_toArray, List.set_cons_zero, List.set_cons_succ])
              refine wpAnyH_ready (rs := [12]) (by kernel_rfl) (by simp) ?_
              refine AllReadyH.cons rfl (fun K hK => ?_) (AllReadyH.nil)
              · go_simp
                (go_at_call 34; refine (HXT.out _).mono ?_; rintro e wx ⟨rfl, hb2⟩)
                refine hK.out _ _ ?_ (fun hHeld => ?_)
                · (try dsimp only); first | with_reducible exact hS2.out | with_reducible assumption | with_reducible exact HON2.out _ _ (by assumption) hb2
                clear hK K
                (try simp only [List.getElem_toArray, List.getElem_cons_succ, List.getElem_cons_zero, Act.put, List.setIfInBounds_toArray, List.set_cons_zero, List.set_cons_succ])
                refine wpAnyH_take (i := 13) (v := ?_) rfl (by kernel_rfl) (by kernel_rfl) (by kernel_rfl) (fun _ _ _ h => h) (Or.inl ⟨by rfl, ?_⟩) (by assumption) ?_
                rotate_left
                · intro w hSw; (try dsimp only at hSw); go_simp; try with_reducible rfl
                (try simp only [List.getElem_toArray, List.getElem_cons_succ, List.getElem_cons_zero, Act.put, List.setIfInBounds_toArray, List.set_cons_zero, List.set_cons_succ])
                refine wpAnyH_take (i := 14) (v := ?_) rfl (by kernel_rfl) (by kernel_rfl) (by kernel_rfl) (fun _ _ _ h => h) (Or.inl ⟨by rfl, ?_⟩) (by assumption) ?_
                rotate_left
                · intro w hSw; (try dsimp only at hSw); go_simp; try with_reducible rfl
                (try simp only [List.getElem_toArray, List.getElem_cons_succ, List.getElem_cons_zero, Act.put, List.setIfInBounds_toArray, List.set_cons_zero, List.set_cons_succ])
                refine wpAnyH_done (by kernel_rfl) ?_ _
                refine NoPanic.normal ?_
                have HBX := Lib.hid hHeld.2.2.2.1
                clear hHeld hS2 HON2
                go_wp2_with fail
                go_roundg (gk - 1)
                case rel => exact ⟨k + 1, by have := HK.out; omega, by go_num, by rw [HPR.out], HBX.out⟩
                case measure => have := HK.out; omega
        · have hkl : k = l.length := by have := HK.out; omega
          have hall : Nt.pre E1 l k = Nt.enc T l := by rw [hkl, Nt.pre_all, ← HE1.out]; rfl
          rw [hall]
          go_wp2_with fail
          go_ret
          exact ⟨rfl, HBE.out⟩
end Go.Proofs.Ytabnkbdbbneihaa
