/-
  NOTES' BYTES: the program's, walked.
-/
import Derived.Test.YtabnkbdbbneihaaNtS
import Derived.Test.YtabnkbdbbneihaaNtQ
import Derived.Test.YtabnkbdbbneihaaOctR
import Derived.Deep.RegionHeld3
import Derived.Deep.DeepCutAuto
namespace Go.Proofs.Ytabnkbdbbneihaa
open Go.ChangeShapes Go.WideShapes Go.ChangeAt Go.RowKit

namespace Nt
def enc1 (x : Nt) : List UInt8 := Oct.be 8 x.t ++ Oct.be 1 x.k ++ (Oct.be 2 x.b.length ++ x.b)
def enc (T : Nat) (l : List Nt) : List UInt8 := Oct.be 8 T ++ Oct.be 1 l.length ++ l.flatMap enc1
theorem enc1_len (x : Nt) : (enc1 x).length = x.b.length + 11 := by
  unfold enc1
  simp only [List.length_append, Oct.length_be]
  omega
theorem encs_len (l : List Nt) (h : ∀ x ∈ l, x.b.length ≤ 64) : (l.flatMap enc1).length ≤ l.length * 75 := by
  induction l with
  | nil => simp
  | cons x l ih =>
    rw [List.flatMap_cons, List.length_append, enc1_len]
    have h1 := h x (by simp)
    have h2 := ih (fun y hy => h y (by simp [hy]))
    simp only [List.length_cons]
    omega
def pre (E : List UInt8) (l : List Nt) (k : Nat) : List UInt8 := E ++ (l.take k).flatMap enc1
theorem pre_zero (E : List UInt8) (l : List Nt) : pre E l 0 = E := by simp [pre]
theorem pre_all (E : List UInt8) (l : List Nt) : pre E l l.length = E ++ l.flatMap enc1 := by simp [pre]
theorem pre_succ (E : List UInt8) (l : List Nt) {k : Nat} (hk : k < l.length) : pre E l (k + 1) = pre E l k ++ enc1 (l.getD k zero) := by
  unfold pre
  rw [take_nt hk, List.flatMap_append, List.append_assoc]
  simp
theorem pre_len (E : List UInt8) (l : List Nt) (h : ∀ x ∈ l, x.b.length ≤ 64) (k : Nat) (hk : k ≤ l.length) : (pre E l k).length ≤ E.length + l.length * 75 := by
  unfold pre
  rw [List.length_append]
  have h1 := encs_len (l.take k) (fun x hx => h x (List.mem_of_mem_take hx))
  rw [List.length_take] at h1
  have h2 : min k l.length * 75 ≤ l.length * 75 := Nat.mul_le_mul_right _ (by omega)
  omega
end Nt
def BySt (w : World) (q : Nat) (E : List UInt8) (l : List Nt) (g : Nat) (i : Value) (wr : World) : Prop := ∃ k : Nat, k + g = l.length ∧ i = .int .i64 (k : Int) ∧ Du2 q (.string (ofL (Nt.pre E l k))) (.int .i64 0) wr ∧ Below w.heap.size w wr
theorem ostrN_any (s : List UInt8) (w : World) : Calls Try.prog 32 #[.agg #[.string (ofL s), .int .i64 0]] w fun e w' => e = .returned (.string (ofL s)) ∧ Below w.heap.size w w' := by
  go_enter Try.func32, Try.ntmps32
  go_wp2_with fail
  go_ret
  exact ⟨rfl, alloc1B _ _⟩
theorem K_new {K : Act → World → Prop} {a : Act} {W : World} (x y : Value) (t : TypeId) (h : ∀ q, q = W.heap.size → Du2 q x y (W.alloc (.cells #[x, y] t)) → K a (W.alloc (.cells #[x, y] t))) : K a (W.alloc (.cells #[x, y] t)) := h _ rfl (Du2.new _ _ _ _)
theorem K_newD {K : Act → World → Prop} {a : Act} {W : World} (x y : Value) (t : TypeId) (h : ∀ q, q = W.heap.size → Du2 q x y (W.alloc (.cells #[x, y] t)).drew → K a (W.alloc (.cells #[x, y] t)).drew) : K a (W.alloc (.cells #[x, y] t)).drew := h _ rfl ((Du2.new _ _ _ _).on ((Below.refl _ _).drew))
set_option maxRecDepth 100000 in
set_option maxHeartbeats 8000000 in
theorem ntBytes_any (T c : Nat) (A : Option Addr) (l : List Nt) (w : World) (hl : l.length ≤ 32) (hT : T < 18446744073709551616) (hf : ∀ x ∈ l, x.Fits) (h64 : ∀ x ∈ l, x.b.length ≤ 64) (h : Nts w A l) :
    Calls Try.prog 16 #[.agg #[.int .u64 (T : Int), .slice A l.length c]] w fun e w' => e = .returned (.string (ofL (Nt.enc T l))) ∧ Below w.heap.size w w' := by
  have HA := Lib.hid h
  have HN8 := Lib.hid (fun W => num_l [] T 8 8 W hT (by omega) rfl (by simp))
  have HN1 := Lib.hid (fun W => num_l ([] ++ Oct.be 8 T) l.length 1 1 W (by omega) (by omega) rfl (by simp [Oct.length_be]))
  rw [show ofL ([] : List UInt8) = ⟨#[]⟩ from rfl] at HN8
  obtain ⟨E0, hE0⟩ : ∃ E0, [] ++ Oct.be 8 T = E0 := ⟨_, rfl⟩
  rw [hE0] at HN8 HN1
  obtain ⟨E1, hE1⟩ : ∃ E1, E0 ++ Oct.be 1 l.length = E1 := ⟨_, rfl⟩
  rw [hE1] at HN1
  have HEL := Lib.hid (show E1.length ≤ 100 by rw [← hE1, ← hE0]; simp [Oct.length_be])
  have HE0 := Lib.hid hE0
  have HE1 := Lib.hid hE1
  clear hE0 hE1
  have hwl : IntKind.u64.wrap (l.length : Int) = (l.length : Int) := by rw [IntKind.wrap_u64]; omega
  have HF := Lib.hid hf
  have H64 := Lib.hid h64
  clear h hf h64
  have hS0 := Lib.hid (show (fun a => a.cell? ⟨w.heap.size, 0, none⟩ = some (.int .u64 (T : Int)) ∧ a.cell? ⟨w.heap.size, 1, none⟩ = some (.slice A l.length c) ∧ Below w.heap.size w a ∧ w.heap.size < a.heap.size) (w.alloc (.cells #[.int .u64 (T : Int), .slice A l.length c] 27)).drew from ⟨by go_simp, by go_simp, (alloc1B _ _).drew, by simp⟩)
  have HON := Lib.hid (fun (W W' : World) (h : (fun a => a.cell? ⟨w.heap.size, 0, none⟩ = some (.int .u64 (T : Int)) ∧ a.cell? ⟨w.heap.size, 1, none⟩ = some (.slice A l.length c) ∧ Below w.heap.size w a ∧ w.heap.size < a.heap.size) W) (hb : Below W.heap.size W W') => show (fun a => a.cell? ⟨w.heap.size, 0, none⟩ = some (.int .u64 (T : Int)) ∧ a.cell? ⟨w.heap.size, 1, none⟩ = some (.slice A l.length c) ∧ Below w.heap.size w a ∧ w.heap.size < a.heap.size) W' from ⟨(hb.cell (p := ⟨w.heap.size, 0, none⟩) h.2.2.2).trans h.1, (hb.cell (p := ⟨w.heap.size, 1, none⟩) h.2.2.2).trans h.2.1, bthen h.2.2.1 hb (Nat.le_refl _), Nat.lt_of_lt_of_le h.2.2.2 hb.size⟩)
  have HAD := Lib.hid (fun (W : World) (o : Obj) (h : (fun a => a.cell? ⟨w.heap.size, 0, none⟩ = some (.int .u64 (T : Int)) ∧ a.cell? ⟨w.heap.size, 1, none⟩ = some (.slice A l.length c) ∧ Below w.heap.size w a ∧ w.heap.size < a.heap.size) W.drew) => show (fun a => a.cell? ⟨w.heap.size, 0, none⟩ = some (.int .u64 (T : Int)) ∧ a.cell? ⟨w.heap.size, 1, none⟩ = some (.slice A l.length c) ∧ Below w.heap.size w a ∧ w.heap.size < a.heap.size) (W.alloc o).drew from HON.out W.drew _ h ⟨rfl, rfl, rfl, by simp, fun k hk => (alloc1B W o).block k hk⟩)
  have HST := Lib.hid (fun (W : World) (q : Nat) (u v : Value) (h : (fun a => a.cell? ⟨w.heap.size, 0, none⟩ = some (.int .u64 (T : Int)) ∧ a.cell? ⟨w.heap.size, 1, none⟩ = some (.slice A l.length c) ∧ Below w.heap.size w a ∧ w.heap.size < a.heap.size) W) (hq : w.heap.size < q) => show (fun a => a.cell? ⟨w.heap.size, 0, none⟩ = some (.int .u64 (T : Int)) ∧ a.cell? ⟨w.heap.size, 1, none⟩ = some (.slice A l.length c) ∧ Below w.heap.size w a ∧ w.heap.size < a.heap.size) ((W.setCell ⟨q, 0, none⟩ u).setCell ⟨q, 1, none⟩ v) from ⟨(World.cell?_setCell_other _ _ _ _ (by intro e; simp only [Addr.mk.injEq] at e; omega)).trans ((World.cell?_setCell_other _ _ _ _ (by intro e; simp only [Addr.mk.injEq] at e; omega)).trans h.1), (World.cell?_setCell_other _ _ _ _ (by intro e; simp only [Addr.mk.injEq] at e; omega)).trans ((World.cell?_setCell_other _ _ _ _ (by intro e; simp only [Addr.mk.injEq] at e; omega)).trans h.2.1), (h.2.2.1.setCell (p := ⟨q, 0, none⟩) (Nat.le_of_lt hq) u).setCell (p := ⟨q, 1, none⟩) (Nat.le_of_lt hq) v, by simpa using h.2.2.2⟩)
  go_enter Try.func16, Try.ntmps16
  go_wp2_with fail
  refine wp_region_noPanic ?_
  refine wp_region_held_drew (S := (fun a => a.cell? ⟨w.heap.size, 0, none⟩ = some (.int .u64 (T : Int)) ∧ a.cell? ⟨w.heap.size, 1, none⟩ = some (.slice A l.length c) ∧ Below w.heap.size w a ∧ w.heap.size < a.heap.size)) (by kernel_rfl) ?_ (fun hHeld => ?_)
  · (try dsimp only); first | with_reducible exact hS0.out | with_reducible exact HON.out _ _ (by assumption) hb2 | with_reducible exact HON.out _ _ (by assumption) (alloc1B _ _) | with_reducible exact HAD.out _ _ (by assumption) | with_reducible exact HST.out _ _ _ _ (by assumption) (by assumption)
  refine wpAnyH_take (i := 0) (v := ?_) rfl (by kernel_rfl) (by kernel_rfl) (by kernel_rfl) (fun _ _ _ h => h) (Or.inl ⟨by rfl, ?_⟩) (by assumption) ?_
  rotate_left
  · intro w hSw; (try dsimp only at hSw); go_simp; try with_reducible rfl
  (try simp only [List.getElem_toArray, List.getElem_cons_zero, Act.put, List.setIfInBounds_toArray, List.set_cons_zero, List.set_cons_succ])
  refine wpAnyH_take (i := 1) (v := ?_) rfl (by kernel_rfl) (by kernel_rfl) (by kernel_rfl) (fun _ _ _ h => h) (Or.inl ⟨by rfl, ?_⟩) (by assumption) ?_
  rotate_left
  · intro w hSw; (try dsimp only at hSw); go_simp; try with_reducible rfl
  (try simp only [List.getElem_toArray, List.getElem_cons_succ, List.getElem_cons_zero, Act.put, List.setIfInBounds_toArray, List.set_cons_zero, List.set_cons_succ])
  refine wpAnyH_take (i := 2) (v := ?_) rfl (by kernel_rfl) (by kernel_rfl) (by kernel_rfl) (fun _ _ _ h => h) (Or.inl ⟨by rfl, ?_⟩) (by assumption) ?_
  rotate_left
  · intro w hSw; (try dsimp only at hSw); go_simp; try with_reducible rfl
  (try simp only [List.getElem_toArray, List.getElem_cons_succ, List.getElem_cons_zero, Act.put, List.setIfInBounds_toArray, List.set_cons_zero, List.set_cons_succ])
  refine wpAnyH_take (i := 4) (v := ?_) rfl (by kernel_rfl) (by kernel_rfl) (by kernel_rfl) (fun _ _ _ h => h) (Or.inl ⟨by rfl, ?_⟩) (by assumption) ?_
  rotate_left
  · intro w hSw; (try dsimp only at hSw); go_simp; try with_reducible rfl
  (try simp only [List.getElem_toArray, List.getElem_cons_succ, List.getElem_cons_zero, Act.put, List.setIfInBounds_toArray, List.set_cons_zero, List.set_cons_succ])
  refine wpAnyH_take (i := 5) (v := ?_) rfl (by kernel_rfl) (by kernel_rfl) (by kernel_rfl) (fun _ _ _ h => h) (Or.inl ⟨by rfl, ?_⟩) (by assumption) ?_
  rotate_left
  · intro w hSw; (try dsimp only at hSw); go_simp; try with_reducible rfl
  (try simp only [List.getElem_toArray, List.getElem_cons_succ, List.getElem_cons_zero, Act.put, List.setIfInBounds_toArray, List.set_cons_zero, List.set_cons_succ])
  refine wpAnyH_take (i := 6) (v := ?_) rfl (by kernel_rfl) (by kernel_rfl) (by kernel_rfl) (fun _ _ _ h => h) (Or.inl ⟨by rfl, ?_⟩) (by assumption) ?_
  rotate_left
  · intro w hSw; (try dsimp only at hSw); go_simp; try with_reducible rfl
  (try simp only [List.getElem_toArray, List.getElem_cons_succ, List.getElem_cons_zero, Act.put, List.setIfInBounds_toArray, List.set_cons_zero, List.set_cons_succ])
  refine wpAnyH_take (i := 7) (v := ?_) rfl (by kernel_rfl) (by kernel_rfl) (by kernel_rfl) (fun _ _ _ h => h) (Or.inl ⟨by rfl, ?_⟩) (by assumption) ?_
  rotate_left
  · intro w hSw; (try dsimp only at hSw); go_simp; try with_reducible rfl
  (try simp only [List.getElem_toArray, List.getElem_cons_succ, List.getElem_cons_zero, Act.put, List.setIfInBounds_toArray, List.set_cons_zero, List.set_cons_succ])
  refine wpAnyH_ready (rs := [3, 9]) (by kernel_rfl) (by simp) ?_
  refine AllReadyH.cons rfl (fun K hK => ?_) (AllReadyH.cons rfl (fun K hK => ?_) (AllReadyH.nil))
  · go_simp
    (go_at_call 30; refine (HN8.out _).mono ?_; rintro e wx ⟨rfl, hb2⟩; try (have hq := Du2.on hq hb2))
    refine hK.out _ _ ?_ (fun hHeld => ?_)
    · (try dsimp only); first | with_reducible exact hS0.out | with_reducible exact HON.out _ _ (by assumption) hb2 | with_reducible exact HON.out _ _ (by assumption) (alloc1B _ _) | with_reducible exact HAD.out _ _ (by assumption) | with_reducible exact HST.out _ _ _ _ (by assumption) (by assumption)
    clear hK K
    (try simp only [List.getElem_toArray, List.getElem_cons_succ, List.getElem_cons_zero, Act.put, List.setIfInBounds_toArray, List.set_cons_zero, List.set_cons_succ])
    refine wpAnyH_ready (rs := [8, 9]) (by kernel_rfl) (by simp) ?_
    refine AllReadyH.cons rfl (fun K hK => ?_) (AllReadyH.cons rfl (fun K hK => ?_) (AllReadyH.nil))
    · go_simp
      (go_at_call 30; refine (HN1.out _).mono ?_; rintro e wx ⟨rfl, hb2⟩; try (have hq := Du2.on hq hb2))
      refine hK.out _ _ ?_ (fun hHeld => ?_)
      · (try dsimp only); first | with_reducible exact hS0.out | with_reducible exact HON.out _ _ (by assumption) hb2 | with_reducible exact HON.out _ _ (by assumption) (alloc1B _ _) | with_reducible exact HAD.out _ _ (by assumption) | with_reducible exact HST.out _ _ _ _ (by assumption) (by assumption)
      clear hK K
      (try simp only [List.getElem_toArray, List.getElem_cons_succ, List.getElem_cons_zero, Act.put, List.setIfInBounds_toArray, List.set_cons_zero, List.set_cons_succ])
      refine wpAnyH_ready (rs := [9]) (by kernel_rfl) (by simp) ?_
      refine AllReadyH.cons rfl (fun K hK => ?_) (AllReadyH.nil)
      · go_simp
        (first | refine K_new _ _ _ (fun q hq0 hq => ?_) | refine K_newD _ _ _ (fun q hq0 hq => ?_)); (have hqn : w.heap.size < q := (by have h9 := hHeld.2.2.2; rw [hq0]; first | exact h9 | (simp at h9 ⊢)); (try simp at hq0); rw [← hq0]; clear hq0)
        refine hK.out _ _ ?_ (fun hHeld => ?_)
        · (try dsimp only); first | with_reducible exact hS0.out | with_reducible exact HON.out _ _ (by assumption) hb2 | with_reducible exact HON.out _ _ (by assumption) (alloc1B _ _) | with_reducible exact HAD.out _ _ (by assumption) | with_reducible exact HST.out _ _ _ _ (by assumption) (by assumption)
        clear hK K
        (try simp only [List.getElem_toArray, List.getElem_cons_succ, List.getElem_cons_zero, Act.put, List.setIfInBounds_toArray, List.set_cons_zero, List.set_cons_succ])
        refine wpAnyH_ready (rs := [10]) (by kernel_rfl) (by simp) ?_
        refine AllReadyH.cons rfl (fun K hK => ?_) (AllReadyH.nil)
        · skip
          (have q0 := hq.c0; have q1 := hq.c1; have qf0 := hq.fz 0; have qf1 := hq.fz 1; have ql := hq.lt; go_simp; clear q0 q1 qf0 qf1 ql)
          refine hK.out _ _ ?_ (fun hHeld => ?_)
          · (try dsimp only); first | with_reducible exact hS0.out | with_reducible exact HON.out _ _ (by assumption) hb2 | with_reducible exact HON.out _ _ (by assumption) (alloc1B _ _) | with_reducible exact HAD.out _ _ (by assumption) | with_reducible exact HST.out _ _ _ _ (by assumption) (by assumption)
          clear hK K
          (try simp only [List.getElem_toArray, List.getElem_cons_succ, List.getElem_cons_zero, Act.put, List.setIfInBounds_toArray, List.set_cons_zero, List.set_cons_succ])
          refine wpAnyH_done (by kernel_rfl) ?_ _
          refine NoPanic.normal ?_
          have hqf := hq.set (.string (ofL E1)) (.int .i64 0)
          have HQF := Lib.hid hqf
          have HB1 := Lib.hid hHeld.2.2.1
          have HQN := Lib.hid hqn
          have e1 := hHeld.2.1
          have el := hHeld.2.2.2
          clear hHeld hS0 HON HAD HST hqf hq hqn
          go_wp2_with fail
          clear e1 el
          go_loopg [18] l.length (fun g i wr => BySt w q E1 l g i wr)
          case atStart => exact ⟨0, by omega, rfl, by rw [show Nt.pre E1 l 0 = E1 from Nt.pre_zero E1 l]; exact HQF.out, HB1.out⟩
          case round =>
            obtain ⟨k, hk, rfl, hD, hB⟩ := hrel
            have HK := Lib.hid hk
            have HD := Lib.hid hD
            have HBE := Lib.hid hB
            clear hk hD hB
            by_cases hlt : k < l.length
            · obtain ⟨bb, off, rfl, hb, y0, y1, y2⟩ := (HA.out.on HBE.out).get hlt
              have hmem : l.getD k Nt.zero ∈ l := by rw [List.getD_eq_getElem?_getD, List.getElem?_eq_getElem hlt]; exact List.getElem_mem hlt
              have hfit := HF.out _ hmem
              have h64 := H64.out _ hmem
              have HPR := Lib.hid (Nt.pre_succ E1 l hlt)
              have hpl := Nt.pre_len E1 l H64.out k (by omega)
              have hE1l : E1.length ≤ 100 := HEL.out
              have hwk : IntKind.u64.wrap ((l.getD k Nt.zero).k : Int) = ((l.getD k Nt.zero).k : Int) := by rw [IntKind.wrap_u64]; have := hfit.2.1; omega
              have hzx : (ofL (l.getD k Nt.zero).b).size = (l.getD k Nt.zero).b.length := ofL_size _
              have ht := hfit.1
              have hkk := hfit.2.1
              clear hfit hmem
              generalize l.getD k Nt.zero = x at *
              generalize Nt.pre E1 l k = P at *
              have HX8 := Lib.hid (fun W => num_l P x.t 8 8 W ht (by omega) rfl (by omega))
              obtain ⟨P8, hP8⟩ : ∃ P8, P ++ Oct.be 8 x.t = P8 := ⟨_, rfl⟩
              rw [hP8] at HX8
              have hl8 : P8.length = P.length + 8 := by rw [← hP8, List.length_append, Oct.length_be]
              have HX1 := Lib.hid (fun W => num_l P8 x.k 1 1 W (by omega) (by omega) rfl (by omega))
              obtain ⟨P9, hP9⟩ : ∃ P9, P8 ++ Oct.be 1 x.k = P9 := ⟨_, rfl⟩
              rw [hP9] at HX1
              have hl9 : P9.length = P8.length + 1 := by rw [← hP9, List.length_append, Oct.length_be]
              have HXT := Lib.hid (fun W => text_l P9 x.b W (by omega) (by omega))
              obtain ⟨P1, hP1⟩ : ∃ P1, P9 ++ (Oct.be 2 x.b.length ++ x.b) = P1 := ⟨_, rfl⟩
              rw [hP1] at HXT
              have hPP : P ++ Nt.enc1 x = P1 := by rw [← hP1, ← hP9, ← hP8]; unfold Nt.enc1; simp only [List.append_assoc]
              rw [hPP] at HPR
              have hq := HD.out.on ((alloc1B wr (.cells #[.int .u64 (x.t : Int), .int .u8 (x.k : Int), .string (ofL x.b)] 32)).drew)
              have hqw : q < wr.heap.size := HD.out.lt
              clear hP8 hP9 hP1 hPP hl8 hl9 hpl hE1l
              go_wp2_with fail
              have hS2 := Lib.hid (show (fun a => a.cell? ⟨wr.heap.size, 0, none⟩ = some (.int .u64 (x.t : Int)) ∧ a.cell? ⟨wr.heap.size, 1, none⟩ = some (.int .u8 (x.k : Int)) ∧ a.cell? ⟨wr.heap.size, 2, none⟩ = some (.string (ofL x.b)) ∧ Below w.heap.size w a ∧ wr.heap.size < a.heap.size) (wr.alloc (.cells #[.int .u64 (x.t : Int), .int .u8 (x.k : Int), .string (ofL x.b)] 32)).drew from ⟨by go_simp, by go_simp, by go_simp, (HBE.out.alloc HBE.out.size _).drew, by simp⟩)
              have HON2 := Lib.hid (fun (W W' : World) (h : (fun a => a.cell? ⟨wr.heap.size, 0, none⟩ = some (.int .u64 (x.t : Int)) ∧ a.cell? ⟨wr.heap.size, 1, none⟩ = some (.int .u8 (x.k : Int)) ∧ a.cell? ⟨wr.heap.size, 2, none⟩ = some (.string (ofL x.b)) ∧ Below w.heap.size w a ∧ wr.heap.size < a.heap.size) W) (hb : Below W.heap.size W W') => show (fun a => a.cell? ⟨wr.heap.size, 0, none⟩ = some (.int .u64 (x.t : Int)) ∧ a.cell? ⟨wr.heap.size, 1, none⟩ = some (.int .u8 (x.k : Int)) ∧ a.cell? ⟨wr.heap.size, 2, none⟩ = some (.string (ofL x.b)) ∧ Below w.heap.size w a ∧ wr.heap.size < a.heap.size) W' from ⟨(hb.cell (p := ⟨wr.heap.size, 0, none⟩) h.2.2.2.2).trans h.1, (hb.cell (p := ⟨wr.heap.size, 1, none⟩) h.2.2.2.2).trans h.2.1, (hb.cell (p := ⟨wr.heap.size, 2, none⟩) h.2.2.2.2).trans h.2.2.1, bthen h.2.2.2.1 hb (Nat.le_refl _), Nat.lt_of_lt_of_le h.2.2.2.2 hb.size⟩)
              have HST2 := Lib.hid (fun (W : World) (u v : Value) (h : (fun a => a.cell? ⟨wr.heap.size, 0, none⟩ = some (.int .u64 (x.t : Int)) ∧ a.cell? ⟨wr.heap.size, 1, none⟩ = some (.int .u8 (x.k : Int)) ∧ a.cell? ⟨wr.heap.size, 2, none⟩ = some (.string (ofL x.b)) ∧ Below w.heap.size w a ∧ wr.heap.size < a.heap.size) W) => show (fun a => a.cell? ⟨wr.heap.size, 0, none⟩ = some (.int .u64 (x.t : Int)) ∧ a.cell? ⟨wr.heap.size, 1, none⟩ = some (.int .u8 (x.k : Int)) ∧ a.cell? ⟨wr.heap.size, 2, none⟩ = some (.string (ofL x.b)) ∧ Below w.heap.size w a ∧ wr.heap.size < a.heap.size) ((W.setCell ⟨q, 0, none⟩ u).setCell ⟨q, 1, none⟩ v) from ⟨(World.cell?_setCell_other _ _ _ _ (by intro e; simp only [Addr.mk.injEq] at e; omega)).trans ((World.cell?_setCell_other _ _ _ _ (by intro e; simp only [Addr.mk.injEq] at e; omega)).trans h.1), (World.cell?_setCell_other _ _ _ _ (by intro e; simp only [Addr.mk.injEq] at e; omega)).trans ((World.cell?_setCell_other _ _ _ _ (by intro e; simp only [Addr.mk.injEq] at e; omega)).trans h.2.1), (World.cell?_setCell_other _ _ _ _ (by intro e; simp only [Addr.mk.injEq] at e; omega)).trans ((World.cell?_setCell_other _ _ _ _ (by intro e; simp only [Addr.mk.injEq] at e; omega)).trans h.2.2.1), (h.2.2.2.1.setCell (p := ⟨q, 0, none⟩) (Nat.le_of_lt HQN.out) u).setCell (p := ⟨q, 1, none⟩) (Nat.le_of_lt HQN.out) v, by simpa using h.2.2.2.2⟩)
              refine wp_region_noPanic ?_
              refine wp_region_held_drew (S := (fun a => a.cell? ⟨wr.heap.size, 0, none⟩ = some (.int .u64 (x.t : Int)) ∧ a.cell? ⟨wr.heap.size, 1, none⟩ = some (.int .u8 (x.k : Int)) ∧ a.cell? ⟨wr.heap.size, 2, none⟩ = some (.string (ofL x.b)) ∧ Below w.heap.size w a ∧ wr.heap.size < a.heap.size)) (by kernel_rfl) ?_ (fun hHeld => ?_)
              · (try dsimp only); first | with_reducible exact hS2.out | with_reducible assumption | with_reducible exact HON2.out _ _ (by assumption) hb2 | with_reducible exact HST2.out _ _ _ (by assumption)
              refine wpAnyH_take (i := 1) (v := ?_) rfl (by kernel_rfl) (by kernel_rfl) (by kernel_rfl) (fun _ _ _ h => h) (Or.inl ⟨by rfl, ?_⟩) (by assumption) ?_
              rotate_left
              · intro w hSw; (try dsimp only at hSw); go_simp; try with_reducible rfl
              (try simp only [List.getElem_toArray, List.getElem_cons_succ, List.getElem_cons_zero, Act.put, List.setIfInBounds_toArray, List.set_cons_zero, List.set_cons_succ])
              refine wpAnyH_take (i := 2) (v := ?_) rfl (by kernel_rfl) (by kernel_rfl) (by kernel_rfl) (fun _ _ _ h => h) (Or.inl ⟨by rfl, ?_⟩) (by assumption) ?_
              rotate_left
              · intro w hSw; (try dsimp only at hSw); go_simp; try with_reducible rfl
              (try simp only [List.getElem_toArray, List.getElem_cons_succ, List.getElem_cons_zero, Act.put, List.setIfInBounds_toArray, List.set_cons_zero, List.set_cons_succ])
              refine wpAnyH_take (i := 4) (v := ?_) rfl (by kernel_rfl) (by kernel_rfl) (by kernel_rfl) (fun _ _ _ h => h) (Or.inl ⟨by rfl, ?_⟩) (by assumption) ?_
              rotate_left
              · intro w hSw; (try dsimp only at hSw); go_simp; try with_reducible rfl
              (try simp only [List.getElem_toArray, List.getElem_cons_succ, List.getElem_cons_zero, Act.put, List.setIfInBounds_toArray, List.set_cons_zero, List.set_cons_succ])
              refine wpAnyH_take (i := 5) (v := ?_) rfl (by kernel_rfl) (by kernel_rfl) (by kernel_rfl) (fun _ _ _ h => h) (Or.inl ⟨by rfl, ?_⟩) (by assumption) ?_
              rotate_left
              · intro w hSw; (try dsimp only at hSw); go_simp; try with_reducible rfl
              (try simp only [List.getElem_toArray, List.getElem_cons_succ, List.getElem_cons_zero, Act.put, List.setIfInBounds_toArray, List.set_cons_zero, List.set_cons_succ])
              refine wpAnyH_take (i := 6) (v := ?_) rfl (by kernel_rfl) (by kernel_rfl) (by kernel_rfl) (fun _ _ _ h => h) (Or.inl ⟨by rfl, ?_⟩) (by assumption) ?_
              rotate_left
              · intro w hSw; (try dsimp only at hSw); go_simp; try with_reducible rfl
              (try simp only [List.getElem_toArray, List.getElem_cons_succ, List.getElem_cons_zero, Act.put, List.setIfInBounds_toArray, List.set_cons_zero, List.set_cons_succ])
              refine wpAnyH_take (i := 8) (v := ?_) rfl (by kernel_rfl) (by kernel_rfl) (by kernel_rfl) (fun _ _ _ h => h) (Or.inl ⟨by rfl, ?_⟩) (by assumption) ?_
              rotate_left
              · intro w hSw; (try dsimp only at hSw); go_simp; try with_reducible rfl
              (try simp only [List.getElem_toArray, List.getElem_cons_succ, List.getElem_cons_zero, Act.put, List.setIfInBounds_toArray, List.set_cons_zero, List.set_cons_succ])
              refine wpAnyH_take (i := 9) (v := ?_) rfl (by kernel_rfl) (by kernel_rfl) (by kernel_rfl) (fun _ _ _ h => h) (Or.inl ⟨by rfl, ?_⟩) (by assumption) ?_
              rotate_left
              · intro w hSw; (try dsimp only at hSw); go_simp; try with_reducible rfl
              (try simp only [List.getElem_toArray, List.getElem_cons_succ, List.getElem_cons_zero, Act.put, List.setIfInBounds_toArray, List.set_cons_zero, List.set_cons_succ])
              refine wpAnyH_ready (rs := [0]) (by kernel_rfl) (by simp) ?_
              refine AllReadyH.cons rfl (fun K hK => ?_) (AllReadyH.nil)
              · skip
                (have q0 := hq.c0; have q1 := hq.c1; go_simp; clear q0 q1)
                refine hK.out _ _ ?_ (fun hHeld => ?_)
                · (try dsimp only); first | with_reducible exact hS2.out | with_reducible assumption | with_reducible exact HON2.out _ _ (by assumption) hb2 | with_reducible exact HST2.out _ _ _ (by assumption)
                clear hK K
                (try simp only [List.getElem_toArray, List.getElem_cons_succ, List.getElem_cons_zero, Act.put, List.setIfInBounds_toArray, List.set_cons_zero, List.set_cons_succ])
                refine wpAnyH_ready (rs := [3]) (by kernel_rfl) (by simp) ?_
                refine AllReadyH.cons rfl (fun K hK => ?_) (AllReadyH.nil)
                · go_simp
                  (go_at_call 30; refine (HX8.out _).mono ?_; rintro e wx ⟨rfl, hb2⟩; have hq := Du2.on hq hb2)
                  refine hK.out _ _ ?_ (fun hHeld => ?_)
                  · (try dsimp only); first | with_reducible exact hS2.out | with_reducible assumption | with_reducible exact HON2.out _ _ (by assumption) hb2 | with_reducible exact HST2.out _ _ _ (by assumption)
                  clear hK K
                  (try simp only [List.getElem_toArray, List.getElem_cons_succ, List.getElem_cons_zero, Act.put, List.setIfInBounds_toArray, List.set_cons_zero, List.set_cons_succ])
                  refine wpAnyH_ready (rs := [7]) (by kernel_rfl) (by simp) ?_
                  refine AllReadyH.cons rfl (fun K hK => ?_) (AllReadyH.nil)
                  · go_simp
                    (go_at_call 30; refine (HX1.out _).mono ?_; rintro e wx ⟨rfl, hb2⟩; have hq := Du2.on hq hb2)
                    refine hK.out _ _ ?_ (fun hHeld => ?_)
                    · (try dsimp only); first | with_reducible exact hS2.out | with_reducible assumption | with_reducible exact HON2.out _ _ (by assumption) hb2 | with_reducible exact HST2.out _ _ _ (by assumption)
                    clear hK K
                    (try simp only [List.getElem_toArray, List.getElem_cons_succ, List.getElem_cons_zero, Act.put, List.setIfInBounds_toArray, List.set_cons_zero, List.set_cons_succ])
                    refine wpAnyH_ready (rs := [10]) (by kernel_rfl) (by simp) ?_
                    refine AllReadyH.cons rfl (fun K hK => ?_) (AllReadyH.nil)
                    · go_simp
                      (go_at_call 31; refine (HXT.out _).mono ?_; rintro e wx ⟨rfl, hb2⟩; have hq := Du2.on hq hb2)
                      refine hK.out _ _ ?_ (fun hHeld => ?_)
                      · (try dsimp only); first | with_reducible exact hS2.out | with_reducible assumption | with_reducible exact HON2.out _ _ (by assumption) hb2 | with_reducible exact HST2.out _ _ _ (by assumption)
                      clear hK K
                      (try simp only [List.getElem_toArray, List.getElem_cons_succ, List.getElem_cons_zero, Act.put, List.setIfInBounds_toArray, List.set_cons_zero, List.set_cons_succ])
                      refine wpAnyH_ready (rs := [11]) (by kernel_rfl) (by simp) ?_
                      refine AllReadyH.cons rfl (fun K hK => ?_) (AllReadyH.nil)
                      · skip
                        (have q0 := hq.c0; have q1 := hq.c1; have qf0 := hq.fz 0; have qf1 := hq.fz 1; have ql := hq.lt; go_simp; clear q0 q1 qf0 qf1 ql)
                        refine hK.out _ _ ?_ (fun hHeld => ?_)
                        · (try dsimp only); first | with_reducible exact hS2.out | with_reducible assumption | with_reducible exact HON2.out _ _ (by assumption) hb2 | with_reducible exact HST2.out _ _ _ (by assumption)
                        clear hK K
                        (try simp only [List.getElem_toArray, List.getElem_cons_succ, List.getElem_cons_zero, Act.put, List.setIfInBounds_toArray, List.set_cons_zero, List.set_cons_succ])
                        refine wpAnyH_done (by kernel_rfl) ?_ _
                        refine NoPanic.normal ?_
                        have hqf := hq.set (.string (ofL P1)) (.int .i64 0)
                        have HQX := Lib.hid hqf
                        have HBX := Lib.hid hHeld.2.2.2.1
                        clear hHeld hS2 HON2 HST2 hqf
                        go_wp2_with fail
                        go_roundg (gk - 1)
                        case rel => exact ⟨k + 1, by have := HK.out; omega, by go_num, by rw [HPR.out]; exact HQX.out, HBX.out⟩
                        case measure => have := HK.out; omega
            · have hkl : k = l.length := by have := HK.out; omega
              have HOS := Lib.hid (fun W => ostrN_any (Nt.pre E1 l k) W)
              have e0 := HD.out.c0
              have e1 := HD.out.c1
              have hall : Nt.pre E1 l k = Nt.enc T l := by rw [hkl, Nt.pre_all, ← HE1.out, ← HE0.out]; unfold Nt.enc; rw [List.nil_append]
              rw [hall] at HOS e0
              clear hkl hall
              go_wp2_with fail
              refine (HOS.out _).mono ?_
              rintro e wy ⟨rfl, by1⟩
              have HBY := Lib.hid (bthen HBE.out by1 (Nat.le_refl _))
              clear by1
              go_wp2_with fail
              go_ret
              exact ⟨rfl, HBY.out⟩
    · go_simp
      (first | refine K_new _ _ _ (fun q hq0 hq => ?_) | refine K_newD _ _ _ (fun q hq0 hq => ?_)); (have hqn : w.heap.size < q := (by have h9 := hHeld.2.2.2; rw [hq0]; first | exact h9 | (simp at h9 ⊢)); (try simp at hq0); rw [← hq0]; clear hq0)
      refine hK.out _ _ ?_ (fun hHeld => ?_)
      · (try dsimp only); first | with_reducible exact hS0.out | with_reducible exact HON.out _ _ (by assumption) hb2 | with_reducible exact HON.out _ _ (by assumption) (alloc1B _ _) | with_reducible exact HAD.out _ _ (by assumption) | with_reducible exact HST.out _ _ _ _ (by assumption) (by assumption)
      clear hK K
      (try simp only [List.getElem_toArray, List.getElem_cons_succ, List.getElem_cons_zero, Act.put, List.setIfInBounds_toArray, List.set_cons_zero, List.set_cons_succ])
      refine wpAnyH_ready (rs := [8]) (by kernel_rfl) (by simp) ?_
      refine AllReadyH.cons rfl (fun K hK => ?_) (AllReadyH.nil)
      · go_simp
        (go_at_call 30; refine (HN1.out _).mono ?_; rintro e wx ⟨rfl, hb2⟩; try (have hq := Du2.on hq hb2))
        refine hK.out _ _ ?_ (fun hHeld => ?_)
        · (try dsimp only); first | with_reducible exact hS0.out | with_reducible exact HON.out _ _ (by assumption) hb2 | with_reducible exact HON.out _ _ (by assumption) (alloc1B _ _) | with_reducible exact HAD.out _ _ (by assumption) | with_reducible exact HST.out _ _ _ _ (by assumption) (by assumption)
        clear hK K
        (try simp only [List.getElem_toArray, List.getElem_cons_succ, List.getElem_cons_zero, Act.put, List.setIfInBounds_toArray, List.set_cons_zero, List.set_cons_succ])
        refine wpAnyH_ready (rs := [10]) (by kernel_rfl) (by simp) ?_
        refine AllReadyH.cons rfl (fun K hK => ?_) (AllReadyH.nil)
        · skip
          (have q0 := hq.c0; have q1 := hq.c1; have qf0 := hq.fz 0; have qf1 := hq.fz 1; have ql := hq.lt; go_simp; clear q0 q1 qf0 qf1 ql)
          refine hK.out _ _ ?_ (fun hHeld => ?_)
          · (try dsimp only); first | with_reducible exact hS0.out | with_reducible exact HON.out _ _ (by assumption) hb2 | with_reducible exact HON.out _ _ (by assumption) (alloc1B _ _) | with_reducible exact HAD.out _ _ (by assumption) | with_reducible exact HST.out _ _ _ _ (by assumption) (by assumption)
          clear hK K
          (try simp only [List.getElem_toArray, List.getElem_cons_succ, List.getElem_cons_zero, Act.put, List.setIfInBounds_toArray, List.set_cons_zero, List.set_cons_succ])
          refine wpAnyH_done (by kernel_rfl) ?_ _
          refine NoPanic.normal ?_
          have hqf := hq.set (.string (ofL E1)) (.int .i64 0)
          have HQF := Lib.hid hqf
          have HB1 := Lib.hid hHeld.2.2.1
          have HQN := Lib.hid hqn
          have e1 := hHeld.2.1
          have el := hHeld.2.2.2
          clear hHeld hS0 HON HAD HST hqf hq hqn
          go_wp2_with fail
          clear e1 el
          go_loopg [18] l.length (fun g i wr => BySt w q E1 l g i wr)
          case atStart => exact ⟨0, by omega, rfl, by rw [show Nt.pre E1 l 0 = E1 from Nt.pre_zero E1 l]; exact HQF.out, HB1.out⟩
          case round =>
            obtain ⟨k, hk, rfl, hD, hB⟩ := hrel
            have HK := Lib.hid hk
            have HD := Lib.hid hD
            have HBE := Lib.hid hB
            clear hk hD hB
            by_cases hlt : k < l.length
            · obtain ⟨bb, off, rfl, hb, y0, y1, y2⟩ := (HA.out.on HBE.out).get hlt
              have hmem : l.getD k Nt.zero ∈ l := by rw [List.getD_eq_getElem?_getD, List.getElem?_eq_getElem hlt]; exact List.getElem_mem hlt
              have hfit := HF.out _ hmem
              have h64 := H64.out _ hmem
              have HPR := Lib.hid (Nt.pre_succ E1 l hlt)
              have hpl := Nt.pre_len E1 l H64.out k (by omega)
              have hE1l : E1.length ≤ 100 := HEL.out
              have hwk : IntKind.u64.wrap ((l.getD k Nt.zero).k : Int) = ((l.getD k Nt.zero).k : Int) := by rw [IntKind.wrap_u64]; have := hfit.2.1; omega
              have hzx : (ofL (l.getD k Nt.zero).b).size = (l.getD k Nt.zero).b.length := ofL_size _
              have ht := hfit.1
              have hkk := hfit.2.1
              clear hfit hmem
              generalize l.getD k Nt.zero = x at *
              generalize Nt.pre E1 l k = P at *
              have HX8 := Lib.hid (fun W => num_l P x.t 8 8 W ht (by omega) rfl (by omega))
              obtain ⟨P8, hP8⟩ : ∃ P8, P ++ Oct.be 8 x.t = P8 := ⟨_, rfl⟩
              rw [hP8] at HX8
              have hl8 : P8.length = P.length + 8 := by rw [← hP8, List.length_append, Oct.length_be]
              have HX1 := Lib.hid (fun W => num_l P8 x.k 1 1 W (by omega) (by omega) rfl (by omega))
              obtain ⟨P9, hP9⟩ : ∃ P9, P8 ++ Oct.be 1 x.k = P9 := ⟨_, rfl⟩
              rw [hP9] at HX1
              have hl9 : P9.length = P8.length + 1 := by rw [← hP9, List.length_append, Oct.length_be]
              have HXT := Lib.hid (fun W => text_l P9 x.b W (by omega) (by omega))
              obtain ⟨P1, hP1⟩ : ∃ P1, P9 ++ (Oct.be 2 x.b.length ++ x.b) = P1 := ⟨_, rfl⟩
              rw [hP1] at HXT
              have hPP : P ++ Nt.enc1 x = P1 := by rw [← hP1, ← hP9, ← hP8]; unfold Nt.enc1; simp only [List.append_assoc]
              rw [hPP] at HPR
              have hq := HD.out.on ((alloc1B wr (.cells #[.int .u64 (x.t : Int), .int .u8 (x.k : Int), .string (ofL x.b)] 32)).drew)
              have hqw : q < wr.heap.size := HD.out.lt
              clear hP8 hP9 hP1 hPP hl8 hl9 hpl hE1l
              go_wp2_with fail
              have hS2 := Lib.hid (show (fun a => a.cell? ⟨wr.heap.size, 0, none⟩ = some (.int .u64 (x.t : Int)) ∧ a.cell? ⟨wr.heap.size, 1, none⟩ = some (.int .u8 (x.k : Int)) ∧ a.cell? ⟨wr.heap.size, 2, none⟩ = some (.string (ofL x.b)) ∧ Below w.heap.size w a ∧ wr.heap.size < a.heap.size) (wr.alloc (.cells #[.int .u64 (x.t : Int), .int .u8 (x.k : Int), .string (ofL x.b)] 32)).drew from ⟨by go_simp, by go_simp, by go_simp, (HBE.out.alloc HBE.out.size _).drew, by simp⟩)
              have HON2 := Lib.hid (fun (W W' : World) (h : (fun a => a.cell? ⟨wr.heap.size, 0, none⟩ = some (.int .u64 (x.t : Int)) ∧ a.cell? ⟨wr.heap.size, 1, none⟩ = some (.int .u8 (x.k : Int)) ∧ a.cell? ⟨wr.heap.size, 2, none⟩ = some (.string (ofL x.b)) ∧ Below w.heap.size w a ∧ wr.heap.size < a.heap.size) W) (hb : Below W.heap.size W W') => show (fun a => a.cell? ⟨wr.heap.size, 0, none⟩ = some (.int .u64 (x.t : Int)) ∧ a.cell? ⟨wr.heap.size, 1, none⟩ = some (.int .u8 (x.k : Int)) ∧ a.cell? ⟨wr.heap.size, 2, none⟩ = some (.string (ofL x.b)) ∧ Below w.heap.size w a ∧ wr.heap.size < a.heap.size) W' from ⟨(hb.cell (p := ⟨wr.heap.size, 0, none⟩) h.2.2.2.2).trans h.1, (hb.cell (p := ⟨wr.heap.size, 1, none⟩) h.2.2.2.2).trans h.2.1, (hb.cell (p := ⟨wr.heap.size, 2, none⟩) h.2.2.2.2).trans h.2.2.1, bthen h.2.2.2.1 hb (Nat.le_refl _), Nat.lt_of_lt_of_le h.2.2.2.2 hb.size⟩)
              have HST2 := Lib.hid (fun (W : World) (u v : Value) (h : (fun a => a.cell? ⟨wr.heap.size, 0, none⟩ = some (.int .u64 (x.t : Int)) ∧ a.cell? ⟨wr.heap.size, 1, none⟩ = some (.int .u8 (x.k : Int)) ∧ a.cell? ⟨wr.heap.size, 2, none⟩ = some (.string (ofL x.b)) ∧ Below w.heap.size w a ∧ wr.heap.size < a.heap.size) W) => show (fun a => a.cell? ⟨wr.heap.size, 0, none⟩ = some (.int .u64 (x.t : Int)) ∧ a.cell? ⟨wr.heap.size, 1, none⟩ = some (.int .u8 (x.k : Int)) ∧ a.cell? ⟨wr.heap.size, 2, none⟩ = some (.string (ofL x.b)) ∧ Below w.heap.size w a ∧ wr.heap.size < a.heap.size) ((W.setCell ⟨q, 0, none⟩ u).setCell ⟨q, 1, none⟩ v) from ⟨(World.cell?_setCell_other _ _ _ _ (by intro e; simp only [Addr.mk.injEq] at e; omega)).trans ((World.cell?_setCell_other _ _ _ _ (by intro e; simp only [Addr.mk.injEq] at e; omega)).trans h.1), (World.cell?_setCell_other _ _ _ _ (by intro e; simp only [Addr.mk.injEq] at e; omega)).trans ((World.cell?_setCell_other _ _ _ _ (by intro e; simp only [Addr.mk.injEq] at e; omega)).trans h.2.1), (World.cell?_setCell_other _ _ _ _ (by intro e; simp only [Addr.mk.injEq] at e; omega)).trans ((World.cell?_setCell_other _ _ _ _ (by intro e; simp only [Addr.mk.injEq] at e; omega)).trans h.2.2.1), (h.2.2.2.1.setCell (p := ⟨q, 0, none⟩) (Nat.le_of_lt HQN.out) u).setCell (p := ⟨q, 1, none⟩) (Nat.le_of_lt HQN.out) v, by simpa using h.2.2.2.2⟩)
              refine wp_region_noPanic ?_
              refine wp_region_held_drew (S := (fun a => a.cell? ⟨wr.heap.size, 0, none⟩ = some (.int .u64 (x.t : Int)) ∧ a.cell? ⟨wr.heap.size, 1, none⟩ = some (.int .u8 (x.k : Int)) ∧ a.cell? ⟨wr.heap.size, 2, none⟩ = some (.string (ofL x.b)) ∧ Below w.heap.size w a ∧ wr.heap.size < a.heap.size)) (by kernel_rfl) ?_ (fun hHeld => ?_)
              · (try dsimp only); first | with_reducible exact hS2.out | with_reducible assumption | with_reducible exact HON2.out _ _ (by assumption) hb2 | with_reducible exact HST2.out _ _ _ (by assumption)
              refine wpAnyH_take (i := 1) (v := ?_) rfl (by kernel_rfl) (by kernel_rfl) (by kernel_rfl) (fun _ _ _ h => h) (Or.inl ⟨by rfl, ?_⟩) (by assumption) ?_
              rotate_left
              · intro w hSw; (try dsimp only at hSw); go_simp; try with_reducible rfl
              (try simp only [List.getElem_toArray, List.getElem_cons_succ, List.getElem_cons_zero, Act.put, List.setIfInBounds_toArray, List.set_cons_zero, List.set_cons_succ])
              refine wpAnyH_take (i := 2) (v := ?_) rfl (by kernel_rfl) (by kernel_rfl) (by kernel_rfl) (fun _ _ _ h => h) (Or.inl ⟨by rfl, ?_⟩) (by assumption) ?_
              rotate_left
              · intro w hSw; (try dsimp only at hSw); go_simp; try with_reducible rfl
              (try simp only [List.getElem_toArray, List.getElem_cons_succ, List.getElem_cons_zero, Act.put, List.setIfInBounds_toArray, List.set_cons_zero, List.set_cons_succ])
              refine wpAnyH_take (i := 4) (v := ?_) rfl (by kernel_rfl) (by kernel_rfl) (by kernel_rfl) (fun _ _ _ h => h) (Or.inl ⟨by rfl, ?_⟩) (by assumption) ?_
              rotate_left
              · intro w hSw; (try dsimp only at hSw); go_simp; try with_reducible rfl
              (try simp only [List.getElem_toArray, List.getElem_cons_succ, List.getElem_cons_zero, Act.put, List.setIfInBounds_toArray, List.set_cons_zero, List.set_cons_succ])
              refine wpAnyH_take (i := 5) (v := ?_) rfl (by kernel_rfl) (by kernel_rfl) (by kernel_rfl) (fun _ _ _ h => h) (Or.inl ⟨by rfl, ?_⟩) (by assumption) ?_
              rotate_left
              · intro w hSw; (try dsimp only at hSw); go_simp; try with_reducible rfl
              (try simp only [List.getElem_toArray, List.getElem_cons_succ, List.getElem_cons_zero, Act.put, List.setIfInBounds_toArray, List.set_cons_zero, List.set_cons_succ])
              refine wpAnyH_take (i := 6) (v := ?_) rfl (by kernel_rfl) (by kernel_rfl) (by kernel_rfl) (fun _ _ _ h => h) (Or.inl ⟨by rfl, ?_⟩) (by assumption) ?_
              rotate_left
              · intro w hSw; (try dsimp only at hSw); go_simp; try with_reducible rfl
              (try simp only [List.getElem_toArray, List.getElem_cons_succ, List.getElem_cons_zero, Act.put, List.setIfInBounds_toArray, List.set_cons_zero, List.set_cons_succ])
              refine wpAnyH_take (i := 8) (v := ?_) rfl (by kernel_rfl) (by kernel_rfl) (by kernel_rfl) (fun _ _ _ h => h) (Or.inl ⟨by rfl, ?_⟩) (by assumption) ?_
              rotate_left
              · intro w hSw; (try dsimp only at hSw); go_simp; try with_reducible rfl
              (try simp only [List.getElem_toArray, List.getElem_cons_succ, List.getElem_cons_zero, Act.put, List.setIfInBounds_toArray, List.set_cons_zero, List.set_cons_succ])
              refine wpAnyH_take (i := 9) (v := ?_) rfl (by kernel_rfl) (by kernel_rfl) (by kernel_rfl) (fun _ _ _ h => h) (Or.inl ⟨by rfl, ?_⟩) (by assumption) ?_
              rotate_left
              · intro w hSw; (try dsimp only at hSw); go_simp; try with_reducible rfl
              (try simp only [List.getElem_toArray, List.getElem_cons_succ, List.getElem_cons_zero, Act.put, List.setIfInBounds_toArray, List.set_cons_zero, List.set_cons_succ])
              refine wpAnyH_ready (rs := [0]) (by kernel_rfl) (by simp) ?_
              refine AllReadyH.cons rfl (fun K hK => ?_) (AllReadyH.nil)
              · skip
                (have q0 := hq.c0; have q1 := hq.c1; go_simp; clear q0 q1)
                refine hK.out _ _ ?_ (fun hHeld => ?_)
                · (try dsimp only); first | with_reducible exact hS2.out | with_reducible assumption | with_reducible exact HON2.out _ _ (by assumption) hb2 | with_reducible exact HST2.out _ _ _ (by assumption)
                clear hK K
                (try simp only [List.getElem_toArray, List.getElem_cons_succ, List.getElem_cons_zero, Act.put, List.setIfInBounds_toArray, List.set_cons_zero, List.set_cons_succ])
                refine wpAnyH_ready (rs := [3]) (by kernel_rfl) (by simp) ?_
                refine AllReadyH.cons rfl (fun K hK => ?_) (AllReadyH.nil)
                · go_simp
                  (go_at_call 30; refine (HX8.out _).mono ?_; rintro e wx ⟨rfl, hb2⟩; have hq := Du2.on hq hb2)
                  refine hK.out _ _ ?_ (fun hHeld => ?_)
                  · (try dsimp only); first | with_reducible exact hS2.out | with_reducible assumption | with_reducible exact HON2.out _ _ (by assumption) hb2 | with_reducible exact HST2.out _ _ _ (by assumption)
                  clear hK K
                  (try simp only [List.getElem_toArray, List.getElem_cons_succ, List.getElem_cons_zero, Act.put, List.setIfInBounds_toArray, List.set_cons_zero, List.set_cons_succ])
                  refine wpAnyH_ready (rs := [7]) (by kernel_rfl) (by simp) ?_
                  refine AllReadyH.cons rfl (fun K hK => ?_) (AllReadyH.nil)
                  · go_simp
                    (go_at_call 30; refine (HX1.out _).mono ?_; rintro e wx ⟨rfl, hb2⟩; have hq := Du2.on hq hb2)
                    refine hK.out _ _ ?_ (fun hHeld => ?_)
                    · (try dsimp only); first | with_reducible exact hS2.out | with_reducible assumption | with_reducible exact HON2.out _ _ (by assumption) hb2 | with_reducible exact HST2.out _ _ _ (by assumption)
                    clear hK K
                    (try simp only [List.getElem_toArray, List.getElem_cons_succ, List.getElem_cons_zero, Act.put, List.setIfInBounds_toArray, List.set_cons_zero, List.set_cons_succ])
                    refine wpAnyH_ready (rs := [10]) (by kernel_rfl) (by simp) ?_
                    refine AllReadyH.cons rfl (fun K hK => ?_) (AllReadyH.nil)
                    · go_simp
                      (go_at_call 31; refine (HXT.out _).mono ?_; rintro e wx ⟨rfl, hb2⟩; have hq := Du2.on hq hb2)
                      refine hK.out _ _ ?_ (fun hHeld => ?_)
                      · (try dsimp only); first | with_reducible exact hS2.out | with_reducible assumption | with_reducible exact HON2.out _ _ (by assumption) hb2 | with_reducible exact HST2.out _ _ _ (by assumption)
                      clear hK K
                      (try simp only [List.getElem_toArray, List.getElem_cons_succ, List.getElem_cons_zero, Act.put, List.setIfInBounds_toArray, List.set_cons_zero, List.set_cons_succ])
                      refine wpAnyH_ready (rs := [11]) (by kernel_rfl) (by simp) ?_
                      refine AllReadyH.cons rfl (fun K hK => ?_) (AllReadyH.nil)
                      · skip
                        (have q0 := hq.c0; have q1 := hq.c1; have qf0 := hq.fz 0; have qf1 := hq.fz 1; have ql := hq.lt; go_simp; clear q0 q1 qf0 qf1 ql)
                        refine hK.out _ _ ?_ (fun hHeld => ?_)
                        · (try dsimp only); first | with_reducible exact hS2.out | with_reducible assumption | with_reducible exact HON2.out _ _ (by assumption) hb2 | with_reducible exact HST2.out _ _ _ (by assumption)
                        clear hK K
                        (try simp only [List.getElem_toArray, List.getElem_cons_succ, List.getElem_cons_zero, Act.put, List.setIfInBounds_toArray, List.set_cons_zero, List.set_cons_succ])
                        refine wpAnyH_done (by kernel_rfl) ?_ _
                        refine NoPanic.normal ?_
                        have hqf := hq.set (.string (ofL P1)) (.int .i64 0)
                        have HQX := Lib.hid hqf
                        have HBX := Lib.hid hHeld.2.2.2.1
                        clear hHeld hS2 HON2 HST2 hqf
                        go_wp2_with fail
                        go_roundg (gk - 1)
                        case rel => exact ⟨k + 1, by have := HK.out; omega, by go_num, by rw [HPR.out]; exact HQX.out, HBX.out⟩
                        case measure => have := HK.out; omega
            · have hkl : k = l.length := by have := HK.out; omega
              have HOS := Lib.hid (fun W => ostrN_any (Nt.pre E1 l k) W)
              have e0 := HD.out.c0
              have e1 := HD.out.c1
              have hall : Nt.pre E1 l k = Nt.enc T l := by rw [hkl, Nt.pre_all, ← HE1.out, ← HE0.out]; unfold Nt.enc; rw [List.nil_append]
              rw [hall] at HOS e0
              clear hkl hall
              go_wp2_with fail
              refine (HOS.out _).mono ?_
              rintro e wy ⟨rfl, by1⟩
              have HBY := Lib.hid (bthen HBE.out by1 (Nat.le_refl _))
              clear by1
              go_wp2_with fail
              go_ret
              exact ⟨rfl, HBY.out⟩
  · go_simp
    (first | refine K_new _ _ _ (fun q hq0 hq => ?_) | refine K_newD _ _ _ (fun q hq0 hq => ?_)); (have hqn : w.heap.size < q := (by have h9 := hHeld.2.2.2; rw [hq0]; first | exact h9 | (simp at h9 ⊢)); (try simp at hq0); rw [← hq0]; clear hq0)
    refine hK.out _ _ ?_ (fun hHeld => ?_)
    · (try dsimp only); first | with_reducible exact hS0.out | with_reducible exact HON.out _ _ (by assumption) hb2 | with_reducible exact HON.out _ _ (by assumption) (alloc1B _ _) | with_reducible exact HAD.out _ _ (by assumption) | with_reducible exact HST.out _ _ _ _ (by assumption) (by assumption)
    clear hK K
    (try simp only [List.getElem_toArray, List.getElem_cons_succ, List.getElem_cons_zero, Act.put, List.setIfInBounds_toArray, List.set_cons_zero, List.set_cons_succ])
    refine wpAnyH_ready (rs := [3]) (by kernel_rfl) (by simp) ?_
    refine AllReadyH.cons rfl (fun K hK => ?_) (AllReadyH.nil)
    · go_simp
      (go_at_call 30; refine (HN8.out _).mono ?_; rintro e wx ⟨rfl, hb2⟩; try (have hq := Du2.on hq hb2))
      refine hK.out _ _ ?_ (fun hHeld => ?_)
      · (try dsimp only); first | with_reducible exact hS0.out | with_reducible exact HON.out _ _ (by assumption) hb2 | with_reducible exact HON.out _ _ (by assumption) (alloc1B _ _) | with_reducible exact HAD.out _ _ (by assumption) | with_reducible exact HST.out _ _ _ _ (by assumption) (by assumption)
      clear hK K
      (try simp only [List.getElem_toArray, List.getElem_cons_succ, List.getElem_cons_zero, Act.put, List.setIfInBounds_toArray, List.set_cons_zero, List.set_cons_succ])
      refine wpAnyH_ready (rs := [8]) (by kernel_rfl) (by simp) ?_
      refine AllReadyH.cons rfl (fun K hK => ?_) (AllReadyH.nil)
      · go_simp
        (go_at_call 30; refine (HN1.out _).mono ?_; rintro e wx ⟨rfl, hb2⟩; try (have hq := Du2.on hq hb2))
        refine hK.out _ _ ?_ (fun hHeld => ?_)
        · (try dsimp only); first | with_reducible exact hS0.out | with_reducible exact HON.out _ _ (by assumption) hb2 | with_reducible exact HON.out _ _ (by assumption) (alloc1B _ _) | with_reducible exact HAD.out _ _ (by assumption) | with_reducible exact HST.out _ _ _ _ (by assumption) (by assumption)
        clear hK K
        (try simp only [List.getElem_toArray, List.getElem_cons_succ, List.getElem_cons_zero, Act.put, List.setIfInBounds_toArray, List.set_cons_zero, List.set_cons_succ])
        refine wpAnyH_ready (rs := [10]) (by kernel_rfl) (by simp) ?_
        refine AllReadyH.cons rfl (fun K hK => ?_) (AllReadyH.nil)
        · skip
          (have q0 := hq.c0; have q1 := hq.c1; have qf0 := hq.fz 0; have qf1 := hq.fz 1; have ql := hq.lt; go_simp; clear q0 q1 qf0 qf1 ql)
          refine hK.out _ _ ?_ (fun hHeld => ?_)
          · (try dsimp only); first | with_reducible exact hS0.out | with_reducible exact HON.out _ _ (by assumption) hb2 | with_reducible exact HON.out _ _ (by assumption) (alloc1B _ _) | with_reducible exact HAD.out _ _ (by assumption) | with_reducible exact HST.out _ _ _ _ (by assumption) (by assumption)
          clear hK K
          (try simp only [List.getElem_toArray, List.getElem_cons_succ, List.getElem_cons_zero, Act.put, List.setIfInBounds_toArray, List.set_cons_zero, List.set_cons_succ])
          refine wpAnyH_done (by kernel_rfl) ?_ _
          refine NoPanic.normal ?_
          have hqf := hq.set (.string (ofL E1)) (.int .i64 0)
          have HQF := Lib.hid hqf
          have HB1 := Lib.hid hHeld.2.2.1
          have HQN := Lib.hid hqn
          have e1 := hHeld.2.1
          have el := hHeld.2.2.2
          clear hHeld hS0 HON HAD HST hqf hq hqn
          go_wp2_with fail
          clear e1 el
          go_loopg [18] l.length (fun g i wr => BySt w q E1 l g i wr)
          case atStart => exact ⟨0, by omega, rfl, by rw [show Nt.pre E1 l 0 = E1 from Nt.pre_zero E1 l]; exact HQF.out, HB1.out⟩
          case round =>
            obtain ⟨k, hk, rfl, hD, hB⟩ := hrel
            have HK := Lib.hid hk
            have HD := Lib.hid hD
            have HBE := Lib.hid hB
            clear hk hD hB
            by_cases hlt : k < l.length
            · obtain ⟨bb, off, rfl, hb, y0, y1, y2⟩ := (HA.out.on HBE.out).get hlt
              have hmem : l.getD k Nt.zero ∈ l := by rw [List.getD_eq_getElem?_getD, List.getElem?_eq_getElem hlt]; exact List.getElem_mem hlt
              have hfit := HF.out _ hmem
              have h64 := H64.out _ hmem
              have HPR := Lib.hid (Nt.pre_succ E1 l hlt)
              have hpl := Nt.pre_len E1 l H64.out k (by omega)
              have hE1l : E1.length ≤ 100 := HEL.out
              have hwk : IntKind.u64.wrap ((l.getD k Nt.zero).k : Int) = ((l.getD k Nt.zero).k : Int) := by rw [IntKind.wrap_u64]; have := hfit.2.1; omega
              have hzx : (ofL (l.getD k Nt.zero).b).size = (l.getD k Nt.zero).b.length := ofL_size _
              have ht := hfit.1
              have hkk := hfit.2.1
              clear hfit hmem
              generalize l.getD k Nt.zero = x at *
              generalize Nt.pre E1 l k = P at *
              have HX8 := Lib.hid (fun W => num_l P x.t 8 8 W ht (by omega) rfl (by omega))
              obtain ⟨P8, hP8⟩ : ∃ P8, P ++ Oct.be 8 x.t = P8 := ⟨_, rfl⟩
              rw [hP8] at HX8
              have hl8 : P8.length = P.length + 8 := by rw [← hP8, List.length_append, Oct.length_be]
              have HX1 := Lib.hid (fun W => num_l P8 x.k 1 1 W (by omega) (by omega) rfl (by omega))
              obtain ⟨P9, hP9⟩ : ∃ P9, P8 ++ Oct.be 1 x.k = P9 := ⟨_, rfl⟩
              rw [hP9] at HX1
              have hl9 : P9.length = P8.length + 1 := by rw [← hP9, List.length_append, Oct.length_be]
              have HXT := Lib.hid (fun W => text_l P9 x.b W (by omega) (by omega))
              obtain ⟨P1, hP1⟩ : ∃ P1, P9 ++ (Oct.be 2 x.b.length ++ x.b) = P1 := ⟨_, rfl⟩
              rw [hP1] at HXT
              have hPP : P ++ Nt.enc1 x = P1 := by rw [← hP1, ← hP9, ← hP8]; unfold Nt.enc1; simp only [List.append_assoc]
              rw [hPP] at HPR
              have hq := HD.out.on ((alloc1B wr (.cells #[.int .u64 (x.t : Int), .int .u8 (x.k : Int), .string (ofL x.b)] 32)).drew)
              have hqw : q < wr.heap.size := HD.out.lt
              clear hP8 hP9 hP1 hPP hl8 hl9 hpl hE1l
              go_wp2_with fail
              have hS2 := Lib.hid (show (fun a => a.cell? ⟨wr.heap.size, 0, none⟩ = some (.int .u64 (x.t : Int)) ∧ a.cell? ⟨wr.heap.size, 1, none⟩ = some (.int .u8 (x.k : Int)) ∧ a.cell? ⟨wr.heap.size, 2, none⟩ = some (.string (ofL x.b)) ∧ Below w.heap.size w a ∧ wr.heap.size < a.heap.size) (wr.alloc (.cells #[.int .u64 (x.t : Int), .int .u8 (x.k : Int), .string (ofL x.b)] 32)).drew from ⟨by go_simp, by go_simp, by go_simp, (HBE.out.alloc HBE.out.size _).drew, by simp⟩)
              have HON2 := Lib.hid (fun (W W' : World) (h : (fun a => a.cell? ⟨wr.heap.size, 0, none⟩ = some (.int .u64 (x.t : Int)) ∧ a.cell? ⟨wr.heap.size, 1, none⟩ = some (.int .u8 (x.k : Int)) ∧ a.cell? ⟨wr.heap.size, 2, none⟩ = some (.string (ofL x.b)) ∧ Below w.heap.size w a ∧ wr.heap.size < a.heap.size) W) (hb : Below W.heap.size W W') => show (fun a => a.cell? ⟨wr.heap.size, 0, none⟩ = some (.int .u64 (x.t : Int)) ∧ a.cell? ⟨wr.heap.size, 1, none⟩ = some (.int .u8 (x.k : Int)) ∧ a.cell? ⟨wr.heap.size, 2, none⟩ = some (.string (ofL x.b)) ∧ Below w.heap.size w a ∧ wr.heap.size < a.heap.size) W' from ⟨(hb.cell (p := ⟨wr.heap.size, 0, none⟩) h.2.2.2.2).trans h.1, (hb.cell (p := ⟨wr.heap.size, 1, none⟩) h.2.2.2.2).trans h.2.1, (hb.cell (p := ⟨wr.heap.size, 2, none⟩) h.2.2.2.2).trans h.2.2.1, bthen h.2.2.2.1 hb (Nat.le_refl _), Nat.lt_of_lt_of_le h.2.2.2.2 hb.size⟩)
              have HST2 := Lib.hid (fun (W : World) (u v : Value) (h : (fun a => a.cell? ⟨wr.heap.size, 0, none⟩ = some (.int .u64 (x.t : Int)) ∧ a.cell? ⟨wr.heap.size, 1, none⟩ = some (.int .u8 (x.k : Int)) ∧ a.cell? ⟨wr.heap.size, 2, none⟩ = some (.string (ofL x.b)) ∧ Below w.heap.size w a ∧ wr.heap.size < a.heap.size) W) => show (fun a => a.cell? ⟨wr.heap.size, 0, none⟩ = some (.int .u64 (x.t : Int)) ∧ a.cell? ⟨wr.heap.size, 1, none⟩ = some (.int .u8 (x.k : Int)) ∧ a.cell? ⟨wr.heap.size, 2, none⟩ = some (.string (ofL x.b)) ∧ Below w.heap.size w a ∧ wr.heap.size < a.heap.size) ((W.setCell ⟨q, 0, none⟩ u).setCell ⟨q, 1, none⟩ v) from ⟨(World.cell?_setCell_other _ _ _ _ (by intro e; simp only [Addr.mk.injEq] at e; omega)).trans ((World.cell?_setCell_other _ _ _ _ (by intro e; simp only [Addr.mk.injEq] at e; omega)).trans h.1), (World.cell?_setCell_other _ _ _ _ (by intro e; simp only [Addr.mk.injEq] at e; omega)).trans ((World.cell?_setCell_other _ _ _ _ (by intro e; simp only [Addr.mk.injEq] at e; omega)).trans h.2.1), (World.cell?_setCell_other _ _ _ _ (by intro e; simp only [Addr.mk.injEq] at e; omega)).trans ((World.cell?_setCell_other _ _ _ _ (by intro e; simp only [Addr.mk.injEq] at e; omega)).trans h.2.2.1), (h.2.2.2.1.setCell (p := ⟨q, 0, none⟩) (Nat.le_of_lt HQN.out) u).setCell (p := ⟨q, 1, none⟩) (Nat.le_of_lt HQN.out) v, by simpa using h.2.2.2.2⟩)
              refine wp_region_noPanic ?_
              refine wp_region_held_drew (S := (fun a => a.cell? ⟨wr.heap.size, 0, none⟩ = some (.int .u64 (x.t : Int)) ∧ a.cell? ⟨wr.heap.size, 1, none⟩ = some (.int .u8 (x.k : Int)) ∧ a.cell? ⟨wr.heap.size, 2, none⟩ = some (.string (ofL x.b)) ∧ Below w.heap.size w a ∧ wr.heap.size < a.heap.size)) (by kernel_rfl) ?_ (fun hHeld => ?_)
              · (try dsimp only); first | with_reducible exact hS2.out | with_reducible assumption | with_reducible exact HON2.out _ _ (by assumption) hb2 | with_reducible exact HST2.out _ _ _ (by assumption)
              refine wpAnyH_take (i := 1) (v := ?_) rfl (by kernel_rfl) (by kernel_rfl) (by kernel_rfl) (fun _ _ _ h => h) (Or.inl ⟨by rfl, ?_⟩) (by assumption) ?_
              rotate_left
              · intro w hSw; (try dsimp only at hSw); go_simp; try with_reducible rfl
              (try simp only [List.getElem_toArray, List.getElem_cons_succ, List.getElem_cons_zero, Act.put, List.setIfInBounds_toArray, List.set_cons_zero, List.set_cons_succ])
              refine wpAnyH_take (i := 2) (v := ?_) rfl (by kernel_rfl) (by kernel_rfl) (by kernel_rfl) (fun _ _ _ h => h) (Or.inl ⟨by rfl, ?_⟩) (by assumption) ?_
              rotate_left
              · intro w hSw; (try dsimp only at hSw); go_simp; try with_reducible rfl
              (try simp only [List.getElem_toArray, List.getElem_cons_succ, List.getElem_cons_zero, Act.put, List.setIfInBounds_toArray, List.set_cons_zero, List.set_cons_succ])
              refine wpAnyH_take (i := 4) (v := ?_) rfl (by kernel_rfl) (by kernel_rfl) (by kernel_rfl) (fun _ _ _ h => h) (Or.inl ⟨by rfl, ?_⟩) (by assumption) ?_
              rotate_left
              · intro w hSw; (try dsimp only at hSw); go_simp; try with_reducible rfl
              (try simp only [List.getElem_toArray, List.getElem_cons_succ, List.getElem_cons_zero, Act.put, List.setIfInBounds_toArray, List.set_cons_zero, List.set_cons_succ])
              refine wpAnyH_take (i := 5) (v := ?_) rfl (by kernel_rfl) (by kernel_rfl) (by kernel_rfl) (fun _ _ _ h => h) (Or.inl ⟨by rfl, ?_⟩) (by assumption) ?_
              rotate_left
              · intro w hSw; (try dsimp only at hSw); go_simp; try with_reducible rfl
              (try simp only [List.getElem_toArray, List.getElem_cons_succ, List.getElem_cons_zero, Act.put, List.setIfInBounds_toArray, List.set_cons_zero, List.set_cons_succ])
              refine wpAnyH_take (i := 6) (v := ?_) rfl (by kernel_rfl) (by kernel_rfl) (by kernel_rfl) (fun _ _ _ h => h) (Or.inl ⟨by rfl, ?_⟩) (by assumption) ?_
              rotate_left
              · intro w hSw; (try dsimp only at hSw); go_simp; try with_reducible rfl
              (try simp only [List.getElem_toArray, List.getElem_cons_succ, List.getElem_cons_zero, Act.put, List.setIfInBounds_toArray, List.set_cons_zero, List.set_cons_succ])
              refine wpAnyH_take (i := 8) (v := ?_) rfl (by kernel_rfl) (by kernel_rfl) (by kernel_rfl) (fun _ _ _ h => h) (Or.inl ⟨by rfl, ?_⟩) (by assumption) ?_
              rotate_left
              · intro w hSw; (try dsimp only at hSw); go_simp; try with_reducible rfl
              (try simp only [List.getElem_toArray, List.getElem_cons_succ, List.getElem_cons_zero, Act.put, List.setIfInBounds_toArray, List.set_cons_zero, List.set_cons_succ])
              refine wpAnyH_take (i := 9) (v := ?_) rfl (by kernel_rfl) (by kernel_rfl) (by kernel_rfl) (fun _ _ _ h => h) (Or.inl ⟨by rfl, ?_⟩) (by assumption) ?_
              rotate_left
              · intro w hSw; (try dsimp only at hSw); go_simp; try with_reducible rfl
              (try simp only [List.getElem_toArray, List.getElem_cons_succ, List.getElem_cons_zero, Act.put, List.setIfInBounds_toArray, List.set_cons_zero, List.set_cons_succ])
              refine wpAnyH_ready (rs := [0]) (by kernel_rfl) (by simp) ?_
              refine AllReadyH.cons rfl (fun K hK => ?_) (AllReadyH.nil)
              · skip
                (have q0 := hq.c0; have q1 := hq.c1; go_simp; clear q0 q1)
                refine hK.out _ _ ?_ (fun hHeld => ?_)
                · (try dsimp only); first | with_reducible exact hS2.out | with_reducible assumption | with_reducible exact HON2.out _ _ (by assumption) hb2 | with_reducible exact HST2.out _ _ _ (by assumption)
                clear hK K
                (try simp only [List.getElem_toArray, List.getElem_cons_succ, List.getElem_cons_zero, Act.put, List.setIfInBounds_toArray, List.set_cons_zero, List.set_cons_succ])
                refine wpAnyH_ready (rs := [3]) (by kernel_rfl) (by simp) ?_
                refine AllReadyH.cons rfl (fun K hK => ?_) (AllReadyH.nil)
                · go_simp
                  (go_at_call 30; refine (HX8.out _).mono ?_; rintro e wx ⟨rfl, hb2⟩; have hq := Du2.on hq hb2)
                  refine hK.out _ _ ?_ (fun hHeld => ?_)
                  · (try dsimp only); first | with_reducible exact hS2.out | with_reducible assumption | with_reducible exact HON2.out _ _ (by assumption) hb2 | with_reducible exact HST2.out _ _ _ (by assumption)
                  clear hK K
                  (try simp only [List.getElem_toArray, List.getElem_cons_succ, List.getElem_cons_zero, Act.put, List.setIfInBounds_toArray, List.set_cons_zero, List.set_cons_succ])
                  refine wpAnyH_ready (rs := [7]) (by kernel_rfl) (by simp) ?_
                  refine AllReadyH.cons rfl (fun K hK => ?_) (AllReadyH.nil)
                  · go_simp
                    (go_at_call 30; refine (HX1.out _).mono ?_; rintro e wx ⟨rfl, hb2⟩; have hq := Du2.on hq hb2)
                    refine hK.out _ _ ?_ (fun hHeld => ?_)
                    · (try dsimp only); first | with_reducible exact hS2.out | with_reducible assumption | with_reducible exact HON2.out _ _ (by assumption) hb2 | with_reducible exact HST2.out _ _ _ (by assumption)
                    clear hK K
                    (try simp only [List.getElem_toArray, List.getElem_cons_succ, List.getElem_cons_zero, Act.put, List.setIfInBounds_toArray, List.set_cons_zero, List.set_cons_succ])
                    refine wpAnyH_ready (rs := [10]) (by kernel_rfl) (by simp) ?_
                    refine AllReadyH.cons rfl (fun K hK => ?_) (AllReadyH.nil)
                    · go_simp
                      (go_at_call 31; refine (HXT.out _).mono ?_; rintro e wx ⟨rfl, hb2⟩; have hq := Du2.on hq hb2)
                      refine hK.out _ _ ?_ (fun hHeld => ?_)
                      · (try dsimp only); first | with_reducible exact hS2.out | with_reducible assumption | with_reducible exact HON2.out _ _ (by assumption) hb2 | with_reducible exact HST2.out _ _ _ (by assumption)
                      clear hK K
                      (try simp only [List.getElem_toArray, List.getElem_cons_succ, List.getElem_cons_zero, Act.put, List.setIfInBounds_toArray, List.set_cons_zero, List.set_cons_succ])
                      refine wpAnyH_ready (rs := [11]) (by kernel_rfl) (by simp) ?_
                      refine AllReadyH.cons rfl (fun K hK => ?_) (AllReadyH.nil)
                      · skip
                        (have q0 := hq.c0; have q1 := hq.c1; have qf0 := hq.fz 0; have qf1 := hq.fz 1; have ql := hq.lt; go_simp; clear q0 q1 qf0 qf1 ql)
                        refine hK.out _ _ ?_ (fun hHeld => ?_)
                        · (try dsimp only); first | with_reducible exact hS2.out | with_reducible assumption | with_reducible exact HON2.out _ _ (by assumption) hb2 | with_reducible exact HST2.out _ _ _ (by assumption)
                        clear hK K
                        (try simp only [List.getElem_toArray, List.getElem_cons_succ, List.getElem_cons_zero, Act.put, List.setIfInBounds_toArray, List.set_cons_zero, List.set_cons_succ])
                        refine wpAnyH_done (by kernel_rfl) ?_ _
                        refine NoPanic.normal ?_
                        have hqf := hq.set (.string (ofL P1)) (.int .i64 0)
                        have HQX := Lib.hid hqf
                        have HBX := Lib.hid hHeld.2.2.2.1
                        clear hHeld hS2 HON2 HST2 hqf
                        go_wp2_with fail
                        go_roundg (gk - 1)
                        case rel => exact ⟨k + 1, by have := HK.out; omega, by go_num, by rw [HPR.out]; exact HQX.out, HBX.out⟩
                        case measure => have := HK.out; omega
            · have hkl : k = l.length := by have := HK.out; omega
              have HOS := Lib.hid (fun W => ostrN_any (Nt.pre E1 l k) W)
              have e0 := HD.out.c0
              have e1 := HD.out.c1
              have hall : Nt.pre E1 l k = Nt.enc T l := by rw [hkl, Nt.pre_all, ← HE1.out, ← HE0.out]; unfold Nt.enc; rw [List.nil_append]
              rw [hall] at HOS e0
              clear hkl hall
              go_wp2_with fail
              refine (HOS.out _).mono ?_
              rintro e wy ⟨rfl, by1⟩
              have HBY := Lib.hid (bthen HBE.out by1 (Nat.le_refl _))
              clear by1
              go_wp2_with fail
              go_ret
              exact ⟨rfl, HBY.out⟩
end Go.Proofs.Ytabnkbdbbneihaa
