/-
  ITEMS PUT TOGETHER: the document's Of, walked.
-/
import Derived.Test.YtfbajmiiecmelabDoorLo41

section
namespace Go.Proofs.YtfbajmiiecmelabDoor
open Go.ChangeShapes Go.WideShapes Go.ChangeAt Go.RowKit
namespace Ln
def oc (l : List It) (k : Nat) : Nat := acode (l.take k) (l.getD k it0)
theorem oc_take {l : List It} (hf : ∀ x ∈ l, Ml.Fits x.m) : ∀ {k : Nat}, k ≤ l.length → (∀ j, j < k → oc l j = 0) → Fine (l.take k)
  | 0, _, _ => by rw [List.take_zero]; exact Fine.nil
  | k + 1, hk, h => by
    have h1 := oc_take hf (Nat.le_of_succ_le hk) (fun j hj => h j (by omega))
    have h2 := h k (by omega)
    unfold oc at h2
    have h3 := h1.add (x := l.getD k it0) (by rw [getD_lt (by omega)]; exact hf _ (List.getElem_mem _))
    unfold Ln.add at h3
    rw [if_pos h2, getD_lt (by omega), ← List.take_succ_eq_append_getElem (by omega)] at h3
    exact h3
theorem oc_add {l : List It} {k : Nat} (hk : k < l.length) : add (l.take k) (l.getD k it0) = if oc l k = 0 then l.take (k + 1) else l.take k := by
  unfold Ln.add oc
  rw [List.take_succ_eq_append_getElem hk, getD_lt hk]
end Ln
/-- what is made of items one by one, and what is wrong -/
def OfR (l r : List It) (c : Nat) : Prop := (r = l ∧ c = 0 ∧ ∀ k, k < l.length → Ln.oc l k = 0) ∨ (r = [] ∧ ∃ k, k < l.length ∧ (∀ j, j < k → Ln.oc l j = 0) ∧ Ln.oc l k = c ∧ c ≠ 0)
theorem OfR.one {l r r' : List It} {c c' : Nat} (h : OfR l r c) (h' : OfR l r' c') : r = r' ∧ c = c' := by
  rcases h with ⟨rfl, rfl, h⟩ | ⟨rfl, k, hk, h1, h2, h3⟩
  · rcases h' with ⟨rfl, rfl, -⟩ | ⟨rfl, k, hk, h1, h2, h3⟩
    · exact ⟨rfl, rfl⟩
    · have := h k hk; omega
  · rcases h' with ⟨rfl, rfl, h⟩ | ⟨rfl, k', hk', h1', h2', h3'⟩
    · have := h k hk; omega
    · refine ⟨rfl, ?_⟩
      rcases Nat.lt_trichotomy k k' with g | g | g
      · have := h1' k g; omega
      · subst g; omega
      · have := h1 k' g; omega
theorem OfR.again {l r r' : List It} {c c' : Nat} (h : OfR l r c) (h' : OfR r r' c') : r' = r ∧ c' = 0 := by
  rcases h with ⟨rfl, rfl, h⟩ | ⟨rfl, -⟩
  · have := OfR.one h' (.inl ⟨rfl, rfl, h⟩)
    exact this
  · rcases h' with ⟨h1, h2, -⟩ | ⟨-, k, hk, -⟩
    · exact ⟨h1, h2⟩
    · simp at hk
def OfPost (l : List It) (w : World) (e : Ending) (w' : World) : Prop := ∃ (A' : Option Addr) (c' : Nat) (m' : List ItP) (code : Nat), e = .returned (.tuple #[.slice A' m'.length c', .int .i64 (code : Int)]) ∧ OfR l (m'.map (·.x)) code ∧ m'.length ≤ c' ∧ (A' = none → c' = 0) ∧ Its w' A' m' ∧ Below w.heap.size w w'
def OSt (w : World) (l : List It) (n g : Nat) (v i : Value) (wr : World) : Prop := ∃ (k : Nat) (A' : Option Addr) (c' : Nat) (m' : List ItP), k + g = n ∧ v = .slice A' m'.length c' ∧ i = .int .i64 (k : Int) ∧ m'.map (·.x) = l.take k ∧ m'.length ≤ c' ∧ (A' = none → c' = 0) ∧ Its wr A' m' ∧ (∀ j, j < k → Ln.oc l j = 0) ∧ Below w.heap.size w wr
set_option maxRecDepth 100000 in
set_option maxHeartbeats 4000000 in
theorem r18Of_any (l : List It) (m : List ItP) (A : Option Addr) (c : Nat) (w : World) (hm : m.map (·.x) = l) (hl : l.length ≤ 1000) (hI : Its w A m) :
    Calls Tryd.prog 7 #[.slice A m.length c] w (OfPost l w) := by
  have hml := xs_len hm
  have HI := Lib.hid hI
  have HM := Lib.hid hm
  have HML := Lib.hid hml
  have hml2 : m.length ≤ 1000 := by omega
  have HF := Lib.hid (show ∀ x ∈ l, Ml.Fits x.m from fun x hx => by
    rw [← hm] at hx
    obtain ⟨p, hp, rfl⟩ := List.mem_map.1 hx
    exact (hI.ok p hp).fits)
  clear hI hm hml
  go_enter Tryd.func7, Tryd.ntmps7
  go_wp2_with fail
  go_loopg [4, 11] m.length (fun g v i wr => OSt w l m.length g v i wr)
  case atStart => exact ⟨0, none, 0, [], by omega, rfl, rfl, rfl, Nat.le_refl _, fun _ => rfl, Its.nil _ _, fun j hj => absurd hj (by omega), Below.refl _ _⟩
  case round =>
    obtain ⟨k, A', c', m', hk, rfl, rfl, hm', hc', hn', hI', hoc, hB⟩ := hrel
    have HK := Lib.hid hk
    have HM' := Lib.hid hm'
    have HC' := Lib.hid hc'
    have HN' := Lib.hid hn'
    have HI' := Lib.hid hI'
    have HOC := Lib.hid hoc
    have HBK := Lib.hid hB
    have hm'l : m'.length ≤ 1000 := by have := congrArg List.length hm'; rw [List.length_map, List.length_take] at this; omega
    clear hk hm' hc' hn' hI' hoc hB
    by_cases hlt : k < m.length
    · have hlt2 : k < l.length := by have := HML.out; omega
      obtain ⟨b, off, hAe, hbl, hat⟩ := (HI.out.on HBK.out).at_ k hlt
      have hgo := (HI.out.on HBK.out).ok _ (List.getElem_mem hlt)
      subst hAe
      have hgx := xs_get HM.out hlt
      have had := Ln.oc_add hlt2
      have hfi := Ln.oc_take HF.out (Nat.le_of_lt hlt2) HOC.out
      have HOK := Lib.hid (show ∀ c, Ln.acode (l.take k) (l.getD k it0) = c → Ln.oc l k = c from fun c h => h)
      generalize m[k] = p at *
      obtain ⟨x, Ax, cx⟩ := p
      dsimp only at hgx hat hgo
      rw [← hgx] at had HOK
      unfold itL at hat
      have cc0 := hat 0 _ rfl
      have cc1 := hat 1 _ rfl
      have cc2 := hat 2 _ rfl
      have cc3 := hat 3 _ rfl
      have cc4 := hat 4 _ rfl
      have cc5 := hat 5 _ rfl
      have cc6 := hat 6 _ rfl
      have cc7 := hat 7 _ rfl
      have cc8 := hat 8 _ rfl
      rw [Nat.add_zero] at cc0
      have HT := Lib.hid (one_alloc wr (.cells #[.int .u64 (x.m.id : Int), .string (ofL x.m.shop), .string (ofL x.m.key), .slice Ax x.m.head.length cx, .string (ofL x.m.body), .int .u64 (x.m.due : Int), .int .u8 (x.m.hops : Int), .bool x.lent, .bool x.again] 32))
      have HPT := Lib.hid (r18put_any (l.take k) m' A' c' x Ax cx _ HM'.out hfi.rises (by rw [List.length_take]; omega) HC'.out HN'.out (HI'.out.on HT.out) (hgo.on HT.out))
      unfold PutPost at HPT
      rw [had] at HPT
      simp only [itV] at HPT
      obtain ⟨cd, hcd⟩ : ∃ cd, Ln.acode (l.take k) x = cd := ⟨_, rfl⟩
      rw [hcd] at HPT
      have HCD := Lib.hid (HOK.out cd hcd)
      rw [HCD.out] at HPT
      have HB1 := Lib.hid (bthen HBK.out HT.out (Nat.le_refl _))
      clear hat hgo had hfi hcd hgx HOK
      by_cases h0 : cd = 0
      · subst h0
        rw [if_pos rfl] at HPT
        go_wp2_with fail
        refine HPT.out.mono ?_
        rintro e w5 ⟨A5, c5, m5, rfl, hm5, hc5, hn5, hI5, hb⟩
        have HB5 := Lib.hid (bthen HB1.out hb (Nat.le_refl _))
        have HM5 := Lib.hid hm5
        have HC5 := Lib.hid hc5
        have HN5 := Lib.hid hn5
        have HI5 := Lib.hid hI5
        clear hm5 hc5 hn5 hI5 hb cc0 cc1 cc2 cc3 cc4 cc5 cc6 cc7 cc8
        go_wp2_with fail
        go_roundg (gk - 1)
        case rel => exact ⟨k + 1, A5, c5, m5, by have := HK.out; omega, rfl, by go_num, HM5.out, HC5.out, HN5.out, HI5.out, fun j hj => by
          by_cases e : j = k
          · subst e; exact HCD.out
          · exact HOC.out j (by omega), HB5.out⟩
        case measure => have := HK.out; omega
      · rw [if_neg h0] at HPT
        have d1 : ((cd : Int) != 0) = true := by rw [bne_iff_ne]; omega
        go_wp2_with fail
        refine HPT.out.mono ?_
        rintro e w5 ⟨A5, c5, m5, rfl, hm5, hc5, hn5, hI5, hb⟩
        have HB5 := Lib.hid (bthen HB1.out hb (Nat.le_refl _))
        clear hm5 hc5 hn5 hI5 hb cc0 cc1 cc2 cc3 cc4 cc5 cc6 cc7 cc8
        go_wp2_with fail
        go_ret2
        exact ⟨none, 0, [], cd, rfl, .inr ⟨rfl, k, hlt2, HOC.out, HCD.out, h0⟩, Nat.le_refl _, fun _ => rfl, Its.nil _ _, HB5.out⟩
    · have hkE : k = l.length := by have := HK.out; have := HML.out; omega
      subst hkE
      go_wp2_with fail
      go_ret2
      exact ⟨A', c', m', 0, rfl, .inl ⟨by rw [HM'.out, List.take_length], rfl, HOC.out⟩, HC'.out, HN'.out, HI'.out, HBK.out⟩
end Go.Proofs.YtfbajmiiecmelabDoor
end
