/-
  A DISK: how many bytes wait; they are done.
-/
import Derived.Test.YtpdgadohfhmcnaaDkA
namespace Go.Proofs.Ytpdgadohfhmcnaa
open Go.ChangeShapes Go.WideShapes Go.ChangeAt Go.RowKit

/-- a row of writes that are read -/
structure WRow (w : World) (A : Option Addr) (l : List Dk.Wr) : Prop where
  at_ : ∀ i, i < l.length → ∃ b off, A = some ⟨b, off, none⟩ ∧ b < w.heap.size ∧ w.cell? ⟨b, off + i * 2, none⟩ = some (.int .i64 ((l.getD i (0, [])).1 : Int)) ∧ w.cell? ⟨b, off + i * 2 + 1, none⟩ = some (.string (ofL (l.getD i (0, [])).2))
theorem WRow.on {w w' : World} {A : Option Addr} {l : List Dk.Wr} (h : WRow w A l) (hb : Below w.heap.size w w') : WRow w' A l := ⟨fun i hi => by
  obtain ⟨b, off, e, hlt, c0, c1⟩ := h.at_ i hi
  exact ⟨b, off, e, Nat.lt_of_lt_of_le hlt hb.size, (hb.cell (p := ⟨b, off + i * 2, none⟩) hlt).trans c0, (hb.cell (p := ⟨b, off + i * 2 + 1, none⟩) hlt).trans c1⟩⟩
theorem WRow.kp {F : Nat → Prop} {w w' : World} {A : Option Addr} {l : List Dk.Wr} (h : WRow w A l) (hk : Kp F w w') (hF : ∀ a, A = some a → ¬ F a.block) : WRow w' A l := ⟨fun i hi => by
  obtain ⟨b, off, e, hlt, c0, c1⟩ := h.at_ i hi
  have hb := hk.block b hlt (hF _ e)
  exact ⟨b, off, e, Nat.lt_of_lt_of_le hlt hk.size, (World.cell?_of_block (a := ⟨b, off + i * 2, none⟩) hb).trans c0, (World.cell?_of_block (a := ⟨b, off + i * 2 + 1, none⟩) hb).trans c1⟩⟩
theorem wrow_of {w : World} {B e : Nat} {v : Value} {l : List Dk.Wr} (h : w.ownsRow B e 2 v l.length (wcells l)) :
    ∃ A c, v = .slice A l.length c ∧ l.length ≤ c ∧ WRow w A l ∧ ∀ a, A = some a → v.ownBlock = some a.block := by
  obtain ⟨A, c, hv, hc, ho, hg⟩ := Rw.own_cells h
  refine ⟨A, c, hv, hc, ⟨fun i hi => ?_⟩, ho⟩
  obtain ⟨g, hA, hlt, hcell⟩ := hg (by omega)
  have hgd : l.getD i (0, []) = l[i] := by simp [List.getD_eq_getElem?_getD, hi]
  refine ⟨g, 0, hA, hlt, ?_, ?_⟩
  · rw [Nat.zero_add, hcell (i * 2) (by omega), hgd]; exact wcells_at l i hi
  · rw [Nat.zero_add, hcell (i * 2 + 1) (by omega), hgd]; exact wcells_data l i hi
theorem waits_take (l : List Dk.Wr) (k : Nat) (h : k < l.length) : Dk.waits (l.take (k + 1)) = Dk.waits (l.take k) + (l.getD k (0, [])).2.length := by
  have hgd : l.getD k (0, []) = l[k] := by simp [List.getD_eq_getElem?_getD, h]
  rw [List.take_succ_eq_append_getElem h, Dk.waits_app, hgd]
  simp [Dk.waits]
theorem waits_take_le (l : List Dk.Wr) (k : Nat) : Dk.waits (l.take k) ≤ Dk.waits l := by
  have := Dk.waits_app (l.take k) (l.drop k)
  rw [List.take_append_drop] at this
  omega
def WtSt (w : World) (l : List Dk.Wr) (g : Nat) (s i : Value) (wr : World) : Prop :=
  ∃ k : Nat, k + g = l.length ∧ i = .int .i64 (k : Int) ∧ s = .int .i64 ((Dk.waits (l.take k) : Nat) : Int) ∧ Below w.heap.size w wr
set_option maxHeartbeats 2000000 in
theorem dkWaits_any {n D : Nat} {F : Nat → Prop} {st : Dk.St} (w : World) (h : Disk n F D st w) (hl : st.wait.length ≤ 100000) :
    Calls Try.prog 15 #[dkP D] w fun e w' => e = .returned (.int .i64 ((Dk.waits st.wait : Nat) : Int)) ∧ Below w.heap.size w w' := by
  obtain ⟨R, v, am, sy, ct, h⟩ := h
  have c1 := h.cs.c1
  have hle := Dk.waits_le _ h.wf.ok
  obtain ⟨A, c, rfl, hc, hA, -⟩ := wrow_of h.own
  have HA := Lib.hid hA
  clear h hA
  generalize st.wait = l at *
  have hle' : Dk.waits l ≤ 6400000 := by omega
  clear hle
  go_enter Try.func15, Try.ntmps15
  go_wp2_with fail
  go_loopg [3, 13] l.length (fun g s i wr => WtSt w l g s i wr)
  case atStart => exact ⟨0, by omega, rfl, rfl, Below.refl _ _⟩
  case round =>
    obtain ⟨k, hk, rfl, rfl, hb⟩ := hrel
    have HK := Lib.hid hk
    have HB := Lib.hid hb
    clear hk hb
    by_cases hlt : k < l.length
    · obtain ⟨b, off, rfl, hbl, x0, x1⟩ := HA.out.at_ k hlt
      have HS := Lib.hid (waits_take l k hlt)
      have hs2 := waits_take_le l (k + 1)
      rw [HS.out] at hs2
      have y0 := (HB.out.cell (p := ⟨b, off + k * 2, none⟩) hbl).trans x0
      have y1 := (HB.out.cell (p := ⟨b, off + k * 2 + 1, none⟩) hbl).trans x1
      clear x0 x1 hbl
      generalize l.getD k (0, []) = x at *
      obtain ⟨xa, xd⟩ := x
      dsimp only at *
      have hz : (ofL xd).size = xd.length := ofL_size _
      have HB2 := Lib.hid (fun o => HB.out.alloc HB.out.size o)
      go_wp2_with fail
      go_roundg (gk - 1)
      case rel => exact ⟨k + 1, by have := HK.out; omega, by go_num, by rw [HS.out]; go_num, HB2.out _⟩
      case measure => have := HK.out; omega
    · have e : l.take k = l := List.take_of_length_le (by omega)
      rw [e]
      clear e
      go_wp2_with fail
      go_ret
      exact ⟨rfl, HB.out⟩
end Go.Proofs.Ytpdgadohfhmcnaa
