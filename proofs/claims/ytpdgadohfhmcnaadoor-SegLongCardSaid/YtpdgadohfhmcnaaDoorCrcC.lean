/-
  THE EXAMPLES of the sum come out true; the table stays where it was.
-/
import Derived.Test.YtpdgadohfhmcnaaDoorOct
import Derived.Test.YtpdgadohfhmcnaaDoorCrcMath
import Derived.Lib.LaidTab
import Derived.Test.YtpdgadohfhmcnaaDoorCrcB
import Derived.Below
namespace Go.Proofs.YtpdgadohfhmcnaaDoor
open Go.ChangeShapes Go.WideShapes Go.ChangeAt Go.RowKit
theorem Tab.pos {w : World} (h : Tab w) : 0 < w.heap.size := by
  have h0 := h 0 (by decide)
  rcases Nat.lt_or_ge 0 w.heap.size with hlt | hge
  · exact hlt
  · exfalso
    have : w.heap[(0 : Nat)]? = none := Array.getElem?_eq_none hge
    simp [World.cell?, this] at h0
theorem Tab.below {w w' : World} {B : Nat} (h : Tab w) (hb : Below B w w') (hB : 0 < B) : Tab w' := fun i hi => (hb.cell (p := ⟨0, i, none⟩) hB).trans (h i hi)
theorem Tab.alloc {w : World} (h : Tab w) (o : Obj) : Tab (w.alloc o) := h.below ((Below.refl w.heap.size w).alloc (Nat.le_refl _) o) h.pos

theorem sum_two (x y : ByteArray) (b c : Nat) (w : World) (hx : x.size ≤ 100000) (hy : y.size ≤ 100000) (hT : Tab w)
    (h0 : w.cell? ⟨b, 0, none⟩ = some (.string x)) (h1 : w.cell? ⟨b, 1, none⟩ = some (.string y)) :
    Calls Tryd.prog 31 #[.slice (some ⟨b, 0, none⟩) 2 c] w fun e w' => e = .returned (.int .u32 ((Crc.sum (x.data.toList ++ y.data.toList) : Nat) : Int)) ∧ w = w' := by
  refine (sum_any [x, y] b c w (by simp) ?_ hT ?_).mono ?_
  · intro k
    match k with
    | 0 => exact hx
    | 1 => exact hy
    | k + 2 => simp
  · intro k hk
    match k, hk with
    | 0, _ => exact h0
    | 1, _ => exact h1
  · rintro e w' ⟨rfl, rfl⟩
    exact ⟨by simp [bytesOf], rfl⟩
theorem sum_one (x : ByteArray) (b c : Nat) (w : World) (hx : x.size ≤ 100000) (hT : Tab w) (h0 : w.cell? ⟨b, 0, none⟩ = some (.string x)) :
    Calls Tryd.prog 31 #[.slice (some ⟨b, 0, none⟩) 1 c] w fun e w' => e = .returned (.int .u32 ((Crc.sum x.data.toList : Nat) : Int)) ∧ w = w' := by
  refine (sum_any [x] b c w (by simp) ?_ hT ?_).mono ?_
  · intro k
    match k with
    | 0 => exact hx
    | k + 1 => simp
  · intro k hk
    match k, hk with
    | 0, _ => exact h0
  · rintro e w' ⟨rfl, rfl⟩
    exact ⟨by simp [bytesOf], rfl⟩
theorem sum_three (x y z : ByteArray) (b c : Nat) (w : World) (hx : x.size ≤ 100000) (hy : y.size ≤ 100000) (hz : z.size ≤ 100000) (hT : Tab w)
    (h0 : w.cell? ⟨b, 0, none⟩ = some (.string x)) (h1 : w.cell? ⟨b, 1, none⟩ = some (.string y)) (h2 : w.cell? ⟨b, 2, none⟩ = some (.string z)) :
    Calls Tryd.prog 31 #[.slice (some ⟨b, 0, none⟩) 3 c] w fun e w' => e = .returned (.int .u32 ((Crc.sum (x.data.toList ++ y.data.toList ++ z.data.toList) : Nat) : Int)) ∧ w = w' := by
  refine (sum_any [x, y, z] b c w (by simp) ?_ hT ?_).mono ?_
  · intro k
    match k with
    | 0 => exact hx
    | 1 => exact hy
    | 2 => exact hz
    | k + 3 => simp
  · intro k hk
    match k, hk with
    | 0, _ => exact h0
    | 1, _ => exact h1
    | 2, _ => exact h2
  · rintro e w' ⟨rfl, rfl⟩
    exact ⟨by simp [bytesOf], rfl⟩

set_option maxHeartbeats 1000000 in
theorem crcAwake_any (w : World) (hT : Tab w) : Calls Tryd.prog 32 #[] w fun e w' => e = .returned (.bool true) ∧ Below w.heap.size w w' := by
  have h1 : ∀ W : World, Tab W → ∀ b, W.cell? ⟨b, 0, none⟩ = some (.string ⟨#[49, 50, 51, 52]⟩) → W.cell? ⟨b, 1, none⟩ = some (.string ⟨#[53, 54, 55, 56, 57]⟩) →
      Calls Tryd.prog 31 #[.slice (some ⟨b, 0, none⟩) 2 2] W fun e w' => e = .returned (.int .u32 3421780262) ∧ W = w' := fun W hW b h0 h1 =>
    (sum_two _ _ b 2 W (by decide) (by decide) hW h0 h1).mono fun e w' h => ⟨h.1.trans (ret_int (by simpa using congrArg (fun n : Nat => (n : Int)) Crc.sum_ex)), h.2⟩
  have H1 := Lib.hid h1
  clear h1
  have HT := Lib.hid hT
  clear hT
  go_enter Tryd.func32, Tryd.ntmps32
  go_wp2_with fail
  refine (H1.out _ (HT.out.alloc _) _ (by simp) (by simp)).mono ?_
  rintro e w' ⟨rfl, rfl⟩
  go_wp2_with fail
  refine (sum_none _ _).mono ?_
  rintro e w' ⟨rfl, rfl⟩
  go_wp2_with fail
  go_ret
  exact ⟨rfl, (Below.refl _ _).alloc (Nat.le_refl _) _⟩
end Go.Proofs.YtpdgadohfhmcnaaDoor
