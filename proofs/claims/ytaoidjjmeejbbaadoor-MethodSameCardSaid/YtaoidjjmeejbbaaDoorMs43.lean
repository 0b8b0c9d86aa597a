/-
  THE EXAMPLES of the sum come out true; the table stays where it was. PLAIN: a frame's bytes; the frame that bytes begin with, or why there is none; which beginnings, and which turned bytes, are none. No program is spoken of here.
-/
import Derived.Test.YtaoidjjmeejbbaaDoorMs01
import Derived.Test.YtaoidjjmeejbbaaDoorMs03
import Derived.Test.YtaoidjjmeejbbaaDoorMs41
import Derived.Test.YtaoidjjmeejbbaaDoorMs42
import Derived.Lib.LaidTab
import Derived.Below
section
namespace Go.Proofs.YtaoidjjmeejbbaaDoor
open Go.ChangeShapes Go.WideShapes Go.ChangeAt Go.RowKit
theorem Tab.pos {w : World} (h : Tab w) : 0 < w.heap.size := by
  have h0 := h 0 (by decide)
  rcases Nat.lt_or_ge 0 w.heap.size with hlt | hge
  · exact hlt
  · exfalso
    have : w.heap[(0 : Nat)]? = none := Array.getElem?_eq_none hge
    simp [World.cell?, this] at h0
theorem Tab.below {w w' : World} {B : Nat} (h : Tab w) (hb : Below B w w') (hB : 0 < B) : Tab w' := fun i hi => (hb.cell (p := ⟨0, i, none⟩) hB).trans (h i hi)
theorem Tab.alloc {w : World} (h : Tab w) (o : Obj) : Tab (w.alloc o) := h.below ((Below.refl w.heap.size w).alloc (Nat.le_refl _) o) h.pos

theorem sum_two (x y : ByteArray) (b c : Nat) (w : World) (hx : x.size ≤ 100000) (hy : y.size ≤ 100000) (hT : Tab w)
    (h0 : w.cell? ⟨b, 0, none⟩ = some (.string x)) (h1 : w.cell? ⟨b, 1, none⟩ = some (.string y)) :
    Calls Tryd.prog 110 #[.slice (some ⟨b, 0, none⟩) 2 c] w fun e w' => e = .returned (.int .u32 ((Crc.sum (x.data.toList ++ y.data.toList) : Nat) : Int)) ∧ w = w' := by
  refine (sum_any [x, y] b c w (by simp) ?_ hT ?_).mono ?_
  · intro k
    match k with
    | 0 => exact hx
    | 1 => exact hy
    | k + 2 => simp
  · intro k hk
    match k, hk with
    | 0, _ => exact h0
    | 1, _ => exact h1
  · rintro e w' ⟨rfl, rfl⟩
    exact ⟨by simp [bytesOf], rfl⟩
theorem sum_one (x : ByteArray) (b c : Nat) (w : World) (hx : x.size ≤ 100000) (hT : Tab w) (h0 : w.cell? ⟨b, 0, none⟩ = some (.string x)) :
    Calls Tryd.prog 110 #[.slice (some ⟨b, 0, none⟩) 1 c] w fun e w' => e = .returned (.int .u32 ((Crc.sum x.data.toList : Nat) : Int)) ∧ w = w' := by
  refine (sum_any [x] b c w (by simp) ?_ hT ?_).mono ?_
  · intro k
    match k with
    | 0 => exact hx
    | k + 1 => simp
  · intro k hk
    match k, hk with
    | 0, _ => exact h0
  · rintro e w' ⟨rfl, rfl⟩
    exact ⟨by simp [bytesOf], rfl⟩
set_option maxHeartbeats 1000000 in
theorem crcAwake_any (w : World) (hT : Tab w) : Calls Tryd.prog 112 #[] w fun e w' => e = .returned (.bool true) ∧ Below w.heap.size w w' := by
  have h1 : ∀ W : World, Tab W → ∀ b, W.cell? ⟨b, 0, none⟩ = some (.string ⟨#[49, 50, 51, 52]⟩) → W.cell? ⟨b, 1, none⟩ = some (.string ⟨#[53, 54, 55, 56, 57]⟩) →
      Calls Tryd.prog 110 #[.slice (some ⟨b, 0, none⟩) 2 2] W fun e w' => e = .returned (.int .u32 3421780262) ∧ W = w' := fun W hW b h0 h1 =>
    (sum_two _ _ b 2 W (by decide) (by decide) hW h0 h1).mono fun e w' h => ⟨h.1.trans (ret_int (by simpa using congrArg (fun n : Nat => (n : Int)) Crc.sum_ex)), h.2⟩
  have H1 := Lib.hid h1
  clear h1
  have HT := Lib.hid hT
  clear hT
  go_enter Tryd.func112, Tryd.ntmps112
  go_wp2_with fail
  refine (H1.out _ (HT.out.alloc _) _ (by simp) (by simp)).mono ?_
  rintro e w' ⟨rfl, rfl⟩
  go_wp2_with fail
  refine (sum_none _ _).mono ?_
  rintro e w' ⟨rfl, rfl⟩
  go_wp2_with fail
  go_ret
  exact ⟨rfl, (Below.refl _ _).alloc (Nat.le_refl _) _⟩
end Go.Proofs.YtaoidjjmeejbbaaDoor
end
section
namespace Go.Proofs.YtaoidjjmeejbbaaDoor.Fr
/-- a frame's bytes ahead of its sum -/
def ahead (c k : UInt8) (b : List UInt8) : List UInt8 := c :: k :: (Oct.be 2 b.length ++ b)
/-- a frame's bytes -/
def enc (c k : UInt8) (b : List UInt8) : List UInt8 := ahead c k b ++ (Oct.be 4 (Crc.sum (ahead c k b)) ++ [206])
/-- the length that is told -/
def len (l : List UInt8) : Nat := (l.getD 2 0).toNat * 256 + (l.getD 3 0).toNat
/-- why bytes begin with no frame, or 0 -/
def code (l : List UInt8) : Nat :=
  if l.length < 4 then 3 else if 2048 < len l then 5 else if l.length < len l + 9 then 3 else if l.getD (len l + 8) 0 ≠ 206 then 4
  else if Oct.val ((l.drop (len l + 4)).take 4) ≠ Crc.sum (l.take (len l + 4)) then 14 else 0
def body (l : List UInt8) : List UInt8 := (l.drop 4).take (len l)

/-- how a frame's bytes lie -/
def form (c k h g : UInt8) (b s : List UInt8) (e : UInt8) (m : List UInt8) : List UInt8 := c :: k :: h :: g :: (b ++ (s ++ (e :: m)))
theorem form_drop {c k h g : UInt8} {b s : List UInt8} {e : UInt8} {m : List UInt8} : (form c k h g b s e m).drop (b.length + 4) = s ++ (e :: m) := by
  unfold form
  rw [show b.length + 4 = b.length + 1 + 1 + 1 + 1 from rfl]
  simp only [List.drop_succ_cons]
  rw [List.drop_left' rfl]
theorem form_length {c k h g : UInt8} {b s : List UInt8} {e : UInt8} {m : List UInt8} (hs : s.length = 4) : (form c k h g b s e m).length = b.length + 9 + m.length := by
  unfold form
  simp only [List.length_cons, List.length_append, hs]
  omega
theorem form_end {c k h g : UInt8} {b s : List UInt8} {e : UInt8} {m : List UInt8} (hs : s.length = 4) : (form c k h g b s e m).getD (b.length + 8) 0 = e := by
  have h1 : (form c k h g b s e m).getD (b.length + 8) 0 = ((form c k h g b s e m).drop (b.length + 4)).getD 4 0 := by
    rw [List.getD_eq_getElem?_getD, List.getD_eq_getElem?_getD, List.getElem?_drop]
  rw [h1, form_drop, List.getD_eq_getElem?_getD, List.getElem?_append_right (by omega), hs]
  rfl
theorem be2 (n : Nat) : Oct.be 2 n = [UInt8.ofNat (n / 256 % 256), UInt8.ofNat (n % 256)] := rfl
theorem ahead_eq (c k : UInt8) (b : List UInt8) : ahead c k b = c :: k :: UInt8.ofNat (b.length / 256 % 256) :: UInt8.ofNat (b.length % 256) :: b := by
  unfold ahead
  rw [be2]
  rfl
theorem enc_form (c k : UInt8) (b m : List UInt8) : enc c k b ++ m = form c k (UInt8.ofNat (b.length / 256 % 256)) (UInt8.ofNat (b.length % 256)) b (Oct.be 4 (Crc.sum (ahead c k b))) 206 m := by
  unfold enc form
  rw [List.append_assoc, List.append_assoc]
  generalize Oct.be 4 (Crc.sum (ahead c k b)) = s
  rw [ahead_eq]
  simp only [List.cons_append, List.nil_append]
theorem enc_form0 (c k : UInt8) (b : List UInt8) : enc c k b = form c k (UInt8.ofNat (b.length / 256 % 256)) (UInt8.ofNat (b.length % 256)) b (Oct.be 4 (Crc.sum (ahead c k b))) 206 [] := by
  rw [← enc_form, List.append_nil]
theorem enc_length (c k : UInt8) (b : List UInt8) : (enc c k b).length = b.length + 9 := by
  rw [enc_form0, form_length (Oct.length_be _ _)]
  rfl
/-! ### what is missing -/
/-! ### a turned byte -/
end Go.Proofs.YtaoidjjmeejbbaaDoor.Fr
end
