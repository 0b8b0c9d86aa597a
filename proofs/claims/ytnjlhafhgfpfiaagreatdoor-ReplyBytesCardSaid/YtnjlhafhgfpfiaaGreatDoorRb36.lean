/-
  THE EXAMPLES of the sum come out true; the table stays where it was. PLAIN: a frame's bytes; the frame that bytes begin with, or why there is none; which beginnings, and which turned bytes, are none. No program is spoken of here.
-/
import Derived.Test.YtnjlhafhgfpfiaaGreatDoorRb01
import Derived.Test.YtnjlhafhgfpfiaaGreatDoorRb02
import Derived.Test.YtnjlhafhgfpfiaaGreatDoorRb34
import Derived.Test.YtnjlhafhgfpfiaaGreatDoorRb35
import Derived.Lib.LaidTab
import Derived.Below
section
namespace Go.Proofs.YtnjlhafhgfpfiaaGreatDoor
open Go.ChangeShapes Go.WideShapes Go.ChangeAt Go.RowKit
theorem Tab.pos {w : World} (h : Tab w) : 0 < w.heap.size := by
  have h0 := h 0 (by decide)
  rcases Nat.lt_or_ge 0 w.heap.size with hlt | hge
  · exact hlt
  · exfalso
    have : w.heap[(0 : Nat)]? = none := Array.getElem?_eq_none hge
    simp [World.cell?, this] at h0
theorem Tab.below {w w' : World} {B : Nat} (h : Tab w) (hb : Below B w w') (hB : 0 < B) : Tab w' := fun i hi => (hb.cell (p := ⟨0, i, none⟩) hB).trans (h i hi)
theorem Tab.alloc {w : World} (h : Tab w) (o : Obj) : Tab (w.alloc o) := h.below ((Below.refl w.heap.size w).alloc (Nat.le_refl _) o) h.pos

theorem sum_two (x y : ByteArray) (b c : Nat) (w : World) (hx : x.size ≤ 100000) (hy : y.size ≤ 100000) (hT : Tab w)
    (h0 : w.cell? ⟨b, 0, none⟩ = some (.string x)) (h1 : w.cell? ⟨b, 1, none⟩ = some (.string y)) :
    Calls Tryz.prog 46 #[.slice (some ⟨b, 0, none⟩) 2 c] w fun e w' => e = .returned (.int .u32 ((Crc.sum (x.data.toList ++ y.data.toList) : Nat) : Int)) ∧ w = w' := by
  refine (sum_any [x, y] b c w (by simp) ?_ hT ?_).mono ?_
  · intro k
    match k with
    | 0 => exact hx
    | 1 => exact hy
    | k + 2 => simp
  · intro k hk
    match k, hk with
    | 0, _ => exact h0
    | 1, _ => exact h1
  · rintro e w' ⟨rfl, rfl⟩
    exact ⟨by simp [bytesOf], rfl⟩
theorem sum_one (x : ByteArray) (b c : Nat) (w : World) (hx : x.size ≤ 100000) (hT : Tab w) (h0 : w.cell? ⟨b, 0, none⟩ = some (.string x)) :
    Calls Tryz.prog 46 #[.slice (some ⟨b, 0, none⟩) 1 c] w fun e w' => e = .returned (.int .u32 ((Crc.sum x.data.toList : Nat) : Int)) ∧ w = w' := by
  refine (sum_any [x] b c w (by simp) ?_ hT ?_).mono ?_
  · intro k
    match k with
    | 0 => exact hx
    | k + 1 => simp
  · intro k hk
    match k, hk with
    | 0, _ => exact h0
  · rintro e w' ⟨rfl, rfl⟩
    exact ⟨by simp [bytesOf], rfl⟩
set_option maxHeartbeats 1000000 in
theorem crcAwake_any (w : World) (hT : Tab w) : Calls Tryz.prog 94 #[] w fun e w' => e = .returned (.bool true) ∧ Below w.heap.size w w' := by
  have h1 : ∀ W : World, Tab W → ∀ b, W.cell? ⟨b, 0, none⟩ = some (.string ⟨#[49, 50, 51, 52]⟩) → W.cell? ⟨b, 1, none⟩ = some (.string ⟨#[53, 54, 55, 56, 57]⟩) →
      Calls Tryz.prog 46 #[.slice (some ⟨b, 0, none⟩) 2 2] W fun e w' => e = .returned (.int .u32 3421780262) ∧ W = w' := fun W hW b h0 h1 =>
    (sum_two _ _ b 2 W (by decide) (by decide) hW h0 h1).mono fun e w' h => ⟨h.1.trans (ret_int (by simpa using congrArg (fun n : Nat => (n : Int)) Crc.sum_ex)), h.2⟩
  have H1 := Lib.hid h1
  clear h1
  have HT := Lib.hid hT
  clear hT
  go_enter Tryz.func94, Tryz.ntmps94
  go_wp2_with fail
  refine (H1.out _ (HT.out.alloc _) _ (by simp) (by simp)).mono ?_
  rintro e w' ⟨rfl, rfl⟩
  go_wp2_with fail
  refine (sum_none _ _).mono ?_
  rintro e w' ⟨rfl, rfl⟩
  go_wp2_with fail
  go_ret
  exact ⟨rfl, (Below.refl _ _).alloc (Nat.le_refl _) _⟩
end Go.Proofs.YtnjlhafhgfpfiaaGreatDoor
end
section
namespace Go.Proofs.YtnjlhafhgfpfiaaGreatDoor.Fr
/-- a frame's bytes ahead of its sum -/
def ahead (c k : UInt8) (b : List UInt8) : List UInt8 := c :: k :: (Oct.be 2 b.length ++ b)
/-- a frame's bytes -/
def enc (c k : UInt8) (b : List UInt8) : List UInt8 := ahead c k b ++ (Oct.be 4 (Crc.sum (ahead c k b)) ++ [206])
/-- the length that is told -/
def len (l : List UInt8) : Nat := (l.getD 2 0).toNat * 256 + (l.getD 3 0).toNat
/-- why bytes begin with no frame, or 0 -/
def code (l : List UInt8) : Nat :=
  if l.length < 4 then 3 else if 2048 < len l then 5 else if l.length < len l + 9 then 3 else if l.getD (len l + 8) 0 ≠ 206 then 4
  else if Oct.val ((l.drop (len l + 4)).take 4) ≠ Crc.sum (l.take (len l + 4)) then 14 else 0
def body (l : List UInt8) : List UInt8 := (l.drop 4).take (len l)

/-- how a frame's bytes lie -/
def form (c k h g : UInt8) (b s : List UInt8) (e : UInt8) (m : List UInt8) : List UInt8 := c :: k :: h :: g :: (b ++ (s ++ (e :: m)))
theorem form_len {c k h g : UInt8} {b s : List UInt8} {e : UInt8} {m : List UInt8} (hn : h.toNat * 256 + g.toNat = b.length) : len (form c k h g b s e m) = b.length := hn
theorem form_take {c k h g : UInt8} {b s : List UInt8} {e : UInt8} {m : List UInt8} : (form c k h g b s e m).take (b.length + 4) = c :: k :: h :: g :: b := by
  unfold form
  rw [show b.length + 4 = b.length + 1 + 1 + 1 + 1 from rfl]
  simp only [List.take_succ_cons]
  rw [List.take_left' rfl]
theorem form_drop {c k h g : UInt8} {b s : List UInt8} {e : UInt8} {m : List UInt8} : (form c k h g b s e m).drop (b.length + 4) = s ++ (e :: m) := by
  unfold form
  rw [show b.length + 4 = b.length + 1 + 1 + 1 + 1 from rfl]
  simp only [List.drop_succ_cons]
  rw [List.drop_left' rfl]
theorem form_body {c k h g : UInt8} {b s : List UInt8} {e : UInt8} {m : List UInt8} (hn : h.toNat * 256 + g.toNat = b.length) : body (form c k h g b s e m) = b := by
  unfold body
  rw [form_len hn]
  unfold form
  simp only [List.drop_succ_cons, List.drop_zero]
  rw [List.take_left' rfl]
theorem form_length {c k h g : UInt8} {b s : List UInt8} {e : UInt8} {m : List UInt8} (hs : s.length = 4) : (form c k h g b s e m).length = b.length + 9 + m.length := by
  unfold form
  simp only [List.length_cons, List.length_append, hs]
  omega
theorem form_end {c k h g : UInt8} {b s : List UInt8} {e : UInt8} {m : List UInt8} (hs : s.length = 4) : (form c k h g b s e m).getD (b.length + 8) 0 = e := by
  have h1 : (form c k h g b s e m).getD (b.length + 8) 0 = ((form c k h g b s e m).drop (b.length + 4)).getD 4 0 := by
    rw [List.getD_eq_getElem?_getD, List.getD_eq_getElem?_getD, List.getElem?_drop]
  rw [h1, form_drop, List.getD_eq_getElem?_getD, List.getElem?_append_right (by omega), hs]
  rfl
theorem form_code {c k h g : UInt8} {b s : List UInt8} {e : UInt8} {m : List UInt8} (hn : h.toNat * 256 + g.toNat = b.length) (hs : s.length = 4) :
    code (form c k h g b s e m) = if 2048 < b.length then 5 else if e ≠ 206 then 4 else if Oct.val s ≠ Crc.sum (c :: k :: h :: g :: b) then 14 else 0 := by
  unfold code
  rw [form_length hs, form_len hn, form_end hs, form_take, form_drop, List.take_left' hs, if_neg (by omega)]
  by_cases hb : 2048 < b.length
  · rw [if_pos hb, if_pos hb]
  · rw [if_neg hb, if_neg hb, if_neg (by omega)]

theorem be2 (n : Nat) : Oct.be 2 n = [UInt8.ofNat (n / 256 % 256), UInt8.ofNat (n % 256)] := rfl
theorem be2_len {n : Nat} (h : n < 65536) : (UInt8.ofNat (n / 256 % 256)).toNat * 256 + (UInt8.ofNat (n % 256)).toNat = n := by
  simp only [UInt8.toNat_ofNat']
  omega
theorem ahead_eq (c k : UInt8) (b : List UInt8) : ahead c k b = c :: k :: UInt8.ofNat (b.length / 256 % 256) :: UInt8.ofNat (b.length % 256) :: b := by
  unfold ahead
  rw [be2]
  rfl
theorem enc_form (c k : UInt8) (b m : List UInt8) : enc c k b ++ m = form c k (UInt8.ofNat (b.length / 256 % 256)) (UInt8.ofNat (b.length % 256)) b (Oct.be 4 (Crc.sum (ahead c k b))) 206 m := by
  unfold enc form
  rw [List.append_assoc, List.append_assoc]
  generalize Oct.be 4 (Crc.sum (ahead c k b)) = s
  rw [ahead_eq]
  simp only [List.cons_append, List.nil_append]
theorem enc_form0 (c k : UInt8) (b : List UInt8) : enc c k b = form c k (UInt8.ofNat (b.length / 256 % 256)) (UInt8.ofNat (b.length % 256)) b (Oct.be 4 (Crc.sum (ahead c k b))) 206 [] := by
  rw [← enc_form, List.append_nil]
theorem enc_length (c k : UInt8) (b : List UInt8) : (enc c k b).length = b.length + 9 := by
  rw [enc_form0, form_length (Oct.length_be _ _)]
  rfl
theorem val_sum (l : List UInt8) : Oct.val (Oct.be 4 (Crc.sum l)) = Crc.sum l := by
  rw [Oct.val_be, Nat.mod_eq_of_lt (Crc.sum_lt l)]
theorem enc_code {c k : UInt8} {b : List UInt8} (m : List UInt8) (hb : b.length ≤ 2048) : code (enc c k b ++ m) = 0 := by
  rw [enc_form, form_code (be2_len (by omega)) (Oct.length_be _ _), if_neg (by omega), if_neg (by simp), val_sum, ahead_eq, if_neg (by simp)]
theorem enc_len {c k : UInt8} {b : List UInt8} (m : List UInt8) (hb : b.length ≤ 2048) : len (enc c k b ++ m) = b.length := by
  rw [enc_form, form_len (be2_len (by omega))]
theorem enc_body {c k : UInt8} {b : List UInt8} (m : List UInt8) (hb : b.length ≤ 2048) : body (enc c k b ++ m) = b := by
  rw [enc_form, form_body (be2_len (by omega))]
theorem enc_0 (c k : UInt8) (b m : List UInt8) : (enc c k b ++ m).getD 0 0 = c := by rw [enc_form]; rfl
theorem enc_1 (c k : UInt8) (b m : List UInt8) : (enc c k b ++ m).getD 1 0 = k := by rw [enc_form]; rfl
theorem enc_drop {c k : UInt8} {b : List UInt8} (m : List UInt8) : (enc c k b ++ m).drop (b.length + 9) = m := List.drop_left' (enc_length c k b)

/-! ### what is missing -/
theorem short {c k : UInt8} {b : List UInt8} {j : Nat} (hb : b.length ≤ 2048) (hj : j < (enc c k b).length) : code ((enc c k b).take j) = 3 := by
  rw [enc_length] at hj
  have hl : ((enc c k b).take j).length = j := by rw [List.length_take, enc_length]; omega
  unfold code
  rw [hl]
  by_cases h4 : j < 4
  · rw [if_pos h4]
  · have h2 : ∀ i, i < 4 → ((enc c k b).take j).getD i 0 = (enc c k b).getD i 0 := fun i hi => by
      rw [List.getD_eq_getElem?_getD, List.getD_eq_getElem?_getD, List.getElem?_take, if_pos (by omega)]
    have hn : len ((enc c k b).take j) = b.length := by
      have := enc_len (c := c) (k := k) (b := b) [] hb
      rw [List.append_nil] at this
      rw [← this]
      unfold len
      rw [h2 2 (by decide), h2 3 (by decide)]
    rw [if_neg h4, hn, if_neg (by omega), if_pos (by omega)]

/-! ### a turned byte -/
end Go.Proofs.YtnjlhafhgfpfiaaGreatDoor.Fr
end
