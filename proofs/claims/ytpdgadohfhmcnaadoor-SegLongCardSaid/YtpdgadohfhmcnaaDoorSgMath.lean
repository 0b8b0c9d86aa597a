/-
  RECORDS, plain: as they stand; what stands at the front of bytes; all that stands there; a beginning of them, with noughts behind.
-/
import Derived.Test.YtpdgadohfhmcnaaDoorOctMath
import Derived.Test.YtpdgadohfhmcnaaDoorCrcMath
namespace Go.Proofs.YtpdgadohfhmcnaaDoor.Sg
def ahead (r : List UInt8) : List UInt8 := Oct.be 4 r.length ++ r
def enc (r : List UInt8) : List UInt8 := ahead r ++ (Oct.be 4 (Crc.sum (ahead r)) ++ [165])
def len4 (l : List UInt8) : Nat := Oct.val (l.take 4)
def code (l : List UInt8) : Nat :=
  if l.length < 4 then 3 else if len4 l = 0 then 15 else if 131072 < len4 l then 5 else if l.length < len4 l + 9 then 3 else if l.getD (len4 l + 8) 0 ≠ 165 then 4 else
  if Oct.val ((l.drop (len4 l + 4)).take 4) ≠ Crc.sum (l.take (len4 l + 4)) then 14 else 0
def rc (l : List UInt8) : List UInt8 := (l.drop 4).take (len4 l)
def Good (r : List UInt8) : Prop := 0 < r.length ∧ r.length ≤ 131072
def encs (l : List (List UInt8)) : List UInt8 := l.flatMap enc
/-- what is wrong with a record -/
def rcode (r : List UInt8) : Nat := if r.length = 0 then 15 else if 131072 < r.length then 5 else 0
theorem rcode_good {r : List UInt8} : rcode r = 0 ↔ Good r := by
  unfold rcode Good
  split
  · omega
  · split <;> omega
theorem ahead_len (r : List UInt8) : (ahead r).length = r.length + 4 := by simp [ahead, Oct.length_be]; omega
theorem enc_len (r : List UInt8) : (enc r).length = r.length + 9 := by simp [enc, ahead_len, Oct.length_be]
theorem take_enc (r m : List UInt8) : (enc r ++ m).take 4 = Oct.be 4 r.length := by
  unfold enc ahead
  rw [List.append_assoc, List.append_assoc]
  exact List.take_left' (Oct.length_be 4 _)
theorem len4_enc {r : List UInt8} (m : List UInt8) (h : r.length ≤ 131072) : len4 (enc r ++ m) = r.length := by
  unfold len4
  rw [take_enc, Oct.val_be]
  exact Nat.mod_eq_of_lt (by omega)
theorem val_sum (l : List UInt8) : Oct.val (Oct.be 4 (Crc.sum l)) = Crc.sum l := by
  rw [Oct.val_be]
  exact Nat.mod_eq_of_lt (Crc.sum_lt l)
theorem take_ahead (r m : List UInt8) : (enc r ++ m).take (r.length + 4) = ahead r := by
  unfold enc
  rw [List.append_assoc]
  exact List.take_left' (ahead_len r)
theorem drop_ahead (r m : List UInt8) : (enc r ++ m).drop (r.length + 4) = Oct.be 4 (Crc.sum (ahead r)) ++ [165] ++ m := by
  unfold enc
  rw [List.append_assoc]
  exact List.drop_left' (ahead_len r)
theorem end_enc (r m : List UInt8) : (enc r ++ m).getD (r.length + 8) 0 = 165 := by
  have h : ((enc r ++ m).drop (r.length + 4))[4]? = some 165 := by
    rw [drop_ahead, List.append_assoc, List.getElem?_append_right (by rw [Oct.length_be]; exact Nat.le_refl _), Oct.length_be]
    rfl
  rw [List.getElem?_drop] at h
  rw [List.getD_eq_getElem?_getD, show r.length + 8 = r.length + 4 + 4 by omega, h]
  rfl
theorem code_enc {r : List UInt8} (m : List UInt8) (h : Good r) : code (enc r ++ m) = 0 := by
  have hl := len4_enc m h.2
  have h1 := h.1
  have h2 := h.2
  unfold code
  rw [hl, if_neg (by simp [enc_len]; omega), if_neg (by omega), if_neg (by omega), if_neg (by simp [enc_len]), if_neg (by rw [end_enc]; simp), take_ahead, drop_ahead, List.append_assoc, List.take_left' (Oct.length_be 4 _), val_sum]
  simp
theorem rc_enc {r : List UInt8} (m : List UInt8) (h : Good r) : rc (enc r ++ m) = r := by
  unfold rc
  rw [len4_enc m h.2]
  unfold enc ahead
  rw [List.append_assoc, List.append_assoc, List.drop_left' (Oct.length_be 4 _)]
  exact List.take_left' rfl
theorem drop_enc (r m : List UInt8) : (enc r ++ m).drop (r.length + 9) = m := List.drop_left' (enc_len r)
theorem code_long {l : List UInt8} (h : code l = 0) : len4 l + 9 ≤ l.length ∧ 0 < len4 l ∧ len4 l ≤ 131072 := by
  unfold code at h
  split at h
  · omega
  · split at h
    · omega
    · split at h
      · omega
      · split at h
        · omega
        · omega
/-- all records at the front -/
def scan : Nat → List UInt8 → List (List UInt8) × Nat
  | 0, _ => ([], 0)
  | f + 1, l => if code l = 0 then (rc l :: (scan f (l.drop (len4 l + 9))).1, len4 l + 9 + (scan f (l.drop (len4 l + 9))).2) else ([], 0)
theorem code_nil : code [] = 3 := rfl
theorem scan_fuel : ∀ (f g : Nat) (l : List UInt8), l.length ≤ f → l.length ≤ g → scan f l = scan g l
  | 0, 0, _, _, _ => rfl
  | 0, g + 1, l, h, _ => by
    obtain rfl : l = [] := List.eq_nil_of_length_eq_zero (by omega)
    show ([], 0) = (if code [] = 0 then _ else _)
    rw [if_neg (by rw [code_nil]; decide)]
  | f + 1, 0, l, _, h => by
    obtain rfl : l = [] := List.eq_nil_of_length_eq_zero (by omega)
    show (if code [] = 0 then _ else _) = ([], 0)
    rw [if_neg (by rw [code_nil]; decide)]
  | f + 1, g + 1, l, h1, h2 => by
    unfold scan
    by_cases h : code l = 0
    · rw [if_pos h, if_pos h, scan_fuel f g _ (by rw [List.length_drop]; omega) (by rw [List.length_drop]; omega)]
    · rw [if_neg h, if_neg h]
def all (l : List UInt8) : List (List UInt8) × Nat := scan l.length l
theorem all_ok {l : List UInt8} (h : code l = 0) : all l = (rc l :: (all (l.drop (len4 l + 9))).1, len4 l + 9 + (all (l.drop (len4 l + 9))).2) := by
  have hl := code_long h
  unfold all
  obtain ⟨n, hn⟩ : ∃ n, l.length = n + 1 := ⟨l.length - 1, by omega⟩
  rw [hn]
  show (if code l = 0 then _ else _) = _
  rw [if_pos h, scan_fuel n (l.drop (len4 l + 9)).length _ (by rw [List.length_drop]; omega) (Nat.le_refl _)]
theorem all_no {l : List UInt8} (h : code l ≠ 0) : all l = ([], 0) := by
  unfold all
  cases hn : l.length with
  | zero => rfl
  | succ n =>
    show (if code l = 0 then _ else _) = _
    rw [if_neg h]
theorem all_encs : ∀ (l : List (List UInt8)) (m : List UInt8), (∀ r ∈ l, Good r) → all (encs l ++ m) = (l ++ (all m).1, (encs l).length + (all m).2)
  | [], m, _ => by simp [encs]
  | r :: l, m, h => by
    have hr := h r (by simp)
    have e : encs (r :: l) ++ m = enc r ++ (encs l ++ m) := by simp [encs]
    have hl : (encs (r :: l)).length = r.length + 9 + (encs l).length := by simp [encs, enc_len]
    rw [e, all_ok (code_enc _ hr), len4_enc _ hr.2, rc_enc _ hr, drop_enc, all_encs l m fun x hx => h x (by simp [hx]), hl]
    simp only [List.cons_append, Prod.mk.injEq, true_and]
    omega
/-- behind a beginning that isn't all there are noughts: no record -/
theorem code_cut {r : List UInt8} {j : Nat} (z : Nat) (hr : Good r) (hj : j < r.length + 9) : code ((enc r).take j ++ List.replicate z 0) ≠ 0 := by
  intro h
  have hl := code_long h
  have hb : ((enc r).take j ++ List.replicate z (0 : UInt8)).getD (len4 ((enc r).take j ++ List.replicate z 0) + 8) 0 = 165 := by
    have h' := h
    unfold code at h'
    split at h'
    · omega
    · split at h'
      · omega
      · split at h'
        · omega
        · split at h'
          · omega
          · split at h'
            · omega
            · rename_i h6; simpa using h6
  have hjl : ((enc r).take j).length = j := by rw [List.length_take, enc_len]; omega
  have hge : j ≤ len4 ((enc r).take j ++ List.replicate z 0) + 8 := by
    by_cases h4 : j ≤ 8
    · omega
    · have e4 : ((enc r).take j ++ List.replicate z (0 : UInt8)).take 4 = Oct.be 4 r.length := by
        rw [List.take_append_of_le_length (by rw [hjl]; omega), List.take_take, Nat.min_eq_left (by omega)]
        have := take_enc r []
        rwa [List.append_nil] at this
      have e5 : len4 ((enc r).take j ++ List.replicate z 0) = r.length := by
        unfold len4
        rw [e4, Oct.val_be]
        exact Nat.mod_eq_of_lt (by have := hr.2; omega)
      omega
  rw [List.getD_eq_getElem?_getD, List.getElem?_append_right (by rw [hjl]; exact hge), List.getElem?_replicate] at hb
  split at hb
  · exact absurd hb (by decide)
  · exact absurd hb (by decide)
theorem code_zero (m : List UInt8) : code ([0, 0, 0, 0] ++ m) ≠ 0 := by
  intro h
  have := (code_long h).2.1
  unfold len4 at this
  rw [show List.take 4 ([0, 0, 0, 0] ++ m) = [0, 0, 0, 0] from rfl] at this
  exact absurd this (by decide)
/-- of records that were written as far as a cut -/
theorem falls {l : List (List UInt8)} {k cut : Nat} (z : Nat) (h : ∀ r ∈ l, Good r) (hk : k ≤ l.length) (hc : (encs (l.take k)).length ≤ cut) (hlt : ∀ hk' : k < l.length, cut < (encs (l.take k)).length + (l[k].length + 9)) (hcut : cut ≤ (encs l).length) :
    all ((encs l).take cut ++ List.replicate z 0) = (l.take k, (encs (l.take k)).length) := by
  have hs : encs l = encs (l.take k) ++ encs (l.drop k) := by
    unfold encs
    rw [← List.flatMap_append, List.take_append_drop]
  have ht : (encs l).take cut = encs (l.take k) ++ (encs (l.drop k)).take (cut - (encs (l.take k)).length) := by
    rw [hs, List.take_append, List.take_of_length_le hc]
  rw [ht, List.append_assoc, all_encs _ _ fun r hr => h r (List.mem_of_mem_take hr)]
  have hno : all ((encs (l.drop k)).take (cut - (encs (l.take k)).length) ++ List.replicate z 0) = ([], 0) := by
    apply all_no
    rcases Nat.lt_or_ge k l.length with hk' | hk'
    · have hd : encs (l.drop k) = enc l[k] ++ encs (l.drop (k + 1)) := by
        unfold encs
        rw [List.drop_eq_getElem_cons hk']; rfl
      have hl := hlt hk'
      rw [hd, List.take_append_of_le_length (by rw [enc_len]; omega)]
      exact code_cut z (h _ (List.getElem_mem hk')) (by omega)
    · have hd : encs (l.drop k) = [] := by rw [List.drop_of_length_le hk']; rfl
      rw [hd, List.take_nil, List.nil_append]
      intro hc0
      have h2 := (code_long hc0).2.1
      have h3 := (code_long hc0).1
      rw [List.length_replicate] at h3
      unfold len4 at h2
      rw [List.take_replicate] at h2
      have h4 : Oct.val (List.replicate (min 4 z) 0) = 0 := by
        rw [Nat.min_eq_left (by omega)]; decide
      omega
  rw [hno]
  simp
end Go.Proofs.YtpdgadohfhmcnaaDoor.Sg
