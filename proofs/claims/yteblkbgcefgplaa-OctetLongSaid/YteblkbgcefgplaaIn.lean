/-
  WHAT IS READ, walked: the calls of In, at an object that is there and at none.
-/
import Derived.Test.YteblkbgcefgplaaItems
namespace Go.Proofs.Yteblkbgcefgplaa
open Go.ChangeShapes Go.WideShapes Go.ChangeAt Go.RowKit
attribute [local go_sem ↓] Go.wp_at_zero Go.wp_at_succ

/-- an object that reads lies in block b: what is left, and the error -/
structure InAt (b : Nat) (r : ByteArray) (e : Int) (w : World) : Prop where
  c0 : w.cell? ⟨b, 0, none⟩ = some (.string r)
  c1 : w.cell? ⟨b, 1, none⟩ = some (.int .i64 e)
  fr : ∀ j, w.frozen? ⟨b, j, none⟩ = false
  lt : b < w.heap.size

def rawOut (r : ByteArray) (n : Int) : ByteArray := if n ≤ 0 then ByteArray.empty else if (r.size : Int) < n then ByteArray.empty else r.extract 0 n.toNat
def rawRest (r : ByteArray) (n : Int) : ByteArray := if n ≤ 0 then r else if (r.size : Int) < n then ByteArray.empty else r.extract n.toNat r.size
def rawErr (r : ByteArray) (e n : Int) : Int := if 0 < n ∧ (r.size : Int) < n ∧ e = 0 then 3 else e

theorem only_setCell {a w : World} {g : Nat} (h : a.grownBy w (some g)) {p : Addr} (hp : p.block = g) (u : Value) : a.grownBy (w.setCell p u) (some g) :=
  ⟨h.os, h.tape, h.output, by simpa [World.setCell] using h.size, fun i hi hne => (Below.heap_setCell w p u i (by
    rintro rfl
    exact hne (by rw [hp]))).trans (h.block i hi hne)⟩
theorem only_alloc {a w : World} {row : Option Nat} (h : a.grownBy w row) (o : Obj) : a.grownBy (w.alloc o) row :=
  ⟨h.os, h.tape, h.output, Nat.le_trans h.size (by simp), fun i hi hne => (Below.heap_alloc w o i (Nat.lt_of_lt_of_le hi h.size)).trans (h.block i hi hne)⟩
theorem only_drew {a w : World} {row : Option Nat} (h : a.grownBy w row) : a.grownBy w.drew row := ⟨h.os, h.tape, h.output, h.size, h.block⟩
theorem InAt.alloc {b : Nat} {r : ByteArray} {e : Int} {w : World} (h : InAt b r e w) (o : Obj) : InAt b r e (w.alloc o) :=
  ⟨(cell_old _ _ _ _ h.lt).trans h.c0, (cell_old _ _ _ _ h.lt).trans h.c1, fun j => (free_old _ _ _ _ h.lt).trans (h.fr j), by have := h.lt; simp; omega⟩
theorem InAt.drew {b : Nat} {r : ByteArray} {e : Int} {w : World} (h : InAt b r e w) : InAt b r e w.drew := ⟨h.c0, h.c1, h.fr, h.lt⟩
theorem ne_cell (b i j : Nat) (h : i ≠ j) : (⟨b, i, none⟩ : Addr) ≠ ⟨b, j, none⟩ := by simp only [ne_eq, Addr.mk.injEq, not_and]; omega
theorem InAt.rest {b : Nat} {r : ByteArray} {e : Int} {w : World} (h : InAt b r e w) (r' : ByteArray) : InAt b r' e (w.setCell ⟨b, 0, none⟩ (.string r')) :=
  ⟨World.cell?_setCell_same _ _ _ h.c0, (World.cell?_setCell_other _ _ _ _ (ne_cell b 0 1 (by decide))).trans h.c1, fun j => by rw [World.frozen?_setCell]; exact h.fr j, by have := h.lt; simp [World.setCell]; exact this⟩
theorem InAt.code {b : Nat} {r : ByteArray} {e : Int} {w : World} (h : InAt b r e w) (e' : Int) : InAt b r e' (w.setCell ⟨b, 1, none⟩ (.int .i64 e')) :=
  ⟨(World.cell?_setCell_other _ _ _ _ (ne_cell b 1 0 (by decide))).trans h.c0, World.cell?_setCell_same _ _ _ h.c1, fun j => by rw [World.frozen?_setCell]; exact h.fr j, by have := h.lt; simp [World.setCell]; exact this⟩

set_option maxHeartbeats 400000 in
theorem fail_keep (b : Nat) (r : ByteArray) (e code : Int) (w : World) (h : InAt b r e w) (hk : code = 0 ∨ e ≠ 0) :
    Calls Try.prog 17 #[.pointer (some ⟨b, 0, none⟩), .int .i64 code] w fun x w' => x = .returned (.tuple #[]) ∧ w = w' := by
  obtain ⟨c0, c1, fr, lt⟩ := h
  by_cases h0 : code = 0
  · have k0 : (code == 0) = true := by simp; omega
    clear h0 hk
    go_enter Try.func17, Try.ntmps17
    go_wp2
    refine bodyPost_ret (results_none rfl _ _ _) rfl ?_
    exact ⟨rfl, rfl⟩
  · have k0 : (code == 0) = false := by simp; omega
    have k1 : (e != 0) = true := by simp; omega
    clear h0 hk
    go_enter Try.func17, Try.ntmps17
    go_wp2
    refine bodyPost_ret (results_none rfl _ _ _) rfl ?_
    exact ⟨rfl, rfl⟩

set_option maxHeartbeats 400000 in
theorem fail_set (b : Nat) (r : ByteArray) (code : Int) (w : World) (h : InAt b r 0 w) (hc : code ≠ 0) :
    Calls Try.prog 17 #[.pointer (some ⟨b, 0, none⟩), .int .i64 code] w fun x w' => x = .returned (.tuple #[]) ∧ (w.setCell ⟨b, 1, none⟩ (.int .i64 code)).setCell ⟨b, 0, none⟩ (.string ByteArray.empty) = w' := by
  have c0 := h.c0
  have c1 := h.c1
  have fr := h.fr
  have lt := h.lt
  have k0 : (code == 0) = false := by simp; omega
  clear hc h
  go_enter Try.func17, Try.ntmps17
  go_wp2
  go_end0
  exact ⟨rfl, rfl⟩

/-- what a call of In leaves: its answer; what is left, and the error; nothing else that was there is written -/
def Post (b : Nat) (w : World) (v : Value) (r : ByteArray) (e : Int) (x : Ending) (w' : World) : Prop := x = .returned v ∧ InAt b r e w' ∧ w.grownBy w' (some b)

def failRest (r : ByteArray) (e code : Int) : ByteArray := if code = 0 ∨ e ≠ 0 then r else ByteArray.empty
def failErr (e code : Int) : Int := if code = 0 ∨ e ≠ 0 then e else code
theorem fail_any (b : Nat) (r : ByteArray) (e code : Int) (w : World) (h : InAt b r e w) :
    Calls Try.prog 17 #[.pointer (some ⟨b, 0, none⟩), .int .i64 code] w (Post b w (.tuple #[]) (failRest r e code) (failErr e code)) := by
  by_cases hk : code = 0 ∨ e ≠ 0
  · have e1 : failRest r e code = r := if_pos hk
    have e2 : failErr e code = e := if_pos hk
    rw [e1, e2]
    refine (fail_keep b r e code w h hk).mono ?_
    rintro x w' ⟨rfl, rfl⟩
    exact ⟨rfl, h, World.grownBy.refl _ _⟩
  · have e1 : failRest r e code = ByteArray.empty := if_neg hk
    have e2 : failErr e code = code := if_neg hk
    rw [e1, e2]
    have he : e = 0 := by omega
    subst he
    refine (fail_set b r code w h (by omega)).mono ?_
    rintro x w' ⟨rfl, rfl⟩
    have g1 := only_setCell (p := ⟨b, 1, none⟩) (World.grownBy.refl w (some b)) rfl (.int .i64 code)
    have g2 := only_setCell (p := ⟨b, 0, none⟩) g1 rfl (.string ByteArray.empty)
    exact ⟨rfl, (h.code code).rest _, g2⟩

set_option maxHeartbeats 1000000 in
theorem iraw_low (b : Nat) (r : ByteArray) (e n : Int) (w : World) (h : InAt b r e w) (hn : n ≤ 0) :
    Calls Try.prog 23 #[.pointer (some ⟨b, 0, none⟩), .int .i64 n] w (Post b w (.string (rawOut r n)) (rawRest r n) (rawErr r e n)) := by
  have e1 : rawOut r n = ByteArray.empty := by unfold rawOut; rw [if_pos hn]
  have e2 : rawRest r n = r := by unfold rawRest; rw [if_pos hn]
  have e3 : rawErr r e n = e := by unfold rawErr; rw [if_neg (by omega)]
  rw [e1, e2, e3]
  have H := Lib.hid h
  clear h e1 e2 e3
  go_enter Try.func23, Try.ntmps23
  go_wp2_with fail
  go_ret
  exact ⟨rfl, H.out, World.grownBy.refl _ _⟩

set_option maxHeartbeats 1000000 in
theorem iraw_short (b : Nat) (r : ByteArray) (e n : Int) (w : World) (h : InAt b r e w) (hn : 0 < n) (hs : (r.size : Int) < n) (hinv : e ≠ 0 → r = ByteArray.empty) :
    Calls Try.prog 23 #[.pointer (some ⟨b, 0, none⟩), .int .i64 n] w (Post b w (.string (rawOut r n)) (rawRest r n) (rawErr r e n)) := by
  have e1 : rawOut r n = ByteArray.empty := by unfold rawOut; rw [if_neg (by omega), if_pos hs]
  have e2 : rawRest r n = failRest r e 3 := by
    unfold rawRest failRest
    rw [if_neg (by omega), if_pos hs]
    by_cases he : e = 0
    · rw [if_neg (by omega)]
    · rw [if_pos (by omega)]; exact (hinv he).symm
  have e3 : rawErr r e n = failErr e 3 := by
    unfold rawErr failErr
    by_cases he : e = 0
    · rw [if_pos (by omega), if_neg (by omega)]
    · rw [if_neg (by omega), if_pos (by omega)]
  rw [e1, e2, e3]
  have H := Lib.hid (fail_any b r e 3 w h)
  have c0 := h.c0
  clear h e1 e2 e3 hinv
  go_enter Try.func23, Try.ntmps23
  go_wp2_with fail
  refine H.out.mono ?_
  rintro x w1 ⟨rfl, h1, h2⟩
  have H1 := Lib.hid h1
  have H2 := Lib.hid h2
  clear h1 h2
  go_wp2_with fail
  go_ret
  exact ⟨rfl, H1.out, H2.out⟩

set_option maxHeartbeats 1000000 in
theorem iraw_ok (b : Nat) (r : ByteArray) (e n : Int) (w : World) (h : InAt b r e w) (hn : 0 < n) (hs : n ≤ r.size) :
    Calls Try.prog 23 #[.pointer (some ⟨b, 0, none⟩), .int .i64 n] w (Post b w (.string (rawOut r n)) (rawRest r n) (rawErr r e n)) := by
  have e1 : rawOut r n = r.extract 0 n.toNat := by unfold rawOut; rw [if_neg (by omega), if_neg (by omega)]
  have e2 : rawRest r n = r.extract n.toNat r.size := by unfold rawRest; rw [if_neg (by omega), if_neg (by omega)]
  have e3 : rawErr r e n = e := by unfold rawErr; rw [if_neg (by omega)]
  rw [e1, e2, e3]
  have H := Lib.hid h
  have c0 := h.c0
  have fr := h.fr
  clear h e1 e2 e3
  go_enter Try.func23, Try.ntmps23
  go_wp2_with fail
  go_ret
  exact ⟨rfl, H.out.rest _, only_setCell (World.grownBy.refl _ _) rfl _⟩

theorem iraw_any (b : Nat) (r : ByteArray) (e n : Int) (w : World) (h : InAt b r e w) (hinv : e ≠ 0 → r = ByteArray.empty) :
    Calls Try.prog 23 #[.pointer (some ⟨b, 0, none⟩), .int .i64 n] w (Post b w (.string (rawOut r n)) (rawRest r n) (rawErr r e n)) := by
  by_cases hn : n ≤ 0
  · exact iraw_low b r e n w h hn
  · by_cases hs : (r.size : Int) < n
    · exact iraw_short b r e n w h (by omega) hs hinv
    · exact iraw_ok b r e n w h (by omega) (by omega)

set_option maxHeartbeats 400000 in
theorem left_any (b : Nat) (r : ByteArray) (e : Int) (w : World) (h : InAt b r e w) :
    Calls Try.prog 25 #[.pointer (some ⟨b, 0, none⟩)] w fun x w' => x = .returned (.int .i64 (r.size : Int)) ∧ w = w' := by
  have c0 := h.c0
  clear h
  go_enter Try.func25, Try.ntmps25
  go_wp2_with fail
  go_ret
  exact ⟨rfl, rfl⟩
set_option maxHeartbeats 400000 in
theorem err_any (b : Nat) (r : ByteArray) (e : Int) (w : World) (h : InAt b r e w) :
    Calls Try.prog 27 #[.pointer (some ⟨b, 0, none⟩)] w fun x w' => x = .returned (.int .i64 e) ∧ w = w' := by
  have c1 := h.c1
  clear h
  go_enter Try.func27, Try.ntmps27
  go_wp2_with fail
  go_ret
  exact ⟨rfl, rfl⟩
def endOf (r : ByteArray) (e : Int) : Int := if 0 < r.size then 4 else e
set_option maxHeartbeats 400000 in
theorem end_any (b : Nat) (r : ByteArray) (e : Int) (w : World) (h : InAt b r e w) :
    Calls Try.prog 28 #[.pointer (some ⟨b, 0, none⟩)] w fun x w' => x = .returned (.int .i64 (endOf r e)) ∧ w = w' := by
  have HL := Lib.hid (left_any b r e w h)
  have HE := Lib.hid (err_any b r e w h)
  clear h
  by_cases h0 : 0 < r.size
  · have HO : Hid (endOf r e = 4) := by unfold endOf; rw [if_pos h0]; exact (rfl : _ = _)
    go_enter Try.func28, Try.ntmps28
    go_wp2_with (go_at_call 25; refine HL.out.mono ?_; rintro x w' ⟨rfl, rfl⟩)
    go_ret
    exact ⟨ret_int (by rw [HO.out]), rfl⟩
  · have HO : Hid (endOf r e = e) := by unfold endOf; rw [if_neg h0]; exact (rfl : _ = _)
    go_enter Try.func28, Try.ntmps28
    go_wp2_with (first | (go_at_call 25; refine HL.out.mono ?_; rintro x w' ⟨rfl, rfl⟩) | (go_at_call 27; refine HE.out.mono ?_; rintro x w' ⟨rfl, rfl⟩))
    go_ret
    exact ⟨ret_int (by rw [HO.out]), rfl⟩
set_option maxHeartbeats 400000 in
theorem new_any (s : ByteArray) (w : World) :
    Calls Try.prog 16 #[.string s] w fun x w' => x = .returned (.pointer (some ⟨w.heap.size, 0, none⟩)) ∧ w.alloc (.cells #[.string s, .int .i64 0] 55) = w' := by
  go_enter Try.func16, Try.ntmps16
  go_wp2_with fail
  go_ret
  exact ⟨rfl, rfl⟩

theorem rawOut_size (r : ByteArray) (k : Nat) : (rawOut r (k : Int)).size ≤ k := by
  unfold rawOut
  split
  · simp
  · split
    · simp
    · rw [ByteArray.size_extract]; omega
theorem take_snoc (s : ByteArray) (k : Nat) (h : k < s.size) : s.data.toList.take (k + 1) = s.data.toList.take k ++ [s[k]] := by
  rw [List.take_succ_eq_append_getElem (by simpa using h)]; rfl
theorem val_step (s : ByteArray) (k : Nat) (h : k < s.size) : Oct.val (s.data.toList.take (k + 1)) = Oct.val (s.data.toList.take k) * 256 + s[k].toNat := by
  rw [take_snoc s k h, Oct.val_snoc]
theorem or_step (X Y : Nat) (hX : X < 256 ^ 7) (hY : Y < 2 ^ 8) : bits .or .u64 (IntKind.u64.wrap ((X : Int) * 256)) (Y : Int) = ((X * 256 + Y : Nat) : Int) := by
  have h7 : X < 72057594037927936 := hX
  have h8 : Y < 256 := hY
  have e : IntKind.u64.wrap ((X : Int) * 256) = ((X * 256 : Nat) : Int) := by rw [IntKind.wrap_u64]; omega
  rw [e, u64_or_nat _ _ (by omega) (by omega), nat_join 8 _ _ (by simp) hY]
/-- the number that a text's bytes are -/
def numVal (s : ByteArray) : Nat := Oct.val s.data.toList
set_option maxHeartbeats 1000000 in
theorem inum_any (b : Nat) (r : ByteArray) (e n : Int) (w : World) (h : InAt b r e w) (hinv : e ≠ 0 → r = ByteArray.empty) :
    Calls Try.prog 19 #[.pointer (some ⟨b, 0, none⟩), .int .i64 n] w (Post b w (.int .u64 ((numVal (rawOut r (Oct.width n)) : Nat) : Int)) (rawRest r (Oct.width n)) (rawErr r e (Oct.width n))) := by
  have hw := width_any n
  have hr := iraw_any b r e (Oct.width n) w h hinv
  have h8 := Oct.width_le n
  generalize Oct.width n = k at *
  have h1s := rawOut_size r k
  generalize rawOut r (k : Int) = s at *
  have HW := Lib.hid hw
  have HR := Lib.hid hr
  clear hw hr h hinv
  have hc9 := fun W : World => run_bytes_of_string (P := Try.prog) W 9 51 5 s Try.underlying9 Try.underlying51 Try.underlying5
  go_enter Try.func19, Try.ntmps19
  go_wp2_with (first | (go_at_call 33; refine (HW.out _).mono ?_; rintro x w' ⟨rfl, rfl⟩) | (go_at_call 23; refine HR.out.mono ?_; rintro x w1 ⟨rfl, h1, h2⟩; have hl1 := h1.lt; have H1 := Lib.hid h1; have H2 := Lib.hid h2; clear h1 h2))
  go_loopw [5, 14] (fun x i wr => ∃ j : Nat, j ≤ s.size ∧ i = .int .i64 j ∧ x = .int .u64 ((Oct.val (s.data.toList.take j) : Nat) : Int) ∧ wr = (w1.alloc (.cells (bytesRow s (grownCap w1 s.size 0 5)) 5 ((bytesRow s (grownCap w1 s.size 0 5)).size, (bytesRow s (grownCap w1 s.size 0 5)).size + 1))).drew) (fun _ i _ => s.size - (intOf i).toNat)
  case atStart => exact ⟨0, by omega, rfl, rfl, rfl⟩
  case round =>
    obtain ⟨j, hj, rfl, rfl, rfl⟩ := hrel
    clear hc9
    by_cases hlt : j < s.size
    · have hjd : j < s.data.size := hlt
      have hcell : (w1.alloc (.cells (bytesRow s (grownCap w1 s.size 0 5)) 5 ((bytesRow s (grownCap w1 s.size 0 5)).size, (bytesRow s (grownCap w1 s.size 0 5)).size + 1))).cell? ⟨w1.heap.size, j, none⟩ = some (.int .u8 (s[j].toNat : Int)) := (World.cell?_alloc_mark _ _ _ _ _).trans (bytesRow_at s _ j hjd)
      have hl := s[j].toNat_lt
      have hs := take_snoc s j hlt
      have hv := val_step s j hlt
      have HV := Lib.hid hv
      clear hv hs
      have hX := Oct.val_lt (s.data.toList.take j)
      generalize s[j].toNat = Y at *
      generalize Oct.val (s.data.toList.take j) = X at *
      have HOR := Lib.hid (or_step X Y (by
        refine Nat.lt_of_lt_of_le hX ?_
        have hlen : (s.data.toList.take j).length ≤ 7 := by simp; omega
        exact Nat.pow_le_pow_right (n := 256) (by decide) hlen) hl)
      clear hX
      go_wp2
      go_roundw
      case rel => exact ⟨j + 1, by omega, by go_num, by rw [HV.out, HOR.out], trivial⟩
      case measure => simp [intOf]; omega
    · obtain rfl : j = s.size := by omega
      have HX := Lib.hid (show Oct.val (s.data.toList.take s.size) = numVal s by unfold numVal; rw [List.take_of_length_le (by simp)])
      generalize Oct.val (s.data.toList.take s.size) = X at *
      go_wp2
      go_ret
      exact ⟨ret_int (by rw [HX.out]), (H1.out.alloc _).drew, only_drew (only_alloc H2.out _)⟩
end Go.Proofs.Yteblkbgcefgplaa
