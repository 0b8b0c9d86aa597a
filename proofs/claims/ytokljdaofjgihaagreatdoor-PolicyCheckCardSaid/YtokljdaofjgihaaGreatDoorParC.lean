/-
  A POLICY'S TEXT: what reads a line's words, walked: the program's.
-/
import Derived.Test.YtokljdaofjgihaaGreatDoorParB
namespace Go.Proofs.YtokljdaofjgihaaGreatDoor
open Go.ChangeShapes Go.WideShapes Go.ChangeAt Go.RowKit

theorem gb {W W' : World} (h : Below W.heap.size W W') (row : Option Nat) : W.grownBy W' row := ⟨h.os, h.tape, h.output, h.size, fun k hk _ => h.block k hk⟩
/-- words, ahead of block r -/
def WdsAt (W : World) (r : Nat) (A : Option Addr) (ws : List (List UInt8)) : Prop :=
  ∀ j (h : j < ws.length), ∃ g o, A = some ⟨g, o, none⟩ ∧ g < r ∧ W.cell? ⟨g, o + j, none⟩ = some (.string (ofL ws[j]))
/-- a reader lies in block r: the words that are left, and the error -/
structure Rdr (W : World) (r : Nat) (ws : List (List UInt8)) (code : Nat) : Prop where
  sl : ∃ A c, W.cell? ⟨r, 0, none⟩ = some (.slice A ws.length c) ∧ ws.length ≤ c ∧ c ≤ 100000 ∧ WdsAt W r A ws
  cd : W.cell? ⟨r, 1, none⟩ = some (.int .i64 (code : Int))
  fz : ∀ j, W.frozen? ⟨r, j, none⟩ = false
theorem Rdr.lt {W : World} {r : Nat} {ws : List (List UInt8)} {code : Nat} (h : Rdr W r ws code) : r < W.heap.size := World.block_lt_of_cell? W _ h.cd
theorem WdsAt.kept {W W' : World} {r : Nat} {A : Option Addr} {ws : List (List UInt8)} (h : WdsAt W r A ws) (hk : ∀ k, k < r → W'.heap[k]? = W.heap[k]?) : WdsAt W' r A ws := by
  intro j hj
  obtain ⟨g, o, e, hg, hc⟩ := h j hj
  exact ⟨g, o, e, hg, (World.cell?_of_block (a := ⟨g, o + j, none⟩) (hk g hg)).trans hc⟩
theorem Rdr.on {W W' : World} {r : Nat} {ws : List (List UInt8)} {code : Nat} (h : Rdr W r ws code) (hb : Below W.heap.size W W') : Rdr W' r ws code := by
  have hr := h.lt
  obtain ⟨A, c, h0, h1, h2, h3⟩ := h.sl
  exact ⟨⟨A, c, (hb.cell (p := ⟨r, 0, none⟩) hr).trans h0, h1, h2, h3.kept fun k hk => hb.block k (by omega)⟩, (hb.cell (p := ⟨r, 1, none⟩) hr).trans h.cd, fun j => (hb.frozen (p := ⟨r, j, none⟩) hr).trans (h.fz j)⟩
theorem setCell_far (W : World) (r i : Nat) (v : Value) (k : Nat) (h : k < r) : (W.setCell ⟨r, i, none⟩ v).heap[k]? = W.heap[k]? := Below.heap_setCell W ⟨r, i, none⟩ v k (by simp only; omega)
theorem ne_at (r i j : Nat) (h : i ≠ j) : (⟨r, i, none⟩ : Addr) ≠ ⟨r, j, none⟩ := fun e => h (congrArg Addr.off e)
theorem rdr_next {W : World} {r : Nat} {ws : List (List UInt8)} {code : Nat} (h : Rdr W r ws code) (A : Option Addr) (xs : List (List UInt8)) (n c : Nat) (hn : xs.length = n) (h1 : xs.length ≤ c) (h2 : c ≤ 100000) (hw : WdsAt W r A xs) : Rdr (W.setCell ⟨r, 0, none⟩ (.slice A n c)) r xs code := by
  subst hn
  obtain ⟨A0, c0, a0, _⟩ := h.sl
  have k0 : (W.setCell ⟨r, 0, none⟩ (.slice A xs.length c)).cell? ⟨r, 0, none⟩ = some (.slice A xs.length c) := World.cell?_setCell_same W ⟨r, 0, none⟩ _ a0
  have k1 : (W.setCell ⟨r, 0, none⟩ (.slice A xs.length c)).cell? ⟨r, 1, none⟩ = some (.int .i64 (code : Int)) := (World.cell?_setCell_other W ⟨r, 0, none⟩ ⟨r, 1, none⟩ _ (ne_at r 0 1 (by decide))).trans h.cd
  refine ⟨⟨A, c, k0, h1, h2, hw.kept fun k hk => setCell_far W r 0 _ k hk⟩, k1, fun j => ?_⟩
  rw [World.frozen?_setCell]; exact h.fz j
theorem rdr_code {W : World} {r : Nat} {ws : List (List UInt8)} {code : Nat} (h : Rdr W r ws code) (c2 : Nat) : Rdr (W.setCell ⟨r, 1, none⟩ (.int .i64 (c2 : Int))) r ws c2 := by
  obtain ⟨A, c, a0, a1, a2, a3⟩ := h.sl
  have k1 : (W.setCell ⟨r, 1, none⟩ (.int .i64 (c2 : Int))).cell? ⟨r, 1, none⟩ = some (.int .i64 (c2 : Int)) := World.cell?_setCell_same W ⟨r, 1, none⟩ _ h.cd
  have k0 : (W.setCell ⟨r, 1, none⟩ (.int .i64 (c2 : Int))).cell? ⟨r, 0, none⟩ = some (.slice A ws.length c) := (World.cell?_setCell_other W ⟨r, 1, none⟩ ⟨r, 0, none⟩ _ (ne_at r 1 0 (by decide))).trans a0
  refine ⟨⟨A, c, k0, a1, a2, a3.kept fun k hk => setCell_far W r 1 _ k hk⟩, k1, fun j => ?_⟩
  rw [World.frozen?_setCell]; exact h.fz j
theorem only_set (W : World) (r i : Nat) (v : Value) : W.grownBy (W.setCell ⟨r, i, none⟩ v) (some r) := only_setCell (World.grownBy.refl W (some r)) (p := ⟨r, i, none⟩) rfl v
theorem rdr_far {W : World} {r : Nat} {ws : List (List UInt8)} {code : Nat} (h : Rdr W r ws code) {b : Nat} (hb : r < b) (i : Nat) (v : Value) : Rdr (W.setCell ⟨b, i, none⟩ v) r ws code := by
  obtain ⟨A, c, a0, a1, a2, a3⟩ := h.sl
  have hk : ∀ k, k < b → (W.setCell ⟨b, i, none⟩ v).heap[k]? = W.heap[k]? := fun k hk => setCell_far W b i v k hk
  refine ⟨⟨A, c, (World.cell?_of_block (a := ⟨r, 0, none⟩) (hk r hb)).trans a0, a1, a2, a3.kept fun k hkr => hk k (by omega)⟩, (World.cell?_of_block (a := ⟨r, 1, none⟩) (hk r hb)).trans h.cd, fun j => ?_⟩
  rw [World.frozen?_setCell]; exact h.fz j
theorem gset {W W' : World} {row : Option Nat} (h : W.grownBy W' row) {b : Nat} (hb : W.heap.size ≤ b) (i : Nat) (v : Value) : W.grownBy (W'.setCell ⟨b, i, none⟩ v) row :=
  ⟨h.os, h.tape, h.output, by simpa [World.setCell] using h.size, fun k hk hne => (setCell_far W' b i v k (by omega)).trans (h.block k hk hne)⟩
theorem wds_tail {W : World} {r g o : Nat} {x : List UInt8} {xs : List (List UInt8)} (h : WdsAt W r (some ⟨g, o, none⟩) (x :: xs)) : WdsAt W r (some ⟨g, o + 1, none⟩) xs := by
  intro j hj
  obtain ⟨g', o', e', hg', hc'⟩ := h (j + 1) (by simp only [List.length_cons]; omega)
  obtain ⟨rfl, rfl⟩ : g = g' ∧ o = o' := by simpa using e'
  refine ⟨g, o + 1, rfl, hg', ?_⟩
  have e2 : o + 1 + j = o + (j + 1) := by omega
  rw [e2]
  exact hc'
set_option maxHeartbeats 1000000 in
theorem rWord_any (r : Nat) (x : List UInt8) (xs : List (List UInt8)) (code : Nat) (W : World) (h : Rdr W r (x :: xs) code) :
    Calls Tryz.prog 106 #[.pointer (some ⟨r, 0, none⟩)] W fun e W' => e = .returned (.string (ofL x)) ∧ Rdr W' r xs code ∧ W.grownBy W' (some r) := by
  have HR := Lib.hid h
  obtain ⟨A, c, hsl, hn, hc, hw⟩ := h.sl
  obtain ⟨g, o, rfl, hg, hcx⟩ := hw 0 (by simp)
  have HW := Lib.hid hw
  have hlt := h.lt
  have hfz := h.fz 0
  have HFZ := Lib.hid h.fz
  have HCD := Lib.hid h.cd
  have HSL := Lib.hid hsl
  simp only [List.length_cons, List.getElem_cons_zero, Nat.add_zero] at hsl hn hcx
  clear hw h
  by_cases h1 : c = 1
  · subst h1
    have hx0 : xs = [] := List.length_eq_zero_iff.1 (by omega)
    subst hx0
    go_enter Tryz.func106, Tryz.ntmps106
    go_wp2_with fail
    go_ret
    exact ⟨rfl, rdr_next HR.out _ [] 0 0 rfl (Nat.le_refl _) (by omega) (fun j hj => absurd hj (by simp)), only_set _ _ _ _⟩
  · have hc1 : 1 < c := by omega
    go_enter Tryz.func106, Tryz.ntmps106
    go_wp2_with fail
    go_ret
    exact ⟨rfl, rdr_next HR.out _ xs xs.length (c - 1) rfl (by omega) (by omega) (wds_tail HW.out), only_set _ _ _ _⟩
theorem rFail_any (r : Nat) (ws : List (List UInt8)) (code c2 : Nat) (W : World) (h : Rdr W r ws code) :
    Calls Tryz.prog 128 #[.pointer (some ⟨r, 0, none⟩), .int .i64 (c2 : Int)] W fun e W' => e = .returned (.tuple #[]) ∧ Rdr W' r ws (Pl.fst code c2) ∧ W.grownBy W' (some r) := by
  have HR := Lib.hid h
  have hlt := h.lt
  have hfz := h.fz 1
  have hcd := h.cd
  by_cases h0 : code = 0
  · have hz : ((code : Int) == 0) = true := by subst h0; rfl
    have HM := Lib.hid (show Pl.fst code c2 = c2 by unfold Pl.fst; rw [if_pos h0])
    clear h0 h
    go_enter Tryz.func128, Tryz.ntmps128
    go_wp2_with fail
    go_end0
    exact ⟨rfl, by rw [HM.out]; exact rdr_code HR.out c2, only_set _ _ _ _⟩
  · have hz : ((code : Int) == 0) = false := by rw [beq_eq_false_iff_ne]; omega
    have HM := Lib.hid (show Pl.fst code c2 = code by unfold Pl.fst; rw [if_neg h0])
    clear h0 h
    go_enter Tryz.func128, Tryz.ntmps128
    go_wp2_with fail
    go_end0
    exact ⟨rfl, by rw [HM.out]; exact HR.out, World.grownBy.refl _ _⟩
theorem Env.gb {W W' : World} {r : Nat} (h : Env W) (hg : W.grownBy W' (some r)) (h1 : 1 < r) (h2 : 5 < r) : Env W' := by
  obtain ⟨m, hm⟩ := h.len
  obtain ⟨ev, hc, hev⟩ := h.rng
  exact ⟨⟨m, hg.cell hm (by simp only [ne_eq, Option.some.injEq]; omega)⟩, ev, hg.cell hc (by simp only [ne_eq, Option.some.injEq]; omega), hev⟩
theorem gtrans {a b c : World} {row : Option Nat} (h : a.grownBy b row) (k : b.grownBy c row) : a.grownBy c row :=
  ⟨k.os.trans h.os, k.tape.trans h.tape, k.output.trans h.output, Nat.le_trans h.size k.size, fun i hi hne => (k.block i (Nat.lt_of_lt_of_le hi h.size) hne).trans (h.block i hi hne)⟩
set_option maxHeartbeats 1000000 in
theorem rNumber_any (r m : Nat) (x : List UInt8) (xs : List (List UInt8)) (code : Nat) (W : World) (h : Rdr W r (x :: xs) code) (hx : x.length ≤ 100000) (hm : m < 18446744073709551616) (hE : Env W) (hr : 1 < r ∧ 5 < r) :
    Calls Tryz.prog 108 #[.pointer (some ⟨r, 0, none⟩), .int .u64 (m : Int)] W fun e W' => e = .returned (.int .u64 ((Pl.num m x).1 : Int)) ∧ Rdr W' r xs (Pl.fst code (Pl.num m x).2) ∧ W.grownBy W' (some r) := by
  have HW := Lib.hid (rWord_any r x xs code W h)
  have HN := Lib.hid (fun W h => pNumber_any x m W hx hm h)
  have HE := Lib.hid hE
  have HRR := Lib.hid hr
  clear h hE hr
  generalize Pl.num m x = M at *
  obtain ⟨n, c2⟩ := M
  simp only at *
  go_enter Tryz.func108, Tryz.ntmps108
  go_wp2_with fail
  with_reducible refine HW.out.mono ?_
  rintro e W1 ⟨rfl, hR, hg⟩
  have HR1 := Lib.hid hR
  have HG1 := Lib.hid hg
  have HE1 := Lib.hid (HE.out.gb hg HRR.out.1 HRR.out.2)
  clear hR hg
  go_wp2_with fail
  with_reducible refine (HN.out _ HE1.out).mono ?_
  rintro e W2 ⟨rfl, hB⟩
  have HR2 := Lib.hid (HR1.out.on hB)
  have HG2 := Lib.hid (gtrans HG1.out (gb hB (some r)))
  clear hB
  go_wp2_with fail
  with_reducible refine (rFail_any r xs code c2 _ HR2.out).mono ?_
  rintro e W3 ⟨rfl, hR, hg⟩
  have HR3 := Lib.hid hR
  have HG3 := Lib.hid (gtrans HG2.out hg)
  clear hR hg
  go_wp2_with fail
  go_ret
  exact ⟨rfl, HR3.out, HG3.out⟩
set_option maxHeartbeats 1000000 in
theorem rSmall_any (r : Nat) (x : List UInt8) (xs : List (List UInt8)) (code : Nat) (W : World) (h : Rdr W r (x :: xs) code) (hx : x.length ≤ 100000) (hE : Env W) (hr : 1 < r ∧ 5 < r) :
    Calls Tryz.prog 105 #[.pointer (some ⟨r, 0, none⟩)] W fun e W' => e = .returned (.int .i64 ((Pl.num Pl.small x).1 : Int)) ∧ Rdr W' r xs (Pl.fst code (Pl.num Pl.small x).2) ∧ W.grownBy W' (some r) := by
  have HN : Hid (Calls Tryz.prog 108 #[.pointer (some ⟨r, 0, none⟩), .int .u64 1048576] W fun e W' => e = .returned (.int .u64 ((Pl.num Pl.small x).1 : Int)) ∧ Rdr W' r xs (Pl.fst code (Pl.num Pl.small x).2) ∧ W.grownBy W' (some r)) :=
    Lib.hid (rNumber_any r Pl.small x xs code W h hx (by decide) hE hr)
  have hle : (Pl.num Pl.small x).1 ≤ 1048576 := Pl.num_le Pl.small x
  clear h hE
  generalize Pl.num Pl.small x = M at *
  obtain ⟨n, c2⟩ := M
  simp only at *
  have hwrap : wrap64 (n : Int) = (n : Int) := by unfold wrap64; omega
  go_enter Tryz.func105, Tryz.ntmps105
  go_wp2_with fail
  with_reducible refine HN.out.mono ?_
  rintro e W1 ⟨rfl, hR, hg⟩
  have HR1 := Lib.hid hR
  have HG1 := Lib.hid hg
  clear hR hg
  go_wp2_with fail
  go_ret
  exact ⟨rfl, HR1.out, HG1.out⟩
set_option maxHeartbeats 1000000 in
theorem rLabel_any (r : Nat) (x : List UInt8) (xs : List (List UInt8)) (code : Nat) (W : World) (h : Rdr W r (x :: xs) code) (hx : x.length ≤ 100000) :
    Calls Tryz.prog 107 #[.pointer (some ⟨r, 0, none⟩)] W fun e W' => e = .returned (.agg #[.int .u8 ((Lat.parse x).1 : Int), .int .u32 ((Lat.parse x).2.1 : Int)]) ∧ Rdr W' r xs (Pl.fst code (Lat.parse x).2.2) ∧ W.grownBy W' (some r) := by
  have HW := Lib.hid (fun W h => rWord_any r x xs code W h)
  have HP := Lib.hid (fun W => parse_any x W (by omega))
  have HR0 := Lib.hid h
  clear h
  generalize Lat.parse x = M at *
  obtain ⟨lv, st, c2⟩ := M
  simp only at *
  have HB0 := Lib.hid (show Below W.heap.size W (W.alloc (.cells #[.int .u8 0, .int .u32 0] 70)) from (Below.refl _ _).alloc (Nat.le_refl _) _)
  have hrl := HR0.out.lt
  go_enter Tryz.func107, Tryz.ntmps107
  go_wp2_with fail
  with_reducible refine (HW.out _ (HR0.out.on HB0.out)).mono ?_
  rintro e W1 ⟨rfl, hR, hg⟩
  have HR1 := Lib.hid hR
  have HG1 := Lib.hid (gtrans (gb HB0.out (some r)) hg)
  have HX0 := Lib.hid (show Box W.heap.size (.int .u8 0) (.int .u32 0) W1 by
    have h0 := Box.new (.int .u8 0) (.int .u32 0) 70 W
    have hne : some W.heap.size ≠ some r := by simp only [ne_eq, Option.some.injEq]; omega
    have hlt : W.heap.size < (W.alloc (.cells #[.int .u8 0, .int .u32 0] 70)).heap.size := by simp
    refine ⟨hg.cell h0.1 hne, hg.cell h0.2.1 hne, fun j => ?_⟩
    exact (World.frozen?_of_block (a := ⟨W.heap.size, j, none⟩) (hg.block W.heap.size hlt hne)).trans (h0.2.2 j))
  have HSZ := Lib.hid (show W.heap.size < W1.heap.size by have := hg.size; simp at this; omega)
  clear hR hg
  go_wp2_with fail
  with_reducible refine (HP.out _).mono ?_
  rintro e W2 ⟨rfl, hB⟩
  have HS2 := Lib.hid (((Below.refl W2.heap.size W2).alloc (Nat.le_refl _) (.cells #[.int .u8 (lv : Int), .int .u32 (st : Int)] 70)))
  have HR2 := Lib.hid ((HR1.out.on hB).on HS2.out)
  have HG2 := Lib.hid (gtrans (gtrans HG1.out (gb hB (some r))) (gb HS2.out (some r)))
  have HX2 := Lib.hid ((HX0.out.below hB HSZ.out).below HS2.out (Nat.lt_of_lt_of_le HSZ.out hB.size))
  have HY2 := Lib.hid (Box.new (.int .u8 (lv : Int)) (.int .u32 (st : Int)) 70 W2)
  have HSZ2 := Lib.hid (Nat.lt_of_lt_of_le HSZ.out hB.size)
  have HRL := Lib.hid (Nat.lt_of_lt_of_le HR1.out.lt hB.size)
  clear hB
  go_wp2_with fail
  with_reducible refine (rFail_any r xs code c2 _ HR2.out).mono ?_
  rintro e W3 ⟨rfl, hR, hg⟩
  have HR3 := Lib.hid hR
  have HG3 := Lib.hid (gtrans HG2.out hg)
  have bx : Box W.heap.size (.int .u8 0) (.int .u32 0) W3 := by
    have h0 := HX2.out
    have hne : some W.heap.size ≠ some r := by simp only [ne_eq, Option.some.injEq]; omega
    have hlt : W.heap.size < (W2.alloc (.cells #[.int .u8 (lv : Int), .int .u32 (st : Int)] 70)).heap.size := by have := HSZ2.out; simp; omega
    refine ⟨hg.cell h0.1 hne, hg.cell h0.2.1 hne, fun j => ?_⟩
    exact (World.frozen?_of_block (a := ⟨W.heap.size, j, none⟩) (hg.block W.heap.size hlt hne)).trans (h0.2.2 j)
  have by' : Box W2.heap.size (.int .u8 (lv : Int)) (.int .u32 (st : Int)) W3 := by
    have h0 := HY2.out
    have hne : some W2.heap.size ≠ some r := by have := HRL.out; simp only [ne_eq, Option.some.injEq]; omega
    have hlt : W2.heap.size < (W2.alloc (.cells #[.int .u8 (lv : Int), .int .u32 (st : Int)] 70)).heap.size := by simp
    refine ⟨hg.cell h0.1 hne, hg.cell h0.2.1 hne, fun j => ?_⟩
    exact (World.frozen?_of_block (a := ⟨W2.heap.size, j, none⟩) (hg.block W2.heap.size hlt hne)).trans (h0.2.2 j)
  have hz3 : W.heap.size < W3.heap.size := by have := hg.size; have := HSZ2.out; simp at *; omega
  clear hR hg
  obtain ⟨p0, p1, p2⟩ := bx
  obtain ⟨q0, q1, -⟩ := by'
  have p20 := p2 0
  have p21 := p2 1
  go_wp2_with fail
  exact bodyPost_ret (v := .agg #[.int .u8 (lv : Int), .int .u32 (st : Int)]) (by simp [results, Tryz.results107, go_sem, p0, p1]) rfl ⟨rfl, rdr_far (rdr_far HR3.out hrl _ _) hrl _ _, gset (gset HG3.out (Nat.le_refl _) _ _) (Nat.le_refl _) _ _⟩
theorem fst_zero (c : Nat) : Pl.fst c 0 = c := by unfold Pl.fst; split <;> omega
theorem rFail_10 (r : Nat) (ws : List (List UInt8)) (code : Nat) (W : World) (h : Rdr W r ws code) :
    Calls Tryz.prog 128 #[.pointer (some ⟨r, 0, none⟩), .int .i64 10] W fun e W' => e = .returned (.tuple #[]) ∧ Rdr W' r ws (Pl.fst code 10) ∧ W.grownBy W' (some r) := rFail_any r ws code 10 W h
set_option maxHeartbeats 2000000 in
theorem rPlace_any (p : Pl.Pol) (pa : Option Addr) (pc : Nat) (sa : Option Addr) (sc : Nat) (ga : Option Addr) (gc : Nat) (r : Nat) (x : List UInt8) (xs : List (List UInt8)) (code : Nat) (W : World) (h : Rdr W r (x :: xs) code) (hl : p.places.length ≤ 100000) (hp : Plcs W pa p.places) (hpr : ∀ a, pa = some a → a.block ≠ r) :
    Calls Tryz.prog 109 #[.pointer (some ⟨r, 0, none⟩), polV p pa pc sa sc ga gc] W fun e W' => e = .returned (.int .i64 (Pl.find p.places x)) ∧ Rdr W' r xs (Pl.fst code (Pl.none10 (Pl.find p.places x))) ∧ W.grownBy W' (some r) := by
  have HW := Lib.hid (fun W h => rWord_any r x xs code W h)
  have HF := Lib.hid (fun W h => polFind_any p pa pc sa sc ga gc x W hl h)
  have HF10 := Lib.hid (fun W h => rFail_10 r xs code W h)
  have HR0 := Lib.hid h
  have HP := Lib.hid (show ∀ W' : World, W.grownBy W' (some r) → Plcs W' pa p.places from fun W' hg => ⟨fun i hi => by
    obtain ⟨b, off, e, hb, hf, hat⟩ := hp.at_ i hi
    have hne : some b ≠ some r := by have := hpr _ e; simpa using this
    have hc : ∀ j, W'.cell? ⟨b, j, none⟩ = W.cell? ⟨b, j, none⟩ := fun j => World.cell?_of_block (a := ⟨b, j, none⟩) (hg.block b hb hne)
    exact ⟨b, off, e, Nat.lt_of_lt_of_le hb hg.size, hf, ⟨(hc _).trans hat.c0, (hc _).trans hat.c1, (hc _).trans hat.c2, (hc _).trans hat.c3, (hc _).trans hat.c4⟩⟩⟩)
  clear h hp hpr
  generalize Pl.find p.places x = M at *
  obtain ⟨wk, gv, l, sl, gr⟩ := p
  simp only [polV] at *
  try simp only at HP HF
  have HB0 := Lib.hid (show Below W.heap.size W (W.alloc (.cells #[.int .i64 wk, .int .i64 gv, .slice pa l.length pc, .slice sa sl.length sc, .slice ga gr.length gc] 26)) from (Below.refl _ _).alloc (Nat.le_refl _) _)
  have HC0 := Lib.hid (Cell5.new W (.int .i64 wk) (.int .i64 gv) (.slice pa l.length pc) (.slice sa sl.length sc) (.slice ga gr.length gc) 26)
  have hrl := HR0.out.lt
  generalize l.length = n at *
  have HCK := Lib.hid (show ∀ W1 : World, (W.alloc (.cells #[.int .i64 wk, .int .i64 gv, .slice pa n pc, .slice sa sl.length sc, .slice ga gr.length gc] 26)).grownBy W1 (some r) → Cell5 W1 W.heap.size (.int .i64 wk) (.int .i64 gv) (.slice pa n pc) (.slice sa sl.length sc) (.slice ga gr.length gc) from fun W1 hg => by
    have hne : some W.heap.size ≠ some r := by simp only [ne_eq, Option.some.injEq]; omega
    have c := HC0.out
    exact ⟨hg.cell c.c0 hne, hg.cell c.c1 hne, hg.cell c.c2 hne, hg.cell c.c3 hne, hg.cell c.c4 hne⟩)
  go_enter Tryz.func109, Tryz.ntmps109
  go_wp2_with fail
  go_region_with (first
    | (go_at_call 106; with_reducible refine (HW.out _ ((HR0.out.on HB0.out).on ((Below.refl _ _).drew))).mono ?_; rintro e' W1 ⟨rfl, hR1, hg1⟩; obtain ⟨k0, k1, k2, k3, k4⟩ := HCK.out W1 (gtrans (gb ((Below.refl _ _).drew) (some r)) hg1))
    | (go_at_call 15; with_reducible refine (HF.out _ (HP.out _ (gtrans (gb HB0.out (some r)) (gtrans (gb ((Below.refl _ _).drew) (some r)) hg1)))).mono ?_; rintro e' W2 ⟨rfl, hB2⟩))
  all_goals
    have HR2 := Lib.hid (hR1.on hB2)
    have HG2 := Lib.hid (gtrans (gb HB0.out (some r)) (gtrans (gb ((Below.refl _ _).drew) (some r)) (gtrans hg1 (gb hB2 (some r)))))
    clear hR1 hg1 hB2 k0 k1 k2 k3 k4
    by_cases hM : M < 0
    · have HQ := Lib.hid (show Pl.none10 M = 10 by unfold Pl.none10; rw [if_pos hM])
      go_wp2_with fail
      with_reducible refine (HF10.out _ HR2.out).mono ?_
      rintro e' W3 ⟨rfl, hR, hg⟩
      have HR3 := Lib.hid hR
      have HG3 := Lib.hid (gtrans HG2.out hg)
      clear hR hg
      go_wp2_with fail
      go_ret
      exact ⟨rfl, by rw [HQ.out]; exact HR3.out, HG3.out⟩
    · have HQ := Lib.hid (show Pl.fst code (Pl.none10 M) = code by unfold Pl.none10; rw [if_neg hM, fst_zero])
      go_wp2_with fail
      go_ret
      exact ⟨rfl, by rw [HQ.out]; exact HR2.out, HG2.out⟩
end Go.Proofs.YtokljdaofjgihaaGreatDoor
