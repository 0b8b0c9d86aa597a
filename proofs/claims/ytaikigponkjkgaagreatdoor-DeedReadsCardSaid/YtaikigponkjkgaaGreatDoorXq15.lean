/-
 A part of the proof.
-/
import Derived.Test.YtaikigponkjkgaaGreatDoorXq14

section
namespace Go.Proofs.YtaikigponkjkgaaGreatDoor
open Go.ChangeShapes Go.WideShapes Go.ChangeAt Go.RowKit
open Go.Lib (hid)
theorem failRest_l (r : List UInt8) (e c : Int) : failRest (ofL r) e c = ofL (lFail (r, e) c).1 := congrArg Prod.fst (sFail_l r e c)
theorem failErr_l (r : List UInt8) (e c : Int) : failErr e c = (lFail (r, e) c).2 := congrArg Prod.snd (sFail_l r e c)
theorem ifail_l (b : Nat) (s : LSt) (c : Int) (w : World) (h : InL b s w) :
  Calls Tryz.prog 94 #[.pointer (some ⟨b, 0, none⟩), .int .i64 c] w (PostL b w (.tuple #[]) (lFail s c)) := by
 obtain ⟨r, e⟩ := s
 refine (fail_any b (ofL r) e c w h).mono ?_
 rintro x w' ⟨hx, h1, h2⟩
 rw [failRest_l r e c, failErr_l r e c] at h1
 exact ⟨hx, h1, h2⟩
def RefL (b : Nat) (S : ByteArray) (s : LSt) (w : World) : Prop := RefIs b S (ofL s.1, s.2) w
def RPostL (b : Nat) (S : ByteArray) (w : World) (v : Value) (s : LSt) (x : Ending) (w' : World) : Prop := x = .returned v ∧ RefL b S s w' ∧ w.grownBy w' (some b)
theorem rinum_l (b : Nat) (S : ByteArray) (s : LSt) (k : Nat) (n : Int) (w : World) (hk : k ≤ 8) (hn : n = (k : Int)) (h : RefL b S s w) (hS : S.size ≤ 1000000) :
  Calls Tryz.prog 30 #[.pointer (some ⟨b, 0, none⟩), .int .i64 n] w (RPostL b S w (.int .u64 ((Oct.val (lOut s.1 k) : Nat) : Int)) (lRaw s k)) := by
 subst hn
 obtain ⟨r, e⟩ := s
 refine (rnumber_any b S (ofL r, e) (k : Int) w h hS).mono ?_
 rintro x w' ⟨hx, h1, h2⟩
 rw [Oct.width_num k hk] at hx h1
 rw [rawOut_l] at hx
 rw [sRaw_l] at h1
 exact ⟨hx, h1, h2⟩
theorem ritext_l (b : Nat) (S : ByteArray) (s : LSt) (m : Int) (w : World) (h : RefL b S s w) (hS : S.size ≤ 1000000) :
  Calls Tryz.prog 68 #[.pointer (some ⟨b, 0, none⟩), .int .i64 m] w (RPostL b S w (.string (ofL (lTextOut s m))) (lText s m)) := by
 obtain ⟨r, e⟩ := s
 refine (rtextIn_any b S (ofL r, e) m w h hS).mono ?_
 rintro x w' ⟨hx, h1, h2⟩
 rw [oText_l] at hx
 rw [sText_l] at h1
 exact ⟨hx, h1, h2⟩
theorem rifail_l (b : Nat) (S : ByteArray) (s : LSt) (c : Int) (w : World) (h : RefL b S s w) :
  Calls Tryz.prog 97 #[.pointer (some ⟨b, 0, none⟩), .int .i64 c] w (RPostL b S w (.tuple #[]) (lFail s c)) := by
 obtain ⟨r, e⟩ := s
 refine (rfail_any b S (ofL r, e) c w h).mono ?_
 rintro x w' ⟨hx, h1, h2⟩
 rw [sFail_l] at h1
 exact ⟨hx, h1, h2⟩
theorem RefL.code {b : Nat} {S : ByteArray} {s : LSt} {w : World} (h : RefL b S s w) : w.cell? ⟨b, 2, none⟩ = some (.int .i64 s.2) := by
 obtain ⟨p, h⟩ := h
 exact h.c2
theorem RefL.new (l : List UInt8) (w : World) (t : TypeId) : RefL w.heap.size (ofL l) (l, 0) (w.alloc (.cells #[.string (ofL l), .int .i64 0, .int .i64 0] t)) :=
 ⟨0, cell_new _ _ _ _ _ rfl, cell_new _ _ _ _ _ rfl, cell_new _ _ _ _ _ rfl, fun j => free_new _ _ _ _ _ rfl, by simp, Nat.zero_le _, fun _ => by
  show ofL l = (ofL l).extract 0 (ofL l).size
  rw [extract_drop]
  rfl, fun h => absurd rfl h⟩
structure Rder (b : Nat) (R : LSt → World → Prop) : Prop where
 lt : ∀ {s W}, R s W → b < W.heap.size
 on : ∀ {s W W'}, R s W → Below W.heap.size W W' → R s W'
 put : ∀ {s W} {g : Nat}, R s W → g ≠ b → ∀ j v, R s (W.setCell ⟨g, j, none⟩ v)
 gr : ∀ {s W W'} {row : Option Nat}, R s W → W.grownBy W' row → some b ≠ row → R s W'
theorem aside_cell {W : World} {g b : Nat} (h : g ≠ b) (j i : Nat) (v : Value) : (W.setCell ⟨g, j, none⟩ v).cell? ⟨b, i, none⟩ = W.cell? ⟨b, i, none⟩ :=
 World.cell?_setCell_other _ _ _ _ (by simp only [ne_eq, Addr.mk.injEq, not_and]; omega)
theorem rdr_in (b : Nat) : Rder b (InL b) :=
 ⟨fun h => h.lt, fun h hb => ⟨(hb.cell (p := ⟨b, 0, none⟩) h.lt).trans h.c0, (hb.cell (p := ⟨b, 1, none⟩) h.lt).trans h.c1, fun j => (hb.frozen (p := ⟨b, j, none⟩) h.lt).trans (h.fr j), Nat.lt_of_lt_of_le h.lt hb.size⟩,
  fun h hg j v => ⟨(aside_cell hg _ _ _).trans h.c0, (aside_cell hg _ _ _).trans h.c1, fun i => (World.frozen?_setCell _ _ _ _).trans (h.fr i), by simpa [World.setCell] using h.lt⟩,
  fun h hg hne => ⟨hg.cell h.c0 hne, hg.cell h.c1 hne, fun j => (World.grownBy.frozen_far hg ⟨b, j, none⟩ h.lt hne).trans (h.fr j), Nat.lt_of_lt_of_le h.lt hg.size⟩⟩
theorem rdr_ref (b : Nat) (S : ByteArray) : Rder b (RefL b S) :=
 ⟨fun h => by obtain ⟨p, h⟩ := h; exact h.lt, fun h hb => by
  obtain ⟨p, h⟩ := h
  exact ⟨p, (hb.cell (p := ⟨b, 0, none⟩) h.lt).trans h.c0, (hb.cell (p := ⟨b, 1, none⟩) h.lt).trans h.c1, (hb.cell (p := ⟨b, 2, none⟩) h.lt).trans h.c2, fun j => (hb.frozen (p := ⟨b, j, none⟩) h.lt).trans (h.fr j), Nat.lt_of_lt_of_le h.lt hb.size, h.le, h.rest, h.ok⟩,
  fun h hg j v => by
  obtain ⟨p, h⟩ := h
  exact ⟨p, (aside_cell hg _ _ _).trans h.c0, (aside_cell hg _ _ _).trans h.c1, (aside_cell hg _ _ _).trans h.c2, fun i => (World.frozen?_setCell _ _ _ _).trans (h.fr i), by simpa [World.setCell] using h.lt, h.le, h.rest, h.ok⟩,
  fun h hg hne => by
  obtain ⟨p, h⟩ := h
  exact ⟨p, hg.cell h.c0 hne, hg.cell h.c1 hne, hg.cell h.c2 hne, fun j => (World.grownBy.frozen_far hg ⟨b, j, none⟩ h.lt hne).trans (h.fr j), Nat.lt_of_lt_of_le h.lt hg.size, h.le, h.rest, h.ok⟩⟩
theorem grown_new {a w w' : World} {row row2 : Option Nat} (h : a.grownBy w row) (h2 : w.grownBy w' row2) (hn : ∀ k, row2 = some k → a.heap.size ≤ k) : a.grownBy w' row :=
 ⟨h2.os.trans h.os, h2.tape.trans h.tape, h2.output.trans h.output, Nat.le_trans h.size h2.size, fun k hk hne => (h2.block k (Nat.lt_of_lt_of_le hk h.size) (fun e => by have := hn k e.symm; omega)).trans (h.block k hk hne)⟩
theorem grown_far {a w : World} {row : Option Nat} (h : a.grownBy w row) {g : Nat} (hg : a.heap.size ≤ g) (j : Nat) (v : Value) : a.grownBy (w.setCell ⟨g, j, none⟩ v) row :=
 ⟨h.os, h.tape, h.output, by simpa [World.setCell] using h.size, fun i hi hne => (Below.heap_setCell w ⟨g, j, none⟩ v i (by intro e; have e2 : i = g := e; omega)).trans (h.block i hi hne)⟩
theorem grown_below {a w w' : World} {row : Option Nat} (h : a.grownBy w row) (hb : Below w.heap.size w w') : a.grownBy w' row :=
 h.trans ⟨hb.os, hb.tape, hb.output, hb.size, fun k hk _ => hb.block k hk⟩
structure BoxC (w : World) (c : Nat) (xs : List Value) (W : World) : Prop where
 cs : Cels W c xs
 s : Soft W c
 lt : c < W.heap.size
 ge : w.heap.size ≤ c
theorem BoxC.on {w W W' : World} {c : Nat} {xs : List Value} (h : BoxC w c xs W) (hb : Below W.heap.size W W') : BoxC w c xs W' := ⟨h.cs.on hb h.lt, h.s.on hb h.lt, Nat.lt_of_lt_of_le h.lt hb.size, h.ge⟩
theorem BoxC.grown {w W W' : World} {c b : Nat} {xs : List Value} (h : BoxC w c xs W) (hg : W.grownBy W' (some b)) (hne : c ≠ b) : BoxC w c xs W' :=
 ⟨h.cs.grown hg (fun e => hne (Option.some.inj e)), h.s.grown hg h.lt (fun e => hne (Option.some.inj e)), Nat.lt_of_lt_of_le h.lt hg.size, h.ge⟩
theorem BoxC.put {w W : World} {c : Nat} {xs : List Value} (h : BoxC w c xs W) (j : Nat) (v : Value) (hj : j < xs.length) : BoxC w c (xs.set j v) (W.setCell ⟨c, j, none⟩ v) :=
 ⟨h.cs.put j v hj, h.s.put _ _, by simpa [World.setCell] using h.lt, h.ge⟩
theorem BoxC.aside {w W : World} {c : Nat} {xs : List Value} (h : BoxC w c xs W) {g : Nat} (hg : g ≠ c) (j : Nat) (v : Value) : BoxC w c xs (W.setCell ⟨g, j, none⟩ v) :=
 ⟨h.cs.aside hg j v, h.s.put _ _, by simpa [World.setCell] using h.lt, h.ge⟩
theorem BoxC.new {w W : World} (hs : w.heap.size ≤ W.heap.size) (c : Array Value) (t : TypeId) : BoxC w W.heap.size c.toList (W.alloc (.cells c t)) := ⟨Cels.new _ _ _, Soft.new _ _ _, by simp, hs⟩
structure RdC (w : World) (b : Nat) (R : LSt → World → Prop) (s : LSt) (c : Nat) (xs : List Value) (p : Nat) (ys : List Value) (W : World) : Prop where
 ri : R s W
 rc : BoxC w c xs W
 rp : BoxC w p ys W
 cb : c ≠ b
 pb : p ≠ b
 cp : c ≠ p
 G : w.grownBy W (some b)
theorem RdC.step {w : World} {b : Nat} {R : LSt → World → Prop} {s s' : LSt} {c p : Nat} {xs ys : List Value} {W W' : World} (h : RdC w b R s c xs p ys W) (hi : R s' W') (hg : W.grownBy W' (some b)) : RdC w b R s' c xs p ys W' :=
 ⟨hi, h.rc.grown hg h.cb, h.rp.grown hg h.pb, h.cb, h.pb, h.cp, h.G.trans hg⟩
theorem RdC.putp {w : World} {b : Nat} {R : LSt → World → Prop} (hR : Rder b R) {s : LSt} {c p : Nat} {xs ys : List Value} {W : World} (h : RdC w b R s c xs p ys W) (j : Nat) (v : Value) (hj : j < ys.length) : RdC w b R s c xs p (ys.set j v) (W.setCell ⟨p, j, none⟩ v) :=
 ⟨hR.put h.ri h.pb j v, h.rc.aside (fun e => h.cp e.symm) j v, h.rp.put j v hj, h.cb, h.pb, h.cp, grown_far h.G h.rp.ge j v⟩
theorem RdC.putc {w : World} {b : Nat} {R : LSt → World → Prop} (hR : Rder b R) {s : LSt} {c p : Nat} {xs ys : List Value} {W : World} (h : RdC w b R s c xs p ys W) (j : Nat) (v : Value) (hj : j < xs.length) : RdC w b R s c (xs.set j v) p ys (W.setCell ⟨c, j, none⟩ v) :=
 ⟨hR.put h.ri h.cb j v, h.rc.put j v hj, h.rp.aside h.cp j v, h.cb, h.pb, h.cp, grown_far h.G h.rc.ge j v⟩
theorem RdC.last {w : World} {b : Nat} {R : LSt → World → Prop} (hR : Rder b R) {s : LSt} {c p : Nat} {xs ys : List Value} {W : World} (h : RdC w b R s c xs p ys W) (hx : xs.length = 4) (v0 v1 v2 v3 : Value) :
  ∃ W', W' = (((W.setCell ⟨c, 0, none⟩ v0).setCell ⟨c, 1, none⟩ v1).setCell ⟨c, 2, none⟩ v2).setCell ⟨c, 3, none⟩ v3 ∧ R s W' ∧ w.grownBy W' (some b) ∧ W'.cell? ⟨c, 0, none⟩ = some v0 ∧ W'.cell? ⟨c, 1, none⟩ = some v1 ∧ W'.cell? ⟨c, 2, none⟩ = some v2 ∧ W'.cell? ⟨c, 3, none⟩ = some v3 := by
 match xs, hx with
 | [x0, x1, x2, x3], _ =>
  have h1 := (((h.putc hR 0 v0 (by simp)).putc hR 1 v1 (by simp)).putc hR 2 v2 (by simp)).putc hR 3 v3 (by simp)
  exact ⟨_, rfl, h1.ri, h1.G, h1.rc.cs 0 _ rfl, h1.rc.cs 1 _ rfl, h1.rc.cs 2 _ rfl, h1.rc.cs 3 _ rfl⟩
theorem alloc_grown (w : World) (o : Obj) (row : Option Nat) : w.grownBy (w.alloc o) row := only_alloc (World.grownBy.refl w row) o
theorem w8 (r : List UInt8) : IntKind.u8.wrap ((Oct.val (lOut r 1) : Nat) : Int) = ((Oct.val (lOut r 1) : Nat) : Int) := by
 have := val_out_lt r 1
 rw [show (256 : Nat) ^ 1 = 256 from rfl] at this
 rw [show IntKind.u8.wrap ((Oct.val (lOut r 1) : Nat) : Int) = ((Oct.val (lOut r 1) : Nat) : Int) % 256 from rfl]
 omega
theorem wi64 (n : Nat) (h : n < 18446744073709551616) : IntKind.i64.wrap (n : Int) = Hd.i64 n := by
 unfold Hd.i64
 rw [IntKind.wrap_i64]
 split <;> omega
theorem rd1_0 {s : LSt} (h : Oct.val (lOut (lText s 16).1 1) = 0) : Hd.rd1 s = (⟨lTextOut s 16, 0, Hd.i64 (Oct.val (lOut (lRaw (lText s 16) 1).1 8)), []⟩, lRaw (lRaw (lText s 16) 1) 8) := by
 unfold Hd.rd1; simp only; rw [if_pos h]
theorem rd1_1 {s : LSt} (h : Oct.val (lOut (lText s 16).1 1) = 1) : Hd.rd1 s = (⟨lTextOut s 16, 1, 0, lTextOut (lRaw (lText s 16) 1) 64⟩, lText (lRaw (lText s 16) 1) 64) := by
 unfold Hd.rd1; simp only; rw [if_neg (by omega), if_pos h]
theorem rd1_2 {s : LSt} (h : Oct.val (lOut (lText s 16).1 1) = 2) : Hd.rd1 s = (⟨lTextOut s 16, 2, Hd.i64 (Oct.val (lOut (lRaw (lText s 16) 1).1 1)), []⟩, lRaw (lRaw (lText s 16) 1) 1) := by
 unfold Hd.rd1; simp only; rw [if_neg (by omega), if_neg (by omega), if_pos h]
theorem rd1_3 {s : LSt} (h : 2 < Oct.val (lOut (lText s 16).1 1)) : Hd.rd1 s = (⟨lTextOut s 16, Oct.val (lOut (lText s 16).1 1), 0, []⟩, lFail (lRaw (lText s 16) 1) 8) := by
 unfold Hd.rd1; simp only; rw [if_neg (by omega), if_neg (by omega), if_neg (by omega)]
def Rd1Post (b : Nat) (w : World) (s : LSt) (e : Ending) (w' : World) : Prop := e = .returned (prV (Hd.rd1 s).1) ∧ InL b (Hd.rd1 s).2 w' ∧ w.grownBy w' (some b)
set_option maxRecDepth 100000 in
set_option maxHeartbeats 8000000 in
theorem hread1_any (b : Nat) (s : LSt) (w : World) (h : InL b s w) (hok : lOk s) : Calls Tryz.prog 119 #[.pointer (some ⟨b, 0, none⟩)] w (Rd1Post b w s) := by
 have HK0 := lOk_text hok 16
 have HK1 := lOk_raw HK0 1
 have HT := hid (fun W h => itext_l b s 16 W h hok)
 have HN := hid (fun W h => inum_l b (lText s 16) 1 1 W (by omega) rfl h HK0)
 have HN8 := hid (fun W h => inum_l b (lRaw (lText s 16) 1) 8 8 W (by omega) rfl h HK1)
 have HT64 := hid (fun W h => itext_l b (lRaw (lText s 16) 1) 64 W h HK1)
 have HN1 := hid (fun W h => inum_l b (lRaw (lText s 16) 1) 1 1 W (by omega) rfl h HK1)
 have HF := hid (fun W h => ifail_l b (lRaw (lText s 16) 1) 8 W h)
 have hw8 := w8 (lText s 16).1
 have HI := hid h
 have hbw : b < w.heap.size := h.lt
 have HBW := hid hbw
 clear h HK0 HK1 hbw
 go_enter Tryz.func119, Tryz.ntmps119
 have HC0 := hid (BoxC.new (w := w) (Nat.le_refl _) #[.string ⟨#[]⟩, .int .u8 0, .int .i64 0, .string ⟨#[]⟩] 142)
 have HI0 := hid ((rdr_in b).on HI.out ((Below.refl w.heap.size w).alloc (Nat.le_refl _) (.cells #[.string ⟨#[]⟩, .int .u8 0, .int .i64 0, .string ⟨#[]⟩] 142)))
 have HG0 := hid (alloc_grown w (.cells #[.string ⟨#[]⟩, .int .u8 0, .int .i64 0, .string ⟨#[]⟩] 142) (some b))
 go_wp2_with fail
 refine (HT.out _ HI0.out).mono ?_
 rintro e w1 ⟨rfl, hi1, hg1⟩
 have HC1 := hid (HC0.out.grown hg1 (by have := HBW.out; omega))
 have HI1 := hid hi1
 have HG1 := hid (HG0.out.trans hg1)
 clear hi1 hg1
 have HPX := hid (show RdC w b (InL b) (lText s 16) w.heap.size [.string ⟨#[]⟩, .int .u8 0, .int .i64 0, .string ⟨#[]⟩] w1.heap.size [.string (ofL (lTextOut s 16)), .int .u8 0, .int .i64 0, .string ⟨#[]⟩] (w1.alloc (.cells #[.string (ofL (lTextOut s 16)), .int .u8 0, .int .i64 0, .string ⟨#[]⟩] 142)) from
  ⟨(rdr_in b).on HI1.out ((Below.refl w1.heap.size w1).alloc (Nat.le_refl _) _), HC1.out.on ((Below.refl w1.heap.size w1).alloc (Nat.le_refl _) _), BoxC.new HG1.out.size _ _, by have := HBW.out; omega, by have := HBW.out; have := HG1.out.size; omega, by have := HC1.out.lt; omega, only_alloc HG1.out _⟩)
 have HKY : Hid (∃ ky, lTextOut s 16 = ky) := ⟨_, rfl⟩
 clear HC0 HI0 HG0 HC1 HG1 HT HI1 HI
 go_wp2_with fail
 generalize w1.alloc (.cells #[.string (ofL (lTextOut s 16)), .int .u8 0, .int .i64 0, .string ⟨#[]⟩] 142) = w2 at *
 generalize w1.heap.size = p at *
 generalize hc : w.heap.size = c at *
 refine (HN.out _ HPX.out.ri).mono ?_
 rintro e w3 ⟨rfl, hi3, hg3⟩
 have hP3 := HPX.out.step hi3 hg3
 have HP3 := hid hP3
 obtain ⟨kd, hkd⟩ : ∃ kd, Oct.val (lOut (lText s 16).1 1) = kd := ⟨_, rfl⟩
 have HKD := hid hkd
 rw [hkd] at hw8 ⊢
 have HP4 := hid (hP3.putp (rdr_in b) 1 (.int .u8 (kd : Int)) (by simp))
 have c0 := hP3.rp.cs 0 _ rfl
 have c1 := hP3.rp.cs 1 _ rfl
 have c2 := hP3.rp.cs 2 _ rfl
 have c3 := hP3.rp.cs 3 _ rfl
 have cf : ∀ j, w3.frozen? ⟨p, j, none⟩ = false := hP3.rp.s
 have cl := hP3.rp.lt
 clear HPX hi3 hg3 hP3 hkd HN
 by_cases h3 : 2 < kd
 ·have HR := hid (rd1_3 (s := s) (by rw [HKD.out]; exact h3))
  have n0 : ((kd : Int) == 0) = false := beq_eq_false_iff_ne.2 (by omega)
  have n1 : ((kd : Int) == 1) = false := beq_eq_false_iff_ne.2 (by omega)
  have n2 : ((kd : Int) == 2) = false := beq_eq_false_iff_ne.2 (by omega)
  clear h3
  go_wp2_with fail
  refine (HF.out _ HP4.out.ri).mono ?_
  rintro e w5 ⟨rfl, hi5, hg5⟩
  have hP5 := HP4.out.step hi5 hg5
  have HD := hid hP5
  clear hi5 hg5 hP5 c0 c1 c2 c3 cf cl
  have d0 := HD.out.rp.cs 0 _ rfl
  have d1 := HD.out.rp.cs 1 _ rfl
  have d2 := HD.out.rp.cs 2 _ rfl
  have d3 := HD.out.rp.cs 3 _ rfl
  have e0 := HD.out.rc.cs 0 _ rfl
  have e1 := HD.out.rc.cs 1 _ rfl
  have e2 := HD.out.rc.cs 2 _ rfl
  have e3 := HD.out.rc.cs 3 _ rfl
  have ef : ∀ j, w5.frozen? ⟨c, j, none⟩ = false := HD.out.rc.s
  have el := HD.out.rc.lt
  go_wp2_with fail
  obtain ⟨W', hW', h1, h2, g0, g1, g2, g3⟩ := HD.out.last (rdr_in b) rfl (.string (ofL (lTextOut s 16))) (.int .u8 (kd : Int)) (.int .i64 0) (.string ⟨#[]⟩)
  exact bodyPost_ret (v := .agg #[.string (ofL (lTextOut s 16)), .int .u8 (kd : Int), .int .i64 0, .string ⟨#[]⟩]) (by rw [← hW']; simp [results, Tryz.results119, go_sem, g0, g1, g2, g3]) rfl ⟨by rw [HR.out, HKD.out]; rfl, by rw [HR.out, ← hW']; exact h1, by rw [← hW']; exact h2⟩
 ·obtain rfl | rfl | rfl : kd = 0 ∨ kd = 1 ∨ kd = 2 := by omega
  ·have HR := hid (rd1_0 HKD.out)
   go_wp2_with fail
   refine (HN8.out _ HP4.out.ri).mono ?_
   rintro e w5 ⟨rfl, hi5, hg5⟩
   have hP5 := HP4.out.step hi5 hg5
   have HP5 := hid hP5
   have HD := hid (hP5.putp (rdr_in b) 2 (.int .i64 (Hd.i64 (Oct.val (lOut (lRaw (lText s 16) 1).1 8)))) (by simp))
   have c0 := hP5.rp.cs 0 _ rfl
   have c1 : _ = some (Value.int .u8 0) := hP5.rp.cs 1 _ rfl
   have c2 := hP5.rp.cs 2 _ rfl
   have c3 := hP5.rp.cs 3 _ rfl
   have cf : ∀ j, w5.frozen? ⟨p, j, none⟩ = false := hP5.rp.s
   have cl := hP5.rp.lt
   have hwi := wi64 (Oct.val (lOut (lRaw (lText s 16) 1).1 8)) (val_out_lt _ 8)
   clear hi5 hg5 hP5
   have d0 := HD.out.rp.cs 0 _ rfl
   have d1 : _ = some (Value.int .u8 0) := HD.out.rp.cs 1 _ rfl
   have d2 := HD.out.rp.cs 2 _ rfl
   have d3 := HD.out.rp.cs 3 _ rfl
   have e0 := HD.out.rc.cs 0 _ rfl
   have e1 := HD.out.rc.cs 1 _ rfl
   have e2 := HD.out.rc.cs 2 _ rfl
   have e3 := HD.out.rc.cs 3 _ rfl
   have ef : ∀ j, (w5.setCell ⟨p, 2, none⟩ (.int .i64 (Hd.i64 (Oct.val (lOut (lRaw (lText s 16) 1).1 8))))).frozen? ⟨c, j, none⟩ = false := HD.out.rc.s
   have el := HD.out.rc.lt
   go_wp2_with fail
   obtain ⟨W', hW', h1, h2, g0, g1, g2, g3⟩ := HD.out.last (rdr_in b) rfl (.string (ofL (lTextOut s 16))) (.int .u8 0) (.int .i64 (Hd.i64 (Oct.val (lOut (lRaw (lText s 16) 1).1 8)))) (.string ⟨#[]⟩)
   exact bodyPost_ret (v := .agg #[.string (ofL (lTextOut s 16)), .int .u8 0, .int .i64 (Hd.i64 (Oct.val (lOut (lRaw (lText s 16) 1).1 8))), .string ⟨#[]⟩]) (by rw [← hW']; simp [results, Tryz.results119, go_sem, g0, g1, g2, g3]) rfl ⟨by rw [HR.out]; rfl, by rw [HR.out, ← hW']; exact h1, by rw [← hW']; exact h2⟩
  ·have HR := hid (rd1_1 HKD.out)
   go_wp2_with fail
   refine (HT64.out _ HP4.out.ri).mono ?_
   rintro e w5 ⟨rfl, hi5, hg5⟩
   have hP5 := HP4.out.step hi5 hg5
   have HP5 := hid hP5
   have HD := hid (hP5.putp (rdr_in b) 3 (.string (ofL (lTextOut (lRaw (lText s 16) 1) 64))) (by simp))
   have c0 := hP5.rp.cs 0 _ rfl
   have c1 : _ = some (Value.int .u8 1) := hP5.rp.cs 1 _ rfl
   have c2 := hP5.rp.cs 2 _ rfl
   have c3 := hP5.rp.cs 3 _ rfl
   have cf : ∀ j, w5.frozen? ⟨p, j, none⟩ = false := hP5.rp.s
   have cl := hP5.rp.lt
   clear hi5 hg5 hP5
   have d0 := HD.out.rp.cs 0 _ rfl
   have d1 : _ = some (Value.int .u8 1) := HD.out.rp.cs 1 _ rfl
   have d2 := HD.out.rp.cs 2 _ rfl
   have d3 := HD.out.rp.cs 3 _ rfl
   have e0 := HD.out.rc.cs 0 _ rfl
   have e1 := HD.out.rc.cs 1 _ rfl
   have e2 := HD.out.rc.cs 2 _ rfl
   have e3 := HD.out.rc.cs 3 _ rfl
   have ef : ∀ j, (w5.setCell ⟨p, 3, none⟩ (.string (ofL (lTextOut (lRaw (lText s 16) 1) 64)))).frozen? ⟨c, j, none⟩ = false := HD.out.rc.s
   have el := HD.out.rc.lt
   go_wp2_with fail
   obtain ⟨W', hW', h1, h2, g0, g1, g2, g3⟩ := HD.out.last (rdr_in b) rfl (.string (ofL (lTextOut s 16))) (.int .u8 1) (.int .i64 0) (.string (ofL (lTextOut (lRaw (lText s 16) 1) 64)))
   exact bodyPost_ret (v := .agg #[.string (ofL (lTextOut s 16)), .int .u8 1, .int .i64 0, .string (ofL (lTextOut (lRaw (lText s 16) 1) 64))]) (by rw [← hW']; simp [results, Tryz.results119, go_sem, g0, g1, g2, g3]) rfl ⟨by rw [HR.out]; rfl, by rw [HR.out, ← hW']; exact h1, by rw [← hW']; exact h2⟩
  ·have HR := hid (rd1_2 HKD.out)
   go_wp2_with fail
   refine (HN1.out _ HP4.out.ri).mono ?_
   rintro e w5 ⟨rfl, hi5, hg5⟩
   have hP5 := HP4.out.step hi5 hg5
   have HP5 := hid hP5
   have HD := hid (hP5.putp (rdr_in b) 2 (.int .i64 (Hd.i64 (Oct.val (lOut (lRaw (lText s 16) 1).1 1)))) (by simp))
   have c0 := hP5.rp.cs 0 _ rfl
   have c1 : _ = some (Value.int .u8 2) := hP5.rp.cs 1 _ rfl
   have c2 := hP5.rp.cs 2 _ rfl
   have c3 := hP5.rp.cs 3 _ rfl
   have cf : ∀ j, w5.frozen? ⟨p, j, none⟩ = false := hP5.rp.s
   have cl := hP5.rp.lt
   have hwi := wi64 (Oct.val (lOut (lRaw (lText s 16) 1).1 1)) (Nat.lt_trans (val_out_lt _ 1) (by decide))
   clear hi5 hg5 hP5
   have d0 := HD.out.rp.cs 0 _ rfl
   have d1 : _ = some (Value.int .u8 2) := HD.out.rp.cs 1 _ rfl
   have d2 := HD.out.rp.cs 2 _ rfl
   have d3 := HD.out.rp.cs 3 _ rfl
   have e0 := HD.out.rc.cs 0 _ rfl
   have e1 := HD.out.rc.cs 1 _ rfl
   have e2 := HD.out.rc.cs 2 _ rfl
   have e3 := HD.out.rc.cs 3 _ rfl
   have ef : ∀ j, (w5.setCell ⟨p, 2, none⟩ (.int .i64 (Hd.i64 (Oct.val (lOut (lRaw (lText s 16) 1).1 1))))).frozen? ⟨c, j, none⟩ = false := HD.out.rc.s
   have el := HD.out.rc.lt
   go_wp2_with fail
   obtain ⟨W', hW', h1, h2, g0, g1, g2, g3⟩ := HD.out.last (rdr_in b) rfl (.string (ofL (lTextOut s 16))) (.int .u8 2) (.int .i64 (Hd.i64 (Oct.val (lOut (lRaw (lText s 16) 1).1 1)))) (.string ⟨#[]⟩)
   exact bodyPost_ret (v := .agg #[.string (ofL (lTextOut s 16)), .int .u8 2, .int .i64 (Hd.i64 (Oct.val (lOut (lRaw (lText s 16) 1).1 1))), .string ⟨#[]⟩]) (by rw [← hW']; simp [results, Tryz.results119, go_sem, g0, g1, g2, g3]) rfl ⟨by rw [HR.out]; rfl, by rw [HR.out, ← hW']; exact h1, by rw [← hW']; exact h2⟩
end Go.Proofs.YtaikigponkjkgaaGreatDoor
end
