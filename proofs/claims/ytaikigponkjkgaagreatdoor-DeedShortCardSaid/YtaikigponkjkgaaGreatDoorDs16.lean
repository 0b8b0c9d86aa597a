/-
  A PAIR READ: the program's, walked. A HEAD READ: the program's, walked.
-/
import Derived.Test.YtaikigponkjkgaaGreatDoorDs15
import Derived.Deep.AppendLies
section
namespace Go.Proofs.YtaikigponkjkgaaGreatDoor
open Go.ChangeShapes Go.WideShapes Go.ChangeAt Go.RowKit
/-- while a pair is read: the reader, the answer's box, the pair's box -/
structure RdC (w : World) (b : Nat) (R : LSt → World → Prop) (s : LSt) (c : Nat) (xs : List Value) (p : Nat) (ys : List Value) (W : World) : Prop where
  ri : R s W
  rc : BoxC w c xs W
  rp : BoxC w p ys W
  cb : c ≠ b
  pb : p ≠ b
  cp : c ≠ p
  G : w.grownBy W (some b)
theorem RdC.step {w : World} {b : Nat} {R : LSt → World → Prop} {s s' : LSt} {c p : Nat} {xs ys : List Value} {W W' : World} (h : RdC w b R s c xs p ys W) (hi : R s' W') (hg : W.grownBy W' (some b)) : RdC w b R s' c xs p ys W' :=
  ⟨hi, h.rc.grown hg h.cb, h.rp.grown hg h.pb, h.cb, h.pb, h.cp, h.G.trans hg⟩
theorem RdC.putp {w : World} {b : Nat} {R : LSt → World → Prop} (hR : Rder b R) {s : LSt} {c p : Nat} {xs ys : List Value} {W : World} (h : RdC w b R s c xs p ys W) (j : Nat) (v : Value) (hj : j < ys.length) : RdC w b R s c xs p (ys.set j v) (W.setCell ⟨p, j, none⟩ v) :=
  ⟨hR.put h.ri h.pb j v, h.rc.aside (fun e => h.cp e.symm) j v, h.rp.put j v hj, h.cb, h.pb, h.cp, grown_far h.G h.rp.ge j v⟩
theorem RdC.putc {w : World} {b : Nat} {R : LSt → World → Prop} (hR : Rder b R) {s : LSt} {c p : Nat} {xs ys : List Value} {W : World} (h : RdC w b R s c xs p ys W) (j : Nat) (v : Value) (hj : j < xs.length) : RdC w b R s c (xs.set j v) p ys (W.setCell ⟨c, j, none⟩ v) :=
  ⟨hR.put h.ri h.cb j v, h.rc.put j v hj, h.rp.aside h.cp j v, h.cb, h.pb, h.cp, grown_far h.G h.rc.ge j v⟩
/-- the answer is laid into its box -/
theorem RdC.last {w : World} {b : Nat} {R : LSt → World → Prop} (hR : Rder b R) {s : LSt} {c p : Nat} {xs ys : List Value} {W : World} (h : RdC w b R s c xs p ys W) (hx : xs.length = 4) (v0 v1 v2 v3 : Value) :
    ∃ W', W' = (((W.setCell ⟨c, 0, none⟩ v0).setCell ⟨c, 1, none⟩ v1).setCell ⟨c, 2, none⟩ v2).setCell ⟨c, 3, none⟩ v3 ∧ R s W' ∧ w.grownBy W' (some b) ∧ W'.cell? ⟨c, 0, none⟩ = some v0 ∧ W'.cell? ⟨c, 1, none⟩ = some v1 ∧ W'.cell? ⟨c, 2, none⟩ = some v2 ∧ W'.cell? ⟨c, 3, none⟩ = some v3 := by
  match xs, hx with
  | [x0, x1, x2, x3], _ =>
    have h1 := (((h.putc hR 0 v0 (by simp)).putc hR 1 v1 (by simp)).putc hR 2 v2 (by simp)).putc hR 3 v3 (by simp)
    exact ⟨_, rfl, h1.ri, h1.G, h1.rc.cs 0 _ rfl, h1.rc.cs 1 _ rfl, h1.rc.cs 2 _ rfl, h1.rc.cs 3 _ rfl⟩
theorem alloc_grown (w : World) (o : Obj) (row : Option Nat) : w.grownBy (w.alloc o) row := only_alloc (World.grownBy.refl w row) o
theorem w8 (r : List UInt8) : IntKind.u8.wrap ((Oct.val (lOut r 1) : Nat) : Int) = ((Oct.val (lOut r 1) : Nat) : Int) := by
  have := val_out_lt r 1
  rw [show (256 : Nat) ^ 1 = 256 from rfl] at this
  rw [show IntKind.u8.wrap ((Oct.val (lOut r 1) : Nat) : Int) = ((Oct.val (lOut r 1) : Nat) : Int) % 256 from rfl]
  omega
theorem wi64 (n : Nat) (h : n < 18446744073709551616) : IntKind.i64.wrap (n : Int) = Hd.i64 n := by
  unfold Hd.i64
  rw [IntKind.wrap_i64]
  split <;> omega
theorem rd1_0 {s : LSt} (h : Oct.val (lOut (lText s 16).1 1) = 0) : Hd.rd1 s = (⟨lTextOut s 16, 0, Hd.i64 (Oct.val (lOut (lRaw (lText s 16) 1).1 8)), []⟩, lRaw (lRaw (lText s 16) 1) 8) := by
  unfold Hd.rd1; simp only; rw [if_pos h]
theorem rd1_1 {s : LSt} (h : Oct.val (lOut (lText s 16).1 1) = 1) : Hd.rd1 s = (⟨lTextOut s 16, 1, 0, lTextOut (lRaw (lText s 16) 1) 64⟩, lText (lRaw (lText s 16) 1) 64) := by
  unfold Hd.rd1; simp only; rw [if_neg (by omega), if_pos h]
theorem rd1_2 {s : LSt} (h : Oct.val (lOut (lText s 16).1 1) = 2) : Hd.rd1 s = (⟨lTextOut s 16, 2, Hd.i64 (Oct.val (lOut (lRaw (lText s 16) 1).1 1)), []⟩, lRaw (lRaw (lText s 16) 1) 1) := by
  unfold Hd.rd1; simp only; rw [if_neg (by omega), if_neg (by omega), if_pos h]
theorem rd1_3 {s : LSt} (h : 2 < Oct.val (lOut (lText s 16).1 1)) : Hd.rd1 s = (⟨lTextOut s 16, Oct.val (lOut (lText s 16).1 1), 0, []⟩, lFail (lRaw (lText s 16) 1) 8) := by
  unfold Hd.rd1; simp only; rw [if_neg (by omega), if_neg (by omega), if_neg (by omega)]
/-- what head.read leaves -/
def Rd1Post (b : Nat) (w : World) (s : LSt) (e : Ending) (w' : World) : Prop := e = .returned (prV (Hd.rd1 s).1) ∧ InL b (Hd.rd1 s).2 w' ∧ w.grownBy w' (some b)
set_option maxRecDepth 100000 in
set_option maxHeartbeats 8000000 in
theorem hread1_any (b : Nat) (s : LSt) (w : World) (h : InL b s w) (hok : lOk s) : Calls Tryz.prog 119 #[.pointer (some ⟨b, 0, none⟩)] w (Rd1Post b w s) := by
  have HK0 := lOk_text hok 16
  have HK1 := lOk_raw HK0 1
  have HT := Lib.hid (fun W h => itext_l b s 16 W h hok)
  have HN := Lib.hid (fun W h => inum_l b (lText s 16) 1 1 W (by omega) rfl h HK0)
  have HN8 := Lib.hid (fun W h => inum_l b (lRaw (lText s 16) 1) 8 8 W (by omega) rfl h HK1)
  have HT64 := Lib.hid (fun W h => itext_l b (lRaw (lText s 16) 1) 64 W h HK1)
  have HN1 := Lib.hid (fun W h => inum_l b (lRaw (lText s 16) 1) 1 1 W (by omega) rfl h HK1)
  have HF := Lib.hid (fun W h => ifail_l b (lRaw (lText s 16) 1) 8 W h)
  have hw8 := w8 (lText s 16).1
  have HI := Lib.hid h
  have hbw : b < w.heap.size := h.lt
  have HBW := Lib.hid hbw
  clear h HK0 HK1 hbw
  go_enter Tryz.func119, Tryz.ntmps119
  have HC0 := Lib.hid (BoxC.new (w := w) (Nat.le_refl _) #[.string ⟨#[]⟩, .int .u8 0, .int .i64 0, .string ⟨#[]⟩] 142)
  have HI0 := Lib.hid ((rdr_in b).on HI.out ((Below.refl w.heap.size w).alloc (Nat.le_refl _) (.cells #[.string ⟨#[]⟩, .int .u8 0, .int .i64 0, .string ⟨#[]⟩] 142)))
  have HG0 := Lib.hid (alloc_grown w (.cells #[.string ⟨#[]⟩, .int .u8 0, .int .i64 0, .string ⟨#[]⟩] 142) (some b))
  go_wp2_with fail
  refine (HT.out _ HI0.out).mono ?_
  rintro e w1 ⟨rfl, hi1, hg1⟩
  have HC1 := Lib.hid (HC0.out.grown hg1 (by have := HBW.out; omega))
  have HI1 := Lib.hid hi1
  have HG1 := Lib.hid (HG0.out.trans hg1)
  clear hi1 hg1
  have HPX := Lib.hid (show RdC w b (InL b) (lText s 16) w.heap.size [.string ⟨#[]⟩, .int .u8 0, .int .i64 0, .string ⟨#[]⟩] w1.heap.size [.string (ofL (lTextOut s 16)), .int .u8 0, .int .i64 0, .string ⟨#[]⟩] (w1.alloc (.cells #[.string (ofL (lTextOut s 16)), .int .u8 0, .int .i64 0, .string ⟨#[]⟩] 142)) from
    ⟨(rdr_in b).on HI1.out ((Below.refl w1.heap.size w1).alloc (Nat.le_refl _) _), HC1.out.on ((Below.refl w1.heap.size w1).alloc (Nat.le_refl _) _), BoxC.new HG1.out.size _ _, by have := HBW.out; omega, by have := HBW.out; have := HG1.out.size; omega, by have := HC1.out.lt; omega, only_alloc HG1.out _⟩)
  have HKY : Hid (∃ ky, lTextOut s 16 = ky) := ⟨_, rfl⟩
  clear HC0 HI0 HG0 HC1 HG1 HT HI1 HI
  go_wp2_with fail
  generalize w1.alloc (.cells #[.string (ofL (lTextOut s 16)), .int .u8 0, .int .i64 0, .string ⟨#[]⟩] 142) = w2 at *
  generalize w1.heap.size = p at *
  generalize hc : w.heap.size = c at *
  refine (HN.out _ HPX.out.ri).mono ?_
  rintro e w3 ⟨rfl, hi3, hg3⟩
  have hP3 := HPX.out.step hi3 hg3
  have HP3 := Lib.hid hP3
  obtain ⟨kd, hkd⟩ : ∃ kd, Oct.val (lOut (lText s 16).1 1) = kd := ⟨_, rfl⟩
  have HKD := Lib.hid hkd
  rw [hkd] at hw8 ⊢
  have HP4 := Lib.hid (hP3.putp (rdr_in b) 1 (.int .u8 (kd : Int)) (by simp))
  have c0 := hP3.rp.cs 0 _ rfl
  have c1 := hP3.rp.cs 1 _ rfl
  have c2 := hP3.rp.cs 2 _ rfl
  have c3 := hP3.rp.cs 3 _ rfl
  have cf : ∀ j, w3.frozen? ⟨p, j, none⟩ = false := hP3.rp.s
  have cl := hP3.rp.lt
  clear HPX hi3 hg3 hP3 hkd HN
  by_cases h3 : 2 < kd
  · have HR := Lib.hid (rd1_3 (s := s) (by rw [HKD.out]; exact h3))
    have n0 : ((kd : Int) == 0) = false := beq_eq_false_iff_ne.2 (by omega)
    have n1 : ((kd : Int) == 1) = false := beq_eq_false_iff_ne.2 (by omega)
    have n2 : ((kd : Int) == 2) = false := beq_eq_false_iff_ne.2 (by omega)
    clear h3
    go_wp2_with fail
    refine (HF.out _ HP4.out.ri).mono ?_
    rintro e w5 ⟨rfl, hi5, hg5⟩
    have hP5 := HP4.out.step hi5 hg5
    have HD := Lib.hid hP5
    clear hi5 hg5 hP5 c0 c1 c2 c3 cf cl
    have d0 := HD.out.rp.cs 0 _ rfl
    have d1 := HD.out.rp.cs 1 _ rfl
    have d2 := HD.out.rp.cs 2 _ rfl
    have d3 := HD.out.rp.cs 3 _ rfl
    have e0 := HD.out.rc.cs 0 _ rfl
    have e1 := HD.out.rc.cs 1 _ rfl
    have e2 := HD.out.rc.cs 2 _ rfl
    have e3 := HD.out.rc.cs 3 _ rfl
    have ef : ∀ j, w5.frozen? ⟨c, j, none⟩ = false := HD.out.rc.s
    have el := HD.out.rc.lt
    go_wp2_with fail
    obtain ⟨W', hW', h1, h2, g0, g1, g2, g3⟩ := HD.out.last (rdr_in b) rfl (.string (ofL (lTextOut s 16))) (.int .u8 (kd : Int)) (.int .i64 0) (.string ⟨#[]⟩)
    exact bodyPost_ret (v := .agg #[.string (ofL (lTextOut s 16)), .int .u8 (kd : Int), .int .i64 0, .string ⟨#[]⟩]) (by rw [← hW']; simp [results, Tryz.results119, go_sem, g0, g1, g2, g3]) rfl ⟨by rw [HR.out, HKD.out]; rfl, by rw [HR.out, ← hW']; exact h1, by rw [← hW']; exact h2⟩
  · obtain rfl | rfl | rfl : kd = 0 ∨ kd = 1 ∨ kd = 2 := by omega
    · have HR := Lib.hid (rd1_0 HKD.out)
      go_wp2_with fail
      refine (HN8.out _ HP4.out.ri).mono ?_
      rintro e w5 ⟨rfl, hi5, hg5⟩
      have hP5 := HP4.out.step hi5 hg5
      have HP5 := Lib.hid hP5
      have HD := Lib.hid (hP5.putp (rdr_in b) 2 (.int .i64 (Hd.i64 (Oct.val (lOut (lRaw (lText s 16) 1).1 8)))) (by simp))
      have c0 := hP5.rp.cs 0 _ rfl
      have c1 : _ = some (Value.int .u8 0) := hP5.rp.cs 1 _ rfl
      have c2 := hP5.rp.cs 2 _ rfl
      have c3 := hP5.rp.cs 3 _ rfl
      have cf : ∀ j, w5.frozen? ⟨p, j, none⟩ = false := hP5.rp.s
      have cl := hP5.rp.lt
      have hwi := wi64 (Oct.val (lOut (lRaw (lText s 16) 1).1 8)) (val_out_lt _ 8)
      clear hi5 hg5 hP5
      have d0 := HD.out.rp.cs 0 _ rfl
      have d1 : _ = some (Value.int .u8 0) := HD.out.rp.cs 1 _ rfl
      have d2 := HD.out.rp.cs 2 _ rfl
      have d3 := HD.out.rp.cs 3 _ rfl
      have e0 := HD.out.rc.cs 0 _ rfl
      have e1 := HD.out.rc.cs 1 _ rfl
      have e2 := HD.out.rc.cs 2 _ rfl
      have e3 := HD.out.rc.cs 3 _ rfl
      have ef : ∀ j, (w5.setCell ⟨p, 2, none⟩ (.int .i64 (Hd.i64 (Oct.val (lOut (lRaw (lText s 16) 1).1 8))))).frozen? ⟨c, j, none⟩ = false := HD.out.rc.s
      have el := HD.out.rc.lt
      go_wp2_with fail
      obtain ⟨W', hW', h1, h2, g0, g1, g2, g3⟩ := HD.out.last (rdr_in b) rfl (.string (ofL (lTextOut s 16))) (.int .u8 0) (.int .i64 (Hd.i64 (Oct.val (lOut (lRaw (lText s 16) 1).1 8)))) (.string ⟨#[]⟩)
      exact bodyPost_ret (v := .agg #[.string (ofL (lTextOut s 16)), .int .u8 0, .int .i64 (Hd.i64 (Oct.val (lOut (lRaw (lText s 16) 1).1 8))), .string ⟨#[]⟩]) (by rw [← hW']; simp [results, Tryz.results119, go_sem, g0, g1, g2, g3]) rfl ⟨by rw [HR.out]; rfl, by rw [HR.out, ← hW']; exact h1, by rw [← hW']; exact h2⟩
    · have HR := Lib.hid (rd1_1 HKD.out)
      go_wp2_with fail
      refine (HT64.out _ HP4.out.ri).mono ?_
      rintro e w5 ⟨rfl, hi5, hg5⟩
      have hP5 := HP4.out.step hi5 hg5
      have HP5 := Lib.hid hP5
      have HD := Lib.hid (hP5.putp (rdr_in b) 3 (.string (ofL (lTextOut (lRaw (lText s 16) 1) 64))) (by simp))
      have c0 := hP5.rp.cs 0 _ rfl
      have c1 : _ = some (Value.int .u8 1) := hP5.rp.cs 1 _ rfl
      have c2 := hP5.rp.cs 2 _ rfl
      have c3 := hP5.rp.cs 3 _ rfl
      have cf : ∀ j, w5.frozen? ⟨p, j, none⟩ = false := hP5.rp.s
      have cl := hP5.rp.lt
      clear hi5 hg5 hP5
      have d0 := HD.out.rp.cs 0 _ rfl
      have d1 : _ = some (Value.int .u8 1) := HD.out.rp.cs 1 _ rfl
      have d2 := HD.out.rp.cs 2 _ rfl
      have d3 := HD.out.rp.cs 3 _ rfl
      have e0 := HD.out.rc.cs 0 _ rfl
      have e1 := HD.out.rc.cs 1 _ rfl
      have e2 := HD.out.rc.cs 2 _ rfl
      have e3 := HD.out.rc.cs 3 _ rfl
      have ef : ∀ j, (w5.setCell ⟨p, 3, none⟩ (.string (ofL (lTextOut (lRaw (lText s 16) 1) 64)))).frozen? ⟨c, j, none⟩ = false := HD.out.rc.s
      have el := HD.out.rc.lt
      go_wp2_with fail
      obtain ⟨W', hW', h1, h2, g0, g1, g2, g3⟩ := HD.out.last (rdr_in b) rfl (.string (ofL (lTextOut s 16))) (.int .u8 1) (.int .i64 0) (.string (ofL (lTextOut (lRaw (lText s 16) 1) 64)))
      exact bodyPost_ret (v := .agg #[.string (ofL (lTextOut s 16)), .int .u8 1, .int .i64 0, .string (ofL (lTextOut (lRaw (lText s 16) 1) 64))]) (by rw [← hW']; simp [results, Tryz.results119, go_sem, g0, g1, g2, g3]) rfl ⟨by rw [HR.out]; rfl, by rw [HR.out, ← hW']; exact h1, by rw [← hW']; exact h2⟩
    · have HR := Lib.hid (rd1_2 HKD.out)
      go_wp2_with fail
      refine (HN1.out _ HP4.out.ri).mono ?_
      rintro e w5 ⟨rfl, hi5, hg5⟩
      have hP5 := HP4.out.step hi5 hg5
      have HP5 := Lib.hid hP5
      have HD := Lib.hid (hP5.putp (rdr_in b) 2 (.int .i64 (Hd.i64 (Oct.val (lOut (lRaw (lText s 16) 1).1 1)))) (by simp))
      have c0 := hP5.rp.cs 0 _ rfl
      have c1 : _ = some (Value.int .u8 2) := hP5.rp.cs 1 _ rfl
      have c2 := hP5.rp.cs 2 _ rfl
      have c3 := hP5.rp.cs 3 _ rfl
      have cf : ∀ j, w5.frozen? ⟨p, j, none⟩ = false := hP5.rp.s
      have cl := hP5.rp.lt
      have hwi := wi64 (Oct.val (lOut (lRaw (lText s 16) 1).1 1)) (Nat.lt_trans (val_out_lt _ 1) (by decide))
      clear hi5 hg5 hP5
      have d0 := HD.out.rp.cs 0 _ rfl
      have d1 : _ = some (Value.int .u8 2) := HD.out.rp.cs 1 _ rfl
      have d2 := HD.out.rp.cs 2 _ rfl
      have d3 := HD.out.rp.cs 3 _ rfl
      have e0 := HD.out.rc.cs 0 _ rfl
      have e1 := HD.out.rc.cs 1 _ rfl
      have e2 := HD.out.rc.cs 2 _ rfl
      have e3 := HD.out.rc.cs 3 _ rfl
      have ef : ∀ j, (w5.setCell ⟨p, 2, none⟩ (.int .i64 (Hd.i64 (Oct.val (lOut (lRaw (lText s 16) 1).1 1))))).frozen? ⟨c, j, none⟩ = false := HD.out.rc.s
      have el := HD.out.rc.lt
      go_wp2_with fail
      obtain ⟨W', hW', h1, h2, g0, g1, g2, g3⟩ := HD.out.last (rdr_in b) rfl (.string (ofL (lTextOut s 16))) (.int .u8 2) (.int .i64 (Hd.i64 (Oct.val (lOut (lRaw (lText s 16) 1).1 1)))) (.string ⟨#[]⟩)
      exact bodyPost_ret (v := .agg #[.string (ofL (lTextOut s 16)), .int .u8 2, .int .i64 (Hd.i64 (Oct.val (lOut (lRaw (lText s 16) 1).1 1))), .string ⟨#[]⟩]) (by rw [← hW']; simp [results, Tryz.results119, go_sem, g0, g1, g2, g3]) rfl ⟨by rw [HR.out]; rfl, by rw [HR.out, ← hW']; exact h1, by rw [← hW']; exact h2⟩
end Go.Proofs.YtaikigponkjkgaaGreatDoor
end
section
namespace Go.Proofs.YtaikigponkjkgaaGreatDoor
open Go.ChangeShapes Go.WideShapes Go.ChangeAt Go.RowKit
/-- while a head is read: the reader, the pairs so far in a row of one's own -/
structure RdL (w : World) (b : Nat) (R : LSt → World → Prop) (s : LSt) (v : Value) (h : List Hd.Pr) (W : World) : Prop where
  ri : R s W
  own : W.ownsRow w.heap.size 142 4 v h.length (prs h)
  G : w.grownBy W (some b)
  bw : b < w.heap.size
theorem RdL.step {w : World} {b : Nat} {R : LSt → World → Prop} {s s' : LSt} {v : Value} {h : List Hd.Pr} {W W' : World} (H : RdL w b R s v h W) (hi : R s' W') (hg : W.grownBy W' (some b)) : RdL w b R s' v h W' :=
  ⟨hi, H.own.kept hg (Rw.own_ne H.own H.bw), H.G.trans hg, H.bw⟩
theorem RdL.on {w : World} {b : Nat} {R : LSt → World → Prop} (hR : Rder b R) {s : LSt} {v : Value} {h : List Hd.Pr} {W W' : World} (H : RdL w b R s v h W) (hb : Below W.heap.size W W') : RdL w b R s v h W' :=
  ⟨hR.on H.ri hb, Rw.own_on H.own hb, grown_below H.G hb, H.bw⟩
theorem RdL.start {w : World} {b : Nat} {R : LSt → World → Prop} {s : LSt} {W : World} (hi : R s W) (hg : w.grownBy W (some b)) (hb : b < w.heap.size) : RdL w b R s (.slice none 0 0) [] W :=
  ⟨hi, World.ownsRow_nil _ _ _ _, hg, hb⟩
theorem RdL.push {w : World} {b : Nat} {R : LSt → World → Prop} (hR : Rder b R) {s : LSt} {v v' : Value} {h : List Hd.Pr} {x : Hd.Pr} {W W' : World} (H : RdL w b R s v h W) (hg : W.grownBy W' v.ownBlock) (ho : W'.ownsRow w.heap.size 142 4 v' (h ++ [x]).length (prs (h ++ [x]))) : RdL w b R s v' (h ++ [x]) W' :=
  ⟨hR.gr H.ri hg (fun e => by have := (H.own.lt b e.symm).1; have := H.bw; omega), ho, grown_new H.G hg (fun k hk => (H.own.lt k hk).1), H.bw⟩
theorem RdL.row {w : World} {b : Nat} {R : LSt → World → Prop} {s : LSt} {v : Value} {h : List Hd.Pr} {W : World} (H : RdL w b R s v h W) : ∃ A c, v = .slice A h.length c ∧ h.length ≤ c ∧ Prs W A h ∧ ∀ a, A = some a → w.heap.size ≤ a.block := by
  obtain ⟨A, c, e, hc, -, hP⟩ := rown_prs H.own
  refine ⟨A, c, e, hc, hP, fun a ha => (H.own.lt a.block ?_).1⟩
  rw [e, ha]; rfl
theorem Prs.grown {w w' : World} {A : Option Addr} {l : List Hd.Pr} {row : Option Nat} (h : Prs w A l) (hg : w.grownBy w' row) (hne : ∀ a, A = some a → some a.block ≠ row) : Prs w' A l := ⟨fun i hi => by
  obtain ⟨b, off, hA, hlt, hat⟩ := h.at_ i hi
  have hb := hne _ hA
  exact ⟨b, off, hA, Nat.lt_of_lt_of_le hlt hg.size, hg.cell hat.c0 hb, hg.cell hat.c1 hb, hg.cell hat.c2 hb, hg.cell hat.c3 hb⟩⟩
theorem cell_pr_one (w : World) (x0 x1 x2 x3 : Value) (t : TypeId) : ∀ j u, [x0, x1, x2, x3][j]? = some u → (w.alloc (.cells #[x0, x1, x2, x3] t)).cell? ((⟨w.heap.size, 0, none⟩ : Addr).add j) = some u :=
  World.news_of_block (w := w.alloc (.cells #[x0, x1, x2, x3] t)) (B := w.heap.size) (cs := #[x0, x1, x2, x3]) (t := t) (fr := (0, 0)) (heap_alloc_new _ _)
theorem rds_bad {n : Nat} {h : List Hd.Pr} {s : LSt} (hb : (lFail (Hd.rd1 s).2 (Hd.pcode (Hd.rd1 s).1 h)).2 ≠ 0) : Hd.rds (n + 1) h s = ([], lFail (Hd.rd1 s).2 (Hd.pcode (Hd.rd1 s).1 h)) := by rw [Hd.rds, if_pos hb]
theorem rds_go {n : Nat} {h : List Hd.Pr} {s : LSt} (hb : (lFail (Hd.rd1 s).2 (Hd.pcode (Hd.rd1 s).1 h)).2 = 0) : Hd.rds (n + 1) h s = Hd.rds n (h ++ [(Hd.rd1 s).1]) (lFail (Hd.rd1 s).2 (Hd.pcode (Hd.rd1 s).1 h)) := by rw [Hd.rds, if_neg (by omega)]
theorem lText_len (s : LSt) (m : Int) : (lTextOut s m).length ≤ 65536 := by
  unfold lTextOut
  have h1 := lOut_le (lMid s m).1 (lLen s)
  have h2 : lLen s < 256 ^ 2 := val_out_lt s.1 2
  rw [show (256 : Nat) ^ 2 = 65536 from rfl] at h2
  omega
theorem rd1_len (s : LSt) : (Hd.rd1 s).1.key.length ≤ 65536 ∧ (Hd.rd1 s).1.txt.length ≤ 65536 := by
  have h1 := lText_len s 16
  have h2 := lText_len (lRaw (lText s 16) 1) 64
  unfold Hd.rd1
  simp only
  split
  · exact ⟨h1, by simp⟩
  · split
    · exact ⟨h1, h2⟩
    · split
      · exact ⟨h1, by simp⟩
      · exact ⟨h1, by simp⟩
/-- what head.Read leaves -/
def HReadPost (b : Nat) (R : LSt → World → Prop) (w : World) (s : LSt) (e : Ending) (w' : World) : Prop :=
  ∃ A c, e = .returned (.slice A (Hd.hread s).1.length c) ∧ (Hd.hread s).1.length ≤ c ∧ Prs w' A (Hd.hread s).1 ∧ R (Hd.hread s).2 w' ∧ w.grownBy w' (some b) ∧ ∀ a, A = some a → w.heap.size ≤ a.block
def RLoop (w : World) (b : Nat) (R : LSt → World → Prop) (n : Nat) (s1 : LSt) (g : Nat) (v i : Value) (wr : World) : Prop :=
  ∃ (k : Nat) (h : List Hd.Pr) (s : LSt), k + g = n ∧ i = .int .i64 (k : Int) ∧ RdL w b R s v h wr ∧ lOk s ∧ Hd.rds g h s = Hd.rds n [] s1 ∧ h.length = k
set_option maxRecDepth 100000 in
set_option maxHeartbeats 8000000 in
theorem hread_any (b : Nat) (s : LSt) (w : World) (h : InL b s w) (hok : lOk s) : Calls Tryz.prog 95 #[.pointer (some ⟨b, 0, none⟩)] w (HReadPost b (InL b) w s) := by
  have HK0 := lOk_raw hok 1
  have HN := Lib.hid (fun W h => inum_l b s 1 1 W (by omega) rfl h hok)
  have HF6 := Lib.hid (fun W h => ifail_l b (lRaw s 1) 6 W h)
  obtain ⟨n, hn⟩ : ∃ n, Oct.val (lOut s.1 1) = n := ⟨_, rfl⟩
  have hn1 := val_out_lt s.1 1
  rw [show (256 : Nat) ^ 1 = 256 from rfl, hn] at hn1
  have hw : IntKind.i64.wrap (n : Int) = (n : Int) := by rw [IntKind.wrap_i64]; omega
  have HR : Hid (Hd.hread s = if 8 < n then ([], lFail (lRaw s 1) 6) else Hd.rds n [] (lRaw s 1)) := by rw [← hn]; rfl
  rw [hn] at HN
  have HI := Lib.hid h
  have HBW := Lib.hid h.lt
  have HOK := Lib.hid HK0
  clear h hn HK0
  generalize lRaw s 1 = s1 at *
  by_cases h8 : 8 < n
  · have HRR := Lib.hid (show Hd.hread s = ([], lFail s1 6) by rw [HR.out, if_pos h8])
    go_enter Tryz.func95, Tryz.ntmps95
    go_wp2_with fail
    refine (HN.out _ HI.out).mono ?_
    rintro e w1 ⟨rfl, hi1, hg1⟩
    have HI1 := Lib.hid hi1
    have HG1 := Lib.hid hg1
    clear hi1 hg1
    go_wp2_with fail
    refine (HF6.out _ HI1.out).mono ?_
    rintro e w2 ⟨rfl, hi2, hg2⟩
    have HI2 := Lib.hid hi2
    have HG2 := Lib.hid (HG1.out.trans hg2)
    clear hi2 hg2
    go_wp2_with fail
    go_ret
    exact ⟨none, 0, by rw [HRR.out]; rfl, by rw [HRR.out]; exact Nat.le_refl _, by rw [HRR.out]; exact Prs.nil _ _, by rw [HRR.out]; exact HI2.out, HG2.out, fun a h => by cases h⟩
  · have HRR := Lib.hid (show Hd.hread s = Hd.rds n [] s1 by rw [HR.out, if_neg h8])
    obtain ⟨i1, hi1, hz0, hz1, hz2⟩ := info_parts infoPr
    go_enter Tryz.func95, Tryz.ntmps95
    go_wp2_with fail
    refine (HN.out _ HI.out).mono ?_
    rintro e w1 ⟨rfl, hI1, hg1⟩
    have HI1 := Lib.hid hI1
    have HG1 := Lib.hid hg1
    clear hI1 hg1
    go_wp2_with fail
    go_loopg [4, 14] n (fun g v i wr => RLoop w b (InL b) n s1 g v i wr)
    case atStart => exact ⟨0, [], s1, by omega, rfl, RdL.start HI1.out HG1.out HBW.out, HOK.out, rfl, rfl⟩
    case round =>
      obtain ⟨k, h, s2, hk, rfl, hL, hok2, hrd, hlen⟩ := hrel
      obtain ⟨A, cp, rfl, hcp, hP, -⟩ := hL.row
      have HL := Lib.hid hL
      have HOK2 := Lib.hid hok2
      have HRD := Lib.hid hrd
      clear hL hok2 hrd hP
      by_cases hlt : k < n
      · obtain ⟨g', rfl⟩ : ∃ g', gk = g' + 1 := ⟨gk - 1, by omega⟩
        have HR1 := Lib.hid (fun W h => hread1_any b s2 W h HOK2.out)
        obtain ⟨hx1, hx2⟩ := rd1_len s2
        obtain ⟨x, hx⟩ : ∃ x, (Hd.rd1 s2).1 = x := ⟨_, rfl⟩
        have HX := Lib.hid hx
        rw [hx] at hx1 hx2
        clear hx
        have HCK := Lib.hid (fun W h' => hcheck_any x.key x.kind x.num x.txt h A cp W (by omega) (by omega) (by omega) h')
        have HFL := Lib.hid (fun c W h => ifail_l b (Hd.rd1 s2).2 c W h)
        rw [hlen] at HCK ⊢
        go_wp2_with fail
        refine (HR1.out _ HL.out.ri).mono ?_
        rintro e w2 ⟨rfl, hi2, hg2⟩
        rw [HX.out]
        have hL2 := HL.out.step hi2 hg2
        have HL3 := Lib.hid (hL2.on (rdr_in b) ((Below.refl w2.heap.size w2).alloc (Nat.le_refl _) (.cells #[.string (ofL x.key), .int .u8 (x.kind : Int), .int .i64 x.num, .string (ofL x.txt)] 142)))
        have HBX := Lib.hid (PrAt.new x w2)
        have HSZ := Lib.hid hL2.G.size
        clear hi2 hg2 hL2
        simp only [prV]
        obtain ⟨A3, c3, e3, -, hP3, -⟩ := HL3.out.row
        obtain ⟨rfl, -, rfl⟩ := Value.slice.inj e3
        have HP3 := Lib.hid hP3
        clear e3 hP3
        go_wp2_with fail
        refine (HCK.out _ HP3.out).mono ?_
        rintro e w4 ⟨rfl, b4⟩
        have HL4 := Lib.hid (HL3.out.on (rdr_in b) b4)
        have HB4 := Lib.hid ((PrAt.below HBX.out b4 (by simp)))
        have hbl4 : w2.heap.size < w4.heap.size := by have := b4.size; simp at this; omega
        clear b4
        go_wp2_with fail
        refine (HFL.out _ _ HL4.out.ri).mono ?_
        rintro e w5 ⟨rfl, hi5, hg5⟩
        have hL5 := HL4.out.step hi5 hg5
        have HL5 := Lib.hid hL5
        have hne : w2.heap.size ≠ b := by have := HSZ.out; have := HBW.out; omega
        have hp5 := (prCels HB4.out).grown hg5 (fun e => hne (Option.some.inj e))
        have hb5 := prOf (x := x) hp5
        have HB5 := Lib.hid hb5
        have hbl5 : w2.heap.size < w5.heap.size := Nat.lt_of_lt_of_le hbl4 hg5.size
        clear hi5 hg5 hL5 hp5 hb5 hne hbl4
        obtain ⟨F, hF⟩ : ∃ F, lFail (Hd.rd1 s2).2 (Hd.pcode x h) = F := ⟨_, rfl⟩
        have HF := Lib.hid hF
        have HL5 := Lib.hid (show RdL w b (InL b) F (Value.slice A h.length cp) h w5 by rw [← hF]; exact HL5.out)
        have hok5 : lOk F := by rw [← hF]; exact lOk_fail (Hd.lOk_rd1 HOK2.out) _
        have HOK5 := Lib.hid hok5
        have HER := Lib.hid (ierr_l b F w5 HL5.out.ri)
        clear hF hok5
        obtain ⟨c0, c1, c2, c3⟩ := HB5.out
        simp only [Nat.zero_add] at c0 c1 c2 c3
        by_cases h0 : F.2 = 0
        · have HGO := Lib.hid (show Hd.rds (g' + 1) h s2 = Hd.rds g' (h ++ [x]) F by rw [rds_go (by rw [HX.out, HF.out]; exact h0), HX.out, HF.out])
          have hne0 : (F.2 != 0) = false := by rw [h0]; rfl
          rw [h0] at HER
          have hown5 := HL5.out.own
          rw [hlen] at hown5
          have HOW := Lib.hid hown5
          have hal := (Below.refl w5.heap.size w5).alloc (Nat.le_refl _) (.cells #[.string (ofL x.key), .int .u8 (x.kind : Int), .int .i64 x.num, .string (ofL x.txt)] 142)
          have hws : w.heap.size ≤ w5.heap.size := HL5.out.G.size
          clear h0 hown5 hal
          go_wp2_with fail
          refine HER.out.mono ?_
          rintro e w6 ⟨rfl, rfl⟩
          go_wp2_with (first
            | (at_builtin; refine wpList_append_lies _ rfl _ _ 46 rfl w.heap.size 142 i1 _ 4 48 Tryz.underlying46 hi1 hz0 hz1 hz2 rfl (by omega) (.slice A k cp) k (prs h) (by rfl) (HOW.out.alloc _) ⟨w5.heap.size, 0, none⟩ 1 1 (prL x) (by rfl) (by rfl) (cell_pr_one w5 _ _ _ _ _) (by simp [Value.oneCell', prL]) (by omega) (by unfold maxLen; omega) (by omega) (by simp; omega) _ rfl ?_; intro gg cap w7 hown1 hgrow hat hlt'; have HW := Lib.hid hown1; have HG := Lib.hid hgrow; clear hown1 hgrow hat hlt'))
          have hLN := (HL5.out.on (rdr_in b) ((Below.refl w5.heap.size w5).alloc (Nat.le_refl _) (.cells #[.string (ofL x.key), .int .u8 (x.kind : Int), .int .i64 x.num, .string (ofL x.txt)] 142))).push (rdr_in b) (x := x) (by rw [hlen]; exact HG.out) (by rw [List.length_append, hlen, prs_snoc]; exact HW.out)
          go_roundg g'
          case rel => exact ⟨k + 1, h ++ [x], F, by omega, by go_num, hLN, HOK5.out, by rw [← HGO.out]; exact HRD.out, by rw [List.length_append, hlen]; rfl⟩
          case measure => omega
        · have HBAD := Lib.hid (show Hd.rds (g' + 1) h s2 = ([], F) by rw [rds_bad (by rw [HX.out, HF.out]; exact h0), HX.out, HF.out])
          have hne0 : (F.2 != 0) = true := bne_iff_ne.2 h0
          clear h0
          go_wp2_with fail
          refine HER.out.mono ?_
          rintro e w6 ⟨rfl, rfl⟩
          go_wp2_with fail
          go_ret
          have hE : Hd.hread s = ([], F) := by rw [HRR.out, ← HRD.out, HBAD.out]
          exact ⟨none, 0, by rw [hE]; rfl, by rw [hE]; exact Nat.le_refl _, by rw [hE]; exact Prs.nil _ _, by rw [hE]; exact HL5.out.ri, HL5.out.G, fun a h => by cases h⟩
      · have hkn : gk = 0 := by omega
        subst hkn
        have hE := HRD.out
        rw [Hd.rds] at hE
        have HE := Lib.hid hE
        clear hE
        go_wp2_with fail
        go_ret
        obtain ⟨A', c', e', hc', hP', hA'⟩ := HL.out.row
        obtain ⟨rfl, -, rfl⟩ := Value.slice.inj e'
        exact ⟨A, cp, by rw [HRR.out, ← HE.out]; rfl, by rw [HRR.out, ← HE.out]; exact hc', by rw [HRR.out, ← HE.out]; exact hP', by rw [HRR.out, ← HE.out]; exact HL.out.ri, HL.out.G, hA'⟩
end Go.Proofs.YtaikigponkjkgaaGreatDoor
end
