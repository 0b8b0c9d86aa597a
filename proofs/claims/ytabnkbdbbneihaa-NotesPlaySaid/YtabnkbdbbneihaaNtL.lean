/-
  A NOTE READ: the program's, walked.
-/
import Derived.Test.YtabnkbdbbneihaaNtK
import Derived.Test.YtabnkbdbbneihaaOctL
namespace Go.Proofs.Ytabnkbdbbneihaa
open Go.ChangeShapes Go.WideShapes Go.ChangeAt Go.RowKit

/-! ### plainly -/
namespace Nt
def rd1 (s : LSt) : Nt × LSt := (⟨Oct.val (lOut s.1 8), Oct.val (lOut (lRaw s 8).1 1), lTextOut (lRaw (lRaw s 8) 1) 64⟩, lText (lRaw (lRaw s 8) 1) 64)
theorem lOk_rd1 {s : LSt} (h : lOk s) : lOk (rd1 s).2 := lOk_text (lOk_raw (lOk_raw h 8) 1) 64
theorem rd1_err {s : LSt} (h : lOk s) (he : s.2 ≠ 0) : (rd1 s).2 = s := by
  unfold rd1
  dsimp only
  rw [lRaw_err h he, lRaw_err h he, lText_err h he]
def rds : Nat → LSt → List Nt × LSt
  | 0, s => ([], s)
  | n + 1, s => ((rd1 s).1 :: (rds n (rd1 s).2).1, (rds n (rd1 s).2).2)
theorem rds_len : ∀ (n : Nat) (s : LSt), (rds n s).1.length = n
  | 0, _ => rfl
  | n + 1, s => by simp [rds, rds_len n]
theorem lOk_rds : ∀ (n : Nat) {s : LSt}, lOk s → lOk (rds n s).2
  | 0, _, h => h
  | n + 1, _, h => lOk_rds n (lOk_rd1 h)
theorem rds_err : ∀ (n : Nat) {s : LSt}, lOk s → s.2 ≠ 0 → (rds n s).2 = s
  | 0, _, _, _ => rfl
  | n + 1, s, h, he => by
    have e := rd1_err h he
    show (rds n (rd1 s).2).2 = s
    rw [e]
    exact rds_err n h he
/-- one more at the end -/
theorem rds_snoc : ∀ (n : Nat) (s : LSt), rds (n + 1) s = ((rds n s).1 ++ [(rd1 (rds n s).2).1], (rd1 (rds n s).2).2)
  | 0, s => rfl
  | n + 1, s => by
    have h := rds_snoc n (rd1 s).2
    show ((rd1 s).1 :: (rds (n + 1) (rd1 s).2).1, (rds (n + 1) (rd1 s).2).2) = _
    rw [h]
    rfl
/-- behind the counts -/
def mid (T n : Nat) (s : LSt) : LSt := if 32 < n then lFail s 6 else if n ≠ min T 32 then lFail s 7 else s
theorem lOk_mid {T n : Nat} {s : LSt} (h : lOk s) : lOk (mid T n s) := by
  unfold mid
  split
  · exact lOk_fail h _
  · split
    · exact lOk_fail h _
    · exact h
def readT (s : LSt) : Nat := Oct.val (lOut s.1 8)
def readN (s : LSt) : Nat := Oct.val (lOut (lRaw s 8).1 1)
def readS (s : LSt) : LSt := mid (readT s) (readN s) (lRaw (lRaw s 8) 1)
def readE (s : LSt) : LSt := (rds (readN s) (readS s)).2
/-- what Read answers: how many came, what is kept -/
def readA (s : LSt) : Nat × List Nt := if (readE s).2 ≠ 0 then (0, []) else (readT s, (rds (readN s) (readS s)).1)
theorem readN_lt (s : LSt) : readN s < 256 := val_out_lt _ 1
theorem readT_lt (s : LSt) : readT s < 18446744073709551616 := val_out_lt _ 8
theorem lOk_readS {s : LSt} (h : lOk s) : lOk (readS s) := lOk_mid (lOk_raw (lOk_raw h 8) 1)
end Nt

/-! ### walked -/
/-- while something is read: the reader, the answer's box, its own box -/
structure RdB (w : World) (b : Nat) (R : LSt → World → Prop) (s : LSt) (c : Nat) (xs : List Value) (p : Nat) (ys : List Value) (W : World) : Prop where
  ri : R s W
  rc : BoxC w c xs W
  rp : BoxC w p ys W
  cb : c ≠ b
  pb : p ≠ b
  cp : c ≠ p
  G : w.grownBy W (some b)
theorem RdB.step {w : World} {b : Nat} {R : LSt → World → Prop} {s s' : LSt} {c p : Nat} {xs ys : List Value} {W W' : World} (h : RdB w b R s c xs p ys W) (hi : R s' W') (hg : W.grownBy W' (some b)) : RdB w b R s' c xs p ys W' :=
  ⟨hi, h.rc.grown hg h.cb, h.rp.grown hg h.pb, h.cb, h.pb, h.cp, h.G.trans hg⟩
theorem RdB.putp {w : World} {b : Nat} {R : LSt → World → Prop} (hR : Rder b R) {s : LSt} {c p : Nat} {xs ys : List Value} {W : World} (h : RdB w b R s c xs p ys W) (j : Nat) (v : Value) (hj : j < ys.length) : RdB w b R s c xs p (ys.set j v) (W.setCell ⟨p, j, none⟩ v) :=
  ⟨hR.put h.ri h.pb j v, h.rc.aside (fun e => h.cp e.symm) j v, h.rp.put j v hj, h.cb, h.pb, h.cp, grown_far h.G h.rp.ge j v⟩
theorem RdB.putc {w : World} {b : Nat} {R : LSt → World → Prop} (hR : Rder b R) {s : LSt} {c p : Nat} {xs ys : List Value} {W : World} (h : RdB w b R s c xs p ys W) (j : Nat) (v : Value) (hj : j < xs.length) : RdB w b R s c (xs.set j v) p ys (W.setCell ⟨c, j, none⟩ v) :=
  ⟨hR.put h.ri h.cb j v, h.rc.put j v hj, h.rp.aside h.cp j v, h.cb, h.pb, h.cp, grown_far h.G h.rc.ge j v⟩
theorem RdB.last3 {w : World} {b : Nat} {R : LSt → World → Prop} (hR : Rder b R) {s : LSt} {c p : Nat} {xs ys : List Value} {W : World} (h : RdB w b R s c xs p ys W) (hx : xs.length = 3) (v0 v1 v2 : Value) :
    ∃ W', W' = ((W.setCell ⟨c, 0, none⟩ v0).setCell ⟨c, 1, none⟩ v1).setCell ⟨c, 2, none⟩ v2 ∧ R s W' ∧ w.grownBy W' (some b) ∧ W'.cell? ⟨c, 0, none⟩ = some v0 ∧ W'.cell? ⟨c, 1, none⟩ = some v1 ∧ W'.cell? ⟨c, 2, none⟩ = some v2 := by
  match xs, hx with
  | [x0, x1, x2], _ =>
    have h1 := ((h.putc hR 0 v0 (by simp)).putc hR 1 v1 (by simp)).putc hR 2 v2 (by simp)
    exact ⟨_, rfl, h1.ri, h1.G, h1.rc.cs 0 _ rfl, h1.rc.cs 1 _ rfl, h1.rc.cs 2 _ rfl⟩
theorem gb_then2 {a w w' : World} {row : Option Nat} (h : a.grownBy w row) (h2 : w.grownBy w' row) : a.grownBy w' row := h.trans h2
/-- two boxes beside a reader -/
theorem RdB.new {w : World} {b : Nat} {R : LSt → World → Prop} (hR : Rder b R) {s : LSt} (h : R s w) (xs ys : Array Value) (t t' : TypeId) : RdB w b R s w.heap.size xs.toList (w.heap.size + 1) ys.toList ((w.alloc (.cells xs t)).alloc (.cells ys t')) := by
  have hlt := hR.lt h
  have e : (w.alloc (.cells xs t)).heap.size = w.heap.size + 1 := by simp
  have h2 := BoxC.new (w := w) (W := w.alloc (.cells xs t)) (by simp) ys t'
  rw [e] at h2
  exact ⟨hR.on (hR.on h (alloc1B w _)) (alloc1B _ _), (BoxC.new (Nat.le_refl _) xs t).on (alloc1B _ _), h2, by omega, by omega, by omega, gb_then2 (Rw.gb (alloc1B w (.cells xs t)) (some b)) (Rw.gb (alloc1B (w.alloc (.cells xs t)) (.cells ys t')) (some b))⟩
def Rd1N (b : Nat) (w : World) (s : LSt) (e : Ending) (w' : World) : Prop := e = .returned (ntV (Nt.rd1 s).1) ∧ InL b (Nt.rd1 s).2 w' ∧ w.grownBy w' (some b)
theorem u8n (r : List UInt8) : IntKind.u8.wrap ((Oct.val (lOut r 1) : Nat) : Int) = ((Oct.val (lOut r 1) : Nat) : Int) := by
  have := val_out_lt r 1
  rw [show (256 : Nat) ^ 1 = 256 from rfl] at this
  rw [show IntKind.u8.wrap ((Oct.val (lOut r 1) : Nat) : Int) = ((Oct.val (lOut r 1) : Nat) : Int) % 256 from rfl]
  omega
set_option maxRecDepth 100000 in
set_option maxHeartbeats 8000000 in
theorem ntread_any (b : Nat) (s : LSt) (w : World) (h : InL b s w) (hok : lOk s) : Calls Try.prog 37 #[.pointer (some ⟨b, 0, none⟩)] w (Rd1N b w s) := by
  have HK1 := lOk_raw hok 8
  have HK2 := lOk_raw HK1 1
  have HN8 := Lib.hid (fun W h => inum_l b s 8 8 W (by omega) rfl h hok)
  have HN1 := Lib.hid (fun W h => inum_l b (lRaw s 8) 1 1 W (by omega) rfl h HK1)
  have HT := Lib.hid (fun W h => itext_l b (lRaw (lRaw s 8) 1) 64 W h HK2)
  have hw8 := u8n (lRaw s 8).1
  have HW := Lib.hid (RdB.new (rdr_in b) h #[.int .u64 0, .int .u8 0, .string ⟨#[]⟩] #[.int .u64 0, .int .u8 0, .string ⟨#[]⟩] 32 32)
  have HEND := Lib.hid (fun W (hi : InL b (lText (lRaw (lRaw s 8) 1) 64) W) (hg : w.grownBy W (some b)) => show Rd1N b w s (.returned (.agg #[.int .u64 ((Oct.val (lOut s.1 8) : Nat) : Int), .int .u8 ((Oct.val (lOut (lRaw s 8).1 1) : Nat) : Int), .string (ofL (lTextOut (lRaw (lRaw s 8) 1) 64))])) W from ⟨rfl, hi, hg⟩)
  clear h HK1 HK2
  generalize Rd1N b w s = POST at *
  go_enter Try.func37, Try.ntmps37
  go_wp2_with fail
  generalize (w.alloc (.cells #[.int .u64 0, .int .u8 0, .string ⟨#[]⟩] 32)).alloc (.cells #[.int .u64 0, .int .u8 0, .string ⟨#[]⟩] 32) = w2 at *
  generalize hp : w.heap.size + 1 = p at *
  generalize hc : w.heap.size = c at *
  generalize Oct.val (lOut s.1 8) = t at *
  generalize Oct.val (lOut (lRaw s 8).1 1) = k at *
  generalize lTextOut (lRaw (lRaw s 8) 1) 64 = tx at *
  refine (HN8.out _ HW.out.ri).mono ?_
  rintro e w3 ⟨rfl, hi3, hg3⟩
  have hP3 := HW.out.step hi3 hg3
  have c0 := hP3.rp.cs 0 _ rfl
  have c1 := hP3.rp.cs 1 _ rfl
  have c2 := hP3.rp.cs 2 _ rfl
  have cf0 := hP3.rp.s 0
  have cf1 := hP3.rp.s 1
  have cf2 := hP3.rp.s 2
  have cl := hP3.rp.lt
  have HP4 := Lib.hid (hP3.putp (rdr_in b) 0 (.int .u64 (t : Int)) (by simp))
  clear hi3 hg3 hP3
  go_wp2_with fail
  refine (HN1.out _ HP4.out.ri).mono ?_
  rintro e w5 ⟨rfl, hi5, hg5⟩
  have hP5 := HP4.out.step hi5 hg5
  clear c0 c1 c2 cf0 cf1 cf2 cl
  have c0 := hP5.rp.cs 0 _ rfl
  have c1 := hP5.rp.cs 1 _ rfl
  have c2 := hP5.rp.cs 2 _ rfl
  have cf0 := hP5.rp.s 0
  have cf1 := hP5.rp.s 1
  have cf2 := hP5.rp.s 2
  have cl := hP5.rp.lt
  have HP6 := Lib.hid (hP5.putp (rdr_in b) 1 (.int .u8 (k : Int)) (by simp))
  clear hi5 hg5 hP5
  go_wp2_with fail
  refine (HT.out _ HP6.out.ri).mono ?_
  rintro e w7 ⟨rfl, hi7, hg7⟩
  have hP7 := HP6.out.step hi7 hg7
  clear c0 c1 c2 cf0 cf1 cf2 cl
  have c0 := hP7.rp.cs 0 _ rfl
  have c1 := hP7.rp.cs 1 _ rfl
  have c2 := hP7.rp.cs 2 _ rfl
  have cf2 := hP7.rp.s 2
  have cl := hP7.rp.lt
  have HP8 := Lib.hid (hP7.putp (rdr_in b) 2 (.string (ofL tx)) (by simp))
  have e0 := hP7.rc.cs 0 _ rfl
  have e1 := hP7.rc.cs 1 _ rfl
  have e2 := hP7.rc.cs 2 _ rfl
  have ef0 := hP7.rc.s 0
  have ef1 := hP7.rc.s 1
  have ef2 := hP7.rc.s 2
  have el := hP7.rc.lt
  clear hi7 hg7 hP7
  go_wp2_with fail
  obtain ⟨W', hW', h1, h2, g0, g1, g2⟩ := HP8.out.last3 (rdr_in b) rfl (.int .u64 (t : Int)) (.int .u8 (k : Int)) (.string (ofL tx))
  exact bodyPost_ret (v := .agg #[.int .u64 (t : Int), .int .u8 (k : Int), .string (ofL tx)]) (by rw [← hW']; simp [results, Try.results37, go_sem, g0, g1, g2]) rfl (by rw [← hW']; exact HEND.out _ h1 h2)
end Go.Proofs.Ytabnkbdbbneihaa
