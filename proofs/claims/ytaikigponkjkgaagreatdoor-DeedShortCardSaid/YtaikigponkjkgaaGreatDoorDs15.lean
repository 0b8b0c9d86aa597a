/-
  A HEAD's BYTES: the program's, walked. A HEAD's BYTES: the document's, walked. OCTET's LAST CALLS, walked: the error of what is written; the end of what is read. THE DOCUMENT's OWN READER, walked: it answers, and leaves, what the program's reader does. READERS over lists of bytes: the program's Fail, the document's reader; what they are alike in.
-/
import Derived.Test.YtaikigponkjkgaaGreatDoorDs02
import Derived.Test.YtaikigponkjkgaaGreatDoorDs03
import Derived.Test.YtaikigponkjkgaaGreatDoorDs07
import Derived.Test.YtaikigponkjkgaaGreatDoorDs14
import Derived.Deep.RegionHeld3
import Derived.Deep.DeepCutAuto
section
namespace Go.Proofs.YtaikigponkjkgaaGreatDoor
open Go.ChangeShapes Go.WideShapes Go.ChangeAt Go.RowKit
/-- an Out's box, in memory of one's own -/
structure OutB (w : World) (g : Nat) (x : List UInt8) (W : World) : Prop where
  c0 : W.cell? ⟨g, 0, none⟩ = some (.string (ofL x))
  c1 : W.cell? ⟨g, 1, none⟩ = some (.int .i64 0)
  fz : ∀ j, W.frozen? ⟨g, j, none⟩ = false
  lt : g < W.heap.size
  ge : w.heap.size ≤ g
  B : Below w.heap.size w W
theorem OutB.on {w : World} {g : Nat} {x : List UInt8} {W W' : World} (h : OutB w g x W) (hb : Below W.heap.size W W') : OutB w g x W' :=
  ⟨(hb.cell (p := ⟨g, 0, none⟩) h.lt).trans h.c0, (hb.cell (p := ⟨g, 1, none⟩) h.lt).trans h.c1, fun j => (hb.frozen (p := ⟨g, j, none⟩) h.lt).trans (h.fz j), Nat.lt_of_lt_of_le h.lt hb.size, h.ge, bthen h.B hb (Nat.le_refl _)⟩
theorem OutB.put {w : World} {g : Nat} {x : List UInt8} {W : World} (h : OutB w g x W) (y : List UInt8) : OutB w g y ((W.setCell ⟨g, 0, none⟩ (.string (ofL y))).setCell ⟨g, 1, none⟩ (.int .i64 0)) := by
  have hC : Cels W g [.string (ofL x), .int .i64 0] := fun j v hj => by
    match j, hj with
    | 0, hj => obtain rfl := Option.some.inj hj; exact h.c0
    | 1, hj => obtain rfl := Option.some.inj hj; exact h.c1
  have hD := (hC.put 0 (.string (ofL y)) (by simp)).put 1 (.int .i64 0) (by simp)
  exact ⟨hD 0 _ rfl, hD 1 _ rfl, fun j => ((Soft.put (Soft.put h.fz _ _) _ _) j), by simpa [World.setCell] using h.lt, h.ge, (h.B.setCell h.ge _).setCell h.ge _⟩
theorem OutB.new {w W : World} (h : Below w.heap.size w W) (x : List UInt8) (t : TypeId) : OutB w W.heap.size x (W.alloc (.cells #[.string (ofL x), .int .i64 0] t)) :=
  ⟨cell_new _ _ _ _ _ rfl, cell_new _ _ _ _ _ rfl, fun _ => free_new _ _ _ _ _ rfl, by simp, h.size, h.alloc h.size _⟩
theorem penc_len {p : Hd.Pr} (h : Hd.bad p = 0) : (Hd.penc p).length ≤ 100 ∧ p.kind ≤ 2 ∧ p.key.length ≤ 1000 ∧ p.txt.length ≤ 1000 := by
  obtain ⟨h1, h2, h3, h4, h5⟩ := Hd.bad_ok h
  obtain ⟨hl, -⟩ := Hd.name_ok_len h1
  have ht : p.txt.length ≤ 64 := by
    by_cases hk : p.kind = 1
    · exact (h3 hk).1
    · rw [h5 hk]; simp
  refine ⟨?_, h2, by omega, by omega⟩
  unfold Hd.penc Hd.pbody Oct.text
  simp only [List.length_append, Oct.length_be]
  split
  · rw [Oct.length_be]; omega
  · split
    · rw [List.length_append, Oct.length_be]; omega
    · rw [Oct.length_be]; omega
theorem hflat_len {l : List Hd.Pr} (h : ∀ p ∈ l, (Hd.penc p).length ≤ 100) : (l.flatMap Hd.penc).length ≤ 100 * l.length := by
  induction l with
  | nil => simp
  | cons x l ih =>
    have h1 := h x (by simp)
    have h2 := ih fun p hp => h p (by simp [hp])
    rw [List.flatMap_cons, List.length_append, List.length_cons]
    omega
/-- the bytes ahead of pair k -/
def hpre (l : List Hd.Pr) (k : Nat) : List UInt8 := Oct.be 1 l.length ++ (l.take k).flatMap Hd.penc
theorem hpre_zero (l : List Hd.Pr) : hpre l 0 = Oct.be 1 l.length := by unfold hpre; simp
theorem hpre_all {l : List Hd.Pr} {k : Nat} (h : l.length ≤ k) : hpre l k = Hd.henc l := by unfold hpre Hd.henc; rw [List.take_of_length_le h]
theorem hpre_next {l : List Hd.Pr} {k : Nat} (h : k < l.length) : hpre l k ++ Hd.penc (Hd.pr l k) = hpre l (k + 1) := by
  unfold hpre
  rw [List.take_succ_eq_append_getElem h, List.flatMap_append, Hd.pr_at h]
  simp [List.append_assoc]
/-- what is known of a head that may be -/
structure HFine (l : List Hd.Pr) : Prop where
  len : l.length ≤ 8
  one : ∀ k, k < l.length → (Hd.pr l k).kind ≤ 2 ∧ (Hd.pr l k).key.length ≤ 1000 ∧ (Hd.pr l k).txt.length ≤ 1000
  pre : ∀ k, (hpre l k).length ≤ 1000
theorem hfine_of {l : List Hd.Pr} (h : Hd.hcode l = 0) : HFine l := by
  obtain ⟨h8, hc⟩ := Hd.hcode_ok h
  have hb : ∀ k, k < l.length → Hd.bad (Hd.pr l k) = 0 := fun k hk => (Hd.pcode_ok (hc k hk)).1
  refine ⟨h8, fun k hk => (penc_len (hb k hk)).2, fun k => ?_⟩
  unfold hpre
  rw [List.length_append, Oct.length_be]
  have hm : ∀ p ∈ l.take k, (Hd.penc p).length ≤ 100 := fun p hp => by
    obtain ⟨i, hi, rfl⟩ := List.getElem_of_mem (List.mem_of_mem_take hp)
    rw [← Hd.pr_at hi]
    exact (penc_len (hb i hi)).1
  have := hflat_len hm
  rw [List.length_take] at this
  omega
/-- what Bytes answers -/
def hbytesV (l : List Hd.Pr) : Value := if Hd.hcode l = 0 then .tuple #[.string (ofL (Hd.henc l)), .int .i64 0] else .tuple #[.string ⟨#[]⟩, .int .i64 (Hd.hcode l : Int)]
def HbySt (l : List Hd.Pr) (w : World) (gb n g : Nat) (i : Value) (wr : World) : Prop := ∃ k : Nat, k + g = n ∧ i = .int .i64 (k : Int) ∧ OutB w gb (hpre l k) wr
set_option maxRecDepth 100000 in
set_option maxHeartbeats 4000000 in
theorem hbytes_any (l : List Hd.Pr) (A : Option Addr) (c : Nat) (w : World) (hl : l.length ≤ 100000) (hc : l.length ≤ c) (hL : Lite l) (hp : Prs w A l) :
    Calls Tryz.prog 80 #[.slice A l.length c] w fun e w' => e = .returned (hbytesV l) ∧ Below w.heap.size w w' := by
  have HP := Lib.hid hp
  have HC := Lib.hid (fun W h => hCheck_any l A c W hl hc hL h)
  have HV : Hid (hbytesV l = if Hd.hcode l = 0 then .tuple #[.string (ofL (Hd.henc l)), .int .i64 0] else .tuple #[.string ⟨#[]⟩, .int .i64 (Hd.hcode l : Int)]) := rfl
  clear hp
  by_cases h0 : Hd.hcode l = 0
  · have HF := Lib.hid (hfine_of h0)
    have HVV := Lib.hid (show hbytesV l = .tuple #[.string (ofL (Hd.henc l)), .int .i64 0] by rw [HV.out, if_pos h0])
    rw [h0] at HC
    clear h0 HV
    obtain ⟨n, hn⟩ : ∃ n, n = l.length := ⟨_, rfl⟩
    have HN := Lib.hid hn
    have hn8 : n ≤ 8 := by have := HF.out.len; omega
    have H1 := Lib.hid (fun W => num_l [] n 1 1 W (by omega) (by omega) rfl (by simp))
    rw [show ofL [] = ⟨#[]⟩ from rfl, show [] ++ Oct.be 1 n = hpre l 0 by rw [hpre_zero, hn]; rfl] at H1
    have hw : IntKind.u64.wrap (n : Int) = (n : Int) := by rw [IntKind.wrap_u64]; omega
    rw [← hn]
    rw [← hn] at HC hc hl
    clear hn
    have HALL := Lib.hid (fun k (h : n ≤ k) => hpre_all (l := l) (k := k) (by have := HN.out; omega))
    generalize hbytesV l = V at *
    generalize Hd.henc l = E at *
    go_enter Tryz.func80, Tryz.ntmps80
    go_wp2_with fail
    refine (HC.out _ HP.out).mono ?_
    rintro e w1 ⟨rfl, b1⟩
    have HP1 := Lib.hid (HP.out.on b1)
    have HB1 := Lib.hid b1
    clear b1
    go_wp2_with fail
    refine (H1.out _).mono ?_
    rintro e w2 ⟨rfl, b2⟩
    have HP2 := Lib.hid (HP1.out.on b2)
    have HB2 := Lib.hid (bthen HB1.out b2 (Nat.le_refl _))
    clear b2
    have HO := Lib.hid (OutB.new HB2.out (hpre l 0) 70)
    have HP3 := Lib.hid (HP2.out.on ((Below.refl w2.heap.size w2).alloc (Nat.le_refl _) (.cells #[.string (ofL (hpre l 0)), .int .i64 0] 70)))
    clear HC H1
    go_wp2_with fail
    generalize w2.alloc (.cells #[.string (ofL (hpre l 0)), .int .i64 0] 70) = w3 at *
    generalize w2.heap.size = gb at *
    go_loopg [20] n (fun g i wr => HbySt l w gb n g i wr)
    case atStart => exact ⟨0, by omega, rfl, HO.out⟩
    case round =>
      obtain ⟨k, hk, rfl, hO⟩ := hrel
      have HOK := Lib.hid hO
      by_cases hlt : k < n
      · have hkl : k < l.length := by have := HN.out; omega
        have HPR := Lib.hid (show Prs wr A l from ⟨fun i hi => by
          obtain ⟨b, off, rfl, hb, ha⟩ := HP.out.at_ i hi
          exact ⟨b, off, rfl, Nat.lt_of_lt_of_le hb HOK.out.B.size, ha.below HOK.out.B hb⟩⟩)
        obtain ⟨b, off, rfl, hbl, hat⟩ := HPR.out.at_ k hkl
        obtain ⟨f1, f2, f3⟩ := HF.out.one k hkl
        have HNX := Lib.hid (hpre_next hkl)
        generalize Hd.pr l k = x at *
        obtain ⟨x1, x2, x3, x4⟩ := x
        obtain ⟨c0, c1, c2, c3⟩ := hat
        simp only at f1 f2 f3 c0 c1 c2 c3
        have HW := Lib.hid (fun W => hwrite_one (hpre l k) x1 x2 x3 x4 W (by have := HF.out.pre k; omega) f2 f3 f1)
        rw [HNX.out] at HW
        have HO2 := Lib.hid (HOK.out.on ((Below.refl wr.heap.size wr).alloc (Nat.le_refl _) (.cells #[.string (ofL x1), .int .u8 (x2 : Int), .int .i64 x3, .string (ofL x4)] 142)))
        obtain ⟨d0, d1, d2, d3, -, -⟩ := HO2.out
        clear hO hkl f1 f2 f3
        go_wp2_with fail
        refine (HW.out _).mono ?_
        rintro e w5 ⟨rfl, b5⟩
        have hO5 := HO2.out.on b5
        have HO5 := Lib.hid hO5
        clear b5 d0 d1 d2 d3 c0 c1 c2 c3
        obtain ⟨d0, d1, d2, d3, -, -⟩ := hO5
        go_wp2_with fail
        go_roundg (gk - 1)
        case rel => exact ⟨k + 1, by omega, by go_num, HO5.out.put (hpre l (k + 1))⟩
        case measure => omega
      · have hkn : n ≤ k := by omega
        have HE := Lib.hid (HALL.out k hkn)
        obtain ⟨d0, d1, d2, d3, -, -⟩ := hO
        rw [HE.out] at d0
        have HS := Lib.hid (fun W => str_any (ofL E) 0 W)
        clear hkn
        go_wp2_with fail
        refine (HS.out _).mono ?_
        rintro e w5 ⟨rfl, b5⟩
        have HB5 := Lib.hid (bthen HOK.out.B b5 (Nat.le_refl _))
        clear b5
        go_wp2_with fail
        go_ret2
        exact ⟨by rw [HVV.out]; rfl, HB5.out⟩
  · have HVV := Lib.hid (show hbytesV l = .tuple #[.string ⟨#[]⟩, .int .i64 (Hd.hcode l : Int)] by rw [HV.out, if_neg h0])
    have hne := code_ne h0
    clear HV h0
    go_enter Tryz.func80, Tryz.ntmps80
    go_wp2_with fail
    refine (HC.out _ HP.out).mono ?_
    rintro e w1 ⟨rfl, b1⟩
    have HB1 := Lib.hid b1
    clear b1
    go_wp2_with fail
    go_ret2
    exact ⟨by rw [HVV.out]; rfl, HB1.out⟩
end Go.Proofs.YtaikigponkjkgaaGreatDoor
end
section
namespace Go.Proofs.YtaikigponkjkgaaGreatDoor
open Go.ChangeShapes Go.WideShapes Go.ChangeAt Go.RowKit
abbrev RbS (w : World) (b : Nat) (k : List UInt8) (kd : Nat) (n : Int) (t : List UInt8) (W : World) : Prop :=
  (W.cell? ⟨b, 0, none⟩ = some (.string (ofL k)) ∧ W.cell? ⟨b, 1, none⟩ = some (.int .u8 (kd : Int)) ∧ b < W.heap.size) ∧ Below w.heap.size w W ∧ PrAt W b 0 ⟨k, kd, n, t⟩ ∧ b < W.heap.size
theorem RbS.on {w : World} {b : Nat} {k : List UInt8} {kd : Nat} {n : Int} {t : List UInt8} {W W' : World} (h : RbS w b k kd n t W) (hb : Below W.heap.size W W') : RbS w b k kd n t W' := by
  obtain ⟨⟨h0, h1, h2⟩, h3, h4, h5⟩ := h
  have hp := h4.below hb h5
  exact ⟨⟨hp.c0, hp.c1, Nat.lt_of_lt_of_le h2 hb.size⟩, bthen h3 hb (Nat.le_refl _), hp, Nat.lt_of_lt_of_le h5 hb.size⟩
end Go.Proofs.YtaikigponkjkgaaGreatDoor
end
section
namespace Go.Proofs.YtaikigponkjkgaaGreatDoor
open Go.ChangeShapes Go.WideShapes Go.ChangeAt Go.RowKit
def endOf (r : ByteArray) (e : Int) : Int := if 0 < r.size then 4 else e
set_option maxHeartbeats 400000 in
theorem end_any (b : Nat) (r : ByteArray) (e : Int) (w : World) (h : InAt b r e w) :
    Calls Tryz.prog 28 #[.pointer (some ⟨b, 0, none⟩)] w fun x w' => x = .returned (.int .i64 (endOf r e)) ∧ w = w' := by
  have HL := Lib.hid (left_any b r e w h)
  have HE := Lib.hid (err_any b r e w h)
  clear h
  by_cases h0 : 0 < r.size
  · have HO : Hid (endOf r e = 4) := by unfold endOf; rw [if_pos h0]; exact (rfl : _ = _)
    go_enter Tryz.func28, Tryz.ntmps28
    go_wp2_with (go_at_call 63; refine HL.out.mono ?_; rintro x w' ⟨rfl, rfl⟩)
    go_ret
    exact ⟨ret_int (by rw [HO.out]), rfl⟩
  · have HO : Hid (endOf r e = e) := by unfold endOf; rw [if_neg h0]; exact (rfl : _ = _)
    go_enter Tryz.func28, Tryz.ntmps28
    go_wp2_with (first | (go_at_call 63; refine HL.out.mono ?_; rintro x w' ⟨rfl, rfl⟩) | (go_at_call 64; refine HE.out.mono ?_; rintro x w' ⟨rfl, rfl⟩))
    go_ret
    exact ⟨ret_int (by rw [HO.out]), rfl⟩
theorem iend_l (b : Nat) (s : LSt) (w : World) (h : InL b s w) :
    Calls Tryz.prog 28 #[.pointer (some ⟨b, 0, none⟩)] w fun x w' => x = .returned (.int .i64 (lEnd s)) ∧ w = w' := by
  have := end_any b (ofL s.1) s.2 w h
  have e : endOf (ofL s.1) s.2 = lEnd s := by unfold endOf lEnd; rw [ofL_size]
  rw [e] at this
  exact this
end Go.Proofs.YtaikigponkjkgaaGreatDoor
end
section
namespace Go.Proofs.YtaikigponkjkgaaGreatDoor
open Go.ChangeShapes Go.WideShapes Go.ChangeAt Go.RowKit
/-- the document's reader lies in block b: its text, its place, its error; beside what a reader has by then -/
structure RefAt (b : Nat) (s : ByteArray) (p : Nat) (st : St) (w : World) : Prop where
  c0 : w.cell? ⟨b, 0, none⟩ = some (.string s)
  c1 : w.cell? ⟨b, 1, none⟩ = some (.int .i64 (p : Int))
  c2 : w.cell? ⟨b, 2, none⟩ = some (.int .i64 st.2)
  fr : ∀ j, w.frozen? ⟨b, j, none⟩ = false
  lt : b < w.heap.size
  le : p ≤ s.size
  rest : st.2 = 0 → st.1 = s.extract p s.size
  ok : st.ok
def RefIs (b : Nat) (s : ByteArray) (st : St) (w : World) : Prop := ∃ p, RefAt b s p st w
theorem RefAt.code {b : Nat} {s : ByteArray} {p : Nat} {st : St} {w : World} (h : RefAt b s p st w) (c : Int) (hc : c ≠ 0) : RefAt b s p (ByteArray.empty, c) (w.setCell ⟨b, 2, none⟩ (.int .i64 c)) :=
  ⟨(World.cell?_setCell_other _ _ _ _ (ne_cell b 2 0 (by decide))).trans h.c0, (World.cell?_setCell_other _ _ _ _ (ne_cell b 2 1 (by decide))).trans h.c1, World.cell?_setCell_same _ _ _ h.c2,
    fun j => by rw [World.frozen?_setCell]; exact h.fr j, by have := h.lt; simp [World.setCell]; exact this, h.le, fun h0 => absurd h0 hc, fun _ => rfl⟩
theorem RefAt.drewN {b : Nat} {s : ByteArray} {p : Nat} {st : St} {w : World} (h : RefAt b s p st w) (n : Nat) : RefAt b s p st (w.drewN n) := ⟨h.c0, h.c1, h.c2, h.fr, h.lt, h.le, h.rest, h.ok⟩
theorem RefAt.move {b : Nat} {s : ByteArray} {p : Nat} {st : St} {w : World} (h : RefAt b s p st w) (m : Nat) (hm : p + m ≤ s.size) (h0 : st.2 = 0) : RefAt b s (p + m) (s.extract (p + m) s.size, 0) (w.setCell ⟨b, 1, none⟩ (.int .i64 ((p : Int) + m))) :=
  ⟨(World.cell?_setCell_other _ _ _ _ (ne_cell b 1 0 (by decide))).trans h.c0, (World.cell?_setCell_same _ _ _ h.c1).trans (by rw [Int.natCast_add]), (World.cell?_setCell_other _ _ _ _ (ne_cell b 1 2 (by decide))).trans (h.c2.trans (by rw [h0])),
    fun j => by rw [World.frozen?_setCell]; exact h.fr j, by have := h.lt; simp [World.setCell]; exact this, hm, fun _ => rfl, fun h => absurd rfl h⟩
theorem RefAt.size {b : Nat} {s : ByteArray} {p : Nat} {st : St} {w : World} (h : RefAt b s p st w) (h0 : st.2 = 0) : (st.1.size : Int) = (s.size : Int) - p := by
  rw [h.rest h0, ByteArray.size_extract]
  have := h.le
  omega

end Go.Proofs.YtaikigponkjkgaaGreatDoor
end
section
namespace Go.Proofs.YtaikigponkjkgaaGreatDoor
open Go.ChangeShapes Go.WideShapes Go.ChangeAt Go.RowKit
theorem failRest_l (r : List UInt8) (e c : Int) : failRest (ofL r) e c = ofL (lFail (r, e) c).1 := congrArg Prod.fst (sFail_l r e c)
theorem failErr_l (r : List UInt8) (e c : Int) : failErr e c = (lFail (r, e) c).2 := congrArg Prod.snd (sFail_l r e c)
theorem ifail_l (b : Nat) (s : LSt) (c : Int) (w : World) (h : InL b s w) :
    Calls Tryz.prog 94 #[.pointer (some ⟨b, 0, none⟩), .int .i64 c] w (PostL b w (.tuple #[]) (lFail s c)) := by
  obtain ⟨r, e⟩ := s
  refine (fail_any b (ofL r) e c w h).mono ?_
  rintro x w' ⟨hx, h1, h2⟩
  rw [failRest_l r e c, failErr_l r e c] at h1
  exact ⟨hx, h1, h2⟩
/-- the document's reader, of bytes S -/
def RefL (b : Nat) (S : ByteArray) (s : LSt) (w : World) : Prop := RefIs b S (ofL s.1, s.2) w
theorem RefL.code {b : Nat} {S : ByteArray} {s : LSt} {w : World} (h : RefL b S s w) : w.cell? ⟨b, 2, none⟩ = some (.int .i64 s.2) := by
  obtain ⟨p, h⟩ := h
  exact h.c2
theorem RefL.new (l : List UInt8) (w : World) (t : TypeId) : RefL w.heap.size (ofL l) (l, 0) (w.alloc (.cells #[.string (ofL l), .int .i64 0, .int .i64 0] t)) :=
  ⟨0, cell_new _ _ _ _ _ rfl, cell_new _ _ _ _ _ rfl, cell_new _ _ _ _ _ rfl, fun j => free_new _ _ _ _ _ rfl, by simp, Nat.zero_le _, fun _ => by
    show ofL l = (ofL l).extract 0 (ofL l).size
    rw [extract_drop]
    rfl, fun h => absurd rfl h⟩
/-- what readers are alike in: a block of their own -/
structure Rder (b : Nat) (R : LSt → World → Prop) : Prop where
  lt : ∀ {s W}, R s W → b < W.heap.size
  on : ∀ {s W W'}, R s W → Below W.heap.size W W' → R s W'
  put : ∀ {s W} {g : Nat}, R s W → g ≠ b → ∀ j v, R s (W.setCell ⟨g, j, none⟩ v)
  gr : ∀ {s W W'} {row : Option Nat}, R s W → W.grownBy W' row → some b ≠ row → R s W'
theorem aside_cell {W : World} {g b : Nat} (h : g ≠ b) (j i : Nat) (v : Value) : (W.setCell ⟨g, j, none⟩ v).cell? ⟨b, i, none⟩ = W.cell? ⟨b, i, none⟩ :=
  World.cell?_setCell_other _ _ _ _ (by simp only [ne_eq, Addr.mk.injEq, not_and]; omega)
theorem rdr_in (b : Nat) : Rder b (InL b) :=
  ⟨fun h => h.lt, fun h hb => ⟨(hb.cell (p := ⟨b, 0, none⟩) h.lt).trans h.c0, (hb.cell (p := ⟨b, 1, none⟩) h.lt).trans h.c1, fun j => (hb.frozen (p := ⟨b, j, none⟩) h.lt).trans (h.fr j), Nat.lt_of_lt_of_le h.lt hb.size⟩,
   fun h hg j v => ⟨(aside_cell hg _ _ _).trans h.c0, (aside_cell hg _ _ _).trans h.c1, fun i => (World.frozen?_setCell _ _ _ _).trans (h.fr i), by simpa [World.setCell] using h.lt⟩,
   fun h hg hne => ⟨hg.cell h.c0 hne, hg.cell h.c1 hne, fun j => (World.grownBy.frozen_far hg ⟨b, j, none⟩ h.lt hne).trans (h.fr j), Nat.lt_of_lt_of_le h.lt hg.size⟩⟩
theorem grown_new {a w w' : World} {row row2 : Option Nat} (h : a.grownBy w row) (h2 : w.grownBy w' row2) (hn : ∀ k, row2 = some k → a.heap.size ≤ k) : a.grownBy w' row :=
  ⟨h2.os.trans h.os, h2.tape.trans h.tape, h2.output.trans h.output, Nat.le_trans h.size h2.size, fun k hk hne => (h2.block k (Nat.lt_of_lt_of_le hk h.size) (fun e => by have := hn k e.symm; omega)).trans (h.block k hk hne)⟩
theorem grown_far {a w : World} {row : Option Nat} (h : a.grownBy w row) {g : Nat} (hg : a.heap.size ≤ g) (j : Nat) (v : Value) : a.grownBy (w.setCell ⟨g, j, none⟩ v) row :=
  ⟨h.os, h.tape, h.output, by simpa [World.setCell] using h.size, fun i hi hne => (Below.heap_setCell w ⟨g, j, none⟩ v i (by intro e; have e2 : i = g := e; omega)).trans (h.block i hi hne)⟩
theorem grown_below {a w w' : World} {row : Option Nat} (h : a.grownBy w row) (hb : Below w.heap.size w w') : a.grownBy w' row :=
  h.trans ⟨hb.os, hb.tape, hb.output, hb.size, fun k hk _ => hb.block k hk⟩
/-- a box of one's own, of so many cells -/
structure BoxC (w : World) (c : Nat) (xs : List Value) (W : World) : Prop where
  cs : Cels W c xs
  s : Soft W c
  lt : c < W.heap.size
  ge : w.heap.size ≤ c
theorem BoxC.on {w W W' : World} {c : Nat} {xs : List Value} (h : BoxC w c xs W) (hb : Below W.heap.size W W') : BoxC w c xs W' := ⟨h.cs.on hb h.lt, h.s.on hb h.lt, Nat.lt_of_lt_of_le h.lt hb.size, h.ge⟩
theorem BoxC.grown {w W W' : World} {c b : Nat} {xs : List Value} (h : BoxC w c xs W) (hg : W.grownBy W' (some b)) (hne : c ≠ b) : BoxC w c xs W' :=
  ⟨h.cs.grown hg (fun e => hne (Option.some.inj e)), h.s.grown hg h.lt (fun e => hne (Option.some.inj e)), Nat.lt_of_lt_of_le h.lt hg.size, h.ge⟩
theorem BoxC.put {w W : World} {c : Nat} {xs : List Value} (h : BoxC w c xs W) (j : Nat) (v : Value) (hj : j < xs.length) : BoxC w c (xs.set j v) (W.setCell ⟨c, j, none⟩ v) :=
  ⟨h.cs.put j v hj, h.s.put _ _, by simpa [World.setCell] using h.lt, h.ge⟩
theorem BoxC.aside {w W : World} {c : Nat} {xs : List Value} (h : BoxC w c xs W) {g : Nat} (hg : g ≠ c) (j : Nat) (v : Value) : BoxC w c xs (W.setCell ⟨g, j, none⟩ v) :=
  ⟨h.cs.aside hg j v, h.s.put _ _, by simpa [World.setCell] using h.lt, h.ge⟩
theorem BoxC.new {w W : World} (hs : w.heap.size ≤ W.heap.size) (c : Array Value) (t : TypeId) : BoxC w W.heap.size c.toList (W.alloc (.cells c t)) := ⟨Cels.new _ _ _, Soft.new _ _ _, by simp, hs⟩
end Go.Proofs.YtaikigponkjkgaaGreatDoor
end
