/-
 A part of the proof.
-/
import Derived.Test.YtaikigponkjkgaaGreatDoorXq12
import Derived.Deep.RegionHeld3
import Derived.Deep.DeepCutAuto
section
namespace Go.Proofs.YtaikigponkjkgaaGreatDoor
open Go.ChangeShapes Go.WideShapes Go.ChangeAt Go.RowKit
open Go.Lib (hid)
set_option maxRecDepth 100000
theorem qxq13a (l : List Value) (i : Nat) (v : Value) : l.toArray.setIfInBounds i v = (l.set i v).toArray := by simp
theorem qxq13b (v u : Value) (l : List Value) : (v :: l).set 0 u = u :: l := rfl
theorem qxq13c (v u : Value) (n : Nat) (l : List Value) : (v :: l).set (n + 1) u = v :: l.set n u := rfl
structure OutB (w : World) (g : Nat) (x : List UInt8) (W : World) : Prop where
 c0 : W.cell? ⟨g, 0, none⟩ = some (.string (ofL x))
 c1 : W.cell? ⟨g, 1, none⟩ = some (.int .i64 0)
 fz : ∀ j, W.frozen? ⟨g, j, none⟩ = false
 lt : g < W.heap.size
 ge : w.heap.size ≤ g
 B : Below w.heap.size w W
theorem OutB.on {w : World} {g : Nat} {x : List UInt8} {W W' : World} (h : OutB w g x W) (hb : Below W.heap.size W W') : OutB w g x W' :=
 ⟨(hb.cell (p := ⟨g, 0, none⟩) h.lt).trans h.c0, (hb.cell (p := ⟨g, 1, none⟩) h.lt).trans h.c1, fun j => (hb.frozen (p := ⟨g, j, none⟩) h.lt).trans (h.fz j), Nat.lt_of_lt_of_le h.lt hb.size, h.ge, bthen h.B hb (Nat.le_refl _)⟩
theorem OutB.put {w : World} {g : Nat} {x : List UInt8} {W : World} (h : OutB w g x W) (y : List UInt8) : OutB w g y ((W.setCell ⟨g, 0, none⟩ (.string (ofL y))).setCell ⟨g, 1, none⟩ (.int .i64 0)) := by
 have hC : Cels W g [.string (ofL x), .int .i64 0] := fun j v hj => by
  match j, hj with
  | 0, hj => obtain rfl := Option.some.inj hj; exact h.c0
  | 1, hj => obtain rfl := Option.some.inj hj; exact h.c1
 have hD := (hC.put 0 (.string (ofL y)) (by simp)).put 1 (.int .i64 0) (by simp)
 exact ⟨hD 0 _ rfl, hD 1 _ rfl, fun j => ((Soft.put (Soft.put h.fz _ _) _ _) j), by simpa [World.setCell] using h.lt, h.ge, (h.B.setCell h.ge _).setCell h.ge _⟩
theorem OutB.new {w W : World} (h : Below w.heap.size w W) (x : List UInt8) (t : TypeId) : OutB w W.heap.size x (W.alloc (.cells #[.string (ofL x), .int .i64 0] t)) :=
 ⟨cell_new _ _ _ _ _ rfl, cell_new _ _ _ _ _ rfl, fun _ => free_new _ _ _ _ _ rfl, by simp, h.size, h.alloc h.size _⟩
theorem penc_len {p : Hd.Pr} (h : Hd.bad p = 0) : (Hd.penc p).length ≤ 100 ∧ p.kind ≤ 2 ∧ p.key.length ≤ 1000 ∧ p.txt.length ≤ 1000 := by
 obtain ⟨h1, h2, h3, h4, h5⟩ := Hd.bad_ok h
 obtain ⟨hl, -⟩ := Hd.name_ok_len h1
 have ht : p.txt.length ≤ 64 := by
  by_cases hk : p.kind = 1
  ·exact (h3 hk).1
  ·rw [h5 hk]; simp
 refine ⟨?_, h2, by omega, by omega⟩
 unfold Hd.penc Hd.pbody Oct.text
 simp only [List.length_append, Oct.length_be]
 split
 ·rw [Oct.length_be]; omega
 ·split
  ·rw [List.length_append, Oct.length_be]; omega
  ·rw [Oct.length_be]; omega
theorem hflat_len {l : List Hd.Pr} (h : ∀ p ∈ l, (Hd.penc p).length ≤ 100) : (l.flatMap Hd.penc).length ≤ 100 * l.length := by
 induction l with
 | nil => simp
 | cons x l ih =>
  have h1 := h x (by simp)
  have h2 := ih fun p hp => h p (by simp [hp])
  rw [List.flatMap_cons, List.length_append, List.length_cons]
  omega
def hpre (l : List Hd.Pr) (k : Nat) : List UInt8 := Oct.be 1 l.length ++ (l.take k).flatMap Hd.penc
theorem hpre_zero (l : List Hd.Pr) : hpre l 0 = Oct.be 1 l.length := by unfold hpre; simp
theorem hpre_all {l : List Hd.Pr} {k : Nat} (h : l.length ≤ k) : hpre l k = Hd.henc l := by unfold hpre Hd.henc; rw [List.take_of_length_le h]
theorem hpre_next {l : List Hd.Pr} {k : Nat} (h : k < l.length) : hpre l k ++ Hd.penc (Hd.pr l k) = hpre l (k + 1) := by
 unfold hpre
 rw [List.take_succ_eq_append_getElem h, List.flatMap_append, Hd.pr_at h]
 simp [List.append_assoc]
structure HFine (l : List Hd.Pr) : Prop where
 len : l.length ≤ 8
 one : ∀ k, k < l.length → (Hd.pr l k).kind ≤ 2 ∧ (Hd.pr l k).key.length ≤ 1000 ∧ (Hd.pr l k).txt.length ≤ 1000
 pre : ∀ k, (hpre l k).length ≤ 1000
theorem hfine_of {l : List Hd.Pr} (h : Hd.hcode l = 0) : HFine l := by
 obtain ⟨h8, hc⟩ := Hd.hcode_ok h
 have hb : ∀ k, k < l.length → Hd.bad (Hd.pr l k) = 0 := fun k hk => (Hd.pcode_ok (hc k hk)).1
 refine ⟨h8, fun k hk => (penc_len (hb k hk)).2, fun k => ?_⟩
 unfold hpre
 rw [List.length_append, Oct.length_be]
 have hm : ∀ p ∈ l.take k, (Hd.penc p).length ≤ 100 := fun p hp => by
  obtain ⟨i, hi, rfl⟩ := List.getElem_of_mem (List.mem_of_mem_take hp)
  rw [← Hd.pr_at hi]
  exact (penc_len (hb i hi)).1
 have := hflat_len hm
 rw [List.length_take] at this
 omega
def hbytesV (l : List Hd.Pr) : Value := if Hd.hcode l = 0 then .tuple #[.string (ofL (Hd.henc l)), .int .i64 0] else .tuple #[.string ⟨#[]⟩, .int .i64 (Hd.hcode l : Int)]
def HbySt (l : List Hd.Pr) (w : World) (gb n g : Nat) (i : Value) (wr : World) : Prop := ∃ k : Nat, k + g = n ∧ i = .int .i64 (k : Int) ∧ OutB w gb (hpre l k) wr
set_option maxHeartbeats 4000000 in
theorem hbytes_any (l : List Hd.Pr) (A : Option Addr) (c : Nat) (w : World) (hl : l.length ≤ 100000) (hc : l.length ≤ c) (hL : Lite l) (hp : Prs w A l) :
  Calls Tryz.prog 80 #[.slice A l.length c] w fun e w' => e = .returned (hbytesV l) ∧ Below w.heap.size w w' := by
 have HP := hid hp
 have HC := hid (fun W h => hCheck_any l A c W hl hc hL h)
 have HV : Hid (hbytesV l = if Hd.hcode l = 0 then .tuple #[.string (ofL (Hd.henc l)), .int .i64 0] else .tuple #[.string ⟨#[]⟩, .int .i64 (Hd.hcode l : Int)]) := rfl
 clear hp
 by_cases h0 : Hd.hcode l = 0
 ·have HF := hid (hfine_of h0)
  have HVV := hid (show hbytesV l = .tuple #[.string (ofL (Hd.henc l)), .int .i64 0] by rw [HV.out, if_pos h0])
  rw [h0] at HC
  clear h0 HV
  obtain ⟨n, hn⟩ : ∃ n, n = l.length := ⟨_, rfl⟩
  have HN := hid hn
  have hn8 : n ≤ 8 := by have := HF.out.len; omega
  have H1 := hid (fun W => num_l [] n 1 1 W (by omega) (by omega) rfl (by simp))
  rw [show ofL [] = ⟨#[]⟩ from rfl, show [] ++ Oct.be 1 n = hpre l 0 by rw [hpre_zero, hn]; rfl] at H1
  have hw : IntKind.u64.wrap (n : Int) = (n : Int) := by rw [IntKind.wrap_u64]; omega
  rw [← hn]
  rw [← hn] at HC hc hl
  clear hn
  have HALL := hid (fun k (h : n ≤ k) => hpre_all (l := l) (k := k) (by have := HN.out; omega))
  generalize hbytesV l = V at *
  generalize Hd.henc l = E at *
  go_enter Tryz.func80, Tryz.ntmps80
  go_wp2_with fail
  refine (HC.out _ HP.out).mono ?_
  rintro e w1 ⟨rfl, b1⟩
  have HP1 := hid (HP.out.on b1)
  have HB1 := hid b1
  clear b1
  go_wp2_with fail
  refine (H1.out _).mono ?_
  rintro e w2 ⟨rfl, b2⟩
  have HP2 := hid (HP1.out.on b2)
  have HB2 := hid (bthen HB1.out b2 (Nat.le_refl _))
  clear b2
  have HO := hid (OutB.new HB2.out (hpre l 0) 70)
  have HP3 := hid (HP2.out.on ((Below.refl w2.heap.size w2).alloc (Nat.le_refl _) (.cells #[.string (ofL (hpre l 0)), .int .i64 0] 70)))
  clear HC H1
  go_wp2_with fail
  generalize w2.alloc (.cells #[.string (ofL (hpre l 0)), .int .i64 0] 70) = w3 at *
  generalize w2.heap.size = gb at *
  go_loopg [20] n (fun g i wr => HbySt l w gb n g i wr)
  case atStart => exact ⟨0, by omega, rfl, HO.out⟩
  case round =>
   obtain ⟨k, hk, rfl, hO⟩ := hrel
   have HOK := hid hO
   by_cases hlt : k < n
   ·have hkl : k < l.length := by have := HN.out; omega
    have HPR := hid (show Prs wr A l from ⟨fun i hi => by
     obtain ⟨b, off, rfl, hb, ha⟩ := HP.out.at_ i hi
     exact ⟨b, off, rfl, Nat.lt_of_lt_of_le hb HOK.out.B.size, ha.below HOK.out.B hb⟩⟩)
    obtain ⟨b, off, rfl, hbl, hat⟩ := HPR.out.at_ k hkl
    obtain ⟨f1, f2, f3⟩ := HF.out.one k hkl
    have HNX := hid (hpre_next hkl)
    generalize Hd.pr l k = x at *
    obtain ⟨x1, x2, x3, x4⟩ := x
    obtain ⟨c0, c1, c2, c3⟩ := hat
    simp only at f1 f2 f3 c0 c1 c2 c3
    have HW := hid (fun W => hwrite_one (hpre l k) x1 x2 x3 x4 W (by have := HF.out.pre k; omega) f2 f3 f1)
    rw [HNX.out] at HW
    have HO2 := hid (HOK.out.on ((Below.refl wr.heap.size wr).alloc (Nat.le_refl _) (.cells #[.string (ofL x1), .int .u8 (x2 : Int), .int .i64 x3, .string (ofL x4)] 142)))
    obtain ⟨d0, d1, d2, d3, -, -⟩ := HO2.out
    clear hO hkl f1 f2 f3
    go_wp2_with fail
    refine (HW.out _).mono ?_
    rintro e w5 ⟨rfl, b5⟩
    have hO5 := HO2.out.on b5
    have HO5 := hid hO5
    clear b5 d0 d1 d2 d3 c0 c1 c2 c3
    obtain ⟨d0, d1, d2, d3, -, -⟩ := hO5
    go_wp2_with fail
    go_roundg (gk - 1)
    case rel => exact ⟨k + 1, by omega, by go_num, HO5.out.put (hpre l (k + 1))⟩
    case measure => omega
   ·have hkn : n ≤ k := by omega
    have HE := hid (HALL.out k hkn)
    obtain ⟨d0, d1, d2, d3, -, -⟩ := hO
    rw [HE.out] at d0
    have HS := hid (fun W => str_any (ofL E) 0 W)
    clear hkn
    go_wp2_with fail
    refine (HS.out _).mono ?_
    rintro e w5 ⟨rfl, b5⟩
    have HB5 := hid (bthen HOK.out.B b5 (Nat.le_refl _))
    clear b5
    go_wp2_with fail
    go_ret2
    exact ⟨by rw [HVV.out]; rfl, HB5.out⟩
 ·have HVV := hid (show hbytesV l = .tuple #[.string ⟨#[]⟩, .int .i64 (Hd.hcode l : Int)] by rw [HV.out, if_neg h0])
  have hne := code_ne h0
  clear HV h0
  go_enter Tryz.func80, Tryz.ntmps80
  go_wp2_with fail
  refine (HC.out _ HP.out).mono ?_
  rintro e w1 ⟨rfl, b1⟩
  have HB1 := hid b1
  clear b1
  go_wp2_with fail
  go_ret2
  exact ⟨by rw [HVV.out]; rfl, HB1.out⟩
theorem conv_one (n : Nat) (W : World) (g cap : Nat) (h : W.cell? ⟨g, 0, none⟩ = some (.int .u8 ((n : Int) % 256))) :
  (convert 62 9 (.slice (some ⟨g, 0, none⟩) 1 cap)).run Tryz.prog W = .ok (.string ⟨#[UInt8.ofNat (n % 256)]⟩) W := by
 have hb := run_convert_bytes_back (P := Tryz.prog) W 62 9 5 ⟨g, 0, none⟩ cap [UInt8.ofNat (n % 256)] Tryz.underlying62 Tryz.underlying5 Tryz.underlying9 (fun j hj => by
  have : j = 0 := by simpa using hj
  subst this
  have ea : (⟨g, 0, none⟩ : Addr).add 0 = ⟨g, 0, none⟩ := rfl
  rw [ea, h]
  simp [UInt8.toNat_ofNat'])
 exact hb

theorem wrap_div (n : Nat) (hn : n < 18446744073709551616) : IntKind.u64.wrap ((n : Int) / 256) = (n : Int) / 256 := by
 simp only [IntKind.wrap, IntKind.bits, IntKind.signed]
 simp
 omega
theorem be_snoc (k n : Nat) : (ByteArray.mk (Oct.be k (n / 256)).toArray) ++ (ByteArray.mk #[UInt8.ofNat (n % 256)]) = ByteArray.mk (Oct.be (k + 1) n).toArray := by
 apply ByteArray.ext
 simp [Oct.be]
set_option maxHeartbeats 1000000 in
theorem rnum_at (k : Nat) : k ≤ 8 → ∀ (n : Nat) (w : World), n < 18446744073709551616 → Calls Tryz.prog 22 #[.int .u64 (n : Int), .int .i64 (k : Int)] w fun x w' => x = .returned (.string ⟨(Oct.be k n).toArray⟩) ∧ Below w.heap.size w w' := by
 induction k with
 | zero =>
  intro _ n w _
  go_enter Tryz.func22, Tryz.ntmps22
  go_wp2_with fail
  go_ret
  exact ⟨rfl, Below.refl _ _⟩
 | succ k ih =>
  intro hk n w hn
  have ih' : ∀ N b : Int, N = ((n / 256 : Nat) : Int) → b = (k : Int) → ∀ w : World, Calls Tryz.prog 22 #[.int .u64 N, .int .i64 b] w fun x w' => x = .returned (.string ⟨(Oct.be k (n / 256)).toArray⟩) ∧ Below w.heap.size w w' := by
   rintro N b rfl rfl w
   exact ih (by omega) (n / 256) w (by omega)
  have hr : (ByteArray.mk (Oct.be k (n / 256)).toArray).size ≤ 8 := by
   show (Oct.be k (n / 256)).toArray.size ≤ 8
   rw [List.size_toArray, Oct.length_be]; omega
  generalize hre : ByteArray.mk (Oct.be k (n / 256)).toArray = r at ih' hr
  have HRE := hid hre
  clear hre
  have IH := hid ih'
  clear ih ih'
  have hw1 : IntKind.i64.wrap (k : Int) = (k : Int) := by rw [IntKind.wrap_i64]; omega
  have hw2 : IntKind.u64.wrap ((n : Int) / 256) = (n : Int) / 256 := wrap_div n hn
  have hw3 : (n : Int).tmod 256 = (n : Int) % 256 := Int.tmod_eq_emod_of_nonneg (by omega)
  have hw4 : IntKind.u8.wrap ((n : Int) % 256) = (n : Int) % 256 := by rw [IntKind.wrap_u8']; omega
  clear hn
  have hcv := conv_one n
  have hd : ((n / 256 : Nat) : Int) = (n : Int) / 256 := by omega
  have HD := hid hd
  clear hd
  go_enter Tryz.func22, Tryz.ntmps22
  go_wp2_with fail
  go_region_with (first | (go_at_call 22; refine (IH.out _ _ (by omega) (by omega) _).mono ?_; rintro e' w2 ⟨rfl, hb2⟩; have kc := fun h => hb2.cell (p := ⟨w.heap.size, 0, none⟩) h))
  all_goals
   go_wp2
   go_ret
   refine ⟨ret_str (by rw [← HRE.out]; exact be_snoc k n), ?_⟩
   first
    | exact (Below.trans (Below.refl _ _).drew (hb2.mono (by simp))).alloc hb2.size _
    | exact Below.trans (((Below.refl _ _).alloc (Nat.le_refl _) _).drew) (hb2.mono (by simp))

set_option maxHeartbeats 1000000 in
theorem rnum_high (b : Int) (n : Nat) (w : World) (hn : n < 18446744073709551616) (hb : 8 < b) :
  Calls Tryz.prog 22 #[.int .u64 (n : Int), .int .i64 b] w fun x w' => x = .returned (.string ⟨(Oct.be 8 n).toArray⟩) ∧ Below w.heap.size w w' := by
 have ih' : ∀ N b : Int, N = ((n / 256 : Nat) : Int) → b = 7 → ∀ w : World, Calls Tryz.prog 22 #[.int .u64 N, .int .i64 b] w fun x w' => x = .returned (.string ⟨(Oct.be 7 (n / 256)).toArray⟩) ∧ Below w.heap.size w w' := by
  rintro N b rfl rfl w
  exact rnum_at 7 (by omega) (n / 256) w (by omega)
 have hr : (ByteArray.mk (Oct.be 7 (n / 256)).toArray).size ≤ 8 := by
  show (Oct.be 7 (n / 256)).toArray.size ≤ 8
  rw [List.size_toArray, Oct.length_be]; omega
 generalize hre : ByteArray.mk (Oct.be 7 (n / 256)).toArray = r at ih' hr
 have HRE := hid hre
 clear hre
 have IH := hid ih'
 clear ih'
 have hw1 : IntKind.i64.wrap 7 = 7 := by rw [IntKind.wrap_i64]; omega
 have hw2 : IntKind.u64.wrap ((n : Int) / 256) = (n : Int) / 256 := wrap_div n hn
 have hw3 : (n : Int).tmod 256 = (n : Int) % 256 := Int.tmod_eq_emod_of_nonneg (by omega)
 have hw4 : IntKind.u8.wrap ((n : Int) % 256) = (n : Int) % 256 := by rw [IntKind.wrap_u8']; omega
 clear hn
 have hcv := conv_one n
 have hd : ((n / 256 : Nat) : Int) = (n : Int) / 256 := by omega
 have HD := hid hd
 clear hd
 go_enter Tryz.func22, Tryz.ntmps22
 go_wp2_with fail
 go_region_with (first | (go_at_call 22; refine (IH.out _ _ (by omega) (by omega) _).mono ?_; rintro e' w2 ⟨rfl, hb2⟩; have kc := fun h => hb2.cell (p := ⟨w.heap.size, 0, none⟩) h))
 all_goals
  go_wp2
  go_ret
  refine ⟨ret_str (by rw [← HRE.out]; exact be_snoc 7 n), ?_⟩
  first
   | exact (Below.trans (Below.refl _ _).drew (hb2.mono (by simp))).alloc hb2.size _
   | exact Below.trans (((Below.refl _ _).alloc (Nat.le_refl _) _).drew) (hb2.mono (by simp))

set_option maxHeartbeats 1000000 in
theorem rnum_any (b : Int) (n : Nat) (w : World) (hn : n < 18446744073709551616) :
  Calls Tryz.prog 22 #[.int .u64 (n : Int), .int .i64 b] w fun x w' => x = .returned (.string ⟨(Oct.be (Oct.width b) n).toArray⟩) ∧ Below w.heap.size w w' := by
 by_cases h0 : b ≤ 0
 ·rw [Oct.width_low h0]
  have h8 : ¬ 8 < b := by omega
  go_enter Tryz.func22, Tryz.ntmps22
  go_wp2_with fail
  go_ret
  exact ⟨rfl, Below.refl _ _⟩
 ·by_cases h8 : b ≤ 8
  ·have e : ((b.toNat : Nat) : Int) = b := by omega
   have h := rnum_at b.toNat (by omega) n w hn
   rw [e] at h
   have hw : Oct.width b = b.toNat := by rw [← e, Oct.width_num _ (by omega)]; omega
   rw [hw]
   exact h
  ·rw [Oct.width_high (by omega)]
   exact rnum_high b n w hn (by omega)
set_option maxHeartbeats 1000000 in
theorem rtext_any (s : ByteArray) (w : World) (hs : s.size ≤ 65535) :
  Calls Tryz.prog 52 #[.string s] w fun x w' => x = .returned (.string (textB s)) ∧ Below w.heap.size w w' := by
 have hc : ∀ w : World, Calls Tryz.prog 22 #[.int .u64 (s.size : Int), .int .i64 2] w fun x w' => x = .returned (.string ⟨(Oct.be 2 s.size).toArray⟩) ∧ Below w.heap.size w w' := fun w => by
  have := rnum_any 2 s.size w (by omega)
  rw [show Oct.width 2 = 2 from rfl] at this
  exact this
 have hz := be_size 2 s.size
 have HT : Hid (textB s = ⟨(Oct.be 2 s.size).toArray⟩ ++ s) := rfl
 generalize ByteArray.mk (Oct.be 2 s.size).toArray = r at hc hz HT
 have hz2 : r.size ≤ 2 := by omega
 have HC := hid hc
 clear hc hz
 go_enter Tryz.func52, Tryz.ntmps52
 go_wp2_with (go_at_call 22; refine (HC.out _).mono ?_; rintro e w1 ⟨rfl, hb1⟩)
 go_ret
 exact ⟨ret_str (by rw [HT.out]), hb1⟩

theorem hrnum_l (n k : Nat) (b : Int) (w : World) (hn : n < 18446744073709551616) (hk : k ≤ 8) (hb : b = (k : Int)) :
  Calls Tryz.prog 22 #[.int .u64 (n : Int), .int .i64 b] w fun e w' => e = .returned (.string (ofL (Oct.be k n))) ∧ Below w.heap.size w w' := by
 subst hb
 exact rnum_at k hk n w hn
theorem hrtext_l (s : List UInt8) (w : World) (hs : s.length ≤ 65535) :
  Calls Tryz.prog 52 #[.string (ofL s)] w fun e w' => e = .returned (.string (ofL (Oct.text s))) ∧ Below w.heap.size w w' := by
 have h := rtext_any (ofL s) w (by rw [ofL_size]; exact hs)
 have e : textB (ofL s) = ofL (Oct.text s) := by
  unfold textB Oct.text
  rw [ofL_size, show ByteArray.mk (Oct.be 2 s.length).toArray = ofL (Oct.be 2 s.length) from rfl, ofL_app]
 rw [e] at h
 exact h
abbrev RbS (w : World) (b : Nat) (k : List UInt8) (kd : Nat) (n : Int) (t : List UInt8) (W : World) : Prop :=
 (W.cell? ⟨b, 0, none⟩ = some (.string (ofL k)) ∧ W.cell? ⟨b, 1, none⟩ = some (.int .u8 (kd : Int)) ∧ b < W.heap.size) ∧ Below w.heap.size w W ∧ PrAt W b 0 ⟨k, kd, n, t⟩ ∧ b < W.heap.size
theorem RbS.on {w : World} {b : Nat} {k : List UInt8} {kd : Nat} {n : Int} {t : List UInt8} {W W' : World} (h : RbS w b k kd n t W) (hb : Below W.heap.size W W') : RbS w b k kd n t W' := by
 obtain ⟨⟨h0, h1, h2⟩, h3, h4, h5⟩ := h
 have hp := h4.below hb h5
 exact ⟨⟨hp.c0, hp.c1, Nat.lt_of_lt_of_le h2 hb.size⟩, bthen h3 hb (Nat.le_refl _), hp, Nat.lt_of_lt_of_le h5 hb.size⟩
def RySt (l : List Hd.Pr) (w : World) (n g : Nat) (s i : Value) (wr : World) : Prop := ∃ k : Nat, k + g = n ∧ i = .int .i64 (k : Int) ∧ s = .string (ofL (hpre l k)) ∧ Below w.heap.size w wr
set_option maxHeartbeats 8000000 in
theorem rbytes9_any (l : List Hd.Pr) (A : Option Addr) (c : Nat) (w : World) (h0 : Hd.hcode l = 0) (hp : Prs w A l) :
  Calls Tryz.prog 54 #[.slice A l.length c] w fun e w' => e = .returned (.string (ofL (Hd.henc l))) ∧ Below w.heap.size w w' := by
 have HP := hid hp
 have HF := hid (hfine_of h0)
 clear hp h0
 obtain ⟨n, hn⟩ : ∃ n, n = l.length := ⟨_, rfl⟩
 have HN := hid hn
 have hn8 : n ≤ 8 := by have := HF.out.len; omega
 have H1 := hid (fun W => hrnum_l n 1 1 W (by omega) (by omega) rfl)
 rw [show Oct.be 1 n = hpre l 0 by rw [hpre_zero, hn]] at H1
 have hw : IntKind.u64.wrap (n : Int) = (n : Int) := by rw [IntKind.wrap_u64]; omega
 rw [← hn]
 clear hn
 have HALL := hid (fun k (h : n ≤ k) => hpre_all (l := l) (k := k) (by have := HN.out; omega))
 generalize Hd.henc l = E at *
 go_enter Tryz.func54, Tryz.ntmps54
 go_wp2_with fail
 refine (H1.out _).mono ?_
 rintro e w1 ⟨rfl, b1⟩
 have HB1 := hid b1
 clear b1 H1
 go_wp2_with fail
 go_loopg [3, 12] n (fun g s i wr => RySt l w n g s i wr)
 case atStart => exact ⟨0, by omega, rfl, rfl, HB1.out⟩
 case round =>
  obtain ⟨k, hk, rfl, rfl, hB⟩ := hrel
  have HBK := hid hB
  clear hB
  by_cases hlt : k < n
  ·have hkl : k < l.length := by have := HN.out; omega
   have HPR := hid (HP.out.on HBK.out)
   obtain ⟨b, off, rfl, hbl, hat⟩ := HPR.out.at_ k hkl
   obtain ⟨f1, f2, f3⟩ := HF.out.one k hkl
   have hnx := hpre_next hkl
   have hpl := HF.out.pre k
   have hpl2 := HF.out.pre (k + 1)
   generalize Hd.pr l k = x at *
   obtain ⟨x1, x2, x3, x4⟩ := x
   have HBX := hid (PrAt.new ⟨x1, x2, x3, x4⟩ wr)
   obtain ⟨c0, c1, c2, c3⟩ := hat
   simp only at f1 f2 f3 c0 c1 c2 c3
   try simp only at HBX
   have hsum : hpre l k ++ Oct.text x1 ++ Oct.be 1 x2 ++ Hd.pbody ⟨x1, x2, x3, x4⟩ = hpre l (k + 1) := by rw [← hnx]; unfold Hd.penc; simp [List.append_assoc]
   generalize hE2 : hpre l (k + 1) = E2 at *
   have HE2 := hid hE2
   clear hE2
   generalize hpre l k = E0 at *
   have H1 := hid (fun W => hrtext_l x1 W (by omega))
   have H2 := hid (fun W => hrnum_l x2 1 1 W (by omega) (by omega) rfl)
   have hw1 : IntKind.u64.wrap (x2 : Int) = (x2 : Int) := by rw [IntKind.wrap_u64]; omega
   have hwn : IntKind.u64.wrap x3 = ((Hd.n64 x3 : Nat) : Int) := by rw [IntKind.wrap_u64]; exact (Hd.n64_cast x3).symm
   have HE1 := hid (show ofL E0 ++ ofL (Oct.text x1) ++ ofL (Oct.be 1 x2) = ofL (E0 ++ Oct.text x1 ++ Oct.be 1 x2) by rw [ofL_app, ofL_app])
   have hz : (E0 ++ Oct.text x1 ++ Oct.be 1 x2).length ≤ 2000 := by
    have := congrArg List.length hsum
    rw [List.length_append] at this
    omega
   generalize hE1 : E0 ++ Oct.text x1 ++ Oct.be 1 x2 = E1 at *
   have HEF := hid hsum
   have hz0 : (ofL E0).size ≤ 1000 := by rw [ofL_size]; exact hpl
   have hz1 : (ofL (Oct.text x1)).size ≤ 1002 := by rw [ofL_size]; unfold Oct.text; rw [List.length_append, Oct.length_be]; omega
   have hz2 : (ofL (Oct.be 1 x2)).size ≤ 1 := by rw [ofL_size, Oct.length_be]; omega
   clear hnx hsum hpl hpl2 hE1 hkl
   go_upto_region 5 with fail
   have HX := hid (show RbS w wr.heap.size x1 x2 x3 x4 (wr.alloc (.cells #[.string (ofL x1), .int .u8 (x2 : Int), .int .i64 x3, .string (ofL x4)] 142)).drew from
    RbS.on ⟨⟨HBX.out.c0, HBX.out.c1, by simp⟩, HBK.out.alloc HBK.out.size _, HBX.out, by simp⟩ (Below.refl _ _).drew)
   refine wp_region_noPanic ?_
   refine wp_region_held_drew (S := RbS w wr.heap.size x1 x2 x3 x4) (by kernel_rfl) ?_ (fun hHeld => ?_)
   ·(try dsimp only); (first | assumption | exact HX.out | exact RbS.on (by assumption) hb2)
   refine wpAnyH_take (i := 0) (v := ?_) rfl (by kernel_rfl) (by kernel_rfl) (by kernel_rfl) (fun _ _ _ h => h) (Or.inl ⟨by rfl, ?_⟩) (by assumption) ?_
   rotate_left
   ·intro w hSw; (try dsimp only at hSw); go_simp; (try rw [if_neg (by first | omega | (simp [ByteArray.size_append]; omega))]); try with_reducible rfl
   (try simp only [List.getElem_toArray, List.getElem_cons_zero, Act.put, qxq13a, qxq13b, qxq13c])
   refine wpAnyH_take (i := 1) (v := ?_) rfl (by kernel_rfl) (by kernel_rfl) (by kernel_rfl) (fun _ _ _ h => h) (Or.inl ⟨by rfl, ?_⟩) (by assumption) ?_
   rotate_left
   ·intro w hSw; (try dsimp only at hSw); go_simp; (try rw [if_neg (by first | omega | (simp [ByteArray.size_append]; omega))]); try with_reducible rfl
   (try simp only [List.getElem_toArray, List.getElem_cons_succ, List.getElem_cons_zero, Act.put, qxq13a, qxq13b, qxq13c])
   refine wpAnyH_take (i := 2) (v := ?_) rfl (by kernel_rfl) (by kernel_rfl) (by kernel_rfl) (fun _ _ _ h => h) (Or.inl ⟨by rfl, ?_⟩) (by assumption) ?_
   rotate_left
   ·intro w hSw; (try dsimp only at hSw); go_simp; (try rw [if_neg (by first | omega | (simp [ByteArray.size_append]; omega))]); try with_reducible rfl
   (try simp only [List.getElem_toArray, List.getElem_cons_succ, List.getElem_cons_zero, Act.put, qxq13a, qxq13b, qxq13c])
   refine wpAnyH_take (i := 5) (v := ?_) rfl (by kernel_rfl) (by kernel_rfl) (by kernel_rfl) (fun _ _ _ h => h) (Or.inl ⟨by rfl, ?_⟩) (by assumption) ?_
   rotate_left
   ·intro w hSw; (try dsimp only at hSw); go_simp; (try rw [if_neg (by first | omega | (simp [ByteArray.size_append]; omega))]); try with_reducible rfl
   (try simp only [List.getElem_toArray, List.getElem_cons_succ, List.getElem_cons_zero, Act.put, qxq13a, qxq13b, qxq13c])
   refine wpAnyH_take (i := 6) (v := ?_) rfl (by kernel_rfl) (by kernel_rfl) (by kernel_rfl) (fun _ _ _ h => h) (Or.inl ⟨by rfl, ?_⟩) (by assumption) ?_
   rotate_left
   ·intro w hSw; (try dsimp only at hSw); go_simp; (try rw [if_neg (by first | omega | (simp [ByteArray.size_append]; omega))]); try with_reducible rfl
   (try simp only [List.getElem_toArray, List.getElem_cons_succ, List.getElem_cons_zero, Act.put, qxq13a, qxq13b, qxq13c])
   refine wpAnyH_take (i := 7) (v := ?_) rfl (by kernel_rfl) (by kernel_rfl) (by kernel_rfl) (fun _ _ _ h => h) (Or.inl ⟨by rfl, ?_⟩) (by assumption) ?_
   rotate_left
   ·intro w hSw; (try dsimp only at hSw); go_simp; (try rw [if_neg (by first | omega | (simp [ByteArray.size_append]; omega))]); try with_reducible rfl
   (try simp only [List.getElem_toArray, List.getElem_cons_succ, List.getElem_cons_zero, Act.put, qxq13a, qxq13b, qxq13c])
   refine wpAnyH_ready (rs := [3]) (by kernel_rfl) (by simp) ?_
   refine AllReadyH.cons rfl (fun K hK => ?_) (AllReadyH.nil)
   ·go_simp
    (go_at_call 52; ((refine (H1.out _).mono ?_); rintro e' wz ⟨rfl, hb2⟩))
    refine hK.out _ _ ?_ (fun hHeld => ?_)
    ·(try dsimp only); (first | assumption | exact HX.out | exact RbS.on (by assumption) hb2)
    clear hK K
    (try simp only [List.getElem_toArray, List.getElem_cons_succ, List.getElem_cons_zero, Act.put, qxq13a, qxq13b, qxq13c])
    refine wpAnyH_take (i := 4) (v := ?_) rfl (by kernel_rfl) (by kernel_rfl) (by kernel_rfl) (fun _ _ _ h => h) (Or.inl ⟨by rfl, ?_⟩) (by assumption) ?_
    rotate_left
    ·intro w hSw; (try dsimp only at hSw); go_simp; (try rw [if_neg (by first | omega | (simp [ByteArray.size_append]; omega))]); try with_reducible rfl
    (try simp only [List.getElem_toArray, List.getElem_cons_succ, List.getElem_cons_zero, Act.put, qxq13a, qxq13b, qxq13c])
    refine wpAnyH_ready (rs := [8]) (by kernel_rfl) (by simp) ?_
    refine AllReadyH.cons rfl (fun K hK => ?_) (AllReadyH.nil)
    ·go_simp
     (go_at_call 22; ((refine (H2.out _).mono ?_); rintro e' wz ⟨rfl, hb2⟩))
     refine hK.out _ _ ?_ (fun hHeld => ?_)
     ·(try dsimp only); (first | assumption | exact HX.out | exact RbS.on (by assumption) hb2)
     clear hK K
     (try simp only [List.getElem_toArray, List.getElem_cons_succ, List.getElem_cons_zero, Act.put, qxq13a, qxq13b, qxq13c])
     refine wpAnyH_take (i := 9) (v := ?_) rfl (by kernel_rfl) (by kernel_rfl) (by kernel_rfl) (fun _ _ _ h => h) (Or.inl ⟨by rfl, ?_⟩) (by assumption) ?_
     rotate_left
     ·intro w hSw; (try dsimp only at hSw); go_simp; (try rw [if_neg (by first | omega | (simp [ByteArray.size_append]; omega))]); try with_reducible rfl
     (try simp only [List.getElem_toArray, List.getElem_cons_succ, List.getElem_cons_zero, Act.put, qxq13a, qxq13b, qxq13c])
     refine wpAnyH_take (i := 10) (v := ?_) rfl (by kernel_rfl) (by kernel_rfl) (by kernel_rfl) (fun _ _ _ h => h) (Or.inl ⟨by rfl, ?_⟩) (by assumption) ?_
     rotate_left
     ·intro w hSw; (try dsimp only at hSw); go_simp; (try rw [if_neg (by first | omega | (simp [ByteArray.size_append]; omega))]); try with_reducible rfl
     (try simp only [List.getElem_toArray, List.getElem_cons_succ, List.getElem_cons_zero, Act.put, qxq13a, qxq13b, qxq13c])
     refine wpAnyH_done (by kernel_rfl) ?_ _
     refine NoPanic.normal ?_
     rw [HE1.out]
     have HB5 := hid hHeld.2.1
     have hA5 := hHeld.2.2.1
     have HA5 := hid hA5
     have hl5 := hHeld.2.2.2
     clear hHeld HX H1 H2
     obtain ⟨c0, c1, c2, c3⟩ := hA5
     simp only [Nat.zero_add] at c0 c1 c2 c3
     obtain rfl | rfl | rfl : x2 = 0 ∨ x2 = 1 ∨ x2 = 2 := by omega
     ·have H3 := hid (fun W => hrnum_l (Hd.n64 x3) 8 8 W (Hd.n64_lt x3) (by omega) rfl)
      have hres : E1 ++ Oct.be 8 (Hd.n64 x3) = E2 := by rw [← HEF.out]; rfl
      have hadd : ofL E1 ++ ofL (Oct.be 8 (Hd.n64 x3)) = ofL E2 := by rw [ofL_app, hres]
      have hs1 : (ofL E1).size ≤ 2000 := by rw [ofL_size]; exact hz
      have hs2 : (ofL (Oct.be 8 (Hd.n64 x3))).size ≤ 2000 := by rw [ofL_size]; rw [Oct.length_be]; omega
      have HADD := hid hadd
      clear hres hadd
      go_wp2_with fail
      refine (H3.out _).mono ?_
      rintro e w5 ⟨rfl, b5⟩
      have HB6 := hid (bthen HB5.out b5 (Nat.le_refl _))
      clear b5
      go_wp2_with fail
      go_roundg (gk - 1)
      case rel => exact ⟨k + 1, by omega, by go_num, by rw [HE2.out]; exact congrArg Value.string HADD.out, HB6.out⟩
      case measure => omega
     ·have H3 := hid (fun W => hrtext_l x4 W (by omega))
      have hres : E1 ++ Oct.text x4 = E2 := by rw [← HEF.out]; rfl
      have hadd : ofL E1 ++ ofL (Oct.text x4) = ofL E2 := by rw [ofL_app, hres]
      have hs1 : (ofL E1).size ≤ 2000 := by rw [ofL_size]; exact hz
      have hs2 : (ofL (Oct.text x4)).size ≤ 2000 := by rw [ofL_size]; unfold Oct.text; rw [List.length_append, Oct.length_be]; omega
      have HADD := hid hadd
      clear hres hadd
      go_wp2_with fail
      refine (H3.out _).mono ?_
      rintro e w5 ⟨rfl, b5⟩
      have HB6 := hid (bthen HB5.out b5 (Nat.le_refl _))
      clear b5
      go_wp2_with fail
      go_roundg (gk - 1)
      case rel => exact ⟨k + 1, by omega, by go_num, by rw [HE2.out]; exact congrArg Value.string HADD.out, HB6.out⟩
      case measure => omega
     ·have H3 := hid (fun W => hrnum_l (Hd.n64 x3) 1 1 W (Hd.n64_lt x3) (by omega) rfl)
      have hres : E1 ++ Oct.be 1 (Hd.n64 x3) = E2 := by rw [← HEF.out]; rfl
      have hadd : ofL E1 ++ ofL (Oct.be 1 (Hd.n64 x3)) = ofL E2 := by rw [ofL_app, hres]
      have hs1 : (ofL E1).size ≤ 2000 := by rw [ofL_size]; exact hz
      have hs2 : (ofL (Oct.be 1 (Hd.n64 x3))).size ≤ 2000 := by rw [ofL_size]; rw [Oct.length_be]; omega
      have HADD := hid hadd
      clear hres hadd
      go_wp2_with fail
      refine (H3.out _).mono ?_
      rintro e w5 ⟨rfl, b5⟩
      have HB6 := hid (bthen HB5.out b5 (Nat.le_refl _))
      clear b5
      go_wp2_with fail
      go_roundg (gk - 1)
      case rel => exact ⟨k + 1, by omega, by go_num, by rw [HE2.out]; exact congrArg Value.string HADD.out, HB6.out⟩
      case measure => omega
  ·have hkn : n ≤ k := by omega
   have HE := hid (HALL.out k hkn)
   clear hkn
   go_wp2_with fail
   go_ret
   exact ⟨by first | (rw [HE.out]; done) | (rw [HE.out]; rfl), HBK.out⟩
def endOf (r : ByteArray) (e : Int) : Int := if 0 < r.size then 4 else e
set_option maxHeartbeats 400000 in
theorem end_any (b : Nat) (r : ByteArray) (e : Int) (w : World) (h : InAt b r e w) :
  Calls Tryz.prog 28 #[.pointer (some ⟨b, 0, none⟩)] w fun x w' => x = .returned (.int .i64 (endOf r e)) ∧ w = w' := by
 have HL := hid (left_any b r e w h)
 have HE := hid (err_any b r e w h)
 clear h
 by_cases h0 : 0 < r.size
 ·have HO : Hid (endOf r e = 4) := by unfold endOf; rw [if_pos h0]; exact (rfl : _ = _)
  go_enter Tryz.func28, Tryz.ntmps28
  go_wp2_with (go_at_call 63; refine HL.out.mono ?_; rintro x w' ⟨rfl, rfl⟩)
  go_ret
  exact ⟨ret_int (by rw [HO.out]), rfl⟩
 ·have HO : Hid (endOf r e = e) := by unfold endOf; rw [if_neg h0]; exact (rfl : _ = _)
  go_enter Tryz.func28, Tryz.ntmps28
  go_wp2_with (first | (go_at_call 63; refine HL.out.mono ?_; rintro x w' ⟨rfl, rfl⟩) | (go_at_call 64; refine HE.out.mono ?_; rintro x w' ⟨rfl, rfl⟩))
  go_ret
  exact ⟨ret_int (by rw [HO.out]), rfl⟩
theorem iend_l (b : Nat) (s : LSt) (w : World) (h : InL b s w) :
  Calls Tryz.prog 28 #[.pointer (some ⟨b, 0, none⟩)] w fun x w' => x = .returned (.int .i64 (lEnd s)) ∧ w = w' := by
 have := end_any b (ofL s.1) s.2 w h
 have e : endOf (ofL s.1) s.2 = lEnd s := by unfold endOf lEnd; rw [ofL_size]
 rw [e] at this
 exact this
end Go.Proofs.YtaikigponkjkgaaGreatDoor
end
