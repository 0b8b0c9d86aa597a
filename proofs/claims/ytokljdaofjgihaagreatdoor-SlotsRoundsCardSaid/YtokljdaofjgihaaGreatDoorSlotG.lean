/-
  THE LAW ON THE TICKS GONE THROUGH, walked; the chapter's example of slots.
-/
import Derived.Test.YtokljdaofjgihaaGreatDoorSlotN
import Derived.Test.YtokljdaofjgihaaGreatDoorFlowMath
import Derived.Test.YtokljdaofjgihaaGreatDoorAwkA
import Derived.Test.YtokljdaofjgihaaGreatDoorLawE
namespace Go.Proofs.YtokljdaofjgihaaGreatDoor
open Go.ChangeShapes Go.WideShapes Go.ChangeAt Go.RowKit Go.Shelf
attribute [local go_sem] Oper.semAt_some

theorem slots_fact {p : Pl.Pol} (h : Pl.check p = 0) : 0 < p.slots.length ∧ p.slots.length ≤ 32 ∧ ∀ x : Int, 0 ≤ x → x < (p.places.length : Int) → x ∈ p.slots := by
  obtain ⟨-, h1, -, h2⟩ := Pl.check_parts h
  have hc : Pl.counted p.slots.length 32 = 0 := by
    unfold Pl.slotsCode at h1
    by_cases hc : Pl.counted p.slots.length 32 ≠ 0
    · rw [if_pos hc] at h1; exact h1
    · omega
  have h3 : 0 < p.slots.length ∧ p.slots.length ≤ 32 := by
    unfold Pl.counted at hc
    split at hc
    · cases hc
    · split at hc
      · cases hc
      · omega
  refine ⟨h3.1, h3.2, fun x hx0 hx => ?_⟩
  unfold Pl.turnsCode at h2
  have := Pl.scan_none h2 x.toNat (by omega)
  split at this
  · rename_i hm
    rw [show ((x.toNat : Nat) : Int) = x by omega] at hm
    simpa using hm
  · cases this
def ex6T : List UInt8 := [119, 111, 114, 107, 32, 49, 10, 103, 105, 118, 101, 32, 49, 10, 108, 97, 98, 101, 108, 32, 97, 32, 48, 32, 57, 32, 49, 10, 108, 97, 98, 101, 108, 32, 98, 32, 49, 32, 57, 32, 49, 10, 115, 108, 111, 116, 32, 97, 10, 115, 108, 111, 116, 32, 98, 10, 115, 108, 111, 116, 32, 97, 10]
def ex6Pol : Pl.Pol := ⟨1, 1, [⟨[97], 0, 0, 9, 1⟩, ⟨[98], 1, 0, 9, 1⟩], [0, 1, 0], []⟩
theorem ex6_parse : Pl.parse ex6T = (ex6Pol, 0, 0) := by kernel_rfl
theorem ex6_parse_at (w : World) (hE : Env w) : Calls Tryz.prog 17 #[.string ⟨#[119, 111, 114, 107, 32, 49, 10, 103, 105, 118, 101, 32, 49, 10, 108, 97, 98, 101, 108, 32, 97, 32, 48, 32, 57, 32, 49, 10, 108, 97, 98, 101, 108, 32, 98, 32, 49, 32, 57, 32, 49, 10, 115, 108, 111, 116, 32, 97, 10, 115, 108, 111, 116, 32, 98, 10, 115, 108, 111, 116, 32, 97, 10]⟩] w (ParPost (ex6Pol, 0, 0) w) := by
  have h := pparse_any ex6T w (by decide) hE
  rw [ex6_parse] at h
  exact h
theorem ex6_sl : Sl.next [0, 1, 0] 1 5 = (7, true) := by kernel_rfl
theorem ex6_next (W : World) (pa : Option Addr) (pc : Nat) (sa : Option Addr) (sc : Nat) (ga : Option Addr) (gc : Nat) (h : Ints W sa [0, 1, 0]) :
    Calls Tryz.prog 27 #[.agg #[.int .i64 1, .int .i64 1, .slice pa 2 pc, .slice sa 3 sc, .slice ga 0 gc], .int .i64 1, .int .u64 5] W fun e w' => e = .returned (.tuple #[.int .u64 7, .bool true]) ∧ Below W.heap.size W w' := by
  have := next_any ex6Pol pa pc sa sc ga gc 1 5 W (by decide) (by decide) (by decide) h
  rw [show Sl.next ex6Pol.slots 1 5 = (7, true) from ex6_sl] at this
  exact this
theorem ex6_at (W : World) (pa : Option Addr) (pc : Nat) (sa : Option Addr) (sc : Nat) (ga : Option Addr) (gc : Nat) (h : Ints W sa [0, 1, 0]) :
    Calls Tryz.prog 29 #[.agg #[.int .i64 1, .int .i64 1, .slice pa 2 pc, .slice sa 3 sc, .slice ga 0 gc], .int .u64 4] W fun e w' => e = .returned (.int .i64 1) ∧ Below W.heap.size W w' :=
  sat_any ex6Pol pa pc sa sc ga gc 4 W (by decide) (by decide) (by decide) h
set_option maxHeartbeats 2000000 in
theorem awake6_any (w : World) (hE : Env w) : Calls Tryz.prog 26 #[] w fun x w' => x = .returned (.bool true) ∧ Below w.heap.size w w' := by
  have HP := Lib.hid (ex6_parse_at w hE)
  have HE := Lib.hid hE
  clear hE
  go_enter Tryz.func26, Tryz.ntmps26
  go_wp2_with fail
  (with_reducible refine HP.out.mono ?_)
  rintro x w1 ⟨pa, pc, sa, sc, ga, gc, rfl, hp, hB⟩
  have HB1 := Lib.hid hB
  have hs : Below w1.heap.size w1 (w1.alloc (.cells #[.int .i64 1, .int .i64 1, .slice pa 2 pc, .slice sa 3 sc, .slice ga 0 gc] 26)) := (Below.refl _ _).alloc (Nat.le_refl _) _
  have HS := Lib.hid hs
  have HC := Lib.hid (Cell5.new w1 (.int .i64 1) (.int .i64 1) (.slice pa 2 pc) (.slice sa 3 sc) (.slice ga 0 gc) 26)
  have HI := Lib.hid (show Ints _ sa [0, 1, 0] from hp.sl.on hs)
  have HE1 := Lib.hid ((HE.out.on hB).on hs)
  have HNX := Lib.hid (fun W h => ex6_next W pa pc sa sc ga gc h)
  have HAT := Lib.hid (fun W h => ex6_at W pa pc sa sc ga gc h)
  clear hp hB hs
  simp only [polV, ex6Pol, List.length_cons, List.length_nil, Nat.zero_add, Nat.reduceAdd]
  obtain ⟨c0, c1, c2, c3, c4⟩ := HC.out
  go_wp2_with fail
  (with_reducible refine (HNX.out _ HI.out).mono ?_)
  rintro x w2 ⟨rfl, hB⟩
  have HB2 := Lib.hid (bthen (bthen HB1.out HS.out (Nat.le_refl _)) hB (Nat.le_refl _))
  have HC2 := Lib.hid (HC.out.on hB)
  have HI2 := Lib.hid (HI.out.on hB)
  have HE2 := Lib.hid (HE1.out.on hB)
  clear hB c0 c1 c2 c3 c4
  go_wp2_with fail
  (with_reducible refine (Awake5_any _ HE2.out).mono ?_)
  rintro x w3 ⟨rfl, hB⟩
  have HB3 := Lib.hid (bthen HB2.out hB (Nat.le_refl _))
  have HI3 := Lib.hid (HI2.out.on hB)
  obtain ⟨c0, c1, c2, c3, c4⟩ := HC2.out.on hB
  clear hB
  go_wp2_with fail
  (with_reducible refine (HAT.out _ HI3.out).mono ?_)
  rintro x w4 ⟨rfl, hB⟩
  have HB4 := Lib.hid (bthen HB3.out hB (Nat.le_refl _))
  clear hB
  go_wp2_with fail
  go_ret
  exact ⟨rfl, HB4.out⟩
/-- four boxes, one behind the other -/
structure Bx4 (b : Nat) (v0 v1 v2 v3 v4 x1 x2 x3 : Value) (W : World) : Prop where
  pol : Cell5 W b v0 v1 v2 v3 v4
  c1 : W.cell? ⟨b + 1, 0, none⟩ = some x1
  c2 : W.cell? ⟨b + 1 + 1, 0, none⟩ = some x2
  c3 : W.cell? ⟨b + 1 + 1 + 1, 0, none⟩ = some x3
  f3 : W.frozen? ⟨b + 1 + 1 + 1, 0, none⟩ = false
theorem Bx4.new (w : World) (v0 v1 v2 v3 v4 : Value) (x1 x2 x3 : Value) (t0 t1 t2 t3 : TypeId) :
    Bx4 w.heap.size v0 v1 v2 v3 v4 x1 x2 x3 ((((w.alloc (.cells #[v0, v1, v2, v3, v4] t0)).alloc (.cells #[x1] t1)).alloc (.cells #[x2] t2)).alloc (.cells #[x3] t3)) := by
  have a1 := ((Boxed.new (w.alloc (.cells #[v0, v1, v2, v3, v4] t0)) t1 x1).alloc (.cells #[x2] t2)).alloc (.cells #[x3] t3)
  have a2 := (Boxed.new ((w.alloc (.cells #[v0, v1, v2, v3, v4] t0)).alloc (.cells #[x1] t1)) t2 x2).alloc (.cells #[x3] t3)
  have a3 := Boxed.new (((w.alloc (.cells #[v0, v1, v2, v3, v4] t0)).alloc (.cells #[x1] t1)).alloc (.cells #[x2] t2)) t3 x3
  simp only [World.size_alloc] at a1 a2 a3
  exact ⟨(((Cell5.new w v0 v1 v2 v3 v4 t0).on ((Below.refl _ _).alloc (Nat.le_refl _) _)).on ((Below.refl _ _).alloc (Nat.le_refl _) _)).on ((Below.refl _ _).alloc (Nat.le_refl _) _), a1.cell, a2.cell, a3.cell, a3.frozen⟩
theorem Bx4.on {b : Nat} {v0 v1 v2 v3 v4 x1 x2 x3 : Value} {W W' : World} (h : Bx4 b v0 v1 v2 v3 v4 x1 x2 x3 W) (hb : Below W.heap.size W W') : Bx4 b v0 v1 v2 v3 v4 x1 x2 x3 W' :=
  have hg := grown_of hb
  have hr : ∀ r, (none : Option Nat) = some r → ∃ o : Obj, W.heap[r]? = some o ∧ o.isCells = false := fun r e => by cases e
  ⟨h.pol.on hb, cell_kept h.c1 hg hr, cell_kept h.c2 hg hr, cell_kept h.c3 hg hr, (frozen_kept h.c3 hg hr).trans h.f3⟩
/-- what a round of the law's loop reads: the first tick, how far, the count, the answer, the document's policy -/
structure SaIn (b g : Nat) (t m k : Nat) (r : Bool) (q0 q1 q2 q3 q4 : Value) (sl : List Int) (A : Option Addr) (W : World) : Prop where
  fr : W.cell? ⟨b + 1, 0, none⟩ = some (.int .u64 (t : Int))
  st : W.cell? ⟨b + 1 + 1, 0, none⟩ = some (.int .u8 (m : Int))
  rs : W.cell? ⟨b + 1 + 1 + 1, 0, none⟩ = some (.bool r)
  rf : W.frozen? ⟨b + 1 + 1 + 1, 0, none⟩ = false
  q : Cell5 W g q0 q1 q2 q3 q4
  kc : W.cell? ⟨g + 1, 0, none⟩ = some (.int .u64 (k : Int))
  kf : W.frozen? ⟨g + 1, 0, none⟩ = false
  sl : Ints W A sl
theorem Ints.kept {W W' : World} {A : Option Addr} {l : List Int} {row : Option Nat} (h : Ints W A l) (hg : W.grownBy W' row) (hr : ∀ r, row = some r → ∃ o : Obj, W.heap[r]? = some o ∧ o.isCells = false) : Ints W' A l := ⟨fun i hi => by
  obtain ⟨b, off, e, hb, hc⟩ := h.at_ i hi
  exact ⟨b, off, e, Nat.lt_of_lt_of_le hb hg.size, cell_kept hc hg hr⟩⟩
theorem Cell5.kept {W W' : World} {b : Nat} {x0 x1 x2 x3 x4 : Value} {row : Option Nat} (h : Cell5 W b x0 x1 x2 x3 x4) (hg : W.grownBy W' row) (hr : ∀ r, row = some r → ∃ o : Obj, W.heap[r]? = some o ∧ o.isCells = false) : Cell5 W' b x0 x1 x2 x3 x4 :=
  ⟨cell_kept h.c0 hg hr, cell_kept h.c1 hg hr, cell_kept h.c2 hg hr, cell_kept h.c3 hg hr, cell_kept h.c4 hg hr⟩
theorem SaIn.kept {b g t m k : Nat} {r : Bool} {q0 q1 q2 q3 q4 : Value} {sl : List Int} {A : Option Addr} {W W' : World} {row : Option Nat} (h : SaIn b g t m k r q0 q1 q2 q3 q4 sl A W) (hg : W.grownBy W' row) (hr : ∀ r, row = some r → ∃ o : Obj, W.heap[r]? = some o ∧ o.isCells = false) : SaIn b g t m k r q0 q1 q2 q3 q4 sl A W' :=
  ⟨cell_kept h.fr hg hr, cell_kept h.st hg hr, cell_kept h.rs hg hr, (frozen_kept h.rs hg hr).trans h.rf, h.q.kept hg hr, cell_kept h.kc hg hr, (frozen_kept h.kc hg hr).trans h.kf, h.sl.kept hg hr⟩
theorem SaIn.on {b g t m k : Nat} {r : Bool} {q0 q1 q2 q3 q4 : Value} {sl : List Int} {A : Option Addr} {W W' : World} (h : SaIn b g t m k r q0 q1 q2 q3 q4 sl A W) (hb : Below W.heap.size W W') : SaIn b g t m k r q0 q1 q2 q3 q4 sl A W' := h.kept (grown_of hb) (fun r e => by cases e)
/-- the slots lie in a block that isn't b -/
def Off (A : Option Addr) (b : Nat) : Prop := ∀ a, A = some a → a.block ≠ b
theorem SaIn.setK {b g t m k : Nat} {r : Bool} {q0 q1 q2 q3 q4 : Value} {sl : List Int} {A : Option Addr} {W : World} (h : SaIn b g t m k r q0 q1 q2 q3 q4 sl A W) (hbg : b + 4 ≤ g) (hA : Off A (g + 1)) (k' : Nat) : SaIn b g t m k' r q0 q1 q2 q3 q4 sl A (W.setCell ⟨g + 1, 0, none⟩ (.int .u64 (k' : Int))) := by
  have ho : ∀ p : Addr, p.block ≠ g + 1 → (W.setCell ⟨g + 1, 0, none⟩ (.int .u64 (k' : Int))).cell? p = W.cell? p := fun p hp => World.cell?_setCell_other W ⟨g + 1, 0, none⟩ p _ (fun e => hp (congrArg Addr.block e).symm)
  refine ⟨(ho _ (by simp; omega)).trans h.fr, (ho _ (by simp; omega)).trans h.st, (ho _ (by simp; omega)).trans h.rs, by rw [World.frozen?_setCell]; exact h.rf, ⟨(ho _ (by simp)).trans h.q.c0, (ho _ (by simp)).trans h.q.c1, (ho _ (by simp)).trans h.q.c2, (ho _ (by simp)).trans h.q.c3, (ho _ (by simp)).trans h.q.c4⟩, World.cell?_setCell_same' _ _ _ (by rw [h.kc]; rfl), by rw [World.frozen?_setCell]; exact h.kf, ⟨fun i hi => ?_⟩⟩
  obtain ⟨b', off, e, hb, hc⟩ := h.sl.at_ i hi
  exact ⟨b', off, e, by simpa [World.setCell] using hb, (ho ⟨b', off + i, none⟩ (show b' ≠ g + 1 from hA _ e)).trans hc⟩
theorem off_of {W : World} {A : Option Addr} {sl : List Int} (h : Ints W A sl) (h0 : 0 < sl.length) {n : Nat} (hn : W.heap.size ≤ n) : Off A n := by
  intro a ha e
  obtain ⟨b, off, e1, hb, -⟩ := h.at_ 0 h0
  rw [ha] at e1
  injection e1 with e1
  subst e1
  simp at e
  omega
/-- a tick that isn't as it should be -/
def offTk (sl : List Int) (t k : Nat) (y : Tk) : Prop := ¬ (y.1.1 = t + k ∧ y.1.2 = Sl.at_ sl y.1.1)
theorem no_off {sl : List Int} {t k : Nat} (hk : k ≤ 18446744073709551616 - t) {ini : List Tk} {last : Tk} (e : tks sl t k = ini ++ [last]) (h : offTk sl t ini.length last) : False := by
  cases k with
  | zero => have := congrArg List.length e; rw [tks_length, List.length_append] at this; simp at this
  | succ k =>
    rw [tks_succ] at e
    obtain ⟨rfl, e2⟩ := List.append_inj' e rfl
    simp only [List.cons.injEq, and_true] at e2
    subst e2
    have ht : t + k < 18446744073709551616 := by omega
    refine h ?_
    rw [tks_length, tk_of ht]
    exact ⟨rfl, rfl⟩
set_option maxRecDepth 100000 in
set_option maxHeartbeats 8000000 in
theorem slotsAll_walk (p : Pl.Pol) (pa : Option Addr) (pc : Nat) (sa : Option Addr) (sc : Nat) (ga : Option Addr) (gc : Nat) (t m : Nat) (w : World) (h : PolIn w p pa pc sa sc ga gc) (hnil : sa = none → sc = 0) (ht : t < 18446744073709551616) (hm : m < 256) (hE : Env w) :
    Calls Tryz.prog 8 #[polV p pa pc sa sc ga gc, .int .u64 (t : Int), .int .u8 (m : Int)] w fun e w' => e = .returned (.bool true) ∧ Below w.heap.size w w' := by
  have hs : Below w.heap.size w ((((w.alloc (.cells #[.int .i64 p.work, .int .i64 p.give, .slice pa p.places.length pc, .slice sa p.slots.length sc, .slice ga p.grants.length gc] 26)).alloc (.cells #[.int .u64 (t : Int)] 54)).alloc (.cells #[.int .u8 (m : Int)] 5)).alloc (.cells #[.bool false] 4)) := ((((Below.refl _ _).alloc (Nat.le_refl _) _).alloc (by simp) _).alloc (by simp; omega) _).alloc (by simp; omega) _
  have HAW := Lib.hid (awake6_any _ (hE.on hs))
  have HS := Lib.hid hs
  have HI := Lib.hid (h.on hs)
  have HM := Lib.hid (fun W (h : PolIn W p pa pc sa sc ga gc) => may_any p pa pc sa sc ga gc W h hnil)
  have HTO := Lib.hid (fun W (h : PolIs W p pa pc sa sc ga gc) h1 h2 h3 => to_any p pa pc sa sc ga gc W h h1 h2 h3 hnil)
  have HBX := Lib.hid (Bx4.new w (.int .i64 p.work) (.int .i64 p.give) (.slice pa p.places.length pc) (.slice sa p.slots.length sc) (.slice ga p.grants.length gc) (.int .u64 (t : Int)) (.int .u8 (m : Int)) (.bool false) 26 54 5 4)
  clear h hs
  simp only [polV] at HM HTO ⊢
  have HMY := Lib.hid (fun h => may_is (p := p) h)
  have HSF := Lib.hid (fun h => slots_fact (p := p) h)
  have HT := Lib.hid ht
  have HMM := Lib.hid hm
  clear ht hm
  refine (callsIn_wide (n := 6)).1 ?_
  refine callsIn_of_wp_marks Tryz.func8 rfl trivial ?_ rfl
  simp only [Tryz.ntmps8, List.size_toArray, List.length_cons, List.length_nil, Nat.reduceAdd, Nat.reduceSub, Array.replicate_succ, Array.replicate_zero, List.push_toArray, List.append_toArray, List.nil_append, List.cons_append]
  gi_wp2_with fail
  generalize (((w.alloc (.cells #[.int .i64 p.work, .int .i64 p.give, .slice pa p.places.length pc, .slice sa p.slots.length sc, .slice ga p.grants.length gc] 26)).alloc (.cells #[.int .u64 (t : Int)] 54)).alloc (.cells #[.int .u8 (m : Int)] 5)).alloc (.cells #[.bool false] 4) = W0 at *
  refine ⟨trivial, ?_⟩
  refine (callsIn_wide.2 HAW.out).mono ?_
  rintro e w1 ⟨rfl, b1⟩
  have HBX1 := Lib.hid (HBX.out.on b1)
  have HB1 := Lib.hid (bthen HS.out b1 (Nat.le_refl _))
  have HI1 := Lib.hid (HI.out.on b1)
  clear b1
  obtain ⟨⟨c0, c1, c2, c3, c4⟩, -, -, -, -⟩ := HBX1.out
  cases hmay : may p with
  | false =>
    rw [hmay] at HM
    clear hmay
    gi_wp2_with fail
    refine ⟨trivial, ?_⟩
    refine (callsIn_wide.2 (HM.out _ HI1.out)).mono ?_
    rintro e w2 ⟨rfl, b2⟩
    have HBX2 := Lib.hid (HBX1.out.on b2)
    have HB2 := Lib.hid (bthen HB1.out b2 (Nat.le_refl _))
    clear b2 c0 c1 c2 c3 c4
    have c3 := HBX2.out.c3
    have f3 := HBX2.out.f3
    have q3 : (w2.setCell ⟨w.heap.size + 1 + 1 + 1, 0, none⟩ (.bool true)).cell? ⟨w.heap.size + 1 + 1 + 1, 0, none⟩ = some (.bool true) := World.cell?_setCell_same' _ _ _ (by rw [c3]; rfl)
    gi_wp2_with fail
    refine ⟨.bool true, ?_, rfl, HB2.out.setCell (p := ⟨w.heap.size + 1 + 1 + 1, 0, none⟩) (by simp; omega) _⟩
    simp [results, Tryz.f8, go_sem, q3]
  | true =>
    rw [hmay] at HM
    obtain ⟨hlight, hchk⟩ := HMY.out hmay
    obtain ⟨s1, s2, s3, -⟩ := light_size hlight
    obtain ⟨k1, k2, -⟩ := HSF.out hchk
    have HLI := Lib.hid (fun W (h : PolIn W p pa pc sa sc ga gc) => h.light hlight)
    have HK1 := Lib.hid k1
    have HTO := Lib.hid (fun W h => HTO.out W h (by omega) (by omega) (by omega))
    have HAL := Lib.hid (fun W h => all_any p pa pc sa sc ga gc t W (by omega) k1 h)
    have HST := Lib.hid (fun n hn b W h => all_stops n hn b p pa pc ga gc t k1 (by omega) HT.out W h)
    have HRA := Lib.hid (fun pa' pc' sa' sc' ga' gc' q W (hq : q < 18446744073709551616) h => rat_any p pa' pc' sa' sc' ga' gc' q W (by omega) k1 hq h)
    clear hlight hchk hmay s1 s2 s3 k1 k2
    simp only [polV] at HAL HRA
    gi_wp2_with fail
    refine ⟨trivial, ?_⟩
    refine (callsIn_wide.2 (HM.out _ HI1.out)).mono ?_
    rintro e w2 ⟨rfl, b2⟩
    have HBX2 := Lib.hid (HBX1.out.on b2)
    have HB2 := Lib.hid (bthen HB1.out b2 (Nat.le_refl _))
    have HI2 := Lib.hid (HLI.out _ (HI1.out.on b2))
    clear b2 c0 c1 c2 c3 c4
    obtain ⟨⟨c0, c1, c2, c3, c4⟩, -, -, -, -⟩ := HBX2.out
    gi_wp2_with fail
    refine ⟨trivial, ?_⟩
    refine (callsIn_wide.2 (HTO.out _ HI2.out)).mono ?_
    rintro e w3 ⟨pa', pc', sa', sc', ga', gc', rfl, hp', b3⟩
    simp only [polV]
    have hal : Below w3.heap.size w3 ((w3.alloc (.cells #[.int .i64 p.work, .int .i64 p.give, .slice pa' p.places.length pc', .slice sa' p.slots.length sc', .slice ga' p.grants.length gc'] 32)).alloc (.cells #[.int .u64 0] 54)) := ((Below.refl _ _).alloc (Nat.le_refl _) _).alloc (by simp) _
    have HBX3 := Lib.hid ((HBX2.out.on b3).on hal)
    have HB3 := Lib.hid (bthen (bthen HB2.out b3 (Nat.le_refl _)) hal (Nat.le_refl _))
    have HI3 := Lib.hid (((HI2.out.on b3).on hal).sl)
    have HOFF := Lib.hid (off_of hp'.sl HK1.out (n := w3.heap.size + 1) (by omega))
    have HGE := Lib.hid (show w.heap.size + 4 ≤ w3.heap.size from by have h1 := HB2.out.size; have h2 := b3.size; have h3 := World.block_lt_of_cell? w2 _ HBX2.out.c3; simp at h3; omega)
    have HQ3 := Lib.hid (show Cell5 _ w3.heap.size _ _ _ _ _ from (Cell5.new w3 (.int .i64 p.work) (.int .i64 p.give) (.slice pa' p.places.length pc') (.slice sa' p.slots.length sc') (.slice ga' p.grants.length gc') 32).on ((Below.refl _ _).alloc (Nat.le_refl _) (.cells #[.int .u64 0] 54)))
    have HKC := Lib.hid (show Boxed ((w3.alloc (.cells #[.int .i64 p.work, .int .i64 p.give, .slice pa' p.places.length pc', .slice sa' p.slots.length sc', .slice ga' p.grants.length gc'] 32)).alloc (.cells #[.int .u64 0] 54)) (w3.heap.size + 1) 54 (.int .u64 0) from by
      have := Boxed.new (w3.alloc (.cells #[.int .i64 p.work, .int .i64 p.give, .slice pa' p.places.length pc', .slice sa' p.slots.length sc', .slice ga' p.grants.length gc'] 32)) 54 (.int .u64 0)
      rwa [World.size_alloc] at this)
    have HLT := Lib.hid (show w3.heap.size + 1 < ((w3.alloc (.cells #[.int .i64 p.work, .int .i64 p.give, .slice pa' p.places.length pc', .slice sa' p.slots.length sc', .slice ga' p.grants.length gc'] 32)).alloc (.cells #[.int .u64 0] 54)).heap.size from by simp)
    have HSL := Lib.hid ((hp'.sl.on hal))
    clear hp' b3 hal c0 c1 c2 c3 c4
    obtain ⟨⟨c0, c1, c2, c3, c4⟩, cf, -, -, -⟩ := HBX3.out
    gi_wp2_with fail
    generalize (w3.alloc (.cells #[.int .i64 p.work, .int .i64 p.give, .slice pa' p.places.length pc', .slice sa' p.slots.length sc', .slice ga' p.grants.length gc'] 32)).alloc (.cells #[.int .u64 0] 54) = W3 at *
    generalize w3.heap.size = g at *
    refine ⟨trivial, ?_⟩
    refine (callsIn_wide.2 (HAL.out W3 HI3.out)).mono ?_
    rintro e w4 ⟨rfl, hS, hB4⟩
    have HS4 := Lib.hid hS
    have HSA := Lib.hid (SaIn.on (show SaIn w.heap.size g t m 0 false (.int .i64 p.work) (.int .i64 p.give) (.slice pa' p.places.length pc') (.slice sa' p.slots.length sc') (.slice ga' p.grants.length gc') p.slots sa' W3 from ⟨HBX3.out.c1, HBX3.out.c2, HBX3.out.c3, HBX3.out.f3, HQ3.out, HKC.out.cell, HKC.out.frozen, HSL.out⟩) hB4)
    have HB4 := Lib.hid (bthen HB3.out hB4 (Nat.le_refl _))
    clear hS hB4 c0 c1 c2 c3 c4 cf
    gi_wp2_with fail
    generalize W3.heap.size = b0 at *
    refine wpIn_rangeFunc_ownG rfl (by omega) (gf := 63) (lb := #[.pointer (some ⟨b0 + 1, 0, none⟩), .pointer (some ⟨b0, 0, none⟩)]) rfl trivial (enters_of Tryz.func63 (by kernel_rfl) rfl)
      (HST.out _ (by omega) b0 w4 HS4.out) allKp_t (fun W l o o' _ hl ho _ => allKp_b W l o o' hl ho) (Below.refl _ _) (fun _ => rfl)
      (fun pre W => (pre.length ≤ m ∧ SaIn w.heap.size g t m pre.length false (.int .i64 p.work) (.int .i64 p.give) (.slice pa' p.places.length pc') (.slice sa' p.slots.length sc') (.slice ga' p.grants.length gc') p.slots sa' W) ∧ Below w.heap.size w W)
      (fun c pre W => ((c = .ret ∧ ∃ ini last, pre = ini ++ [last] ∧ offTk p.slots t ini.length last) ∨ (c = .exit 0 ∧ pre.length = m + 1 ∧ SaIn w.heap.size g t m pre.length false (.int .i64 p.work) (.int .i64 p.give) (.slice pa' p.places.length pc') (.slice sa' p.slots.length sc') (.slice ga' p.grants.length gc') p.slots sa' W)) ∧ Below w.heap.size w W)
      (OwnFrom.and (Own.from (fun s A B row hs hg hr => ⟨hs.1, hs.2.kept hg hr⟩) _) (ownFrom_below (Nat.le_refl _) HB4.out.size))
      (fun c => OwnFrom.and (Own.from (fun s A B row hs hg hr => by
        rcases hs with h | h
        · exact .inl h
        · exact .inr ⟨h.1, h.2.1, h.2.2.kept hg hr⟩) _) (ownFrom_below (Nat.le_refl _) HB4.out.size))
      ⟨⟨Nat.zero_le _, HSA.out⟩, HB4.out⟩
      (fun y => { tmps := #[.agg #[.int .i64 p.work, .int .i64 p.give, .slice pa p.places.length pc, .slice sa p.slots.length sc, .slice ga p.grants.length gc], .int .u64 (t : Int), .int .u8 (m : Int), .pointer (some ⟨w.heap.size, 0, none⟩), .pointer (some ⟨w.heap.size + 1, 0, none⟩), .pointer (some ⟨w.heap.size + 1 + 1, 0, none⟩), .pointer (some ⟨w.heap.size + 1 + 1 + 1, 0, none⟩), .pointer (some ⟨g, 0, none⟩), .pointer (some ⟨g + 1, 0, none⟩), .int .u64 (y.1.1 : Int), .int .i64 y.1.2, .bool true, .bool false, .agg #[.int .i64 p.work, .int .i64 p.give, .slice pa p.places.length pc, .slice sa p.slots.length sc, .slice ga p.grants.length gc], .bool true, .bool false, .agg #[.int .i64 p.work, .int .i64 p.give, .slice pa p.places.length pc, .slice sa p.slots.length sc, .slice ga p.grants.length gc], .agg #[.int .i64 p.work, .int .i64 p.give, .slice pa' p.places.length pc', .slice sa' p.slots.length sc', .slice ga' p.grants.length gc'], .agg #[.int .i64 p.work, .int .i64 p.give, .slice pa p.places.length pc, .slice sa p.slots.length sc, .slice ga p.grants.length gc], .int .u64 (t : Int), .func (.func 63) #[] #[.pointer (some ⟨b0 + 1, 0, none⟩), .pointer (some ⟨b0, 0, none⟩)], .int .u64 (y.1.1 : Int), .int .i64 y.1.2, undef, undef, undef, undef, undef, undef, undef, undef, undef, undef, undef, undef, undef, undef, undef, undef, undef, undef, undef, undef, undef, undef, undef, undef, undef, undef], defers := [] }) ?assign ?body ?done ?stop
    case assign =>
      intro l y W K hK
      gi_wp2
      exact hK
    case body =>
      rintro l pre y W ⟨⟨hlm, hSA⟩, hB⟩ hN
      obtain ⟨⟨Y, Z⟩, hY⟩ := y
      simp only at hY ⊢
      have HSA1 := Lib.hid hSA
      have HB1 := Lib.hid hB
      have HPL := Lib.hid (show t + pre.length < 18446744073709551616 by omega)
      have HLM := Lib.hid hlm
      have HYL := Lib.hid hY
      have HOF := Lib.hid (show ¬ (Y = t + pre.length ∧ Z = Sl.at_ p.slots Y) → ∃ ini last, pre ++ [(⟨(Y, Z), hY⟩ : Tk)] = ini ++ [last] ∧ offTk p.slots t ini.length last from fun h => ⟨pre, _, rfl, h⟩)
      have HLEN := Lib.hid (show (pre ++ [(⟨(Y, Z), hY⟩ : Tk)]).length = pre.length + 1 by simp)
      have e1 : IntKind.u64.wrap ((t : Int) + (pre.length : Int)) = ((t + pre.length : Nat) : Int) := by rw [IntKind.wrap_u64]; omega
      have e2 : IntKind.u64.wrap ((pre.length : Int) + 1) = ((pre.length + 1 : Nat) : Int) := by have := HMM.out; rw [IntKind.wrap_u64]; omega
      have e3 : IntKind.u64.wrap (m : Int) = (m : Int) := by have := HMM.out; rw [IntKind.wrap_u64]; omega
      obtain ⟨cf, cs, cr, rf, ⟨q0, q1, q2, q3, q4⟩, ck, kf, -⟩ := hSA
      clear hlm hB hN
      generalize (⟨(Y, Z), hY⟩ : Tk) = yy at *
      clear hY
      generalize hK : pre.length = K at *
      clear hK
      generalize hK1 : K + 1 = K1 at *
      have HK1 := Lib.hid hK1
      clear hK1
      by_cases h1 : Y = t + K
      · subst h1
        have HCALL := Lib.hid (HRA.out pa' pc' sa' sc' ga' gc' (t + K) W HYL.out HSA1.out.sl)
        have heq : (((t + K : Nat) : Int) == ((t + K : Nat) : Int)) = true := by simp
        generalize t + K = T at *
        generalize Sl.at_ p.slots T = X at *
        cases hz : (Z == X) with
        | false =>
          have HX := Lib.hid (HOF.out (fun h => by rw [h.2] at hz; simp at hz))
          gi_wp2_with (refine ⟨trivial, ?_⟩; gi_at_call 30; refine (CallsIn.inRound l (callsIn_wide.2 (HCALL.out))).mono ?_; rintro e W1 ⟨rfl, hb1⟩; have HW1 := Lib.hid hb1; obtain ⟨-, -, cr2, rf2, -, -, -, -⟩ := HSA1.out.on hb1; clear hb1)
          exact ⟨(KeepsFrom.of_grownBy (grown_of HW1.out) (fun j e => by cases e)).trans ((KeepsOthers.setCell _ _ _).from _), .inl ⟨rfl, HX.out⟩, (bthen HB1.out HW1.out (Nat.le_refl _)).setCell (p := ⟨w.heap.size + 1 + 1 + 1, 0, none⟩) (by simp; omega) _⟩
        | true =>
          have HKP := Lib.hid (fun W1 (h1 : Below W.heap.size W W1) v => (show AllKp b0 p.slots t (.int .i64 p.work) (.int .i64 p.give) (.slice pa p.places.length pc) (.slice ga p.grants.length gc) W (W1.setCell ⟨g + 1, 0, none⟩ v) from fun h => (h.on h1).set HLT.out 0 v))
          by_cases hmk : m < K1
          · gi_wp2_with (refine ⟨trivial, ?_⟩; gi_at_call 30; refine (CallsIn.inRound l (callsIn_wide.2 (HCALL.out))).mono ?_; rintro e W1 ⟨rfl, hb1⟩; have HW1 := Lib.hid hb1; have HSA2 := Lib.hid (HSA1.out.on hb1); obtain ⟨cf2, cs2, -, -, -, ck2, kf2, -⟩ := HSA1.out.on hb1; clear hb1; have HSA3 := Lib.hid (HSA2.out.setK HGE.out HOFF.out K1); obtain ⟨cf3, cs3, -, -, -, ck3, kf3, -⟩ := HSA3.out)
            exact ⟨(KeepsFrom.of_grownBy (grown_of HW1.out) (fun j e => by cases e)).trans ((KeepsOthers.setCell _ _ _).from _), .inr ⟨rfl, by rw [HLEN.out]; have := HK1.out; have := HLM.out; omega, by rw [HLEN.out]; exact HSA3.out⟩, (bthen HB1.out HW1.out (Nat.le_refl _)).setCell (p := ⟨g + 1, 0, none⟩) (by have := HGE.out; simp; omega) _⟩
          · gi_wp2_with (refine ⟨trivial, ?_⟩; gi_at_call 30; refine (CallsIn.inRound l (callsIn_wide.2 (HCALL.out))).mono ?_; rintro e W1 ⟨rfl, hb1⟩; have HW1 := Lib.hid hb1; have HSA2 := Lib.hid (HSA1.out.on hb1); obtain ⟨cf2, cs2, -, -, -, ck2, kf2, -⟩ := HSA1.out.on hb1; clear hb1; have HSA3 := Lib.hid (HSA2.out.setK HGE.out HOFF.out K1); obtain ⟨cf3, cs3, -, -, -, ck3, kf3, -⟩ := HSA3.out)
            exact ⟨(KeepsFrom.of_grownBy (grown_of HW1.out) (fun j e => by cases e)).trans ((KeepsOthers.setCell _ _ _).from _), HKP.out _ HW1.out _, ⟨by rw [HLEN.out]; omega, by rw [HLEN.out]; exact HSA3.out⟩, (bthen HB1.out HW1.out (Nat.le_refl _)).setCell (p := ⟨g + 1, 0, none⟩) (by have := HGE.out; simp; omega) _⟩
      · have HX := Lib.hid (HOF.out (fun h => h1 h.1))
        have hne : ¬ (Y : Int) = ((t + K : Nat) : Int) := by omega
        clear h1
        generalize t + K = T at *
        gi_wp2
        refine ⟨trivial, ?_⟩
        gi_wp2
        exact ⟨(KeepsOthers.setCell _ _ _).from _, .inl ⟨rfl, HX.out⟩, HB1.out.setCell (p := ⟨w.heap.size + 1 + 1 + 1, 0, none⟩) (by simp; omega) _⟩
    case done =>
      rintro D ys W hD rfl ⟨⟨hlm, hSA⟩, hB⟩ hK
      rw [tks_length] at hlm hSA
      have HB9 := Lib.hid hB
      have HK9 := Lib.hid hK
      have HD9 := Lib.hid hD
      have e3 : IntKind.u64.wrap (m : Int) = (m : Int) := by have := HMM.out; rw [IntKind.wrap_u64]; omega
      have e4 : IntKind.u64.wrap (18446744073709551615 - (t : Int)) = ((18446744073709551615 - t : Nat) : Int) := by have := HT.out; rw [IntKind.wrap_u64]; omega
      have e5 : min (m : Int) ((18446744073709551615 - t : Nat) : Int) = ((18446744073709551615 - t : Nat) : Int) := by omega
      have e6 : IntKind.u64.wrap (((18446744073709551615 - t : Nat) : Int) + 1) = ((18446744073709551616 - t : Nat) : Int) := by have := HT.out; have := HMM.out; rw [IntKind.wrap_u64]; omega
      obtain ⟨cf, cs, cr, rf, -, ck, -, -⟩ := hSA
      clear hB hK hD hlm
      generalize 18446744073709551615 - t = M1 at *
      generalize 18446744073709551616 - t = M2 at *
      have q3 : (W.setCell ⟨w.heap.size + 1 + 1 + 1, 0, none⟩ (.bool true)).cell? ⟨w.heap.size + 1 + 1 + 1, 0, none⟩ = some (.bool true) := World.cell?_setCell_same' _ _ _ (by rw [cr]; rfl)
      have hK' := (KeepsOthers.setCell W ⟨w.heap.size + 1 + 1 + 1, 0, none⟩ (.bool true)).same D _ HK9.out rfl
      have HK' := Lib.hid hK'
      clear hK'
      gi_wp2
      refine ⟨by simp, .inl ⟨_, _, rfl, run_takeDeferred HK'.out, ?_⟩⟩
      have q4 := cell_kept q3 (grownBy_putObj' _ D (.deferred none)) (fun r e => by cases e; exact ⟨_, HK'.out, rfl⟩)
      refine ⟨.bool true, ?_, rfl, (HB9.out.setCell (p := ⟨w.heap.size + 1 + 1 + 1, 0, none⟩) (by simp; omega) _).trans (belowK_b (w := w) (Nat.le_refl _) _ D _ _ (Nat.le_trans HB4.out.size HD9.out) HK'.out rfl rfl)⟩
      simp [results, Tryz.f8, go_sem, q4]
    case stop =>
      rintro D c pre W hD ⟨k, hk, hpre⟩ ⟨h, hB⟩ hK
      rcases h with ⟨rfl, ini, last, he, hoff⟩ | ⟨rfl, hlen, hSA⟩
      · exact (no_off hk (hpre.symm.trans he) hoff).elim
      have hmk : m + 1 ≤ 18446744073709551616 - t := by rw [← hlen, hpre, tks_length]; exact hk
      rw [hlen] at hSA
      have HB9 := Lib.hid hB
      have HK9 := Lib.hid hK
      have HD9 := Lib.hid hD
      have e3 : IntKind.u64.wrap (m : Int) = (m : Int) := by have := HMM.out; rw [IntKind.wrap_u64]; omega
      have e4 : IntKind.u64.wrap (18446744073709551615 - (t : Int)) = ((18446744073709551615 - t : Nat) : Int) := by have := HT.out; rw [IntKind.wrap_u64]; omega
      have e5 : min (m : Int) ((18446744073709551615 - t : Nat) : Int) = (m : Int) := by omega
      have e6 : IntKind.u64.wrap ((m : Int) + 1) = ((m + 1 : Nat) : Int) := by have := HMM.out; rw [IntKind.wrap_u64]; omega
      obtain ⟨cf, cs, cr, rf, -, ck, -, -⟩ := hSA
      clear hB hK hD hlen hpre hk hmk
      generalize 18446744073709551615 - t = M1 at *
      generalize m + 1 = M2 at *
      have q3 : (W.setCell ⟨w.heap.size + 1 + 1 + 1, 0, none⟩ (.bool true)).cell? ⟨w.heap.size + 1 + 1 + 1, 0, none⟩ = some (.bool true) := World.cell?_setCell_same' _ _ _ (by rw [cr]; rfl)
      have hK' := (KeepsOthers.setCell W ⟨w.heap.size + 1 + 1 + 1, 0, none⟩ (.bool true)).same D _ HK9.out rfl
      have HK' := Lib.hid hK'
      clear hK'
      gi_wp2
      refine ⟨by simp, .inl ⟨_, _, rfl, run_takeDeferred HK'.out, ?_⟩⟩
      have q4 := cell_kept q3 (grownBy_putObj' _ D (.deferred none)) (fun r e => by cases e; exact ⟨_, HK'.out, rfl⟩)
      refine ⟨.bool true, ?_, rfl, (HB9.out.setCell (p := ⟨w.heap.size + 1 + 1 + 1, 0, none⟩) (by simp; omega) _).trans (belowK_b (w := w) (Nat.le_refl _) _ D _ _ (Nat.le_trans HB4.out.size HD9.out) HK'.out rfl rfl)⟩
      simp [results, Tryz.f8, go_sem, q4]
end Go.Proofs.YtokljdaofjgihaaGreatDoor
