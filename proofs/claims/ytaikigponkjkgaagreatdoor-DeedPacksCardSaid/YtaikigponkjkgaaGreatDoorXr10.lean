/-
 A part of the proof.
-/
import Derived.Test.YtaikigponkjkgaaGreatDoorXr09
import Derived.Deep.QuietTactic
import Derived.Deep.Upon
section
namespace Go.Proofs.YtaikigponkjkgaaGreatDoor
open Go.ChangeShapes Go.WideShapes Go.ChangeAt Go.RowKit
open Go.Lib (hid)
def hasP (h : List Hd.Pr) (x : Hd.Pr) : Bool := h.any fun y => prEq x y
theorem prEq_comm (x y : Hd.Pr) : prEq x y = prEq y x := by
 rw [prEq_iff, prEq_iff, Bool.eq_iff_iff, decide_eq_true_iff, decide_eq_true_iff]
 exact eq_comm
theorem hasP_yes {h : List Hd.Pr} {x : Hd.Pr} {k : Nat} (hk : k < h.length) (e : prEq x (Hd.pr h k) = true) : hasP h x = true :=
 List.any_eq_true.2 ⟨h[k], List.getElem_mem hk, by rw [Hd.pr_at hk] at e; exact e⟩
theorem hasP_no {h : List Hd.Pr} {x : Hd.Pr} (g : ∀ k, k < h.length → prEq x (Hd.pr h k) = false) : hasP h x = false := by
 unfold hasP
 rw [List.any_eq_false]
 intro y hy
 obtain ⟨i, hi, rfl⟩ := List.getElem_of_mem hy
 have := g i hi
 rw [Hd.pr_at hi] at this
 rw [this]; simp
theorem hasP_idx (h : List Hd.Pr) (x : Hd.Pr) : hasP h x = decide (idx (prEq x) h ≥ 0) := (idx_any _ _).symm
attribute [local go_sem] guardPr
set_option maxHeartbeats 2000000 in
theorem indexPrE_any (x : Hd.Pr) (l : List Hd.Pr) (A : Option Addr) (c : Nat) (w : World) (hl : l.length ≤ 100000) (hp : Prs w A l) :
  Calls Tryz.prog 154 #[.slice A l.length c, prV x] w fun e w' => e = .returned (.int .i64 (idx (prEq x) l)) ∧ Below w.heap.size w w' := by
 have HP := hid hp
 have HNONE := hid (fun h => idx_none (q := prEq x) (l := l) Hd.Pr.zero h)
 have HSOME := hid (fun k (hk : k < l.length) h hq => idx_some (q := prEq x) (l := l) Hd.Pr.zero hk h hq)
 clear hp
 generalize idx (prEq x) l = M at *
 obtain ⟨n, hn⟩ : ∃ n, n = l.length := ⟨_, rfl⟩
 rw [← hn]
 have HN := hid hn
 have hnl : n ≤ 100000 := by omega
 clear hn
 have HBX := hid (PrAt.new x w)
 have HB0 := hid (show Below w.heap.size w (w.alloc (.cells #[.string (ofL x.key), .int .u8 (x.kind : Int), .int .i64 x.num, .string (ofL x.txt)] 142)) from (Below.refl _ _).alloc (Nat.le_refl _) _)
 simp only [prV]
 go_enter Tryz.func154, Tryz.ntmps154
 go_wp2_with fail
 go_loopg [8] n (fun g i wr => ∃ k : Nat, k + g = n ∧ i = .int .i64 (k : Int) ∧ (∀ j, j < k → prEq x (l.getD j Hd.Pr.zero) = false) ∧ PrAt wr w.heap.size 0 x ∧ Below w.heap.size w wr)
 case atStart => exact ⟨0, by omega, rfl, fun j hj => absurd hj (by omega), HBX.out, HB0.out⟩
 case round =>
  obtain ⟨k, hk, rfl, hno, hbx, hB⟩ := hrel
  have HB := hid hB
  have HNO := hid hno
  have HBK := hid hbx
  have hwl : w.heap.size < wr.heap.size := World.block_lt_of_cell? wr _ hbx.c0
  clear hB hno hbx
  by_cases hlt : k < n
  ·obtain ⟨b, off, rfl, hbl, hat⟩ := (HP.out.on HB.out).at_ k (by have := HN.out; omega)
   obtain ⟨c0, c1, c2, c3⟩ := hat
   obtain ⟨d0, d1, d2, d3⟩ := HBK.out
   simp only [Nat.zero_add] at d0 d1 d2 d3
   have hq := fun W => pr_eq x (Hd.pr l k) W
   cases he : prEq x (Hd.pr l k) with
   | true =>
    have HM := hid (HSOME.out k (by have := HN.out; omega) HNO.out he)
    rw [he] at hq
    clear he
    generalize Hd.pr l k = y at *
    obtain ⟨y1, y2, y3, y4⟩ := y
    simp only [prV] at hq c0 c1 c2 c3
    go_wp2_with fail
    go_quiet (fail)
    go_wp2_with fail
    go_ret
    exact ⟨ret_int HM.out.symm, drewN_below HB.out _⟩
   | false =>
    have HNX : Hid (∀ j, j < k + 1 → prEq x (l.getD j Hd.Pr.zero) = false) := fun j hj => by
     by_cases e : j = k
     ·rw [e]; exact he
     ·exact HNO.out j (by omega)
    rw [he] at hq
    clear he
    generalize Hd.pr l k = y at *
    obtain ⟨y1, y2, y3, y4⟩ := y
    simp only [prV] at hq c0 c1 c2 c3
    go_wp2_with fail
    go_quiet (fail)
    go_wp2_with fail
    go_roundg (gk - 1)
    case rel => exact ⟨k + 1, by omega, by go_num, HNX.out, ⟨HBK.out.c0, HBK.out.c1, HBK.out.c2, HBK.out.c3⟩, drewN_below HB.out _⟩
    case measure => omega
  ·have HM := hid (HNONE.out (fun i hi => HNO.out i (by have := HN.out; omega)))
   go_wp2_with fail
   go_ret
   exact ⟨ret_int HM.out.symm, HB.out⟩
theorem containsPr_any (x : Hd.Pr) (l : List Hd.Pr) (A : Option Addr) (c : Nat) (w : World) (hl : l.length ≤ 100000) (hp : Prs w A l) :
  Calls Tryz.prog 152 #[.slice A l.length c, prV x] w fun e w' => e = .returned (.bool (hasP l x)) ∧ Below w.heap.size w w' := by
 rw [hasP_idx]
 have HP := hid hp
 have HC := hid (fun W h => indexPrE_any x l A c W hl h)
 have HB0 := hid (show Below w.heap.size w (w.alloc (.cells #[.string (ofL x.key), .int .u8 (x.kind : Int), .int .i64 x.num, .string (ofL x.txt)] 142)) from (Below.refl _ _).alloc (Nat.le_refl _) _)
 have HP0 := hid (HP.out.on HB0.out)
 clear hp
 generalize idx (prEq x) l = M at *
 simp only [prV] at HC ⊢
 go_enter Tryz.func152, Tryz.ntmps152
 go_wp2_with fail
 refine (HC.out _ HP0.out).mono ?_
 rintro e w1 ⟨rfl, hB⟩
 have HB1 := hid (bthen HB0.out hB (Nat.le_refl _))
 clear hB
 go_wp2_with fail
 go_ret
 exact ⟨rfl, HB1.out⟩
theorem hasOne1_any (x : Hd.Pr) (h : List Hd.Pr) (A : Option Addr) (c b : Nat) (w : World) (hl : h.length ≤ 100000) (hp : Prs w A h) (hb : w.cell? ⟨b, 0, none⟩ = some (.slice A h.length c)) :
  Calls Tryz.prog 151 #[prV x, .pointer (some ⟨b, 0, none⟩)] w fun e w' => e = .returned (.bool (hasP h x)) ∧ Below w.heap.size w w' := by
 have hbl := World.block_lt_of_cell? w _ hb
 simp only at hbl
 have HP := hid hp
 have HC := hid (fun W h' => containsPr_any x h A c W hl h')
 have HB0 := hid (show Below w.heap.size w (w.alloc (.cells #[.string (ofL x.key), .int .u8 (x.kind : Int), .int .i64 x.num, .string (ofL x.txt)] 142)) from (Below.refl _ _).alloc (Nat.le_refl _) _)
 have HP0 := hid (HP.out.on HB0.out)
 clear hp
 generalize hasP h x = M at *
 simp only [prV] at HC ⊢
 go_enter Tryz.func151, Tryz.ntmps151
 go_wp2_with fail
 refine (HC.out _ HP0.out).mono ?_
 rintro e w1 ⟨rfl, hB⟩
 have HB1 := hid (bthen HB0.out hB (Nat.le_refl _))
 clear hB
 go_wp2_with fail
 go_ret
 exact ⟨rfl, HB1.out⟩
theorem hasOne1_tells (h : List Hd.Pr) (A : Option Addr) (c b : Nat) (w : World) (hl : h.length ≤ 100000) (hp : Prs w A h) (hb : w.cell? ⟨b, 0, none⟩ = some (.slice A h.length c)) : TellsPr 151 #[.pointer (some ⟨b, 0, none⟩)] (hasP h) w := fun W x hB =>
 hasOne1_any x h A c b W hl (hp.on hB) ((hB.cell (p := ⟨b, 0, none⟩) (World.block_lt_of_cell? w _ hb)).trans hb)
theorem contFPr_any (f : Nat) (b : Nat) (hf : f = 147 ∨ f = 151) (q : Hd.Pr → Bool) (l : List Hd.Pr) (A : Option Addr) (c : Nat) (w : World) (hl : l.length ≤ 100000) (hp : Prs w A l) (ht : TellsPr f #[.pointer (some ⟨b, 0, none⟩)] q w) :
  Calls Tryz.prog 150 #[.slice A l.length c, .func (.func f) #[] #[.pointer (some ⟨b, 0, none⟩)]] w fun e w' => e = .returned (.bool (l.any q)) ∧ Below w.heap.size w w' := by
 rw [← idx_any]
 have HC := hid (indexPr_any f b hf q l A c w hl hp ht)
 clear hp ht hf
 generalize idx q l = M at *
 go_enter Tryz.func150, Tryz.ntmps150
 go_wp2_with fail
 refine HC.out.mono ?_
 rintro e w1 ⟨rfl, hB⟩
 have HB1 := hid hB
 clear hB
 go_wp2_with fail
 go_ret
 exact ⟨rfl, HB1.out⟩
theorem hasOne_any (h m : List Hd.Pr) (A : Option Addr) (c : Nat) (B : Option Addr) (d : Nat) (w : World) (hh : h.length ≤ 100000) (hm : m.length ≤ 100000) (hA : Prs w A h) (hB : Prs w B m) :
  Calls Tryz.prog 144 #[.slice A h.length c, .slice B m.length d] w fun e w' => e = .returned (.bool (m.any (hasP h))) ∧ Below w.heap.size w w' := by
 have HB0 := hid (show Below w.heap.size w (w.alloc (.cells #[.slice A h.length c] 46)) from (Below.refl _ _).alloc (Nat.le_refl _) _)
 have HC := hid (contFPr_any 151 w.heap.size (Or.inr rfl) (hasP h) m B d (w.alloc (.cells #[.slice A h.length c] 46)) hm (hB.on HB0.out) (hasOne1_tells h A c w.heap.size _ hh (hA.on HB0.out) (cell_new _ _ _ _ _ rfl)))
 clear hA hB
 generalize m.any (hasP h) = M at *
 go_enter Tryz.func144, Tryz.ntmps144
 go_wp2_with fail
 refine HC.out.mono ?_
 rintro e w1 ⟨rfl, hB⟩
 have HB1 := hid (bthen HB0.out hB (Nat.le_refl _))
 clear hB
 go_wp2_with fail
 go_ret
 exact ⟨rfl, HB1.out⟩
theorem each_no {h m : List Hd.Pr} {k : Nat} (hk : k < m.length) (e : hasP h (Hd.pr m k) = false) : m.all (hasP h) = false := by
 rw [List.all_eq_false]
 exact ⟨m[k], List.getElem_mem hk, by rw [Hd.pr_at hk] at e; rw [e]; simp⟩
theorem each_yes {h m : List Hd.Pr} (g : ∀ k, k < m.length → hasP h (Hd.pr m k) = true) : m.all (hasP h) = true := by
 rw [List.all_eq_true]
 intro x hx
 obtain ⟨i, hi, rfl⟩ := List.getElem_of_mem hx
 have := g i hi
 rwa [Hd.pr_at hi] at this
attribute [local go_sem] guardPr
def EachIn (h : List Hd.Pr) (x : Hd.Pr) (w : World) (p n g : Nat) (i : Value) (wr : World) : Prop :=
 ∃ j : Nat, j + g = n ∧ i = .int .i64 (j : Int) ∧ (∀ t, t < j → prEq x (Hd.pr h t) = false) ∧ PrAt wr p 0 x ∧ Below w.heap.size w wr
set_option maxRecDepth 100000 in
set_option maxHeartbeats 4000000 in
theorem hasEach_any (h m : List Hd.Pr) (A : Option Addr) (c : Nat) (B : Option Addr) (d : Nat) (w : World) (hh : h.length ≤ 100000) (hm : m.length ≤ 100000) (hA : Prs w A h) (hB : Prs w B m) :
  Calls Tryz.prog 143 #[.slice A h.length c, .slice B m.length d] w fun e w' => e = .returned (.bool (m.all (hasP h))) ∧ Below w.heap.size w w' := by
 have HA := hid hA
 have HB := hid hB
 have HNO := hid (fun k hk e => each_no (h := h) (m := m) (k := k) hk e)
 have HYES := hid (fun g => each_yes (h := h) (m := m) g)
 clear hA hB
 generalize m.all (hasP h) = M at *
 obtain ⟨n, hn⟩ : ∃ n, n = h.length := ⟨_, rfl⟩
 obtain ⟨o, ho⟩ : ∃ o, o = m.length := ⟨_, rfl⟩
 rw [← hn, ← ho]
 have HN := hid hn
 have HO := hid ho
 have hnl : n ≤ 100000 := by omega
 have hol : o ≤ 100000 := by omega
 clear hn ho
 go_enter Tryz.func143, Tryz.ntmps143
 go_wp2_with fail
 go_step3
 go_wp2_with fail
 go_step3
 go_wp2_with fail
 go_loopg [11] o (fun g i wr => ∃ k : Nat, k + g = o ∧ i = .int .i64 (k : Int) ∧ (∀ t, t < k → hasP h (Hd.pr m t) = true) ∧ Below w.heap.size w wr)
 case atStart => exact ⟨0, by omega, rfl, fun t ht => absurd ht (by omega), Below.refl _ _⟩
 case round =>
  obtain ⟨k, hk, rfl, hall, hBl⟩ := hrel
  have HBL := hid hBl
  have HALL := hid hall
  clear hBl hall
  by_cases hlt : k < o
  ·obtain ⟨b, off, rfl, hbl, hat⟩ := (HB.out.on HBL.out).at_ k (by have := HO.out; omega)
   obtain ⟨x, hx⟩ : ∃ x, Hd.pr m k = x := ⟨_, rfl⟩
   have HX := hid hx
   rw [hx] at hat
   clear hx
   have HBX := hid (PrAt.new x wr)
   have HB1 := hid (HBL.out.alloc HBL.out.size (.cells #[.string (ofL x.key), .int .u8 (x.kind : Int), .int .i64 x.num, .string (ofL x.txt)] 142))
   obtain ⟨c0, c1, c2, c3⟩ := hat
   go_wp2_with fail
   generalize wr.alloc (.cells #[.string (ofL x.key), .int .u8 (x.kind : Int), .int .i64 x.num, .string (ofL x.txt)] 142) = w1 at *
   obtain ⟨p, hp⟩ : ∃ p, p = wr.heap.size := ⟨_, rfl⟩
   rw [← hp] at HBX ⊢
   clear hp c0 c1 c2 c3 hbl
   obtain ⟨g0, hg0⟩ : ∃ g0, g0 = gk := ⟨_, rfl⟩
   go_loopg [17] n (fun g i wr => EachIn h x w p n g i wr)
   case atStart => exact ⟨0, by omega, rfl, fun t ht => absurd ht (by omega), HBX.out, HB1.out⟩
   case round =>
    obtain ⟨j, hj, rfl, hno, hbx, hB2⟩ := hrel
    have HB2 := hid hB2
    have HNJ := hid hno
    have HBJ := hid hbx
    clear hB2 hno hbx
    by_cases hlj : j < n
    ·obtain ⟨b2, off2, rfl, hbl2, hat2⟩ := (HA.out.on HB2.out).at_ j (by have := HN.out; omega)
     obtain ⟨d0, d1, d2, d3⟩ := HBJ.out
     simp only [Nat.zero_add] at d0 d1 d2 d3
     have hpl := World.block_lt_of_cell? _ _ d0
     simp only at hpl
     have hq := fun W => pr_eq (Hd.pr h j) x W
     cases he : prEq x (Hd.pr h j) with
     | true =>
      have HF := hid (show ∀ t, t < k + 1 → hasP h (Hd.pr m t) = true from fun t ht => by
       by_cases e : t = k
       ·rw [e, HX.out]; exact hasP_yes (k := j) (by have := HN.out; omega) he
       ·exact HALL.out t (by omega))
      rw [prEq_comm, he] at hq
      clear he
      generalize Hd.pr h j = y at *
      obtain ⟨y1, y2, y3, y4⟩ := y
      obtain ⟨x1, x2, x3, x4⟩ := x
      obtain ⟨c0, c1, c2, c3⟩ := hat2
      simp only [prV] at hq c0 c1 c2 c3 d0 d1 d2 d3
      go_wp2_with fail
      go_roundg (g0 - 1)
      case rel => exact ⟨k + 1, by omega, by go_num, HF.out, HB2.out.alloc HB2.out.size _⟩
      case measure => omega
     | false =>
      have HNX := hid (show ∀ t, t < j + 1 → prEq x (Hd.pr h t) = false from fun t ht => by
       by_cases e : t = j
       ·rw [e]; exact he
       ·exact HNJ.out t (by omega))
      rw [prEq_comm, he] at hq
      clear he
      generalize Hd.pr h j = y at *
      obtain ⟨y1, y2, y3, y4⟩ := y
      obtain ⟨x1, x2, x3, x4⟩ := x
      obtain ⟨c0, c1, c2, c3⟩ := hat2
      simp only [prV] at hq c0 c1 c2 c3 d0 d1 d2 d3
      have HBY := hid (HBJ.out.below ((Below.refl _ _).alloc (Nat.le_refl _) (.cells #[.string (ofL y1), .int .u8 (y2 : Int), .int .i64 y3, .string (ofL y4)] 142)) hpl)
      go_wp2_with fail
      go_roundg (gk - 1)
      case rel => exact ⟨j + 1, by omega, by go_num, HNX.out, HBY.out, HB2.out.alloc HB2.out.size _⟩
      case measure => omega
    ·have HF := hid (HNO.out k (by have := HO.out; omega) (by rw [HX.out]; exact hasP_no fun t ht => HNJ.out t (by have := HN.out; omega)))
     go_wp2_with fail
     rw [Exit.noGoto_ret]
     go_ret
     exact ⟨ret_bool HF.out.symm, HB2.out⟩
  ·have HF := hid (HYES.out (fun t ht => HALL.out t (by have := HO.out; omega)))
   go_wp2_with fail
   rw [Exit.noGoto_ret]
   go_ret
   exact ⟨ret_bool HF.out.symm, HBL.out⟩
structure Ru where
 sort : Nat
 key : List UInt8
 want : List Hd.Pr
 all : Bool
def ruV (r : Ru) (A : Option Addr) (c : Nat) : Value := .agg #[.int .u8 (r.sort : Int), .string (ofL r.key), .slice A r.want.length c, .bool r.all]
def ruL (r : Ru) (A : Option Addr) (c : Nat) : List Value := [.int .u8 (r.sort : Int), .string (ofL r.key), .slice A r.want.length c, .bool r.all]
def kcode (r : Ru) : Nat := if r.sort = 0 then Wrd.keyCode [] r.key else Wrd.keyCode wild r.key
def ruCode (r : Ru) : Nat := if 3 < r.sort then 8 else if kcode r ≠ 0 then kcode r else Hd.hcode r.want
theorem ru_kind {r : Ru} (h : 3 < r.sort) : ruCode r = 8 := by unfold ruCode; rw [if_pos h]
theorem ru_key {r : Ru} (h : ¬ 3 < r.sort) (hk : kcode r ≠ 0) : ruCode r = kcode r := by unfold ruCode; rw [if_neg h, if_pos hk]
theorem ru_want {r : Ru} (h : ¬ 3 < r.sort) (hk : kcode r = 0) : ruCode r = Hd.hcode r.want := by unfold ruCode; rw [if_neg h, if_neg (by omega)]
structure RuOk (w : World) (r : Ru) (A : Option Addr) (c : Nat) : Prop where
 key : r.key.length ≤ 90000
 len : r.want.length ≤ 100000
 cap : r.want.length ≤ c
 lite : Lite r.want
 row : Prs w A r.want
theorem RuOk.on {w w' : World} {r : Ru} {A : Option Addr} {c : Nat} (h : RuOk w r A c) (hb : Below w.heap.size w w') : RuOk w' r A c := ⟨h.key, h.len, h.cap, h.lite, h.row.on hb⟩
theorem ruBox (r : Ru) (A : Option Addr) (c : Nat) (w : World) (t : TypeId) : Cels (w.alloc (.cells #[.int .u8 (r.sort : Int), .string (ofL r.key), .slice A r.want.length c, .bool r.all] t)) w.heap.size (ruL r A c) := Cels.new w _ t
theorem checkKey_any (r : Ru) (A : Option Addr) (c : Nat) (w : World) (h : RuOk w r A c) (hL : Len w) :
  Calls Tryz.prog 142 #[ruV r A c] w fun e w' => e = .returned (.int .i64 (kcode r : Int)) ∧ Below w.heap.size w w' := by
 have HB0 := hid (show Below w.heap.size w (w.alloc (.cells #[.int .u8 (r.sort : Int), .string (ofL r.key), .slice A r.want.length c, .bool r.all] 172)) from (Below.refl _ _).alloc (Nat.le_refl _) _)
 have HL0 := hid (hL.on HB0.out)
 have hkl := h.key
 have HK := hid (fun W h => key_any r.key W (by omega) h)
 have HPT := hid (fun W h => pattern_any r.key W (by omega) h)
 have HC : Hid (kcode r = if r.sort = 0 then Wrd.keyCode [] r.key else Wrd.keyCode wild r.key) := rfl
 simp only [ruV]
 by_cases h0 : r.sort = 0
 ·have HCC := hid (show kcode r = Wrd.keyCode [] r.key by rw [HC.out, if_pos h0])
  have hz : ((r.sort : Int) == 0) = true := by rw [h0]; rfl
  clear h0 h hL
  go_enter Tryz.func142, Tryz.ntmps142
  go_wp2_with fail
  refine (HK.out _ HL0.out).mono ?_
  rintro e w1 ⟨rfl, b1⟩
  have HB1 := hid (bthen HB0.out b1 (Nat.le_refl _))
  clear b1
  go_wp2_with fail
  go_ret
  exact ⟨ret_nat (by rw [HCC.out]), HB1.out⟩
 ·have HCC := hid (show kcode r = Wrd.keyCode wild r.key by rw [HC.out, if_neg h0])
  have hz : ((r.sort : Int) == 0) = false := beq_eq_false_iff_ne.2 (by omega)
  clear h0 h hL
  go_enter Tryz.func142, Tryz.ntmps142
  go_wp2_with fail
  refine (HPT.out _ HL0.out).mono ?_
  rintro e w1 ⟨rfl, b1⟩
  have HB1 := hid (bthen HB0.out b1 (Nat.le_refl _))
  clear b1
  go_wp2_with fail
  go_ret
  exact ⟨ret_nat (by rw [HCC.out]), HB1.out⟩
set_option maxHeartbeats 2000000 in
theorem mCheck_any (r : Ru) (A : Option Addr) (c : Nat) (w : World) (h : RuOk w r A c) (hL : Len w) :
  Calls Tryz.prog 131 #[ruV r A c] w fun e w' => e = .returned (.int .i64 (ruCode r : Int)) ∧ Below w.heap.size w w' := by
 have HB0 := hid (show Below w.heap.size w (w.alloc (.cells #[.int .u8 (r.sort : Int), .string (ofL r.key), .slice A r.want.length c, .bool r.all] 172)) from (Below.refl _ _).alloc (Nat.le_refl _) _)
 have HX0 := hid (ruBox r A c w 172)
 have HL0 := hid (hL.on HB0.out)
 have HR0 := hid (h.on HB0.out)
 have HCK := hid (fun W h h' => checkKey_any r A c W h h')
 have HHC := hid (fun W h' => hCheck_any r.want A c W h.len h.cap h.lite h')
 have H1 := hid (fun g => ru_kind (r := r) g)
 have H2 := hid (fun g k => ru_key (r := r) g k)
 have H3 := hid (fun g k => ru_want (r := r) g k)
 clear h hL
 generalize ruCode r = C at *
 generalize kcode r = K at *
 generalize Hd.hcode r.want = H at *
 simp only [ruV] at HCK ⊢
 by_cases h3 : 3 < r.sort
 ·have HC := hid (H1.out h3)
  have hz : decide ((3 : Int) < (r.sort : Int)) = true := decide_eq_true (by omega)
  clear h3
  go_enter Tryz.func131, Tryz.ntmps131
  go_wp2_with fail
  go_ret
  exact ⟨ret_nat (by rw [HC.out]; rfl), HB0.out⟩
 ·have hz : decide ((3 : Int) < (r.sort : Int)) = false := decide_eq_false (by omega)
  by_cases hk : K = 0
  ·have HC := hid (H3.out h3 hk)
   have hk0 := code_eq hk
   clear h3 hk
   go_enter Tryz.func131, Tryz.ntmps131
   go_wp2_with fail
   refine (HCK.out _ HR0.out HL0.out).mono ?_
   rintro e w1 ⟨rfl, b1⟩
   have HX1 := hid (HX0.out.on b1 (by simp))
   have HB1 := hid (bthen HB0.out b1 (Nat.le_refl _))
   have HR1 := hid (HR0.out.on b1)
   have hlt1 : w.heap.size < w1.heap.size := by have := b1.size; simp at this; omega
   clear b1
   have c2 := HX1.out 2 _ rfl
   go_wp2_with fail
   refine (HHC.out _ HR1.out.row).mono ?_
   rintro e w2 ⟨rfl, b2⟩
   have HB2 := hid (bthen HB1.out b2 (Nat.le_refl _))
   clear b2
   go_wp2_with fail
   go_ret
   exact ⟨ret_nat (by rw [HC.out]), HB2.out⟩
  ·have HC := hid (H2.out h3 hk)
   have hk0 := code_ne hk
   clear h3 hk
   go_enter Tryz.func131, Tryz.ntmps131
   go_wp2_with fail
   refine (HCK.out _ HR0.out HL0.out).mono ?_
   rintro e w1 ⟨rfl, b1⟩
   have HB1 := hid (bthen HB0.out b1 (Nat.le_refl _))
   clear b1
   go_wp2_with fail
   go_ret
   exact ⟨ret_nat (by rw [HC.out]), HB1.out⟩
end Go.Proofs.YtaikigponkjkgaaGreatDoor
end
