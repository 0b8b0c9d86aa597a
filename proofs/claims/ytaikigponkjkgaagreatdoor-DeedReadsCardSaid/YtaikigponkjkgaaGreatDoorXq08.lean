/-
 A part of the proof.
-/
import Derived.Test.YtaikigponkjkgaaGreatDoorXq07
import Derived.Deep.RegionWith
import Derived.Test.YtaikigponkjkgaaGreatDoorShelfWords
import Derived.Lib.SplitLaws
section
namespace Go.Proofs.YtaikigponkjkgaaGreatDoor
open Go.ChangeShapes Go.WideShapes Go.ChangeAt Go.RowKit
open Go.Lib (hid)
set_option maxRecDepth 100000
def Lite (l : List Hd.Pr) : Prop := ∀ i, i < l.length → (Hd.pr l i).key.length ≤ 100000 ∧ (Hd.pr l i).txt.length ≤ 100000
theorem hcode_many {l : List Hd.Pr} (h : 8 < l.length) : Hd.hcode l = 6 := by unfold Hd.hcode; rw [if_pos h]
theorem hcode_all {l : List Hd.Pr} (h : ¬ 8 < l.length) (g : ∀ i, i < l.length → Hd.pcode (Hd.pr l i) (l.take i) = 0) : Hd.hcode l = 0 := by unfold Hd.hcode; rw [if_neg h]; exact Hd.scan_zero g
theorem hcode_at {l : List Hd.Pr} {k : Nat} (h : ¬ 8 < l.length) (hk : k < l.length) (g : ∀ i, i < k → Hd.pcode (Hd.pr l i) (l.take i) = 0) (hb : Hd.pcode (Hd.pr l k) (l.take k) ≠ 0) : Hd.hcode l = Hd.pcode (Hd.pr l k) (l.take k) := by
 unfold Hd.hcode
 rw [if_neg h]
 exact Hd.scan_at (f := fun i => Hd.pcode (Hd.pr l i) (l.take i)) hk g hb
theorem hcheck_any_at (l : List Hd.Pr) (b off c k : Nat) (x : Hd.Pr) (hx : Hd.pr l k = x) (hk : k < l.length) (hl : l.length ≤ 8) (hL : Lite l) (W : World) (h : Prs W (some ⟨b, off, none⟩) l) :
  Calls Tryz.prog 120 #[.agg #[.string (ofL x.key), .int .u8 (x.kind : Int), .int .i64 x.num, .string (ofL x.txt)], .slice (some ⟨b, off, none⟩) k c] W fun e w' => e = .returned (.int .i64 (Hd.pcode (Hd.pr l k) (l.take k) : Int)) ∧ Below W.heap.size W w' := by
 have := hcheck_any x.key x.kind x.num x.txt (l.take k) (some ⟨b, off, none⟩) c W (by rw [← hx]; exact (hL k hk).1) (by rw [← hx]; exact (hL k hk).2) (by rw [List.length_take]; omega) (h.take k)
 rw [List.length_take, Nat.min_eq_left (by omega)] at this
 rw [hx]
 exact this
set_option maxHeartbeats 4000000 in
theorem hCheck_any (l : List Hd.Pr) (A : Option Addr) (c : Nat) (w : World) (hl : l.length ≤ 100000) (hc : l.length ≤ c) (hL : Lite l) (hp : Prs w A l) :
  Calls Tryz.prog 102 #[.slice A l.length c] w fun e w' => e = .returned (.int .i64 (Hd.hcode l : Int)) ∧ Below w.heap.size w w' := by
 have HP := hid hp
 have HLT := hid hL
 clear hp hL
 obtain ⟨n, hn⟩ : ∃ n, n = l.length := ⟨_, rfl⟩
 by_cases h8 : 8 < l.length
 ·have HC := hid (hcode_many h8)
  go_enter Tryz.func102, Tryz.ntmps102
  go_wp2_with fail
  go_ret
  exact ⟨ret_nat (by rw [HC.out]; rfl), Below.refl _ _⟩
 ·have HALL := hid (fun g => hcode_all (l := l) h8 g)
  have HAT := hid (fun k hk g hb => hcode_at (l := l) (k := k) h8 hk g hb)
  have HN := hid hn
  rw [← hn]
  rw [← hn] at h8 hl hc
  clear hn
  go_enter Tryz.func102, Tryz.ntmps102
  go_wp2_with fail
  go_loopg [11] n (fun g i wr => ∃ k : Nat, k + g = n ∧ i = .int .i64 (k : Int) ∧ (∀ j, j < k → Hd.pcode (Hd.pr l j) (l.take j) = 0) ∧ Below w.heap.size w wr)
  case atStart => exact ⟨0, by omega, rfl, fun j hj => absurd hj (by omega), Below.refl _ _⟩
  case round =>
   obtain ⟨k, hk, rfl, hno, hBl⟩ := hrel
   have HBL := hid hBl
   have HNO := hid hno
   clear hBl hno
   by_cases hlt : k < n
   ·have hkl : k < l.length := by have := HN.out; omega
    obtain ⟨b, off, rfl, hbl, hat⟩ := (HP.out.on HBL.out).at_ k hkl
    obtain ⟨x, hx⟩ : ∃ x, Hd.pr l k = x := ⟨_, rfl⟩
    have HCALL := hid (fun W h => hcheck_any_at l b off c k x hx hkl (by have := HN.out; omega) HLT.out W h)
    have HPR := hid (HP.out.on HBL.out)
    have HBX := hid (PrAt.new x wr)
    have HQ := hid (fun hb => HAT.out k hkl HNO.out hb)
    have HNX : Hid (Hd.pcode (Hd.pr l k) (l.take k) = 0 → ∀ j, j < k + 1 → Hd.pcode (Hd.pr l j) (l.take j) = 0) := fun h j hj => by
     by_cases e : j = k
     ·rw [e]; exact h
     ·exact HNO.out j (by omega)
    rw [hx] at hat
    generalize Hd.pcode (Hd.pr l k) (l.take k) = D at *
    clear hx
    obtain ⟨x1, x2, x3, x4⟩ := x
    obtain ⟨c0, c1, c2, c3⟩ := hat
    simp only at HCALL c0 c1 c2 c3
    try simp only at HBX
    have hkc : k ≤ c := by omega
    clear hkl
    go_wp2_with fail
    refine region_tail 4 (by kernel_rfl) (by kernel_rfl) ?_
    simp only [List.take_succ_cons, List.take_zero, List.drop_succ_cons, List.drop_zero]
    obtain ⟨y0, y1, y2, y3⟩ := HBX.out
    repeat still_step
    refine wpStill_nil ?_
    go_wp2_with fail
    have HS0 := hid (((Below.refl wr.heap.size wr).alloc (Nat.le_refl _) (.cells #[.string (ofL x1), .int .u8 (x2 : Int), .int .i64 x3, .string (ofL x4)] 142)).drew)
    with_reducible refine (HCALL.out _ (HPR.out.on HS0.out)).mono ?_
    rintro e w1 ⟨rfl, hB⟩
    have HB1 := hid (bthen (bthen HBL.out HS0.out (Nat.le_refl _)) hB (Nat.le_refl _))
    clear hB
    by_cases hD : D = 0
    ·have hne2 := code_eq hD
     have HNX := hid (HNX.out hD)
     clear hD
     go_wp2_with fail
     go_roundg (gk - 1)
     case rel => exact ⟨k + 1, by omega, by go_num, HNX.out, HB1.out⟩
     case measure => omega
    ·have hne2 := code_ne hD
     have HE := hid (HQ.out hD)
     clear hD
     go_wp2_with fail
     go_ret
     exact ⟨ret_nat (by rw [HE.out]), HB1.out⟩
   ·have HE := hid (HALL.out (fun i hi => HNO.out i (by have := HN.out; omega)))
    go_wp2_with fail
    go_ret
    exact ⟨ret_nat (by rw [HE.out]; rfl), HBL.out⟩
theorem rpair_any_at (l : List Hd.Pr) (b off c k : Nat) (x : Hd.Pr) (hx : Hd.pr l k = x) (hk : k < l.length) (hl : l.length ≤ 8) (hL : Lite l) (W : World) (h : Prs W (some ⟨b, off, none⟩) l) :
  Calls Tryz.prog 117 #[.agg #[.string (ofL x.key), .int .u8 (x.kind : Int), .int .i64 x.num, .string (ofL x.txt)], .slice (some ⟨b, off, none⟩) k c] W fun e w' => e = .returned (.int .i64 (Hd.pcode (Hd.pr l k) (l.take k) : Int)) ∧ Below W.heap.size W w' := by
 have := rpair_any x.key x.kind x.num x.txt (l.take k) (some ⟨b, off, none⟩) c W (by rw [← hx]; exact (hL k hk).1) (by rw [← hx]; exact (hL k hk).2) (by rw [List.length_take]; omega) (h.take k)
 rw [List.length_take, Nat.min_eq_left (by omega)] at this
 rw [hx]
 exact this
set_option maxHeartbeats 4000000 in
theorem rCheck9_any (l : List Hd.Pr) (A : Option Addr) (c : Nat) (w : World) (hl : l.length ≤ 100000) (hc : l.length ≤ c) (hL : Lite l) (hp : Prs w A l) :
  Calls Tryz.prog 92 #[.slice A l.length c] w fun e w' => e = .returned (.int .i64 (Hd.hcode l : Int)) ∧ Below w.heap.size w w' := by
 have HP := hid hp
 have HLT := hid hL
 clear hp hL
 obtain ⟨n, hn⟩ : ∃ n, n = l.length := ⟨_, rfl⟩
 by_cases h8 : 8 < l.length
 ·have HC := hid (hcode_many h8)
  go_enter Tryz.func92, Tryz.ntmps92
  go_wp2_with fail
  go_ret
  exact ⟨ret_nat (by rw [HC.out]; rfl), Below.refl _ _⟩
 ·have HALL := hid (fun g => hcode_all (l := l) h8 g)
  have HAT := hid (fun k hk g hb => hcode_at (l := l) (k := k) h8 hk g hb)
  have HN := hid hn
  rw [← hn]
  rw [← hn] at h8 hl hc
  clear hn
  go_enter Tryz.func92, Tryz.ntmps92
  go_wp2_with fail
  go_loopg [11] n (fun g i wr => ∃ k : Nat, k + g = n ∧ i = .int .i64 (k : Int) ∧ (∀ j, j < k → Hd.pcode (Hd.pr l j) (l.take j) = 0) ∧ Below w.heap.size w wr)
  case atStart => exact ⟨0, by omega, rfl, fun j hj => absurd hj (by omega), Below.refl _ _⟩
  case round =>
   obtain ⟨k, hk, rfl, hno, hBl⟩ := hrel
   have HBL := hid hBl
   have HNO := hid hno
   clear hBl hno
   by_cases hlt : k < n
   ·have hkl : k < l.length := by have := HN.out; omega
    obtain ⟨b, off, rfl, hbl, hat⟩ := (HP.out.on HBL.out).at_ k hkl
    obtain ⟨x, hx⟩ : ∃ x, Hd.pr l k = x := ⟨_, rfl⟩
    have HCALL := hid (fun W h => rpair_any_at l b off c k x hx hkl (by have := HN.out; omega) HLT.out W h)
    have HPR := hid (HP.out.on HBL.out)
    have HBX := hid (PrAt.new x wr)
    have HQ := hid (fun hb => HAT.out k hkl HNO.out hb)
    have HNX : Hid (Hd.pcode (Hd.pr l k) (l.take k) = 0 → ∀ j, j < k + 1 → Hd.pcode (Hd.pr l j) (l.take j) = 0) := fun h j hj => by
     by_cases e : j = k
     ·rw [e]; exact h
     ·exact HNO.out j (by omega)
    rw [hx] at hat
    generalize Hd.pcode (Hd.pr l k) (l.take k) = D at *
    clear hx
    obtain ⟨x1, x2, x3, x4⟩ := x
    obtain ⟨c0, c1, c2, c3⟩ := hat
    simp only at HCALL c0 c1 c2 c3
    try simp only at HBX
    have hkc : k ≤ c := by omega
    clear hkl
    go_wp2_with fail
    refine region_tail 4 (by kernel_rfl) (by kernel_rfl) ?_
    simp only [List.take_succ_cons, List.take_zero, List.drop_succ_cons, List.drop_zero]
    obtain ⟨y0, y1, y2, y3⟩ := HBX.out
    repeat still_step
    refine wpStill_nil ?_
    go_wp2_with fail
    have HS0 := hid (((Below.refl wr.heap.size wr).alloc (Nat.le_refl _) (.cells #[.string (ofL x1), .int .u8 (x2 : Int), .int .i64 x3, .string (ofL x4)] 142)).drew)
    with_reducible refine (HCALL.out _ (HPR.out.on HS0.out)).mono ?_
    rintro e w1 ⟨rfl, hB⟩
    have HB1 := hid (bthen (bthen HBL.out HS0.out (Nat.le_refl _)) hB (Nat.le_refl _))
    clear hB
    by_cases hD : D = 0
    ·have hne2 := code_eq hD
     have HNX := hid (HNX.out hD)
     clear hD
     go_wp2_with fail
     go_roundg (gk - 1)
     case rel => exact ⟨k + 1, by omega, by go_num, HNX.out, HB1.out⟩
     case measure => omega
    ·have hne2 := code_ne hD
     have HE := hid (HQ.out hD)
     clear hD
     go_wp2_with fail
     go_ret
     exact ⟨ret_nat (by rw [HE.out]), HB1.out⟩
   ·have HE := hid (HALL.out (fun i hi => HNO.out i (by have := HN.out; omega)))
    go_wp2_with fail
    go_ret
    exact ⟨ret_nat (by rw [HE.out]; rfl), HBL.out⟩
def lightB (l : List Hd.Pr) : Bool := decide (l.length ≤ 12) && l.all fun p => decide (p.key.length ≤ 40) && decide (p.txt.length ≤ 100)
theorem light_lite {l : List Hd.Pr} (h : lightB l = true) : l.length ≤ 12 ∧ Lite l ∧ ∀ p ∈ l, p.key.length ≤ 40 ∧ p.txt.length ≤ 100 := by
 unfold lightB at h
 rw [Bool.and_eq_true, decide_eq_true_eq, List.all_eq_true] at h
 have h2 : ∀ p ∈ l, p.key.length ≤ 40 ∧ p.txt.length ≤ 100 := fun p hp => by
  have := h.2 p hp
  rw [Bool.and_eq_true, decide_eq_true_eq, decide_eq_true_eq] at this
  exact this
 refine ⟨h.1, fun i hi => ?_, h2⟩
 rw [Hd.pr_at hi]
 have := h2 _ (List.getElem_mem hi)
 omega
theorem light_no {l : List Hd.Pr} {k : Nat} (hk : k < l.length) (h : (decide (40 < (Hd.pr l k).key.length) || decide (100 < (Hd.pr l k).txt.length)) = true) : lightB l = false := by
 unfold lightB
 rw [Bool.and_eq_false_iff]
 right
 rw [List.all_eq_false]
 refine ⟨l[k], List.getElem_mem hk, ?_⟩
 rw [Hd.pr_at hk] at h
 simp at h ⊢
 omega
theorem light_yes {l : List Hd.Pr} (h : l.length ≤ 12) (g : ∀ k, k < l.length → (Hd.pr l k).key.length ≤ 40 ∧ (Hd.pr l k).txt.length ≤ 100) : lightB l = true := by
 unfold lightB
 rw [Bool.and_eq_true, decide_eq_true_eq, List.all_eq_true]
 refine ⟨h, fun p hp => ?_⟩
 obtain ⟨i, hi, rfl⟩ := List.getElem_of_mem hp
 have := g i hi
 rw [Hd.pr_at hi] at this
 simp [this]
theorem light_many {l : List Hd.Pr} (h : 12 < l.length) : lightB l = false := by
 unfold lightB
 rw [decide_eq_false (by omega), Bool.false_and]
set_option maxHeartbeats 4000000 in
theorem light9_any (l : List Hd.Pr) (A : Option Addr) (c : Nat) (w : World) (hl : l.length ≤ 9223372036854775807) (hp : Prs w A l) :
  Calls Tryz.prog 40 #[.slice A l.length c] w fun e w' => e = .returned (.bool (lightB l)) ∧ Below w.heap.size w w' := by
 have HP := hid hp
 clear hp
 obtain ⟨n, hn⟩ : ∃ n, n = l.length := ⟨_, rfl⟩
 by_cases h12 : 12 < l.length
 ·have HC := hid (light_many h12)
  go_enter Tryz.func40, Tryz.ntmps40
  go_wp2_with fail
  go_ret
  exact ⟨ret_bool HC.out.symm, Below.refl _ _⟩
 ·have HY := hid (fun g => light_yes (l := l) (by omega) g)
  have HNO := hid (fun k hk h => light_no (l := l) (k := k) hk h)
  generalize lightB l = M at *
  have HN := hid hn
  rw [← hn]
  rw [← hn] at h12 hl
  clear hn
  go_enter Tryz.func40, Tryz.ntmps40
  go_wp2_with fail
  go_loopg [10] n (fun g i wr => ∃ k : Nat, k + g = n ∧ i = .int .i64 (k : Int) ∧ (∀ j, j < k → (Hd.pr l j).key.length ≤ 40 ∧ (Hd.pr l j).txt.length ≤ 100) ∧ Below w.heap.size w wr)
  case atStart => exact ⟨0, by omega, rfl, fun j hj => absurd hj (by omega), Below.refl _ _⟩
  case round =>
   obtain ⟨k, hk, rfl, hno, hBl⟩ := hrel
   have HBL := hid hBl
   have HALL := hid hno
   clear hBl hno
   by_cases hlt : k < n
   ·have hkl : k < l.length := by have := HN.out; omega
    obtain ⟨b, off, rfl, hbl, hat⟩ := (HP.out.on HBL.out).at_ k hkl
    obtain ⟨x, hx⟩ : ∃ x, Hd.pr l k = x := ⟨_, rfl⟩
    have HX := hid hx
    have HKL := hid hkl
    rw [hx] at hat
    clear hx hkl
    obtain ⟨x1, x2, x3, x4⟩ := x
    obtain ⟨c0, c1, c2, c3⟩ := hat
    simp only at c0 c1 c2 c3
    have z1 : (ofL x1).size = x1.length := ofL_size x1
    have z4 : (ofL x4).size = x4.length := ofL_size x4
    by_cases h1 : 40 < (ofL x1).size
    ·have HM := hid (HNO.out k HKL.out (by rw [HX.out]; simp; omega))
     go_wp2_with fail
     go_ret
     exact ⟨ret_bool HM.out.symm, HBL.out.alloc HBL.out.size _⟩
    ·by_cases h2 : 100 < (ofL x4).size
     ·have HM := hid (HNO.out k HKL.out (by rw [HX.out]; simp; omega))
      go_wp2_with fail
      go_ret
      exact ⟨ret_bool HM.out.symm, HBL.out.alloc HBL.out.size _⟩
     ·have HNX := hid (show ∀ j, j < k + 1 → (Hd.pr l j).key.length ≤ 40 ∧ (Hd.pr l j).txt.length ≤ 100 from fun j hj => by
       by_cases e : j = k
       ·rw [e, HX.out]; simp only; omega
       ·exact HALL.out j (by omega))
      go_wp2_with fail
      go_roundg (gk - 1)
      case rel => exact ⟨k + 1, by omega, by go_num, HNX.out, HBL.out.alloc HBL.out.size _⟩
      case measure => omega
   ·have HM := hid (HY.out (fun i hi => HALL.out i (by have := HN.out; omega)))
    go_wp2_with fail
    go_ret
    exact ⟨ret_bool HM.out.symm, HBL.out⟩
/-! ### the library's pieces are the words -/
theorem splitK_cut : ∀ (n : Nat) (l : List UInt8), l.length ≤ n → Lib.splitK [46] 0 (Lib.count l [46]) l = Wrd.cut l := by
 intro n
 induction n with
 | zero =>
  intro l hl
  have : l = [] := List.length_eq_zero_iff.1 (by omega)
  subst this
  rw [Lib.count_miss (by simp [Lib.index])]
  rfl
 | succ n ih =>
  intro l hl
  by_cases hm : Lib.index l [46] = -1
  ·rw [Lib.count_miss hm]
   have hno : (46 : UInt8) ∉ l := by
    rw [Lib.index_one] at hm
    intro hmem
    obtain ⟨k, hk, e⟩ := List.getElem_of_mem hmem
    exact Lib.indexByte_none hm k (by rw [List.getElem?_eq_getElem hk, e])
   rw [Wrd.cut_word hno]
   rfl
  ·have hge := Lib.index_ge l [46]
   obtain ⟨i, hi⟩ : ∃ i : Nat, Lib.index l [46] = i := ⟨(Lib.index l [46]).toNat, by omega⟩
   have hc := Lib.count_hit (sub := [46]) (by simp) hi
   have hi1 := hi
   rw [Lib.index_one] at hi1
   obtain ⟨h1, h2⟩ := Lib.indexByte_some hi1
   obtain ⟨hil, he⟩ := List.getElem?_eq_some_iff.1 h1
   have hdec : l = l.take i ++ 46 :: l.drop (i + 1) := by
    have := List.take_append_drop i l
    rw [List.drop_eq_getElem_cons hil, he] at this
    exact this.symm
   have hno : (46 : UInt8) ∉ l.take i := by
    intro hmem
    obtain ⟨k, hk, e⟩ := List.getElem_of_mem hmem
    rw [List.length_take] at hk
    rw [List.getElem_take] at e
    exact h2 k (by omega) (by rw [List.getElem?_eq_getElem (by omega), e])
   have hcut : Wrd.cut l = l.take i :: Wrd.cut (l.drop (i + 1)) := by
    conv => lhs; rw [hdec]
    exact Wrd.cut_app hno _
   rw [hc, hcut, Nat.add_comm, Lib.splitK, if_neg (by rw [hi]; simp), hi]
   have e1 : ((i : Int).toNat + 0) = i := by omega
   have e2 : ((i : Int).toNat + ([46] : List UInt8).length) = i + 1 := by simp
   have e3 : i + ([46] : List UInt8).length = i + 1 := rfl
   rw [e1, e2, e3, ih _ (by rw [List.length_drop]; omega)]
def strs (ws : List (List UInt8)) : List Value := ws.map fun x => .string (ofL x)
theorem pieces_eq (l : List UInt8) : (Lib.splitB ⟨#[46]⟩ 0 (Lib.countB (ofL l) ⟨#[46]⟩) (ofL l)).map Value.string = strs (Wrd.cut l) := by
 have h := Lib.splitB_data ⟨#[46]⟩ 0 (Lib.countB (ofL l) ⟨#[46]⟩) (ofL l)
 have h2 : Lib.splitK (⟨#[46]⟩ : ByteArray).data.toList 0 (Lib.countB (ofL l) ⟨#[46]⟩) (ofL l).data.toList = Wrd.cut l := splitK_cut l.length l (Nat.le_refl _)
 rw [h2] at h
 rw [← h]
 unfold strs
 rw [List.map_map]
 apply List.map_congr_left
 intro s _
 show Value.string s = Value.string (ofL s.data.toList)
 rw [ofL_toList]
theorem pieces_len (l : List UInt8) : Lib.countB (ofL l) ⟨#[46]⟩ + 1 = (Wrd.cut l).length := by
 have h := congrArg List.length (pieces_eq l)
 rw [List.length_map, Lib.splitB_all ⟨#[46]⟩ (by decide) 0 _ _ rfl] at h
 rw [h]
 unfold strs
 rw [List.length_map]
def Len (w : World) : Prop := ∃ m, w.cell? ⟨0, 0, none⟩ = some (.int .i64 m)
theorem Len.pos {w : World} (h : Len w) : 0 < w.heap.size := by
 obtain ⟨m, hm⟩ := h
 exact World.block_lt_of_cell? w _ hm
theorem Len.below {w w' : World} {B : Nat} (h : Len w) (hb : Below B w w') (hB : 0 < B) : Len w' := by
 obtain ⟨m, hm⟩ := h
 exact ⟨m, (hb.cell (p := ⟨0, 0, none⟩) hB).trans hm⟩
theorem Len.on {w w' : World} (h : Len w) (hb : Below w.heap.size w w') : Len w' := h.below hb h.pos
def SplitPost (w : World) (ws : List (List UInt8)) (e : Ending) (w' : World) : Prop := ∃ v, e = .returned v ∧ w'.ownsRow w.heap.size 9 1 v ws.length (strs ws) ∧ Below w.heap.size w w'
theorem own_new (w : World) (ws : List (List UInt8)) (h : ws.length ≤ maxLen) : (w.alloc (.cells (strs ws).toArray 9)).ownsRow w.heap.size 9 1 (.slice (some ⟨w.heap.size, 0, none⟩) ws.length ws.length) ws.length (strs ws) := by
 have hl : (strs ws).length = ws.length := by unfold strs; rw [List.length_map]
 refine ⟨by rw [hl, Nat.mul_one], Or.inr ⟨w.heap.size, ws.length, (strs ws).toArray, rfl, Nat.le_refl _, ?_, Nat.le_refl _, h, by rw [List.size_toArray, hl, Nat.mul_one], ?_⟩⟩
 ·show (w.heap.push _)[w.heap.size]? = _
  rw [Array.getElem?_push_size]
 ·rw [Nat.mul_one, ← hl]; simp
set_option maxHeartbeats 1000000 in
theorem split_any (l : List UInt8) (w : World) (hl : l.length ≤ 100000) (hL : Len w) : Calls Tryz.prog 138 #[.string (ofL l)] w (SplitPost w (Wrd.words l)) := by
 by_cases h0 : l.length = 0
 ·rw [Wrd.words_nil h0, ofL_nil h0]
  go_enter Tryz.func138, Tryz.ntmps138
  go_wp2_with fail
  go_ret
  exact ⟨_, rfl, World.ownsRow_nil _ _ _ _, Below.refl _ _⟩
 ·rw [Wrd.words_ne h0]
  have he := str_ne h0
  obtain ⟨m, hm⟩ := hL
  have hc := Tryz.strings_Split (ofL l) ⟨#[46]⟩ m w (by rw [ofL_size]; omega) hm (by decide)
  rw [pieces_eq, pieces_len] at hc
  have HC := hid hc
  have HO := hid (own_new w (Wrd.cut l) (by have := Wrd.cut_len l; unfold maxLen; omega))
  clear hc hm
  generalize ofL l = s at *
  go_enter Tryz.func138, Tryz.ntmps138
  go_wp2_with fail
  refine HC.out.mono ?_
  rintro e w' ⟨rfl, rfl⟩
  go_wp2_with fail
  go_ret
  exact ⟨_, rfl, HO.out, (Below.refl _ _).alloc (Nat.le_refl _) _⟩
theorem piece_cut {l : List UInt8} {j k : Nat} (hjk : j ≤ k) (hno : (46 : UInt8) ∉ (l.drop j).take (k - j)) (hc : l.drop k = 46 :: l.drop (k + 1)) : Wrd.cut (l.drop j) = (l.drop j).take (k - j) :: Wrd.cut (l.drop (k + 1)) := by
 have e : (l.drop j).drop (k - j) = l.drop k := by rw [List.drop_drop]; congr 1; omega
 have : l.drop j = (l.drop j).take (k - j) ++ 46 :: l.drop (k + 1) := by rw [← hc, ← e, List.take_append_drop]
 conv => lhs; rw [this]
 exact Wrd.cut_app hno _
theorem piece_more {l : List UInt8} {j k : Nat} {b : UInt8} (hjk : j ≤ k) (hno : (46 : UInt8) ∉ (l.drop j).take (k - j)) (hc : l.drop k = b :: l.drop (k + 1)) (hb : b ≠ 46) : (46 : UInt8) ∉ (l.drop j).take (k + 1 - j) := by
 have e : (l.drop j).drop (k - j) = l.drop k := by rw [List.drop_drop]; congr 1; omega
 have e2 : (l.drop j).take (k + 1 - j) = (l.drop j).take (k - j) ++ [b] := by
  rw [show k + 1 - j = (k - j) + 1 by omega, List.take_add, e, hc]; rfl
 rw [e2]
 intro h
 rcases List.mem_append.1 h with h | h
 ·exact hno h
 ·rw [List.mem_singleton] at h; exact hb h.symm
def CutSt (l : List UInt8) (w : World) (g : Nat) (o f i : Value) (wr : World) : Prop :=
 ∃ (k j : Nat) (D : List (List UInt8)), k + g = l.length ∧ j ≤ k ∧ i = .int .i64 (k : Int) ∧ f = .int .i64 (j : Int) ∧ wr.ownsRow w.heap.size 9 1 o D.length (strs D) ∧ D.length ≤ j ∧
  Wrd.cut l = D ++ Wrd.cut (l.drop j) ∧ (46 : UInt8) ∉ (l.drop j).take (k - j) ∧ Below w.heap.size w wr
theorem info9 : (Tryz.prog.info? 9).map (fun i => (i.zero, i.size, i.bytes)) = some (some (.string ⟨#[]⟩), 1, 16) := by kernel_rfl
theorem strs_snoc (D : List (List UInt8)) (x : List UInt8) : strs (D ++ [x]) = strs D ++ [.string (ofL x)] := by unfold strs; rw [List.map_append]; rfl
theorem own_block {w : World} {B e n m : Nat} {v : Value} {xs : List Value} (h : w.ownsRow B e n v m xs) {g : Nat} (hg : v.ownBlock = some g) : B ≤ g := by
 obtain ⟨_, h | ⟨g', cap, cur, rfl, hB, _⟩⟩ := h
 ·rw [h.1] at hg; cases hg
 ·have : g' = g := Option.some.inj hg
  omega
theorem below_own {w wr w1 : World} {v : Value} {D : List (List UInt8)} (h : Below w.heap.size w wr) (ho : wr.ownsRow w.heap.size 9 1 v D.length (strs D)) (o : Obj) (hg : (wr.alloc o).grownBy w1 v.ownBlock) : Below w.heap.size w w1 :=
 (h.alloc h.size o).grown hg (by have := h.size; simp; omega) (fun k hk => own_block ho hk)
theorem extract_take (l : List UInt8) (j k : Nat) : (ofL l).extract j k = ofL ((l.drop j).take (k - j)) := by
 rw [← ofL_toList ((ofL l).extract j k), list_extract]; rfl
theorem row_shape {w : World} {B e : Nat} {v : Value} {n : Nat} {xs : List Value} (h : w.ownsRow B e 1 v n xs) :
  ∃ p cap, v = .slice p n cap ∧ xs.length = n ∧ ∀ j, j < n → ∃ g, p = some ⟨g, 0, none⟩ ∧ B ≤ g ∧ g < w.heap.size ∧ w.cell? ⟨g, j, none⟩ = xs[j]? := by
 obtain ⟨hl, h1 | ⟨g, cap, cur, rfl, hB, hb, h2⟩⟩ := h
 ·obtain ⟨rfl, rfl⟩ := h1
  simp at hl
  subst hl
  exact ⟨none, 0, rfl, rfl, fun j hj => absurd hj (by omega)⟩
 ·refine ⟨_, cap, rfl, by omega, fun j hj => ⟨g, rfl, hB, ?_, ?_⟩⟩
  ·exact (Array.getElem?_eq_some_iff.1 hb).1
  ·exact World.ownsRow.cellAt ⟨hl, Or.inr ⟨g, cap, cur, rfl, hB, hb, h2⟩⟩ j (by omega)
def Reads (w : World) (p : Option Addr) (ws : List (List UInt8)) : Prop := ∀ j (h : j < ws.length), ∃ g, p = some ⟨g, 0, none⟩ ∧ w.cell? ⟨g, j, none⟩ = some (.string (ofL ws[j]))
theorem strs_get (ws : List (List UInt8)) (j : Nat) (h : j < ws.length) : (strs ws)[j]? = some (.string (ofL ws[j])) := by
 unfold strs; rw [List.getElem?_map, List.getElem?_eq_getElem h]; rfl
theorem reads_own {w : World} {B : Nat} {v : Value} {ws : List (List UInt8)} (h : w.ownsRow B 9 1 v ws.length (strs ws)) : ∃ p cap, v = .slice p ws.length cap ∧ Reads w p ws := by
 obtain ⟨p, cap, rfl, _, h2⟩ := row_shape h
 refine ⟨p, cap, rfl, fun j hj => ?_⟩
 obtain ⟨g, e, _, _, hc⟩ := h2 j hj
 exact ⟨g, e, hc.trans (strs_get ws j hj)⟩
theorem Reads.on {w w' : World} {p : Option Addr} {ws : List (List UInt8)} (h : Reads w p ws) (hb : Below w.heap.size w w') : Reads w' p ws := by
 intro j hj
 obtain ⟨g, e, hc⟩ := h j hj
 refine ⟨g, e, ?_⟩
 rw [← hc]
 exact hb.cell (p := ⟨g, j, none⟩) (World.block_lt_of_cell? w _ hc)
set_option maxHeartbeats 2000000 in
theorem rsplit_any (l : List UInt8) (w : World) (hl : l.length ≤ 100000) : Calls Tryz.prog 118 #[.string (ofL l)] w (SplitPost w (Wrd.words l)) := by
 have hsz : (ofL l).size = l.length := ofL_size l
 by_cases h0 : l.length = 0
 ·rw [Wrd.words_nil h0]
  have hs : (ofL l).size = 0 := by omega
  go_enter Tryz.func118, Tryz.ntmps118
  go_wp2_with fail
  go_ret
  exact ⟨_, rfl, World.ownsRow_nil _ _ _ _, Below.refl _ _⟩
 ·have hs0 : ((l.length : Int) == 0) = false := beq_eq_false_iff_ne.2 (by omega)
  rw [Wrd.words_ne h0]
  have HG : Hid (∀ p (h : p < l.length), (ofL l)[p]'(by rw [hsz]; exact h) = l[p]) := fun p h => rfl
  have HX := hid (fun j k => extract_take l j k)
  have HXE := hid (fun j => show (ofL l).extract j l.length = ofL (l.drop j) by rw [← hsz, extract_drop]; rfl)
  obtain ⟨i0, hi0, hz0, hz1, hz2⟩ := info_parts info9
  clear h0
  go_enter Tryz.func118, Tryz.ntmps118
  go_wp2_with fail
  go_loopg [3, 4, 5] l.length (fun g o f i wr => CutSt l w g o f i wr)
  case atStart => exact ⟨0, 0, [], by omega, by omega, rfl, rfl, World.ownsRow_nil _ _ _ _, by simp, by simp, by simp, Below.refl _ _⟩
  case round =>
   obtain ⟨k, j, D, hk, hjk, rfl, rfl, hown, hDl, hcut, hno, hB⟩ := hrel
   have HO := hid hown
   have HB := hid hB
   have HC := hid hcut
   have HNO := hid hno
   clear hown hB hcut hno
   by_cases hlt : k < l.length
   ·have hks : k < (ofL l).size := by omega
    obtain ⟨b, hgb, hcons⟩ : ∃ b, (ofL l)[k] = b ∧ l.drop k = b :: l.drop (k + 1) := ⟨l[k]'hlt, rfl, List.drop_eq_getElem_cons hlt⟩
    have HGB := hid hgb
    have HCONS := hid hcons
    clear hgb hcons
    by_cases hb : b = 46
    ·have h46 : (((ofL l)[k].toNat : Int) == 46) = true := by rw [HGB.out, hb]; rfl
     have HBB := hid hb
     clear hb
     go_wp2_with (first
      | (at_builtin; refine wpList_append_own _ rfl _ _ 137 rfl w.heap.size 9 i0 (.string ⟨#[]⟩) 1 16 Tryz.underlying137 hi0 hz0 hz1 hz2 rfl (by decide) _ _ _ rfl (HO.out.alloc _) ⟨wr.heap.size, 0, none⟩ 1 1 [.string ((ofL l).extract j k)] rfl rfl ?c1 ?c2 ?c3 ?c4 ?c5 ?_))
     case c1 =>
      intro q u hq
      match q, hq with
      | 0, hq => simp at hq; subst hq; simp [Addr.add]
     case c2 => intro u hu; simp at hu; subst hu; rfl
     case c3 => unfold maxLen; omega
     case c4 => omega
     case c5 => have := HB.out.size; simp; omega
     ·intro v' w1 hown' hgrow _
      have HOW := hid hown'
      have HBE := hid (below_own HB.out HO.out _ hgrow)
      clear hown' hgrow
      go_wp2_with fail
      go_roundg (gk - 1)
      case rel =>
       have hc := HCONS.out
       rw [HBB.out] at hc
       have hpc := piece_cut hjk HNO.out hc
       refine ⟨k + 1, k + 1, D ++ [(l.drop j).take (k - j)], by omega, by omega, by go_num, by go_num, ?_, by rw [List.length_append, List.length_singleton]; omega, ?_, by simp, HBE.out⟩
       ·have := HOW.out
        rw [HX.out] at this
        rw [List.length_append, List.length_singleton, strs_snoc]
        exact this
       ·rw [HC.out, hpc, List.append_assoc]; rfl
      case measure => omega
    ·have h46 : (((ofL l)[k].toNat : Int) == 46) = false := by
      rw [HGB.out]
      exact beq_eq_false_iff_ne.2 (fun h => hb (UInt8.toNat_inj.1 (by rw [show (46 : UInt8).toNat = 46 from rfl]; omega)))
     have HBB := hid hb
     clear hb
     go_wp2_with fail
     go_roundg (gk - 1)
     case rel => exact ⟨k + 1, j, D, by omega, by omega, by go_num, rfl, HO.out, hDl, HC.out, piece_more hjk HNO.out HCONS.out HBB.out, HB.out⟩
     case measure => omega
   ·have hkl : k = l.length := by omega
    have hks : ¬ k < (ofL l).size := by omega
    have hjl : j ≤ l.length := by omega
    have hnj := HNO.out
    rw [hkl, List.take_of_length_le (by rw [List.length_drop]; exact Nat.le_refl _)] at hnj
    have HE := hid (show Wrd.cut l = D ++ [l.drop j] by rw [HC.out, Wrd.cut_word hnj])
    clear hnj hkl
    go_wp2_with (first
     | (at_builtin; refine wpList_append_own _ rfl _ _ 137 rfl w.heap.size 9 i0 (.string ⟨#[]⟩) 1 16 Tryz.underlying137 hi0 hz0 hz1 hz2 rfl (by decide) _ _ _ rfl (HO.out.alloc _) ⟨wr.heap.size, 0, none⟩ 1 1 [.string ((ofL l).extract j l.length)] rfl rfl ?d1 ?d2 ?d3 ?d4 ?d5 ?_))
    case d1 =>
     intro q u hq
     match q, hq with
     | 0, hq => simp at hq; subst hq; simp [Addr.add]
    case d2 => intro u hu; simp at hu; subst hu; rfl
    case d3 => unfold maxLen; omega
    case d4 => omega
    case d5 => have := HB.out.size; simp; omega
    ·intro v' w1 hown' hgrow _
     have HOW := hid hown'
     have HBE := hid (below_own HB.out HO.out _ hgrow)
     clear hown' hgrow
     go_wp2_with fail
     go_ret
     refine ⟨_, rfl, ?_, HBE.out⟩
     have := HOW.out
     rw [HXE.out] at this
     rw [HE.out, List.length_append, List.length_singleton, strs_snoc]
     exact this
end Go.Proofs.YtaikigponkjkgaaGreatDoor
end
