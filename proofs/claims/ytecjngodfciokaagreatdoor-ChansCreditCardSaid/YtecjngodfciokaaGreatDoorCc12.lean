/-
  WHETHER A HEAD HAS A PAIR, EACH of some, ONE of some: walked, the program's and the document's.
-/
import Derived.Test.YtecjngodfciokaaGreatDoorCc10
import Derived.Test.YtecjngodfciokaaGreatDoorCc11
import Derived.Deep.QuietTactic
section
namespace Go.Proofs.YtecjngodfciokaaGreatDoor
open Go.ChangeShapes Go.WideShapes Go.ChangeAt Go.RowKit
/-- is a pair in a head? -/
def hasP (h : List Hd.Pr) (x : Hd.Pr) : Bool := h.any fun y => prEq x y
theorem prEq_comm (x y : Hd.Pr) : prEq x y = prEq y x := by
  rw [prEq_iff, prEq_iff, Bool.eq_iff_iff, decide_eq_true_iff, decide_eq_true_iff]
  exact eq_comm
theorem hasP_yes {h : List Hd.Pr} {x : Hd.Pr} {k : Nat} (hk : k < h.length) (e : prEq x (Hd.pr h k) = true) : hasP h x = true :=
  List.any_eq_true.2 ⟨h[k], List.getElem_mem hk, by rw [Hd.pr_at hk] at e; exact e⟩
theorem hasP_no {h : List Hd.Pr} {x : Hd.Pr} (g : ∀ k, k < h.length → prEq x (Hd.pr h k) = false) : hasP h x = false := by
  unfold hasP
  rw [List.any_eq_false]
  intro y hy
  obtain ⟨i, hi, rfl⟩ := List.getElem_of_mem hy
  have := g i hi
  rw [Hd.pr_at hi] at this
  rw [this]; simp
theorem hasP_idx (h : List Hd.Pr) (x : Hd.Pr) : hasP h x = decide (idx (prEq x) h ≥ 0) := (idx_any _ _).symm
attribute [local go_sem] guardPr
set_option maxHeartbeats 2000000 in
theorem indexPrE_any (x : Hd.Pr) (l : List Hd.Pr) (A : Option Addr) (c : Nat) (w : World) (hl : l.length ≤ 100000) (hp : Prs w A l) :
    Calls Tryz.prog 148 #[.slice A l.length c, prV x] w fun e w' => e = .returned (.int .i64 (idx (prEq x) l)) ∧ Below w.heap.size w w' := by
  have HP := Lib.hid hp
  have HNONE := Lib.hid (fun h => idx_none (q := prEq x) (l := l) Hd.Pr.zero h)
  have HSOME := Lib.hid (fun k (hk : k < l.length) h hq => idx_some (q := prEq x) (l := l) Hd.Pr.zero hk h hq)
  clear hp
  generalize idx (prEq x) l = M at *
  obtain ⟨n, hn⟩ : ∃ n, n = l.length := ⟨_, rfl⟩
  rw [← hn]
  have HN := Lib.hid hn
  have hnl : n ≤ 100000 := by omega
  clear hn
  have HBX := Lib.hid (PrAt.new x w)
  have HB0 := Lib.hid (show Below w.heap.size w (w.alloc (.cells #[.string (ofL x.key), .int .u8 (x.kind : Int), .int .i64 x.num, .string (ofL x.txt)] 87)) from (Below.refl _ _).alloc (Nat.le_refl _) _)
  simp only [prV]
  go_enter Tryz.func148, Tryz.ntmps148
  go_wp2_with fail
  go_loopg [8] n (fun g i wr => ∃ k : Nat, k + g = n ∧ i = .int .i64 (k : Int) ∧ (∀ j, j < k → prEq x (l.getD j Hd.Pr.zero) = false) ∧ PrAt wr w.heap.size 0 x ∧ Below w.heap.size w wr)
  case atStart => exact ⟨0, by omega, rfl, fun j hj => absurd hj (by omega), HBX.out, HB0.out⟩
  case round =>
    obtain ⟨k, hk, rfl, hno, hbx, hB⟩ := hrel
    have HB := Lib.hid hB
    have HNO := Lib.hid hno
    have HBK := Lib.hid hbx
    have hwl : w.heap.size < wr.heap.size := World.block_lt_of_cell? wr _ hbx.c0
    clear hB hno hbx
    by_cases hlt : k < n
    · obtain ⟨b, off, rfl, hbl, hat⟩ := (HP.out.on HB.out).at_ k (by have := HN.out; omega)
      obtain ⟨c0, c1, c2, c3⟩ := hat
      obtain ⟨d0, d1, d2, d3⟩ := HBK.out
      simp only [Nat.zero_add] at d0 d1 d2 d3
      have hq := fun W => pr_eq x (Hd.pr l k) W
      cases he : prEq x (Hd.pr l k) with
      | true =>
        have HM := Lib.hid (HSOME.out k (by have := HN.out; omega) HNO.out he)
        rw [he] at hq
        clear he
        generalize Hd.pr l k = y at *
        obtain ⟨y1, y2, y3, y4⟩ := y
        simp only [prV] at hq c0 c1 c2 c3
        go_wp2_with fail
        go_quiet (fail)
        go_wp2_with fail
        go_ret
        exact ⟨ret_int HM.out.symm, drewN_below HB.out _⟩
      | false =>
        have HNX : Hid (∀ j, j < k + 1 → prEq x (l.getD j Hd.Pr.zero) = false) := fun j hj => by
          by_cases e : j = k
          · rw [e]; exact he
          · exact HNO.out j (by omega)
        rw [he] at hq
        clear he
        generalize Hd.pr l k = y at *
        obtain ⟨y1, y2, y3, y4⟩ := y
        simp only [prV] at hq c0 c1 c2 c3
        go_wp2_with fail
        go_quiet (fail)
        go_wp2_with fail
        go_roundg (gk - 1)
        case rel => exact ⟨k + 1, by omega, by go_num, HNX.out, ⟨HBK.out.c0, HBK.out.c1, HBK.out.c2, HBK.out.c3⟩, drewN_below HB.out _⟩
        case measure => omega
    · have HM := Lib.hid (HNONE.out (fun i hi => HNO.out i (by have := HN.out; omega)))
      go_wp2_with fail
      go_ret
      exact ⟨ret_int HM.out.symm, HB.out⟩
theorem containsPr_any (x : Hd.Pr) (l : List Hd.Pr) (A : Option Addr) (c : Nat) (w : World) (hl : l.length ≤ 100000) (hp : Prs w A l) :
    Calls Tryz.prog 143 #[.slice A l.length c, prV x] w fun e w' => e = .returned (.bool (hasP l x)) ∧ Below w.heap.size w w' := by
  rw [hasP_idx]
  have HP := Lib.hid hp
  have HC := Lib.hid (fun W h => indexPrE_any x l A c W hl h)
  have HB0 := Lib.hid (show Below w.heap.size w (w.alloc (.cells #[.string (ofL x.key), .int .u8 (x.kind : Int), .int .i64 x.num, .string (ofL x.txt)] 87)) from (Below.refl _ _).alloc (Nat.le_refl _) _)
  have HP0 := Lib.hid (HP.out.on HB0.out)
  clear hp
  generalize idx (prEq x) l = M at *
  simp only [prV] at HC ⊢
  go_enter Tryz.func143, Tryz.ntmps143
  go_wp2_with fail
  refine (HC.out _ HP0.out).mono ?_
  rintro e w1 ⟨rfl, hB⟩
  have HB1 := Lib.hid (bthen HB0.out hB (Nat.le_refl _))
  clear hB
  go_wp2_with fail
  go_ret
  exact ⟨rfl, HB1.out⟩
theorem hasOne1_any (x : Hd.Pr) (h : List Hd.Pr) (A : Option Addr) (c b : Nat) (w : World) (hl : h.length ≤ 100000) (hp : Prs w A h) (hb : w.cell? ⟨b, 0, none⟩ = some (.slice A h.length c)) :
    Calls Tryz.prog 142 #[prV x, .pointer (some ⟨b, 0, none⟩)] w fun e w' => e = .returned (.bool (hasP h x)) ∧ Below w.heap.size w w' := by
  have hbl := World.block_lt_of_cell? w _ hb
  simp only at hbl
  have HP := Lib.hid hp
  have HC := Lib.hid (fun W h' => containsPr_any x h A c W hl h')
  have HB0 := Lib.hid (show Below w.heap.size w (w.alloc (.cells #[.string (ofL x.key), .int .u8 (x.kind : Int), .int .i64 x.num, .string (ofL x.txt)] 87)) from (Below.refl _ _).alloc (Nat.le_refl _) _)
  have HP0 := Lib.hid (HP.out.on HB0.out)
  clear hp
  generalize hasP h x = M at *
  simp only [prV] at HC ⊢
  go_enter Tryz.func142, Tryz.ntmps142
  go_wp2_with fail
  refine (HC.out _ HP0.out).mono ?_
  rintro e w1 ⟨rfl, hB⟩
  have HB1 := Lib.hid (bthen HB0.out hB (Nat.le_refl _))
  clear hB
  go_wp2_with fail
  go_ret
  exact ⟨rfl, HB1.out⟩
theorem hasOne1_tells (h : List Hd.Pr) (A : Option Addr) (c b : Nat) (w : World) (hl : h.length ≤ 100000) (hp : Prs w A h) (hb : w.cell? ⟨b, 0, none⟩ = some (.slice A h.length c)) : TellsPr 142 #[.pointer (some ⟨b, 0, none⟩)] (hasP h) w := fun W x hB =>
  hasOne1_any x h A c b W hl (hp.on hB) ((hB.cell (p := ⟨b, 0, none⟩) (World.block_lt_of_cell? w _ hb)).trans hb)
theorem contFPr_any (f : Nat) (b : Nat) (hf : f = 128 ∨ f = 142) (q : Hd.Pr → Bool) (l : List Hd.Pr) (A : Option Addr) (c : Nat) (w : World) (hl : l.length ≤ 100000) (hp : Prs w A l) (ht : TellsPr f #[.pointer (some ⟨b, 0, none⟩)] q w) :
    Calls Tryz.prog 141 #[.slice A l.length c, .func (.func f) #[] #[.pointer (some ⟨b, 0, none⟩)]] w fun e w' => e = .returned (.bool (l.any q)) ∧ Below w.heap.size w w' := by
  rw [← idx_any]
  have HC := Lib.hid (indexPr_any f b hf q l A c w hl hp ht)
  clear hp ht hf
  generalize idx q l = M at *
  go_enter Tryz.func141, Tryz.ntmps141
  go_wp2_with fail
  refine HC.out.mono ?_
  rintro e w1 ⟨rfl, hB⟩
  have HB1 := Lib.hid hB
  clear hB
  go_wp2_with fail
  go_ret
  exact ⟨rfl, HB1.out⟩
theorem hasOne_any (h m : List Hd.Pr) (A : Option Addr) (c : Nat) (B : Option Addr) (d : Nat) (w : World) (hh : h.length ≤ 100000) (hm : m.length ≤ 100000) (hA : Prs w A h) (hB : Prs w B m) :
    Calls Tryz.prog 135 #[.slice A h.length c, .slice B m.length d] w fun e w' => e = .returned (.bool (m.any (hasP h))) ∧ Below w.heap.size w w' := by
  have HB0 := Lib.hid (show Below w.heap.size w (w.alloc (.cells #[.slice A h.length c] 33)) from (Below.refl _ _).alloc (Nat.le_refl _) _)
  have HC := Lib.hid (contFPr_any 142 w.heap.size (Or.inr rfl) (hasP h) m B d (w.alloc (.cells #[.slice A h.length c] 33)) hm (hB.on HB0.out) (hasOne1_tells h A c w.heap.size _ hh (hA.on HB0.out) (cell_new _ _ _ _ _ rfl)))
  clear hA hB
  generalize m.any (hasP h) = M at *
  go_enter Tryz.func135, Tryz.ntmps135
  go_wp2_with fail
  refine HC.out.mono ?_
  rintro e w1 ⟨rfl, hB⟩
  have HB1 := Lib.hid (bthen HB0.out hB (Nat.le_refl _))
  clear hB
  go_wp2_with fail
  go_ret
  exact ⟨rfl, HB1.out⟩
end Go.Proofs.YtecjngodfciokaaGreatDoor
end
