/-
  SOME OF A BOOK's BINDINGS KEPT, by a closure: walked. AN EXCHANGE TAKEN OUT OF ITS LIST: slices.DeleteFunc, walked. BINDINGS THAT ARE THERE; an exchange dropped, a binding taken out, a queue forgotten: walked.
-/
import Derived.Test.YtaikigponkjkgaaGreatDoorDs27

section
namespace Go.Proofs.YtaikigponkjkgaaGreatDoor
open Go.ChangeShapes Go.WideShapes Go.ChangeAt Go.RowKit
theorem rtOwnPut {w : World} {B e sz n : Nat} {v : Value} {xs : List Value} (h : w.ownsRow B e sz v n xs) {g : Nat} (hg : g < B) (j : Nat) (u : Value) : (w.setCell ⟨g, j, none⟩ u).ownsRow B e sz v n xs := h.kept (only_setCell (p := ⟨g, j, none⟩) (World.grownBy.refl w (some g)) rfl u) (.inr (Rw.own_row h hg))
end Go.Proofs.YtaikigponkjkgaaGreatDoor
end
section
namespace Go.Proofs.YtaikigponkjkgaaGreatDoor
open Go.ChangeShapes Go.WideShapes Go.ChangeAt Go.RowKit
theorem TellsSh.later {f : Nat} {c : Array Value} {q : Sh → Bool} {w w' : World} (h : TellsSh f c q w) (hb : Below w.heap.size w w') : TellsSh f c q w' := fun W x hW => h W x (bthen hb hW (Nat.le_refl _))
namespace Bk
/-- moved down by one, up to i -/
def moved (l : List Sh) (k i : Nat) : List Sh := (l.eraseIdx k).take i ++ l.drop i
end Bk
end Go.Proofs.YtaikigponkjkgaaGreatDoor
end
section
namespace Go.Proofs.YtaikigponkjkgaaGreatDoor
open Go.ChangeShapes Go.WideShapes Go.ChangeAt Go.RowKit
theorem bd_get {l : List Bp} {i : Nat} (hi : i < l.length) : l[i] = l.getD i ⟨Bk.Bd0, none, 0⟩ := by rw [List.getD_eq_getElem?_getD, List.getElem?_eq_getElem hi]; rfl
def IdxBd (x : Bd) (ps : List Bp) (w : World) (g : Nat) (i : Value) (wr : World) : Prop :=
  ∃ k : Nat, k + g = ps.length ∧ i = .int .i64 (k : Int) ∧ (∀ j, j < k → bdEq x (ps.getD j ⟨Bk.Bd0, none, 0⟩).x = false) ∧ Below w.heap.size w wr
set_option maxHeartbeats 4000000 in
theorem indexBd_any (x : Bd) (Ax : Option Addr) (cx : Nat) (ps : List Bp) (B : Option Addr) (d : Nat) (w : World) (hl : ps.length ≤ 100000) (hx : BdOk w x Ax cx) (hp : Bds w B ps) :
    Calls Tryz.prog 140 #[.slice B ps.length d, .func (.func 129) #[bdV x Ax cx] #[]] w fun e w' => e = .returned (.int .i64 (idx (fun p : Bp => bdEq x p.x) ps)) ∧ Below w.heap.size w w' := by
  have HP := Lib.hid hp
  have HXO := Lib.hid hx
  have HT := Lib.hid (fun (y : Bd) (Ay : Option Addr) (cy : Nat) (W : World) (h1 : BdOk W x Ax cx) (h2 : BdOk W y Ay cy) => bdSame_any x y Ax cx Ay cy W h1.len h2.len h1.row h2.row)
  have HNONE := Lib.hid (fun h => idx_none (q := fun p : Bp => bdEq x p.x) (l := ps) ⟨Bk.Bd0, none, 0⟩ h)
  have HSOME := Lib.hid (fun k (hk : k < ps.length) h hq => idx_some (q := fun p : Bp => bdEq x p.x) (l := ps) ⟨Bk.Bd0, none, 0⟩ hk h hq)
  clear hp hx
  generalize idx (fun p : Bp => bdEq x p.x) ps = M at *
  obtain ⟨n, hn⟩ : ∃ n, n = ps.length := ⟨_, rfl⟩
  rw [← hn]
  have HN := Lib.hid hn
  have hnl : n ≤ 100000 := by omega
  clear hn
  simp only [bdV] at HT ⊢
  go_enter Tryz.func140, Tryz.ntmps140
  go_wp2_with fail
  go_loopg [8] n (fun g i wr => IdxBd x ps w g i wr)
  case atStart => exact ⟨0, by have := HN.out; omega, rfl, fun j hj => absurd hj (by omega), Below.refl _ _⟩
  case round =>
    obtain ⟨k, hk, rfl, hno, hB⟩ := hrel
    have HB := Lib.hid hB
    have HNO := Lib.hid hno
    have HK := Lib.hid hk
    clear hB hno hk
    by_cases hlt : k < n
    · have hkl : k < ps.length := by have := HN.out; omega
      have hbd := HP.out.on HB.out
      obtain ⟨bb, off, rfl, hbl, hat⟩ := bps_get hbd.row hkl
      have hok := hbd.ok ps[k] (List.getElem_mem hkl)
      rw [bd_get hkl] at hat hok
      have HQ : Hid (∀ h, bdEq x (ps.getD k ⟨Bk.Bd0, none, 0⟩).x = true → M = (k : Int)) := fun h hq => HSOME.out k (by have := HN.out; omega) h hq
      have HNX : Hid (bdEq x (ps.getD k ⟨Bk.Bd0, none, 0⟩).x = false → ∀ j, j < k + 1 → bdEq x (ps.getD j ⟨Bk.Bd0, none, 0⟩).x = false) := fun hq j hj => by
        by_cases e : j = k
        · rw [e]; exact hq
        · exact HNO.out j (by omega)
      generalize ps.getD k ⟨Bk.Bd0, none, 0⟩ = p at *
      obtain ⟨y, Ay, cy⟩ := p
      unfold bpL bdL at hat
      dsimp only at hat hok HQ HNX
      have HC := Lib.hid (HT.out y Ay cy wr (HXO.out.on HB.out) hok)
      have c0 := hat 0 _ rfl
      have c1 := hat 1 _ rfl
      have c2 := hat 2 _ rfl
      have c3 := hat 3 _ rfl
      have c4 := hat 4 _ rfl
      have c5 := hat 5 _ rfl
      rw [Nat.add_zero] at c0
      clear hat hok hbd
      cases hq : bdEq x y with
      | true =>
        have HM := Lib.hid (HQ.out HNO.out hq)
        rw [hq] at HC
        clear hq
        go_wp2_with fail
        refine HC.out.mono ?_
        rintro e w' ⟨rfl, hB1⟩
        have HB1 := Lib.hid (HB.out.trans (hB1.mono HB.out.size))
        clear hB1
        go_wp2_with fail
        go_ret
        exact ⟨ret_nat HM.out.symm, HB1.out⟩
      | false =>
        have HNEXT := Lib.hid (HNX.out hq)
        rw [hq] at HC
        clear hq
        go_wp2_with fail
        refine HC.out.mono ?_
        rintro e w' ⟨rfl, hB1⟩
        have HB1 := Lib.hid (HB.out.trans (hB1.mono HB.out.size))
        clear hB1
        go_wp2_with fail
        go_roundg (gk - 1)
        case rel => exact ⟨k + 1, by have := HK.out; have := HN.out; omega, by go_num, HNEXT.out, HB1.out⟩
        case measure => have := HK.out; have := HN.out; omega
    · have HM := Lib.hid (HNONE.out (fun i hi => HNO.out i (by have := HN.out; omega)))
      go_wp2_with fail
      go_ret
      exact ⟨ret_nat HM.out.symm, HB.out⟩
theorem contBd_any (x : Bd) (Ax : Option Addr) (cx : Nat) (ps : List Bp) (B : Option Addr) (d : Nat) (w : World) (hl : ps.length ≤ 100000) (hx : BdOk w x Ax cx) (hp : Bds w B ps) :
    Calls Tryz.prog 128 #[.slice B ps.length d, .func (.func 129) #[bdV x Ax cx] #[]] w fun e w' => e = .returned (.bool (ps.any fun p => bdEq x p.x)) ∧ Below w.heap.size w w' := by
  have HC := Lib.hid (indexBd_any x Ax cx ps B d w hl hx hp)
  have HA := Lib.hid (idx_any (fun p : Bp => bdEq x p.x) ps)
  clear hx hp
  obtain ⟨M, hM⟩ : ∃ M, M = idx (fun p : Bp => bdEq x p.x) ps := ⟨_, rfl⟩
  rw [← hM] at HC HA
  clear hM
  simp only [bdV] at *
  go_enter Tryz.func128, Tryz.ntmps128
  go_wp2_with fail
  refine HC.out.mono ?_
  rintro e w' ⟨rfl, hB1⟩
  have HB1 := Lib.hid hB1
  clear hB1
  go_wp2_with fail
  go_ret
  exact ⟨ret_bool (by rw [← HA.out]), HB1.out⟩
theorem any_mem {x : Bd} {ps : List Bp} {l : List Bd} (h : ps.map Bp.x = l) : (ps.any fun p => bdEq x p.x) = decide (x ∈ l) := by
  subst h
  rw [Bool.eq_iff_iff, List.any_eq_true, decide_eq_true_eq, List.mem_map]
  constructor
  · rintro ⟨p, hp, he⟩
    rw [bdEq_dec] at he
    exact ⟨p, hp, (of_decide_eq_true he).symm⟩
  · rintro ⟨p, hp, he⟩
    exact ⟨p, hp, by rw [bdEq_dec, he]; exact decide_eq_true rfl⟩
theorem rtHas_any (b : Bk) (A : Option Addr) (c : Nat) (B : Option Addr) (d : Nat) (ps : List Bp) (x : Bd) (Ax : Option Addr) (cx : Nat) (w : World) (hl : b.binds.length ≤ 1000) (hI : BkAt w A c B d b ps) (hx : BdOk w x Ax cx) :
    Calls Tryz.prog 110 #[bkV A c B d b, bdV x Ax cx] w fun e w' => e = .returned (.bool (decide (x ∈ b.binds))) ∧ Below w.heap.size w w' := by
  obtain ⟨shops, binds⟩ := b
  dsimp only at hl ⊢
  have hml := hI.len
  dsimp only at hml
  have hb0 := rtTwo w (.cells #[.slice A shops.length c, .slice B binds.length d] 133) (.cells #[.string (ofL x.shop), .string (ofL x.to), .bool x.up, .string (ofL x.key), .slice Ax x.want.length cx, .bool x.all] 48)
  have hc := contBd_any x Ax cx ps B d _ (by omega) (hx.on hb0) (hI.bds.on hb0)
  rw [any_mem hI.xs, hml] at hc
  dsimp only at hc
  have HC := Lib.hid hc
  have HB0 := Lib.hid hb0
  generalize decide (x ∈ binds) = M at *
  simp only [bkV, bdV] at *
  clear hI hx hb0 hc hml
  go_enter Tryz.func110, Tryz.ntmps110
  go_wp2_with fail
  refine HC.out.mono ?_
  rintro e w' ⟨rfl, hB1⟩
  have HB1 := Lib.hid (bthen HB0.out hB1 (Nat.le_refl _))
  clear hB1
  go_wp2_with fail
  go_ret
  exact ⟨rfl, HB1.out⟩
end Go.Proofs.YtaikigponkjkgaaGreatDoor
end
