/-
  TO WHICH QUEUES AND PLACES, the document's: walked.
-/
import Derived.Test.YtopobliajgocaaaGreatDoorZl34
import Derived.Test.YtopobliajgocaaaGreatDoorZl37

section
namespace Go.Proofs.YtopobliajgocaaaGreatDoor
open Go.ChangeShapes Go.WideShapes Go.ChangeAt Go.RowKit
theorem gbTrans {a b c : World} {row : Option Nat} (h1 : a.grownBy b row) (h2 : b.grownBy c row) : a.grownBy c row :=
  ⟨h2.os.trans h1.os, h2.tape.trans h1.tape, h2.output.trans h1.output, Nat.le_trans h1.size h2.size, fun k hk hne => (h2.block k (Nat.lt_of_lt_of_le hk h1.size) hne).trans (h1.block k hk hne)⟩
def PutSt (l : List (List UInt8)) (s : List UInt8) (w : World) (g : Nat) (i : Value) (wr : World) : Prop :=
  ∃ m : Nat, m + g = l.length ∧ i = .int .i64 (m : Int) ∧ (∀ j, j < m → l.getD j [] ≠ s) ∧ w = wr
def PutV (l : List (List UInt8)) (B : Nat) (v : Value) (w : World) (e : Ending) (w' : World) : Prop := ∃ A' c', e = .returned (.slice A' l.length c') ∧ w'.ownsRow B 9 1 (.slice A' l.length c') l.length (sts l) ∧ w.grownBy w' v.ownBlock ∧ ((Value.slice A' l.length c').ownBlock = v.ownBlock ∨ ∃ g, (Value.slice A' l.length c').ownBlock = some g ∧ w.heap.size ≤ g)
set_option maxRecDepth 100000 in
set_option maxHeartbeats 4000000 in
theorem r14put_any (l : List (List UInt8)) (s : List UInt8) (A : Option Addr) (c B : Nat) (w : World) (hl : l.length ≤ 1000) (hown : w.ownsRow B 9 1 (.slice A l.length c) l.length (sts l)) (hB : B ≤ w.heap.size) :
    Calls Tryz.prog 46 #[.slice A l.length c, .string (ofL s)] w (PutV (Bk.put l s) B (.slice A l.length c) w) := by
  obtain ⟨iN, hiN, hzN0, hzN1, hzN2⟩ := info_parts infoStr
  have HO := Lib.hid hown
  have HRW := Lib.hid (Rws.of_own hown)
  clear hown
  go_enter Tryz.func46, Tryz.ntmps46
  go_wp2_with fail
  go_loopg [9] l.length (fun g i wr => PutSt l s w g i wr)
  case atStart => exact ⟨0, by omega, rfl, fun j hj => absurd hj (by omega), rfl⟩
  case round =>
    obtain ⟨m, hm, rfl, hno, hw⟩ := hrel
    subst hw
    have HM := Lib.hid hm
    have HNO := Lib.hid hno
    clear hm hno
    by_cases hlm : m < l.length
    · obtain ⟨A9, c9, e9, -, -, hr9, -⟩ := HRW.out
      obtain ⟨rfl, -, rfl⟩ := Value.slice.inj e9
      obtain ⟨ba, oa, rfl, hba, hca⟩ := sts_get hr9 hlm
      have hgd : l[m] = l.getD m [] := by rw [List.getD_eq_getElem?_getD, List.getElem?_eq_getElem hlm]; rfl
      rw [hgd] at hca
      have hqq := str_same (l.getD m []) s
      cases e5 : l.getD m [] == s with
      | true =>
        rw [e5] at hqq
        have HIN := Lib.hid (show Bk.put l s = l by
          unfold Bk.put
          rw [if_pos]
          rw [beq_iff_eq] at e5
          rw [← e5, ← hgd]
          exact List.getElem_mem hlm)
        generalize l.getD m [] = y at *
        clear e5 hr9 e9 hgd
        go_wp2_with fail
        go_ret
        unfold PutV
        rw [HIN.out]
        exact ⟨_, _, rfl, HO.out, World.grownBy.refl _ _, .inl rfl⟩
      | false =>
        rw [e5] at hqq
        have HN2 : Hid (∀ j, j < m + 1 → l.getD j [] ≠ s) := fun j hj => by
          by_cases e : j = m
          · rw [e]; exact beq_eq_false_iff_ne.1 e5
          · exact HNO.out j (by omega)
        generalize l.getD m [] = y at *
        clear e5 hr9 e9 hgd
        go_wp2_with fail
        go_roundg (gk - 1)
        case rel => exact ⟨m + 1, by have := HM.out; omega, by go_num, HN2.out, rfl⟩
        case measure => have := HM.out; omega
    · have HPT := Lib.hid (show Bk.put l s = l ++ [s] by
        unfold Bk.put
        rw [if_neg]
        intro hin
        obtain ⟨j, hj, e⟩ := List.getElem_of_mem hin
        refine HNO.out j (by have := HM.out; omega) ?_
        rw [List.getD_eq_getElem?_getD, List.getElem?_eq_getElem hj]
        exact e)
      have HA5 := Lib.hid (rtOne w (.cells #[.string (ofL s)] 9))
      have HO5 := Lib.hid (Rw.own_on HO.out HA5.out)
      have HNW : Hid (∀ j u, (sts [s])[j]? = some u → (w.alloc (.cells #[.string (ofL s)] 9)).cell? ((⟨w.heap.size, 0, none⟩ : Addr).add j) = some u) := fun j u hu => by
        rw [sts_one1] at hu
        rw [rws_add, Nat.zero_add]
        exact (BoxC.new (w := w) (Nat.le_refl _) #[.string (ofL s)] 9).cs j u hu
      have hsz : B ≤ (w.alloc (.cells #[.string (ofL s)] 9)).heap.size := Nat.le_trans hB HA5.out.size
      go_wp2_with (at_builtin; refine wpList_append_lies _ rfl _ _ 48 rfl B 9 iN _ 1 16 Tryz.underlying48 hiN hzN0 hzN1 hzN2 rfl (by omega) (.slice A l.length c) l.length (sts l) (by rfl) HO5.out ⟨w.heap.size, 0, none⟩ 1 1 (sts [s]) (by rfl) (by rfl) HNW.out (sts_one _) (by omega) (by unfold maxLen; omega) (by omega) hsz _ rfl ?_; intro gg cap w4 hown hgrow hat hlt4; have HO4 := Lib.hid hown; have HG4 := Lib.hid hgrow; have HAT := Lib.hid hat; clear hown hgrow hat hlt4)
      go_ret
      unfold PutV
      rw [HPT.out, List.length_append]
      exact ⟨some ⟨gg, 0, none⟩, cap, rfl, by rw [sts_app]; exact HO4.out, gbTrans (Rw.gb HA5.out _) HG4.out, by
        rcases HAT.out with h | h
        · exact .inl h.symm
        · exact .inr ⟨gg, rfl, by have := HA5.out.size; omega⟩⟩
/-- the two rows of names, so far -/
structure Lq (s : Sh) (key : List UInt8) (h : List Hd.Pr) (l : List Bd) (w2 : World) (k : Nat) (A : Option Addr) (c : Nat) (B : Option Addr) (d : Nat) (ql pl : List (List UInt8)) (wr : World) : Prop where
  eq : ql = Bk.lead s false key h (l.take k)
  ep : pl = Bk.lead s true key h (l.take k)
  oq : wr.ownsRow w2.heap.size 9 1 (.slice A ql.length c) ql.length (sts ql)
  op : wr.ownsRow w2.heap.size 9 1 (.slice B pl.length d) pl.length (sts pl)
  ne : (Value.slice A ql.length c).ownBlock = none ∨ (Value.slice A ql.length c).ownBlock ≠ (Value.slice B pl.length d).ownBlock
  B : Below w2.heap.size w2 wr
def LqSt (s : Sh) (key : List UInt8) (h : List Hd.Pr) (l : List Bd) (w2 : World) (n g : Nat) (vq vp i : Value) (wr : World) : Prop :=
  ∃ (k : Nat) (A : Option Addr) (c : Nat) (B : Option Addr) (d : Nat) (ql pl : List (List UInt8)), k + g = n ∧ i = .int .i64 (k : Int) ∧ vq = .slice A ql.length c ∧ vp = .slice B pl.length d ∧ Lq s key h l w2 k A c B d ql pl wr
theorem Lq.keep {s : Sh} {key : List UInt8} {h : List Hd.Pr} {l : List Bd} {w2 : World} {k : Nat} {A : Option Addr} {c : Nat} {B : Option Addr} {d : Nat} {ql pl : List (List UInt8)} {wr W : World} (H : Lq s key h l w2 k A c B d ql pl wr) (hb : Below wr.heap.size wr W) (h1 : Bk.lead s false key h (l.take (k + 1)) = ql) (h2 : Bk.lead s true key h (l.take (k + 1)) = pl) : Lq s key h l w2 (k + 1) A c B d ql pl W :=
  ⟨h1.symm, h2.symm, Rw.own_on H.oq hb, Rw.own_on H.op hb, H.ne, bthen H.B hb (Nat.le_refl _)⟩
theorem Lq.on {s : Sh} {key : List UInt8} {h : List Hd.Pr} {l : List Bd} {w2 : World} {k : Nat} {A : Option Addr} {c : Nat} {B : Option Addr} {d : Nat} {ql pl : List (List UInt8)} {wr W : World} (H : Lq s key h l w2 k A c B d ql pl wr) (hb : Below wr.heap.size wr W) : Lq s key h l w2 k A c B d ql pl W :=
  ⟨H.eq, H.ep, Rw.own_on H.oq hb, Rw.own_on H.op hb, H.ne, bthen H.B hb (Nat.le_refl _)⟩
theorem Lq.putQ {s : Sh} {key : List UInt8} {h : List Hd.Pr} {l : List Bd} {w2 : World} {k : Nat} {A : Option Addr} {c : Nat} {B : Option Addr} {d : Nat} {ql pl : List (List UInt8)} {wr W : World} {A' : Option Addr} {c' : Nat} {t : List UInt8} (H : Lq s key h l w2 k A c B d ql pl wr) (ho : W.ownsRow w2.heap.size 9 1 (.slice A' (Bk.put ql t).length c') (Bk.put ql t).length (sts (Bk.put ql t))) (hg : wr.grownBy W (Value.slice A ql.length c).ownBlock) (hb : (Value.slice A' (Bk.put ql t).length c').ownBlock = (Value.slice A ql.length c).ownBlock ∨ ∃ g, (Value.slice A' (Bk.put ql t).length c').ownBlock = some g ∧ wr.heap.size ≤ g) (h1 : Bk.lead s false key h (l.take (k + 1)) = Bk.put ql t) (h2 : Bk.lead s true key h (l.take (k + 1)) = pl) : Lq s key h l w2 (k + 1) A' c' B d (Bk.put ql t) pl W := by
  have hne : (Value.slice B pl.length d).ownBlock = none ∨ (Value.slice B pl.length d).ownBlock ≠ (Value.slice A ql.length c).ownBlock := by
    rcases H.ne with h3 | h3
    · rw [h3]
      cases hB : (Value.slice B pl.length d).ownBlock with
      | none => exact .inl rfl
      | some g => exact .inr (by simp)
    · exact .inr (fun e => h3 e.symm)
  refine ⟨h1.symm, h2.symm, ho, H.op.kept hg hne, ?_, H.B.grown hg H.B.size (fun k hk => (H.oq.lt k hk).1)⟩
  rcases hb with hb | ⟨g, hb, hg2⟩
  · rw [hb]; exact H.ne
  · right
    rw [hb]
    intro e
    have := (H.op.lt g e.symm).2
    omega
theorem Lq.putP {s : Sh} {key : List UInt8} {h : List Hd.Pr} {l : List Bd} {w2 : World} {k : Nat} {A : Option Addr} {c : Nat} {B : Option Addr} {d : Nat} {ql pl : List (List UInt8)} {wr W : World} {B' : Option Addr} {d' : Nat} {t : List UInt8} (H : Lq s key h l w2 k A c B d ql pl wr) (ho : W.ownsRow w2.heap.size 9 1 (.slice B' (Bk.put pl t).length d') (Bk.put pl t).length (sts (Bk.put pl t))) (hg : wr.grownBy W (Value.slice B pl.length d).ownBlock) (hb : (Value.slice B' (Bk.put pl t).length d').ownBlock = (Value.slice B pl.length d).ownBlock ∨ ∃ g, (Value.slice B' (Bk.put pl t).length d').ownBlock = some g ∧ wr.heap.size ≤ g) (h1 : Bk.lead s false key h (l.take (k + 1)) = ql) (h2 : Bk.lead s true key h (l.take (k + 1)) = Bk.put pl t) : Lq s key h l w2 (k + 1) A c B' d' ql (Bk.put pl t) W := by
  refine ⟨h1.symm, h2.symm, H.oq.kept hg H.ne, ho, ?_, H.B.grown hg H.B.size (fun k hk => (H.op.lt k hk).1)⟩
  rcases hb with hb | ⟨g, hb, hg2⟩
  · rw [hb]; exact H.ne
  · rcases H.ne with h3 | h3
    · exact .inl h3
    · right
      rw [hb]
      intro e
      have := (H.oq.lt g e).2
      omega
end Go.Proofs.YtopobliajgocaaaGreatDoor
end
