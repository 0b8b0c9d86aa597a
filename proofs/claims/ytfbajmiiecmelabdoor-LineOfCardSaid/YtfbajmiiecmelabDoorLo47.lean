/-
  A LINE as the document's rows: walked.
-/
import Derived.Test.YtfbajmiiecmelabDoorLo46

section
namespace Go.Proofs.YtfbajmiiecmelabDoor
open Go.ChangeShapes Go.WideShapes Go.ChangeAt Go.RowKit
theorem its_succ {m : List ItP} {k : Nat} (hk : k < m.length) : its (m.take (k + 1)) = its (m.take k) ++ its [m[k]] := by rw [List.take_succ_eq_append_getElem hk, its_app]
def Of18Post (l : List It) (w : World) (e : Ending) (w' : World) : Prop := ∃ (A' : Option Addr) (c' : Nat) (m' : List ItP), e = .returned (.slice A' m'.length c') ∧ m'.map (·.x) = l ∧ m'.length ≤ c' ∧ (A' = none → c' = 0) ∧ Its w' A' m' ∧ Below w.heap.size w w'
def OdSt (w : World) (m : List ItP) (g : Nat) (v i : Value) (wr : World) : Prop := ∃ (k : Nat) (A : Option Addr) (c : Nat), k + g = m.length ∧ v = .slice A k c ∧ i = .int .i64 (k : Int) ∧ wr.ownsRow w.heap.size 32 9 (.slice A k c) k (its (m.take k)) ∧ Below w.heap.size w wr
set_option maxRecDepth 100000 in
set_option maxHeartbeats 4000000 in
theorem of18_any (v : Value) (l : List It) (w : World) (hl : l.length ≤ 1000) (h : LnIn w v l) : Calls Tryd.prog 9 #[v] w (Of18Post l w) := by
  obtain ⟨A, c, m0, rfl, hm, hlc, hI⟩ := h
  have hb0 := one_alloc w (.cells #[.slice A l.length c] 34)
  have HB0 := Lib.hid hb0
  have HX0 := Lib.hid (box_at0 w #[.slice A l.length c] 34)
  have HA := Lib.hid (lnAll_any (.agg #[.slice A l.length c]) l _ (by omega) ⟨A, c, m0, rfl, hm, hlc, hI.on hb0⟩)
  unfold AllPost at HA
  obtain ⟨i1, hi1, hz0, hz1, hz2⟩ := info_parts infoRit
  clear hb0 hI hm hlc
  go_enter Tryd.func9, Tryd.ntmps9
  go_wp2_with fail
  refine HA.out.mono ?_
  rintro e w2 ⟨A2, c2, rfl, hu, hb⟩
  have HB2 := Lib.hid (bthen HB0.out hb (Nat.le_refl _))
  obtain ⟨A3, c3, m, e3, hm, hlc, hI, -⟩ := hu
  obtain ⟨rfl, rfl⟩ : A2 = A3 ∧ c2 = c3 := by simpa using e3
  have hml := xs_len hm
  have HI := Lib.hid hI
  have HM := Lib.hid hm
  have hml2 : m.length ≤ 1000 := by omega
  rw [← hml]
  have HML := Lib.hid hml
  clear hb hI hm hlc e3 hml
  go_wp2_with fail
  go_loopg [3, 9] m.length (fun g v i wr => OdSt w2 m g v i wr)
  case atStart => exact ⟨0, none, 0, by omega, rfl, rfl, World.ownsRow_nil _ _ _ _, Below.refl _ _⟩
  case round =>
    obtain ⟨k, A', c', hk, rfl, rfl, ho, hB⟩ := hrel
    have HK := Lib.hid hk
    have HO := Lib.hid ho
    have HBK := Lib.hid hB
    clear hk ho hB
    by_cases hlt : k < m.length
    · obtain ⟨b, off, hAe, hbl, hat⟩ := HI.out.at_ k hlt
      have hat2 := fun j v hv => (HBK.out.cell (p := ⟨b, off + k * 9 + j, none⟩) hbl).trans (hat j v hv)
      subst hAe
      have HTK := Lib.hid (its_succ hlt)
      generalize m[k] = p at *
      obtain ⟨x, Ax, cx⟩ := p
      dsimp only at hat2
      unfold itL at hat2
      have cc0 := hat2 0 _ rfl
      have cc1 := hat2 1 _ rfl
      have cc2 := hat2 2 _ rfl
      have cc3 := hat2 3 _ rfl
      have cc4 := hat2 4 _ rfl
      have cc5 := hat2 5 _ rfl
      have cc6 := hat2 6 _ rfl
      have cc7 := hat2 7 _ rfl
      have cc8 := hat2 8 _ rfl
      rw [Nat.add_zero] at cc0
      have HT := Lib.hid (two_allocs wr (.cells #[.int .u64 (x.m.id : Int), .string (ofL x.m.shop), .string (ofL x.m.key), .slice Ax x.m.head.length cx, .string (ofL x.m.body), .int .u64 (x.m.due : Int), .int .u8 (x.m.hops : Int), .bool x.lent, .bool x.again] 30) (.cells #[.int .u64 (x.m.id : Int), .string (ofL x.m.shop), .string (ofL x.m.key), .slice Ax x.m.head.length cx, .string (ofL x.m.body), .int .u64 (x.m.due : Int), .int .u8 (x.m.hops : Int), .bool x.lent, .bool x.again] 32))
      have HOX := Lib.hid (Rw.own_on HO.out HT.out)
      have HNW := Lib.hid (show Rws ((wr.alloc (.cells #[.int .u64 (x.m.id : Int), .string (ofL x.m.shop), .string (ofL x.m.key), .slice Ax x.m.head.length cx, .string (ofL x.m.body), .int .u64 (x.m.due : Int), .int .u8 (x.m.hops : Int), .bool x.lent, .bool x.again] 30)).alloc (.cells #[.int .u64 (x.m.id : Int), .string (ofL x.m.shop), .string (ofL x.m.key), .slice Ax x.m.head.length cx, .string (ofL x.m.body), .int .u64 (x.m.due : Int), .int .u8 (x.m.hops : Int), .bool x.lent, .bool x.again] 32)) (some ⟨wr.heap.size + 1, 0, none⟩) (its [(⟨x, Ax, cx⟩ : ItP)]) from Rws.of_news (fun j u hu => by
        rw [Nat.zero_add, show wr.heap.size + 1 = (wr.alloc (.cells #[.int .u64 (x.m.id : Int), .string (ofL x.m.shop), .string (ofL x.m.key), .slice Ax x.m.head.length cx, .string (ofL x.m.body), .int .u64 (x.m.due : Int), .int .u8 (x.m.hops : Int), .bool x.lent, .bool x.again] 30)).heap.size by simp]
        exact (World.cell?_alloc_new _ #[.int .u64 (x.m.id : Int), .string (ofL x.m.shop), .string (ofL x.m.key), .slice Ax x.m.head.length cx, .string (ofL x.m.body), .int .u64 (x.m.due : Int), .int .u8 (x.m.hops : Int), .bool x.lent, .bool x.again] 32 j).trans (by simpa [its, itL] using hu)))
      have HS := Lib.hid (Nat.le_trans HBK.out.size HT.out.size)
      have HBT := Lib.hid (bthen HBK.out HT.out (Nat.le_refl _))
      clear hat hat2
      go_wp2_with (at_builtin; refine wpList_append_rws _ rfl _ _ 24 rfl w2.heap.size 32 i1 _ 9 104 Tryd.underlying24 hi1 hz0 hz1 hz2 rfl (by decide) (by decide) (by rfl) HOX.out (by rfl) HNW.out (by rfl) (its_one _) (by omega) (fun e => by cases e) HS.out ?_; intro v6 w6 hown hgrow; rw [← HTK.out] at hown; have HB6 := Lib.hid (HBT.out.grown hgrow HS.out (fun kk hk => (HOX.out.lt kk hk).1)); obtain ⟨A6, c6, rfl, -, -⟩ := Rw.own_cells hown; have HO6 := Lib.hid hown; clear hown hgrow cc0 cc1 cc2 cc3 cc4 cc5 cc6 cc7 cc8)
      go_roundg (gk - 1)
      case rel => exact ⟨k + 1, A6, c6, by have := HK.out; omega, rfl, by go_num, HO6.out, HB6.out⟩
      case measure => have := HK.out; omega
    · have hkE : k = m.length := by have := HK.out; omega
      subst hkE
      go_wp2_with fail
      go_ret
      have ho := HO.out
      rw [List.take_length] at ho
      obtain ⟨A6, c6, e6, hc6, hn6, -, -⟩ := Rws.of_own ho
      obtain ⟨rfl, -, rfl⟩ := Value.slice.inj e6
      exact ⟨A', c', m, rfl, HM.out, hc6, hn6, Its.of_own ho (fun p hp => (HI.out.ok p hp).on HBK.out), bthen HB2.out HBK.out (Nat.le_refl _)⟩
end Go.Proofs.YtfbajmiiecmelabDoor
end
