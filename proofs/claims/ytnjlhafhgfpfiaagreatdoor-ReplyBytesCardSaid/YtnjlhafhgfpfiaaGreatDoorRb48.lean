/-
  WHAT A FEED MAKES of bytes that come: the frames handed back are one's own. ROWS OF ANY ELEMENTS in memory, by their cells. A ROW OF ANY ELEMENTS, appended to one of one's own, as a run.
-/
import Derived.Test.YtnjlhafhgfpfiaaGreatDoorRb05
import Derived.Test.YtnjlhafhgfpfiaaGreatDoorRb47
import Derived.WalkMore
import Derived.Deep.LoopGhost
import Derived.Deep.AppendLies
import Derived.Laws.AppendOwnNone
import Derived.ArgAppend
import Derived.Lib.Walk
import Derived.Lib.SliceRun
import Derived.Lib.AppendZerosOnto
import Derived.Deep.Upon
section
namespace Go.Proofs.YtnjlhafhgfpfiaaGreatDoor
open Go.ChangeShapes Go.WideShapes Go.ChangeAt Go.RowKit
theorem rown_keep {W : World} {B E c b : Nat} {A : Option Addr} {l : List Fr.Frame} (h : W.ownsRow B E 3 (.slice A l.length c) l.length (fcs l)) (hb : b < B) (x y : Value) : ((W.setCell ⟨b, 0, none⟩ x).setCell ⟨b, 1, none⟩ y).ownsRow B E 3 (.slice A l.length c) l.length (fcs l) := by
  have g := only_setCell (p := ⟨b, 1, none⟩) (only_setCell (p := ⟨b, 0, none⟩) (World.grownBy.refl W (some b)) rfl x) rfl y
  exact h.kept g (.inr (Rw.own_row h hb))
def TakeOwn (F : List Fr.Frame × List UInt8 × Nat) (w : World) (e : Ending) (w' : World) : Prop :=
  ∃ A c, e = .returned (TakeV F A c) ∧ w'.ownsRow (w.heap.size + 1 + 1) 50 3 (.slice A F.1.length c) F.1.length (fcs F.1) ∧ Below w.heap.size w w' ∧ w.heap.size + 1 + 1 ≤ w'.heap.size
set_option maxRecDepth 100000 in
set_option maxHeartbeats 4000000 in
theorem takeOwn_ok (r0 c : List UInt8) (w : World) (hl : r0.length + c.length ≤ 100000) (hT : Tab w) :
    Calls Tryz.prog 11 #[.agg #[.string (ofL r0), .int .i64 0], .string (ofL c)] w (TakeOwn (Fr.feed (r0 ++ c)) w) := by
  have HT := Lib.hid hT
  clear hT
  have HP := Lib.hid (fun r W h h2 => fparse_any r W h h2)
  have hz0 : (ofL r0).size = r0.length := ofL_size r0
  have hzc : (ofL c).size = c.length := ofL_size c
  have hcat : ofL r0 ++ ofL c = ofL (r0 ++ c) := ofL_app _ _
  have hll : (r0 ++ c).length = r0.length + c.length := List.length_append
  have hS : TkIn w (r0 ++ c) [] (r0 ++ c) (.slice none 0 0) ((w.alloc (.cells #[.string (ofL r0), .int .i64 0] 41)).alloc (.cells #[.string ⟨#[]⟩, .int .i64 0] 41)) := by
    have d := Duo.new (w.alloc (.cells #[.string (ofL r0), .int .i64 0] 41)) (.string ⟨#[]⟩) (.int .i64 0) 41
    have e : (w.alloc (.cells #[.string (ofL r0), .int .i64 0] 41)).heap.size = w.heap.size + 1 := by simp
    rw [e] at d
    exact ⟨World.ownsRow_nil _ _ _ _, by simp, rfl, ((Below.refl _ _).alloc (Nat.le_refl _) _).alloc (by simp) _, d, Nat.le_refl _, by simp⟩
  have HS := Lib.hid hS
  have HL := Lib.hid hll
  obtain ⟨i1, hi1, hz01, hz1, hz2⟩ := info_parts infoF
  clear hS hll
  generalize r0 ++ c = l at *
  go_enter Tryz.func11, Tryz.ntmps11
  go_wp2_with fail
  go_step3
  go_wp2_with fail
  go_step3
  go_wp2_with fail
  go_loopg [6, 7] l.length (fun g v6 v7 wr => TkSt w l g v6 v7 wr)
  case atStart => exact ⟨[], l, rfl, rfl, HS.out⟩
  case round =>
    obtain ⟨fs, r, rfl, rfl, hI⟩ := hrel
    have HI := Lib.hid hI
    obtain ⟨A, cp, rfl, hcp, -, -⟩ := Rw.own_cells hI.own
    have hle := hI.le
    have hB := hI.below
    have HTr := Lib.hid (HT.out.below hB HT.out.pos)
    clear hI hB
    have hzr : (ofL r).size = r.length := ofL_size r
    have HPr := Lib.hid (fun W h => HP.out r W (by have := HL.out; omega) h)
    by_cases h0 : Fr.code r = 0
    · have hzz := Fr.code_zero h0
      have hv : parseV r = .tuple #[.agg #[.int .u8 ((r.getD 0 0).toNat : Int), .int .u8 ((r.getD 1 0).toNat : Int), .string (ofL (Fr.body r))], .int .i64 ((Fr.len r + 9 : Nat) : Int), .int .i64 0] := if_pos h0
      have hN : ((Fr.len r + 9 : Nat) : Int) = (Fr.len r : Int) + 9 := by omega
      rw [hv, hN] at HPr
      have hf := Fr.feed_ok h0
      have hsl := fun W => slice_from_l (P := Tryz.prog) Tryz.underlying9 r .i64 ((Fr.len r : Int) + 9) (Fr.len r + 9) (by omega) (by omega) W
      have HF := Lib.hid hf
      have hcnt := Fr.feed_count l
      have hfl : fs.length * 9 ≤ 100000 := by
        have e := congrArg List.length HI.out.e1
        rw [List.length_append] at e
        have := HL.out
        omega
      have hfl2 : fs.length ≤ 20000 := by omega
      have HZ := Lib.hid hzz
      clear hv hN h0 hf hzz hcnt hfl
      generalize hD : r.drop (Fr.len r + 9) = d at *
      have HD := Lib.hid hD
      clear hD
      go_wp2_with fail
      refine (HPr.out _ HTr.out).mono ?_
      rintro e w1 ⟨rfl, b1⟩
      have HI1 := Lib.hid (HI.out.on b1)
      have hsz := HI1.out.sz
      clear b1
      go_wp2_with (first
        | (at_builtin; refine wpList_append_lies _ rfl _ _ 42 rfl (w.heap.size + 1 + 1) 50 i1 _ 3 24 Tryz.underlying42 hi1 hz01 hz1 hz2 rfl (by omega) (.slice A fs.length cp) fs.length (fcs fs) (by rfl) ((HI1.out.own.alloc _).alloc _) ⟨w1.heap.size + 1, 0, none⟩ 1 1 (frmL (Fr.front r)) (by rfl) (by rfl) (cell_frm_two w1 _ _ _ _ _) (by simp [Value.oneCell', frmL]) (by omega) (by unfold maxLen; omega) (by omega) (by simp; omega) _ rfl ?_; intro gg cap w2 hown1 hgrow hat hlt'; have HW := Lib.hid hown1; have HG := Lib.hid hgrow; clear hown1 hgrow hat hlt'))
      have HI2 := Lib.hid ((HI1.out.on ((Below.refl _ _).alloc (Nat.le_refl _) (.cells #[.int .u8 ((r.getD 0 0).toNat : Int), .int .u8 ((r.getD 1 0).toNat : Int), .string (ofL (Fr.body r))] 50))).on ((Below.refl _ _).alloc (Nat.le_refl _) (.cells #[.int .u8 ((r.getD 0 0).toNat : Int), .int .u8 ((r.getD 1 0).toNat : Int), .string (ofL (Fr.body r))] 50)))
      have hrow : ∀ k, (Value.slice A fs.length cp).ownBlock = some k → w.heap.size + 1 + 1 ≤ k := fun k hk => (HI1.out.own.lt k hk).1
      have hB2 := HI2.out.below.grown HG.out (by simp; omega) (fun k hk => by have := hrow k hk; omega)
      have hD2 := HI2.out.res.on (B := w.heap.size + 1 + 1) (below_row HG.out (by simp; omega) hrow) (by omega)
      have hdl : d.length + 9 ≤ r.length := by
        have := HZ.out
        rw [← HD.out, List.length_drop]
        omega
      have hs2 := HG.out.size
      have HN := Lib.hid (show TkIn w l (fs ++ [Fr.front r]) d (.slice (some ⟨gg, 0, none⟩) (fs.length + 1) cap) w2 from
        ⟨by rw [List.length_append, fcs_snoc]; exact HW.out, by rw [← HI.out.e1, HF.out]; simp, by rw [← HI.out.e2, HF.out], hB2, hD2, by omega, by simp at hs2; omega⟩)
      clear hB2 hD2 hsl hs2 hrow
      go_roundg d.length
      case rel => exact ⟨fs ++ [Fr.front r], d, rfl, rfl, HN.out⟩
      case measure => omega
    · by_cases h3 : Fr.code r = 3
      · have hv : parseV r = .tuple #[.agg #[.int .u8 0, .int .u8 0, .string ⟨#[]⟩], .int .i64 0, .int .i64 3] := by rw [parseV_3 h3 (by decide)]; rfl
        rw [hv] at HPr
        have hf := Fr.feed_short h3
        have e1 := HI.out.e1
        have e2 := HI.out.e2
        rw [hf] at e1 e2
        have hx : fs = (Fr.feed l).1 := by simpa using e1
        have E1 := Lib.hid hx
        have E2 := Lib.hid e2
        clear hv h3 h0 hf e1 e2 hx
        go_wp2_with fail
        refine (HPr.out _ HTr.out).mono ?_
        rintro e w1 ⟨rfl, b1⟩
        have HI1 := Lib.hid ((HI.out.on b1).on ((Below.refl _ _).alloc (Nat.le_refl _) (.cells #[.int .u8 0, .int .u8 0, .string ⟨#[]⟩] 50)))
        clear b1
        obtain ⟨A2, c2, hv2, hc2, hnil, hF⟩ := rown_frms HI1.out.own
        obtain ⟨rfl, -, rfl⟩ := Value.slice.inj hv2
        have hnew : ∀ a, A = some a → w.heap.size ≤ a.block := fun a ha => by
          have := (HI1.out.own.lt a.block (by rw [ha]; rfl)).1
          omega
        have d0 := HI1.out.res.c0
        have d1 := HI1.out.res.c1
        have f0 := HI1.out.res.fz 0
        have f1 := HI1.out.res.fz 1
        have hlt := HI1.out.res.lt
        clear hF hv2
        go_wp2_with fail
        (repeat rw [Exit.noGoto_ret])
        refine bodyPost_ret (v := .tuple #[.agg #[.string (ofL r), .int .i64 0], .slice A fs.length cp]) (by simp [results, Tryz.results11, go_sem, d0, d1]) rfl ?_
        refine ⟨A, cp, ?_, ?_, ?_, by have := HI1.out.sz; simpa [World.setCell] using this⟩
        · unfold TakeV
          rw [← E1.out, ← E2.out]
          rfl
        · rw [← E1.out]
          exact rown_keep HI1.out.own (by omega) _ _
        · exact (HI1.out.below.setCell (by simp) _).setCell (by simp) _
      · obtain ⟨cd, hcd, hc3, hc0⟩ : ∃ cd : Nat, Fr.code r = cd ∧ ((cd : Int) == 3) = false ∧ ((cd : Int) == 0) = false := ⟨_, rfl, by rw [beq_eq_false_iff_ne]; omega, by rw [beq_eq_false_iff_ne]; omega⟩
        have hv := parseV_3 hcd (by omega)
        rw [hv] at HPr
        have hf := Fr.feed_err h0 h3
        have e1 := HI.out.e1
        have e2 := HI.out.e2
        rw [hf] at e1
        rw [hf, hcd] at e2
        have hx : fs = (Fr.feed l).1 := by simpa using e1
        have E1 := Lib.hid hx
        have E2 := Lib.hid e2
        clear hv h3 h0 hf e1 e2 hx hcd
        go_wp2_with fail
        refine (HPr.out _ HTr.out).mono ?_
        rintro e w1 ⟨rfl, b1⟩
        have HI1 := Lib.hid ((HI.out.on b1).on ((Below.refl _ _).alloc (Nat.le_refl _) (.cells #[.int .u8 0, .int .u8 0, .string ⟨#[]⟩] 50)))
        clear b1
        obtain ⟨A2, c2, hv2, hc2, hnil, hF⟩ := rown_frms HI1.out.own
        obtain ⟨rfl, -, rfl⟩ := Value.slice.inj hv2
        have hnew : ∀ a, A = some a → w.heap.size ≤ a.block := fun a ha => by
          have := (HI1.out.own.lt a.block (by rw [ha]; rfl)).1
          omega
        have d0 := HI1.out.res.c0
        have d1 := HI1.out.res.c1
        have f0 := HI1.out.res.fz 0
        have f1 := HI1.out.res.fz 1
        have hlt := HI1.out.res.lt
        clear hF hv2
        go_wp2_with fail
        (repeat rw [Exit.noGoto_ret])
        refine bodyPost_ret (v := .tuple #[.agg #[.string ⟨#[]⟩, .int .i64 (cd : Int)], .slice A fs.length cp]) (by simp [results, Tryz.results11, go_sem, d0, d1]) rfl ?_
        refine ⟨A, cp, ?_, ?_, ?_, by have := HI1.out.sz; simpa [World.setCell] using this⟩
        · unfold TakeV
          rw [← E1.out, ← E2.out]
          rfl
        · rw [← E1.out]
          exact rown_keep HI1.out.own (by omega) _ _
        · exact (HI1.out.below.setCell (by simp) _).setCell (by simp) _
end Go.Proofs.YtnjlhafhgfpfiaaGreatDoor
end
section
namespace Go.Proofs.YtnjlhafhgfpfiaaGreatDoor
open Go.ChangeShapes Go.WideShapes Go.ChangeAt Go.RowKit
/-- the cells of a row lie at A -/
structure Rws (w : World) (A : Option Addr) (cs : List Value) : Prop where
  at_ : ∀ j v, cs[j]? = some v → ∃ b off, A = some ⟨b, off, none⟩ ∧ b < w.heap.size ∧ w.cell? ⟨b, off + j, none⟩ = some v
theorem Rws.on {w w' : World} {A : Option Addr} {cs : List Value} (h : Rws w A cs) (hb : Below w.heap.size w w') : Rws w' A cs := ⟨fun j v hv => by
  obtain ⟨b, off, hA, hlt, hc⟩ := h.at_ j v hv
  exact ⟨b, off, hA, Nat.lt_of_lt_of_le hlt hb.size, (hb.cell (p := ⟨b, off + j, none⟩) hlt).trans hc⟩⟩
theorem Rws.far {w w' : World} {A : Option Addr} {cs : List Value} {B : Nat} (h : Rws w A cs) (hb : Below B w w') (hB : ∀ a, A = some a → a.block < B) : Rws w' A cs := ⟨fun j v hv => by
  obtain ⟨b, off, rfl, hlt, hc⟩ := h.at_ j v hv
  exact ⟨b, off, rfl, Nat.lt_of_lt_of_le hlt hb.size, (hb.cell (p := ⟨b, off + j, none⟩) (hB ⟨b, off, none⟩ rfl)).trans hc⟩⟩
theorem Rws.nil (w : World) (A : Option Addr) : Rws w A [] := ⟨fun j v hv => by simp at hv⟩
theorem Rws.no {w : World} {cs : List Value} (h : Rws w none cs) : cs = [] := by
  cases cs with
  | nil => rfl
  | cons x t => obtain ⟨b, off, e, _⟩ := h.at_ 0 x rfl; cases e
theorem Rws.lies {w : World} {A : Option Addr} {cs : List Value} (h : Rws w A cs) (hp : 0 < cs.length) : ∃ b off, A = some ⟨b, off, none⟩ ∧ b < w.heap.size ∧ ∀ j v, cs[j]? = some v → w.cell? ⟨b, off + j, none⟩ = some v := by
  obtain ⟨b, off, e, hlt, -⟩ := h.at_ 0 _ (List.getElem?_eq_getElem hp)
  refine ⟨b, off, e, hlt, fun j v hv => ?_⟩
  obtain ⟨b', off', e', -, hc⟩ := h.at_ j v hv
  rw [e] at e'
  cases e'
  exact hc
theorem Rws.drop {w : World} {b off k : Nat} {cs : List Value} (h : Rws w (some ⟨b, off, none⟩) cs) : Rws w (some ⟨b, off + k, none⟩) (cs.drop k) := ⟨fun j v hv => by
  rw [List.getElem?_drop] at hv
  obtain ⟨b', off', e, hlt, hc⟩ := h.at_ (k + j) v hv
  cases e
  exact ⟨b, off + k, rfl, hlt, by rw [Nat.add_assoc]; exact hc⟩⟩
theorem rws_add (b off j : Nat) : (⟨b, off, none⟩ : Addr).add j = ⟨b, off + j, none⟩ := by
  unfold Addr.add
  split
  · rename_i h0
    have : j = 0 := by simpa using h0
    rw [this]; rfl
  · rfl
end Go.Proofs.YtnjlhafhgfpfiaaGreatDoor
end
section
namespace Go.Proofs.YtnjlhafhgfpfiaaGreatDoor
open Go.ChangeShapes Go.WideShapes Go.ChangeAt Go.RowKit
theorem appAny_run {P : Program} {W : World} (t E : TypeId) (i : TypeInfo) (z : Value) (sz by_ : Nat) (ht : P.underlying t = some (.slice E)) (hi : P.info? E = some i) (hz : i.zero = some z) (hsize : i.size = sz) (hby : i.bytes = by_) (hzs : z.cells.size = sz) (h0 : 0 < sz) (hsmall : by_ ≤ 1000)
    {B m : Nat} {v : Value} {xs : List Value} (hown : W.ownsRow B E sz v m xs) {A : Option Addr} {n c : Nat} {cs : List Value} (hx : Rws W A cs) (hlen : cs.length = n * sz) (hone : ∀ u ∈ cs, u.oneCell' = true) (hn : m + n ≤ 100000) (hB : B ≤ W.heap.size) :
    ∃ v' w', (Builtin.append_ #[t, t] t #[v, .slice A n c]).run P W = .ok v' w' ∧ w'.ownsRow B E sz v' (m + n) (xs ++ cs) ∧ W.grownBy w' v.ownBlock ∧ ∀ g, v'.ownBlock = some g → v.ownBlock = some g ∨ W.heap.size ≤ g := by
  rcases Nat.eq_zero_or_pos n with hn0 | hn0
  · subst hn0
    rw [Nat.zero_mul] at hlen
    have e := List.eq_nil_of_length_eq_zero hlen
    subst e
    obtain ⟨A', c', e1, hc', -, -⟩ := Rw.own_cells hown
    subst e1
    have hsrc : Src P i.size t (.slice A 0 c) 0 [] W := by
      cases A with
      | none => exact Src.ofNil W ht c
      | some a => exact Src.ofSlice W ht a 0 c [] (by simp) (fun j u h => by simp at h) (fun u h => by simp at h)
    refine ⟨.slice A' m c', W, run_append_nothing W t t t E i ht hi A' m c' hc' (.slice A 0 c) hsrc, ?_, World.grownBy.refl _ _, fun g hg => Or.inl hg⟩
    rw [List.append_nil]
    exact hown
  · have hp : 0 < cs.length := by rw [hlen]; exact Nat.mul_pos hn0 h0
    obtain ⟨b, off, rfl, hb, hc⟩ := hx.lies hp
    have hb1 : (m + n) * by_ ≤ 100000 * 1000 := Nat.mul_le_mul hn hsmall
    obtain ⟨g, cap, w', hr, h2, h3, h4, h5⟩ := run_append_lies (P := P) W t t B E i z sz by_ ht hi hz hsize hby hzs h0 v m xs hown ⟨b, off, none⟩ n c cs hlen (fun j u hu => by rw [rws_add]; exact hc j u hu) hone hn0 (by unfold maxLen; omega) (by omega) hB W.heap.size rfl
    refine ⟨_, w', hr, h2, h3, fun q hq => ?_⟩
    have e : q = g := by simpa [Value.ownBlock] using hq.symm
    subst e
    exact h4.imp_right fun e => by omega
end Go.Proofs.YtnjlhafhgfpfiaaGreatDoor
end
