/-
  WHAT A FEED MAKES of bytes that come: the program's Take, walked.
-/
import Derived.Test.YtnjlhafhgfpfiaaGreatDoorRb40
import Derived.WalkMore
section
namespace Go.Proofs.YtnjlhafhgfpfiaaGreatDoor
open Go.ChangeShapes Go.WideShapes Go.ChangeAt Go.RowKit
theorem Duo.far {b B : Nat} {x y : Value} {w w' : World} (h : Duo b x y w) (hb : Below B w w') (hB : b < B) : Duo b x y w' := h.on hb hB
theorem Duo.set0 {b : Nat} {x y : Value} {w : World} (h : Duo b x y w) (v : Value) : Duo b v y (w.setCell ⟨b, 0, none⟩ v) :=
  ⟨World.cell?_setCell_same _ _ _ h.c0, (World.cell?_setCell_other _ _ _ _ (ne_off (by decide))).trans h.c1, fun j => by rw [World.frozen?_setCell]; exact h.fz j⟩
theorem Duo.set1 {b : Nat} {x y : Value} {w : World} (h : Duo b x y w) (v : Value) : Duo b x v (w.setCell ⟨b, 1, none⟩ v) :=
  ⟨(World.cell?_setCell_other _ _ _ _ (ne_off (by decide))).trans h.c0, World.cell?_setCell_same _ _ _ h.c1, fun j => by rw [World.frozen?_setCell]; exact h.fz j⟩
/-- what the loop of Take keeps -/
structure TkIn (w : World) (l0 : List UInt8) (fs : List Fr.Frame) (r : List UInt8) (v6 : Value) (wr : World) : Prop where
  own : wr.ownsRow (w.heap.size + 1 + 1) 50 3 v6 fs.length (fcs fs)
  e1 : fs ++ (Fr.feed r).1 = (Fr.feed l0).1
  e2 : (Fr.feed r).2 = (Fr.feed l0).2
  below : Below w.heap.size w wr
  res : Duo (w.heap.size + 1) (.string ⟨#[]⟩) (.int .i64 0) wr
  le : r.length ≤ l0.length
  sz : w.heap.size + 1 + 1 ≤ wr.heap.size
def TkSt (w : World) (l0 : List UInt8) (g : Nat) (v6 v7 : Value) (wr : World) : Prop :=
  ∃ (fs : List Fr.Frame) (r : List UInt8), g = r.length ∧ v7 = .string (ofL r) ∧ TkIn w l0 fs r v6 wr
theorem TkIn.on {w : World} {l0 : List UInt8} {fs : List Fr.Frame} {r : List UInt8} {v6 : Value} {wr w' : World} (h : TkIn w l0 fs r v6 wr) (hb : Below wr.heap.size wr w') : TkIn w l0 fs r v6 w' :=
  ⟨Rw.own_on h.own hb, h.e1, h.e2, bthen h.below hb (Nat.le_refl _), h.res.on hb h.res.lt, h.le, Nat.le_trans h.sz hb.size⟩
def TakeV (F : List Fr.Frame × List UInt8 × Nat) (A : Option Addr) (c : Nat) : Value := .tuple #[.agg #[.string (ofL F.2.1), .int .i64 (F.2.2 : Int)], .slice A F.1.length c]
def TakePost (F : List Fr.Frame × List UInt8 × Nat) (w : World) (e : Ending) (w' : World) : Prop :=
  ∃ A c, e = .returned (TakeV F A c) ∧ F.1.length ≤ c ∧ (A = none → c = 0) ∧ Frms w' A F.1 ∧ (∀ a, A = some a → w.heap.size ≤ a.block) ∧ Below w.heap.size w w'
theorem below_row {W w1 : World} {b : Nat} {row : Option Nat} (h : W.grownBy w1 row) (hW : b ≤ W.heap.size) (hr : ∀ k, row = some k → b ≤ k) : Below b W w1 :=
  ⟨h.os, h.tape, h.output, h.size, fun k hk => h.block k (by omega) (fun e => by have := hr k e.symm; omega)⟩
theorem rown_put {W : World} {B E c b : Nat} {A : Option Addr} {l : List Fr.Frame} (h : W.ownsRow B E 3 (.slice A l.length c) l.length (fcs l)) (hb : b < B) (x y : Value) : Frms ((W.setCell ⟨b, 0, none⟩ x).setCell ⟨b, 1, none⟩ y) A l := by
  have g := only_setCell (p := ⟨b, 1, none⟩) (only_setCell (p := ⟨b, 0, none⟩) (World.grownBy.refl W (some b)) rfl x) rfl y
  obtain ⟨A2, c2, hv2, -, -, hF⟩ := rown_frms (h.kept g (.inr (Rw.own_row h hb)))
  obtain ⟨rfl, -, rfl⟩ := Value.slice.inj hv2
  exact hF
theorem take_err (r : List UInt8) (e : Nat) (c : ByteArray) (w : World) (he : e ≠ 0) :
    Calls Tryz.prog 11 #[.agg #[.string (ofL r), .int .i64 (e : Int)], .string c] w (TakePost ([], r, e) w) := by
  have k0 : ((e : Int) != 0) = true := by rw [bne_iff_ne]; omega
  clear he
  go_enter Tryz.func11, Tryz.ntmps11
  go_wp2_with fail
  go_step3
  go_wp2_with fail
  rw [Exit.noGoto_ret]
  refine bodyPost_ret (v := .tuple #[.agg #[.string (ofL r), .int .i64 (e : Int)], .slice none 0 0]) (by simp [results, Tryz.results11, go_sem]) rfl ?_
  exact ⟨none, 0, rfl, Nat.le_refl _, fun _ => rfl, Frms.nil _ _, (fun a h => by cases h), ((Below.refl _ _).alloc (Nat.le_refl _) _).alloc (by simp) _⟩
set_option maxRecDepth 100000 in
set_option maxHeartbeats 4000000 in
theorem take_ok (r0 c : List UInt8) (w : World) (hl : r0.length + c.length ≤ 100000) (hT : Tab w) :
    Calls Tryz.prog 11 #[.agg #[.string (ofL r0), .int .i64 0], .string (ofL c)] w (TakePost (Fr.feed (r0 ++ c)) w) := by
  have HT := Lib.hid hT
  clear hT
  have HP := Lib.hid (fun r W h h2 => fparse_any r W h h2)
  have hz0 : (ofL r0).size = r0.length := ofL_size r0
  have hzc : (ofL c).size = c.length := ofL_size c
  have hcat : ofL r0 ++ ofL c = ofL (r0 ++ c) := ofL_app _ _
  have hll : (r0 ++ c).length = r0.length + c.length := List.length_append
  have hS : TkIn w (r0 ++ c) [] (r0 ++ c) (.slice none 0 0) ((w.alloc (.cells #[.string (ofL r0), .int .i64 0] 41)).alloc (.cells #[.string ⟨#[]⟩, .int .i64 0] 41)) := by
    have d := Duo.new (w.alloc (.cells #[.string (ofL r0), .int .i64 0] 41)) (.string ⟨#[]⟩) (.int .i64 0) 41
    have e : (w.alloc (.cells #[.string (ofL r0), .int .i64 0] 41)).heap.size = w.heap.size + 1 := by simp
    rw [e] at d
    exact ⟨World.ownsRow_nil _ _ _ _, by simp, rfl, ((Below.refl _ _).alloc (Nat.le_refl _) _).alloc (by simp) _, d, Nat.le_refl _, by simp⟩
  have HS := Lib.hid hS
  have HL := Lib.hid hll
  obtain ⟨i1, hi1, hz01, hz1, hz2⟩ := info_parts infoF
  clear hS hll
  generalize r0 ++ c = l at *
  go_enter Tryz.func11, Tryz.ntmps11
  go_wp2_with fail
  go_step3
  go_wp2_with fail
  go_step3
  go_wp2_with fail
  go_loopg [6, 7] l.length (fun g v6 v7 wr => TkSt w l g v6 v7 wr)
  case atStart => exact ⟨[], l, rfl, rfl, HS.out⟩
  case round =>
    obtain ⟨fs, r, rfl, rfl, hI⟩ := hrel
    have HI := Lib.hid hI
    obtain ⟨A, cp, rfl, hcp, -, -⟩ := Rw.own_cells hI.own
    have hle := hI.le
    have hB := hI.below
    have HTr := Lib.hid (HT.out.below hB HT.out.pos)
    clear hI hB
    have hzr : (ofL r).size = r.length := ofL_size r
    have HPr := Lib.hid (fun W h => HP.out r W (by have := HL.out; omega) h)
    by_cases h0 : Fr.code r = 0
    · have hzz := Fr.code_zero h0
      have hv : parseV r = .tuple #[.agg #[.int .u8 ((r.getD 0 0).toNat : Int), .int .u8 ((r.getD 1 0).toNat : Int), .string (ofL (Fr.body r))], .int .i64 ((Fr.len r + 9 : Nat) : Int), .int .i64 0] := if_pos h0
      have hN : ((Fr.len r + 9 : Nat) : Int) = (Fr.len r : Int) + 9 := by omega
      rw [hv, hN] at HPr
      have hf := Fr.feed_ok h0
      have hsl := fun W => slice_from_l (P := Tryz.prog) Tryz.underlying9 r .i64 ((Fr.len r : Int) + 9) (Fr.len r + 9) (by omega) (by omega) W
      have HF := Lib.hid hf
      have hcnt := Fr.feed_count l
      have hfl : fs.length * 9 ≤ 100000 := by
        have e := congrArg List.length HI.out.e1
        rw [List.length_append] at e
        have := HL.out
        omega
      have hfl2 : fs.length ≤ 20000 := by omega
      have HZ := Lib.hid hzz
      clear hv hN h0 hf hzz hcnt hfl
      generalize hD : r.drop (Fr.len r + 9) = d at *
      have HD := Lib.hid hD
      clear hD
      go_wp2_with fail
      refine (HPr.out _ HTr.out).mono ?_
      rintro e w1 ⟨rfl, b1⟩
      have HI1 := Lib.hid (HI.out.on b1)
      have hsz := HI1.out.sz
      clear b1
      go_wp2_with (first
        | (at_builtin; refine wpList_append_lies _ rfl _ _ 42 rfl (w.heap.size + 1 + 1) 50 i1 _ 3 24 Tryz.underlying42 hi1 hz01 hz1 hz2 rfl (by omega) (.slice A fs.length cp) fs.length (fcs fs) (by rfl) ((HI1.out.own.alloc _).alloc _) ⟨w1.heap.size + 1, 0, none⟩ 1 1 (frmL (Fr.front r)) (by rfl) (by rfl) (cell_frm_two w1 _ _ _ _ _) (by simp [Value.oneCell', frmL]) (by omega) (by unfold maxLen; omega) (by omega) (by simp; omega) _ rfl ?_; intro gg cap w2 hown1 hgrow hat hlt'; have HW := Lib.hid hown1; have HG := Lib.hid hgrow; clear hown1 hgrow hat hlt'))
      have HI2 := Lib.hid ((HI1.out.on ((Below.refl _ _).alloc (Nat.le_refl _) (.cells #[.int .u8 ((r.getD 0 0).toNat : Int), .int .u8 ((r.getD 1 0).toNat : Int), .string (ofL (Fr.body r))] 50))).on ((Below.refl _ _).alloc (Nat.le_refl _) (.cells #[.int .u8 ((r.getD 0 0).toNat : Int), .int .u8 ((r.getD 1 0).toNat : Int), .string (ofL (Fr.body r))] 50)))
      have hrow : ∀ k, (Value.slice A fs.length cp).ownBlock = some k → w.heap.size + 1 + 1 ≤ k := fun k hk => (HI1.out.own.lt k hk).1
      have hB2 := HI2.out.below.grown HG.out (by simp; omega) (fun k hk => by have := hrow k hk; omega)
      have hD2 := HI2.out.res.on (B := w.heap.size + 1 + 1) (below_row HG.out (by simp; omega) hrow) (by omega)
      have hdl : d.length + 9 ≤ r.length := by
        have := HZ.out
        rw [← HD.out, List.length_drop]
        omega
      have hs2 := HG.out.size
      have HN := Lib.hid (show TkIn w l (fs ++ [Fr.front r]) d (.slice (some ⟨gg, 0, none⟩) (fs.length + 1) cap) w2 from
        ⟨by rw [List.length_append, fcs_snoc]; exact HW.out, by rw [← HI.out.e1, HF.out]; simp, by rw [← HI.out.e2, HF.out], hB2, hD2, by omega, by simp at hs2; omega⟩)
      clear hB2 hD2 hsl hs2 hrow
      go_roundg d.length
      case rel => exact ⟨fs ++ [Fr.front r], d, rfl, rfl, HN.out⟩
      case measure => omega
    · by_cases h3 : Fr.code r = 3
      · have hv : parseV r = .tuple #[.agg #[.int .u8 0, .int .u8 0, .string ⟨#[]⟩], .int .i64 0, .int .i64 3] := by rw [parseV_3 h3 (by decide)]; rfl
        rw [hv] at HPr
        have hf := Fr.feed_short h3
        have e1 := HI.out.e1
        have e2 := HI.out.e2
        rw [hf] at e1 e2
        have hx : fs = (Fr.feed l).1 := by simpa using e1
        have E1 := Lib.hid hx
        have E2 := Lib.hid e2
        clear hv h3 h0 hf e1 e2 hx
        go_wp2_with fail
        refine (HPr.out _ HTr.out).mono ?_
        rintro e w1 ⟨rfl, b1⟩
        have HI1 := Lib.hid ((HI.out.on b1).on ((Below.refl _ _).alloc (Nat.le_refl _) (.cells #[.int .u8 0, .int .u8 0, .string ⟨#[]⟩] 50)))
        clear b1
        obtain ⟨A2, c2, hv2, hc2, hnil, hF⟩ := rown_frms HI1.out.own
        obtain ⟨rfl, -, rfl⟩ := Value.slice.inj hv2
        have hnew : ∀ a, A = some a → w.heap.size ≤ a.block := fun a ha => by
          have := (HI1.out.own.lt a.block (by rw [ha]; rfl)).1
          omega
        have d0 := HI1.out.res.c0
        have d1 := HI1.out.res.c1
        have f0 := HI1.out.res.fz 0
        have f1 := HI1.out.res.fz 1
        have hlt := HI1.out.res.lt
        clear hF hv2
        go_wp2_with fail
        (repeat rw [Exit.noGoto_ret])
        refine bodyPost_ret (v := .tuple #[.agg #[.string (ofL r), .int .i64 0], .slice A fs.length cp]) (by simp [results, Tryz.results11, go_sem, d0, d1]) rfl ?_
        refine ⟨A, cp, ?_, by rw [← E1.out]; exact hc2, hnil, ?_, hnew, ?_⟩
        · unfold TakeV
          rw [← E1.out, ← E2.out]
          rfl
        · rw [← E1.out]
          exact rown_put HI1.out.own (by omega) _ _
        · exact (HI1.out.below.setCell (by simp) _).setCell (by simp) _
      · obtain ⟨cd, hcd, hc3, hc0⟩ : ∃ cd : Nat, Fr.code r = cd ∧ ((cd : Int) == 3) = false ∧ ((cd : Int) == 0) = false := ⟨_, rfl, by rw [beq_eq_false_iff_ne]; omega, by rw [beq_eq_false_iff_ne]; omega⟩
        have hv := parseV_3 hcd (by omega)
        rw [hv] at HPr
        have hf := Fr.feed_err h0 h3
        have e1 := HI.out.e1
        have e2 := HI.out.e2
        rw [hf] at e1
        rw [hf, hcd] at e2
        have hx : fs = (Fr.feed l).1 := by simpa using e1
        have E1 := Lib.hid hx
        have E2 := Lib.hid e2
        clear hv h3 h0 hf e1 e2 hx hcd
        go_wp2_with fail
        refine (HPr.out _ HTr.out).mono ?_
        rintro e w1 ⟨rfl, b1⟩
        have HI1 := Lib.hid ((HI.out.on b1).on ((Below.refl _ _).alloc (Nat.le_refl _) (.cells #[.int .u8 0, .int .u8 0, .string ⟨#[]⟩] 50)))
        clear b1
        obtain ⟨A2, c2, hv2, hc2, hnil, hF⟩ := rown_frms HI1.out.own
        obtain ⟨rfl, -, rfl⟩ := Value.slice.inj hv2
        have hnew : ∀ a, A = some a → w.heap.size ≤ a.block := fun a ha => by
          have := (HI1.out.own.lt a.block (by rw [ha]; rfl)).1
          omega
        have d0 := HI1.out.res.c0
        have d1 := HI1.out.res.c1
        have f0 := HI1.out.res.fz 0
        have f1 := HI1.out.res.fz 1
        have hlt := HI1.out.res.lt
        clear hF hv2
        go_wp2_with fail
        (repeat rw [Exit.noGoto_ret])
        refine bodyPost_ret (v := .tuple #[.agg #[.string ⟨#[]⟩, .int .i64 (cd : Int)], .slice A fs.length cp]) (by simp [results, Tryz.results11, go_sem, d0, d1]) rfl ?_
        refine ⟨A, cp, ?_, by rw [← E1.out]; exact hc2, hnil, ?_, hnew, ?_⟩
        · unfold TakeV
          rw [← E1.out, ← E2.out]
          rfl
        · rw [← E1.out]
          exact rown_put HI1.out.own (by omega) _ _
        · exact (HI1.out.below.setCell (by simp) _).setCell (by simp) _
end Go.Proofs.YtnjlhafhgfpfiaaGreatDoor
end
