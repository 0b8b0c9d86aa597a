/-
  ROWS OF FRAMES; what a Feed makes of bytes that come: walked.
-/
import Derived.Test.YtecgedbabcdfkaaDoorFrmG
import Derived.Test.YtecgedbabcdfkaaDoorFdMath
import Derived.Test.YtecgedbabcdfkaaDoorRow
import Derived.Deep.LoopGhost
import Derived.Deep.AppendLies
namespace Go.Proofs.YtecgedbabcdfkaaDoor
open Go.ChangeShapes Go.WideShapes Go.ChangeAt Go.RowKit

/-! ### frames in memory -/
def frmL (f : Fr.Frame) : List Value := [.int .u8 (f.c.toNat : Int), .int .u8 (f.k.toNat : Int), .string (ofL f.b)]
def fcs (l : List Fr.Frame) : List Value := l.flatMap frmL
theorem fcs_snoc (l : List Fr.Frame) (x : Fr.Frame) : fcs (l ++ [x]) = fcs l ++ frmL x := by unfold fcs; rw [List.flatMap_append]; simp
theorem fcs_app (l m : List Fr.Frame) : fcs (l ++ m) = fcs l ++ fcs m := by unfold fcs; rw [List.flatMap_append]
theorem fcs_len (l : List Fr.Frame) : (fcs l).length = l.length * 3 := Rw.flat_len frmL 3 (fun _ => rfl) l
theorem fcs_one (l : List Fr.Frame) : ∀ u ∈ fcs l, u.oneCell' = true := by
  intro u hu
  unfold fcs at hu
  obtain ⟨f, _, hf⟩ := List.mem_flatMap.1 hu
  simp only [frmL, List.mem_cons, List.not_mem_nil, or_false] at hf
  rcases hf with rfl | rfl | rfl <;> rfl
def frm (l : List Fr.Frame) (i : Nat) : Fr.Frame := l.getD i ⟨0, 0, []⟩
structure FrmC (w : World) (b o : Nat) (f : Fr.Frame) : Prop where
  c0 : w.cell? ⟨b, o, none⟩ = some (.int .u8 (f.c.toNat : Int))
  c1 : w.cell? ⟨b, o + 1, none⟩ = some (.int .u8 (f.k.toNat : Int))
  c2 : w.cell? ⟨b, o + 2, none⟩ = some (.string (ofL f.b))
structure Frms (w : World) (A : Option Addr) (l : List Fr.Frame) : Prop where
  at_ : ∀ i, i < l.length → ∃ b off, A = some ⟨b, off, none⟩ ∧ b < w.heap.size ∧ FrmC w b (off + i * 3) (frm l i)
theorem FrmC.below {w w' : World} {B b o : Nat} {f : Fr.Frame} (h : FrmC w b o f) (hb : Below B w w') (hB : b < B) : FrmC w' b o f :=
  ⟨(hb.cell (p := ⟨b, o, none⟩) hB).trans h.c0, (hb.cell (p := ⟨b, o + 1, none⟩) hB).trans h.c1, (hb.cell (p := ⟨b, o + 2, none⟩) hB).trans h.c2⟩
theorem Frms.on {w w' : World} {A : Option Addr} {l : List Fr.Frame} (h : Frms w A l) (hb : Below w.heap.size w w') : Frms w' A l := ⟨fun i hi => by
  obtain ⟨b, off, hA, hlt, hat⟩ := h.at_ i hi
  exact ⟨b, off, hA, Nat.lt_of_lt_of_le hlt hb.size, hat.below hb hlt⟩⟩
theorem Frms.nil (w : World) (A : Option Addr) : Frms w A [] := ⟨fun i hi => absurd hi (by simp)⟩
theorem rown_frms {w : World} {B E : Nat} {v : Value} {l : List Fr.Frame} (h : w.ownsRow B E 3 v l.length (fcs l)) :
    ∃ A c, v = .slice A l.length c ∧ l.length ≤ c ∧ (A = none → c = 0) ∧ Frms w A l := by
  obtain ⟨A, c, rfl, hc, hb, hx⟩ := Rw.own_cells h
  refine ⟨A, c, rfl, hc, ?_, ⟨fun i hi => ?_⟩⟩
  · rintro rfl
    rcases h.2 with ⟨e, _⟩ | ⟨g, cap, cur, e, _⟩
    · exact (Value.slice.inj e).2.2
    · exact absurd (Value.slice.inj e).1 (by simp)
  · obtain ⟨g, rfl, hg, hcell⟩ := hx (by omega)
    have e : frm l i = l[i] := by unfold frm; rw [List.getD_eq_getElem?_getD, List.getElem?_eq_getElem hi]; rfl
    have at_ : ∀ t, t < 3 → w.cell? ⟨g, i * 3 + t, none⟩ = (frmL l[i])[t]? := fun t ht => by
      rw [hcell _ (by omega)]
      exact Rw.flat_get frmL 3 (fun _ => rfl) (by omega) l i t hi ht
    refine ⟨g, 0, rfl, hg, ?_⟩
    rw [e, Nat.zero_add]
    exact ⟨at_ 0 (by omega), at_ 1 (by omega), at_ 2 (by omega)⟩
theorem infoF : (Tryd.prog.info? 23).map (fun i => (i.zero, i.size, i.bytes)) = some (some (.agg #[.int .u8 0, .int .u8 0, .string ⟨#[]⟩]), 3, 24) := by kernel_rfl
theorem infoRF : (Tryd.prog.info? 33).map (fun i => (i.zero, i.size, i.bytes)) = some (some (.agg #[.int .u8 0, .int .u8 0, .string ⟨#[]⟩]), 3, 24) := by kernel_rfl
theorem cell_frm_two (w : World) (o : Obj) (x0 x1 x2 : Value) (t : TypeId) : ∀ j u, [x0, x1, x2][j]? = some u → ((w.alloc o).alloc (.cells #[x0, x1, x2] t)).cell? ((⟨w.heap.size + 1, 0, none⟩ : Addr).add j) = some u := by
  have e : (w.alloc o).heap.size = w.heap.size + 1 := by simp
  have h := World.news_of_block (w := (w.alloc o).alloc (.cells #[x0, x1, x2] t)) (B := w.heap.size + 1) (cs := #[x0, x1, x2]) (t := t) (fr := (0, 0)) (by rw [← e]; exact heap_alloc_new _ _)
  exact h
/-- two cells of a block of one's own -/
structure Duo (b : Nat) (x y : Value) (w : World) : Prop where
  c0 : w.cell? ⟨b, 0, none⟩ = some x
  c1 : w.cell? ⟨b, 1, none⟩ = some y
  fz : ∀ j, w.frozen? ⟨b, j, none⟩ = false
theorem Duo.lt {b : Nat} {x y : Value} {w : World} (h : Duo b x y w) : b < w.heap.size := World.block_lt_of_cell? w _ h.c0
theorem Duo.on {b B : Nat} {x y : Value} {w w' : World} (h : Duo b x y w) (hb : Below B w w') (hB : b < B) : Duo b x y w' :=
  ⟨(hb.cell (p := ⟨b, 0, none⟩) hB).trans h.c0, (hb.cell (p := ⟨b, 1, none⟩) hB).trans h.c1, fun j => (hb.frozen (p := ⟨b, j, none⟩) hB).trans (h.fz j)⟩
theorem Duo.new (w : World) (x y : Value) (t : TypeId) : Duo w.heap.size x y (w.alloc (.cells #[x, y] t)) :=
  ⟨cell_new _ _ _ _ _ rfl, cell_new _ _ _ _ _ rfl, fun _ => free_new _ _ _ _ _ rfl⟩

/-- what the loop of the document's All keeps -/
def AllSt (w : World) (l0 : List UInt8) (g : Nat) (v0 v5 : Value) (wr : World) : Prop :=
  ∃ (fs : List Fr.Frame) (r : List UInt8), g = r.length ∧ v0 = .string (ofL r) ∧ wr.ownsRow w.heap.size 33 3 v5 fs.length (fcs fs) ∧ fs ++ (Fr.feed r).1 = (Fr.feed l0).1 ∧ (Fr.feed r).2 = (Fr.feed l0).2 ∧ Below w.heap.size w wr ∧ r.length ≤ l0.length
/-- what comes out of All -/
def AllPost (l : List UInt8) (w : World) (e : Ending) (w' : World) : Prop :=
  ∃ A c, e = .returned (.tuple #[.slice A (Fr.feed l).1.length c, .string (ofL (Fr.feed l).2.1), .int .i64 ((Fr.feed l).2.2 : Int)]) ∧ Frms w' A (Fr.feed l).1 ∧ Below w.heap.size w w'
set_option maxRecDepth 100000 in
set_option maxHeartbeats 4000000 in
theorem all8_any (l : List UInt8) (w : World) (hl : l.length ≤ 100000) :
    Calls Tryd.prog 20 #[.string (ofL l)] w (AllPost l w) := by
  have HP := Lib.hid (fun r W h => rparse_any r W h)
  obtain ⟨i1, hi1, hz0, hz1, hz2⟩ := info_parts infoRF
  go_enter Tryd.func20, Tryd.ntmps20
  go_wp2_with fail
  go_loopg [0, 5] l.length (fun g v0 v5 wr => AllSt w l g v0 v5 wr)
  case atStart => exact ⟨[], l, rfl, rfl, World.ownsRow_nil _ _ _ _, by simp, rfl, Below.refl _ _, Nat.le_refl _⟩
  case round =>
    obtain ⟨fs, r, rfl, rfl, hO, h1, h2, hB, hle⟩ := hrel
    obtain ⟨A, cp, rfl, hcp, -, -⟩ := Rw.own_cells hO
    have hz : (ofL r).size = r.length := ofL_size r
    have HPr := Lib.hid (fun W => HP.out r W (by omega))
    have HO := Lib.hid hO
    have HB := Lib.hid hB
    have H1 := Lib.hid h1
    have H2 := Lib.hid h2
    clear hO hB h1 h2
    by_cases h0 : Fr.code r = 0
    · have hzz := Fr.code_zero h0
      have hv : parseV r = .tuple #[.agg #[.int .u8 ((r.getD 0 0).toNat : Int), .int .u8 ((r.getD 1 0).toNat : Int), .string (ofL (Fr.body r))], .int .i64 ((Fr.len r + 9 : Nat) : Int), .int .i64 0] := if_pos h0
      have hN : ((Fr.len r + 9 : Nat) : Int) = (Fr.len r : Int) + 9 := by omega
      rw [hv, hN] at HPr
      have hf := Fr.feed_ok h0
      have hsl := fun W => slice_from_l (P := Tryd.prog) Tryd.underlying9 r .i64 ((Fr.len r : Int) + 9) (Fr.len r + 9) (by omega) (by omega) W
      have HF := Lib.hid hf
      have hcnt := Fr.feed_count l
      have hfl : fs.length * 9 ≤ 100000 := by
        have e := congrArg List.length H1.out
        rw [List.length_append] at e
        omega
      have hfl2 : fs.length ≤ 20000 := by omega
      have HZ := Lib.hid hzz
      clear hv hN h0 hf hzz hcnt hfl
      generalize hD : r.drop (Fr.len r + 9) = d at *
      have HD := Lib.hid hD
      clear hD
      go_wp2_with fail
      refine (HPr.out _).mono ?_
      rintro e w1 ⟨rfl, b1⟩
      have HO1 := Lib.hid (Rw.own_on HO.out b1)
      have HB1 := Lib.hid (bthen HB.out b1 (Nat.le_refl _))
      have hsz := HB1.out.size
      clear b1
      go_wp2_with (first
        | (at_builtin; refine wpList_append_lies _ rfl _ _ 49 rfl w.heap.size 33 i1 _ 3 24 Tryd.underlying49 hi1 hz0 hz1 hz2 rfl (by omega) (.slice A fs.length cp) fs.length (fcs fs) (by rfl) ((HO1.out.alloc _).alloc _) ⟨w1.heap.size + 1, 0, none⟩ 1 1 (frmL (Fr.front r)) (by rfl) (by rfl) (cell_frm_two w1 _ _ _ _ _) (by simp [Value.oneCell', frmL]) (by omega) (by unfold maxLen; omega) (by omega) (by simp; omega) _ rfl ?_; intro gg cap w2 hown1 hgrow hat hlt'; have HW := Lib.hid hown1; have HG := Lib.hid hgrow; clear hown1 hgrow hat hlt'))
      have hB2 := ((HB1.out.alloc hsz (.cells #[.int .u8 ((r.getD 0 0).toNat : Int), .int .u8 ((r.getD 1 0).toNat : Int), .string (ofL (Fr.body r))] 33)).alloc (by simp; omega) (.cells #[.int .u8 ((r.getD 0 0).toNat : Int), .int .u8 ((r.getD 1 0).toNat : Int), .string (ofL (Fr.body r))] 33)).grown HG.out (by simp; omega) (fun k hk => (HO.out.lt k hk).1)
      have HB2 := Lib.hid hB2
      clear hB2 hsl
      have hdl : d.length + 9 ≤ r.length := by
        have := HZ.out
        rw [← HD.out, List.length_drop]
        omega
      go_roundg d.length
      case rel => exact ⟨fs ++ [Fr.front r], d, rfl, rfl, by rw [List.length_append, fcs_snoc]; exact HW.out, by rw [← H1.out, HF.out]; simp, by rw [← H2.out, HF.out], HB2.out, by omega⟩
      case measure => omega
    · by_cases h3 : Fr.code r = 3
      · have hv : parseV r = .tuple #[.agg #[.int .u8 0, .int .u8 0, .string ⟨#[]⟩], .int .i64 0, .int .i64 3] := by rw [parseV_3 h3 (by decide)]; rfl
        rw [hv] at HPr
        have hf := Fr.feed_short h3
        have e1 := H1.out
        have e2 := H2.out
        rw [hf] at e1 e2
        have E1 := Lib.hid e1
        have E2 := Lib.hid e2
        clear hv h3 h0 hf e1 e2
        go_wp2_with fail
        refine (HPr.out _).mono ?_
        rintro e w1 ⟨rfl, b1⟩
        have hO1 := Rw.own_on HO.out b1
        have HB1 := Lib.hid (bthen HB.out b1 (Nat.le_refl _))
        have HO1 := Lib.hid (hO1.alloc (.cells #[.int .u8 0, .int .u8 0, .string ⟨#[]⟩] 33))
        clear b1 hO1
        go_wp2_with fail
        go_ret3
        have hx : fs = (Fr.feed l).1 := by have := E1.out; simpa using this
        obtain ⟨A2, c2, hv2, -, -, hF⟩ := rown_frms HO1.out
        obtain ⟨rfl, -, rfl⟩ := Value.slice.inj hv2
        refine ⟨A, cp, ?_, by rw [← hx]; exact hF, HB1.out.alloc HB1.out.size _⟩
        rw [← hx, ← E2.out]
        rfl
      · obtain ⟨cd, hcd, hc0, hc3⟩ : ∃ cd : Nat, Fr.code r = cd ∧ ((cd : Int) == 3) = false ∧ ((cd : Int) != 0) = true := ⟨_, rfl, by rw [beq_eq_false_iff_ne]; omega, by rw [bne_iff_ne]; omega⟩
        have hv := parseV_3 hcd (by omega)
        rw [hv] at HPr
        have hf := Fr.feed_err h0 h3
        have e1 := H1.out
        have e2 := H2.out
        rw [hf, hcd] at e2
        rw [hf] at e1
        have E1 := Lib.hid e1
        have E2 := Lib.hid e2
        clear hv h3 h0 hf e1 e2 hcd
        go_wp2_with fail
        refine (HPr.out _).mono ?_
        rintro e w1 ⟨rfl, b1⟩
        have hO1 := Rw.own_on HO.out b1
        have HB1 := Lib.hid (bthen HB.out b1 (Nat.le_refl _))
        have HO1 := Lib.hid (hO1.alloc (.cells #[.int .u8 0, .int .u8 0, .string ⟨#[]⟩] 33))
        clear b1 hO1
        go_wp2_with fail
        go_ret3
        have hx : fs = (Fr.feed l).1 := by have := E1.out; simpa using this
        obtain ⟨A2, c2, hv2, -, -, hF⟩ := rown_frms HO1.out
        obtain ⟨rfl, -, rfl⟩ := Value.slice.inj hv2
        refine ⟨A, cp, ?_, by rw [← hx]; exact hF, HB1.out.alloc HB1.out.size _⟩
        rw [← hx, ← E2.out]
        rfl
end Go.Proofs.YtecgedbabcdfkaaDoor
