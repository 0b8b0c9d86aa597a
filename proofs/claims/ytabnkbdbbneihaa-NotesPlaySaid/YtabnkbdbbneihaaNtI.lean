/-
  THE DOCUMENT's NOTES: the law's copy of Notes (Of), walked.
-/
import Derived.Test.YtabnkbdbbneihaaNtF
import Derived.Deep.QuietTactic
import Derived.BigQuiet
namespace Go.Proofs.Ytabnkbdbbneihaa
open Go.ChangeShapes Go.WideShapes Go.ChangeAt Go.RowKit

theorem infoRNt : (Try.prog.info? 38).map (fun i => (i.zero, i.size, i.bytes)) = some (some (.agg #[.int .u64 0, .int .u8 0, .string ⟨#[]⟩]), 3, 32) := by kernel_rfl
theorem take_nt {l : List Nt} {k : Nat} (hk : k < l.length) : l.take (k + 1) = l.take k ++ [l.getD k Nt.zero] := by
  have e : l.getD k Nt.zero = l[k] := by rw [List.getD_eq_getElem?_getD, List.getElem?_eq_getElem hk]; rfl
  rw [List.take_succ_eq_append_getElem hk, e]
theorem ownsRow_on2 {w w' : World} {B e size : Nat} {v : Value} {n : Nat} {xs : List Value} (h : w.ownsRow B e size v n xs) (hb : Below w.heap.size w w') : w'.ownsRow B e size v n xs := Rw.own_on h hb
theorem Du2.set1 {b : Nat} {x y : Value} {w : World} (h : Du2 b x y w) (v : Value) : Du2 b x v (w.setCell ⟨b, 1, none⟩ v) :=
  ⟨(World.cell?_setCell_other _ _ _ _ (by simp)).trans h.c0, World.cell?_setCell_same _ _ _ h.c1, fun j => by rw [World.frozen?_setCell]; exact h.fz j⟩
theorem news3 (w : World) (x : Nt) (t t' : TypeId) : ∀ j u, (ncs [x])[j]? = some u → ((w.alloc (.cells #[.int .u64 (x.t : Int), .int .u8 (x.k : Int), .string (ofL x.b)] t)).alloc (.cells #[.int .u64 (x.t : Int), .int .u8 (x.k : Int), .string (ofL x.b)] t')).cell? ((⟨w.heap.size + 1, 0, none⟩ : Addr).add j) = some u := fun j u hu => by
  rw [rws_add, Nat.zero_add]
  rw [ncs_one1] at hu
  have e : (w.alloc (.cells #[.int .u64 (x.t : Int), .int .u8 (x.k : Int), .string (ofL x.b)] t)).heap.size = w.heap.size + 1 := by simp
  rw [← e]
  match j, hu with
  | 0, hu => obtain rfl := Option.some.inj hu; exact cell_new _ _ _ _ _ rfl
  | 1, hu => obtain rfl := Option.some.inj hu; exact cell_new _ _ _ _ _ rfl
  | 2, hu => obtain rfl := Option.some.inj hu; exact cell_new _ _ _ _ _ rfl
/-- a document's Notes: how many came, and its own row of those that are kept -/
def OfPost (T : Nat) (l : List Nt) (w : World) (e : Ending) (w' : World) : Prop := ∃ A c, e = .returned (.agg #[.int .u64 (T : Int), .slice A l.length c]) ∧ l.length ≤ c ∧ (A = none → c = 0) ∧ Nts w' A l ∧ Below w.heap.size w w'
structure OfIn (w2 : World) (b : Nat) (T : Nat) (l : List Nt) (v : Value) (wr : World) : Prop where
  du : Du2 b (.int .u64 (T : Int)) v wr
  own : wr.ownsRow w2.heap.size 38 3 v l.length (ncs l)
  grow : w2.grownBy wr (some b)
  lt : b < w2.heap.size
def OfSt (w2 : World) (b : Nat) (T : Nat) (l : List Nt) (g : Nat) (i : Value) (wr : World) : Prop := ∃ (k : Nat) (v : Value), k + g = l.length ∧ i = .int .i64 (k : Int) ∧ OfIn w2 b T (l.take k) v wr
theorem gb_far {a w w' : World} {b : Nat} {row : Option Nat} (h : a.grownBy w (some b)) (h2 : w.grownBy w' row) (hr : ∀ k, row = some k → k = b ∨ a.heap.size ≤ k) : a.grownBy w' (some b) :=
  ⟨h2.os.trans h.os, h2.tape.trans h.tape, h2.output.trans h.output, Nat.le_trans h.size h2.size, fun k hk hne => (h2.block k (Nat.lt_of_lt_of_le hk h.size) (fun e => (hr k e.symm).elim (fun h3 => hne (congrArg some h3)) (fun h3 => by omega))).trans (h.block k hk hne)⟩
theorem Rws.keep {w w' : World} {A : Option Addr} {cs : List Value} {row : Option Nat} (h : Rws w A cs) (hg : w.grownBy w' row) (hne : ∀ a, A = some a → some a.block ≠ row) : Rws w' A cs := ⟨fun j v hv => by
  obtain ⟨b, off, rfl, hlt, hc⟩ := h.at_ j v hv
  exact ⟨b, off, rfl, Nat.lt_of_lt_of_le hlt hg.size, hg.cell hc (show some b ≠ row from hne _ rfl)⟩⟩
theorem Du2.keep {b : Nat} {x y : Value} {w w' : World} {row : Option Nat} (h : Du2 b x y w) (hg : w.grownBy w' row) (hne : some b ≠ row) : Du2 b x y w' :=
  ⟨hg.cell h.c0 hne, hg.cell h.c1 hne, fun j => (World.frozen?_of_block (a := ⟨b, j, none⟩) (hg.block b h.lt hne)).trans (h.fz j)⟩
set_option maxRecDepth 100000 in
set_option maxHeartbeats 4000000 in
theorem of19_any (T c : Nat) (A : Option Addr) (l : List Nt) (w : World) (hl : l.length ≤ 100000) (h : Nts w A l) : Calls Try.prog 12 #[.agg #[.int .u64 (T : Int), .slice A l.length c]] w (OfPost T l w) := by
  obtain ⟨iN, hiN, hzN0, hzN1, hzN2⟩ := info_parts infoRNt
  have HH := Lib.hid h
  have HT := Lib.hid (fun W => ntTotal_any T l.length c A W)
  have HL := Lib.hid (fun W h => ntAll_any T c A l W hl h)
  clear h
  go_enter Try.func12, Try.ntmps12
  go_wp2_with fail
  refine (HT.out _).mono ?_
  rintro e w1 ⟨rfl, b1⟩
  have hd1 := ((Du2.new w (.int .u64 (T : Int)) (.slice A l.length c) 27).on (alloc1B _ (.cells #[.int .u64 0, .slice none 0 0] 30))).on b1
  have hr1 := (Du2.new (w.alloc (.cells #[.int .u64 (T : Int), .slice A l.length c] 27)) (.int .u64 0) (.slice none 0 0) 30).on b1
  have hrs : (w.alloc (.cells #[.int .u64 (T : Int), .slice A l.length c] 27)).heap.size = w.heap.size + 1 := by simp
  rw [hrs] at hr1
  have HB1 := Lib.hid (bthen ((alloc1B w (.cells #[.int .u64 (T : Int), .slice A l.length c] 27)).trans ((alloc1B _ (.cells #[.int .u64 0, .slice none 0 0] 30)).mono (by simp))) b1 (Nat.le_refl _))
  have HA1 := Lib.hid (alloc1B w1 (.cells #[.int .u64 (T : Int), .slice none 0 0] 30))
  have HD1 := Lib.hid hd1
  have HR1 := Lib.hid hr1
  have e0 := hd1.c0
  have e1 := hd1.c1
  have el := hd1.lt
  clear b1 hd1 hr1 hrs
  go_wp2_with fail
  refine (HL.out _ ((HH.out.on HB1.out).on HA1.out)).mono ?_
  rintro e w2 ⟨A2, c2, rfl, -, hn2, hN2, hne2, b2⟩
  have HR2 := Lib.hid ((HR1.out.on HA1.out).on b2)
  have HD2 := Lib.hid ((Du2.new w1 (.int .u64 (T : Int)) (.slice none 0 0) 30).on b2)
  have HB2 := Lib.hid (bthen (bthen HB1.out HA1.out (Nat.le_refl _)) b2 (Nat.le_refl _))
  have HN2 := Lib.hid hN2
  have HNE := Lib.hid (fun (a : Addr) (ha : A2 = some a) => show w1.heap.size < a.block from by have := hne2 a ha; simp at this; omega)
  have HWS := Lib.hid (show w.heap.size + 1 < w1.heap.size from HR1.out.lt)
  clear e0 e1 el hn2 hN2 hne2 b2
  go_wp2_with fail
  go_loopg [12] l.length (fun g i wr => OfSt w2 w1.heap.size T l g i wr)
  case atStart => exact ⟨0, .slice none 0 0, by omega, rfl, HD2.out, World.ownsRow_nil _ _ _ _, World.grownBy.refl _ _, HD2.out.lt⟩
  case round =>
    obtain ⟨k, v, hk, rfl, hI⟩ := hrel
    have HK := Lib.hid hk
    have HI := Lib.hid hI
    obtain ⟨Av, cv, rfl, -, -⟩ := Rw.own_cells hI.own
    clear hk hI
    have f0 := HI.out.du.c0
    have f1 := HI.out.du.c1
    have ff0 := HI.out.du.fz 0
    have ff1 := HI.out.du.fz 1
    have fl := HI.out.du.lt
    by_cases hlt : k < l.length
    · obtain ⟨b, off, rfl, hb, x0, x1, x2⟩ := (show Nts wr A2 l from Rws.keep HN2.out HI.out.grow (fun a ha e => by have := HNE.out a ha; have := Option.some.inj e; omega)).get hlt
      have HTK := Lib.hid (take_nt hlt)
      have htl : (l.take k).length = k := by rw [List.length_take]; omega
      have HTL := Lib.hid (show (l.take (k + 1)).length = k + 1 by rw [List.length_take]; omega)
      have HOW := Lib.hid (ownsRow_on2 (ownsRow_on2 HI.out.own (alloc1B wr (.cells #[.int .u64 ((l.getD k Nt.zero).t : Int), .int .u8 ((l.getD k Nt.zero).k : Int), .string (ofL (l.getD k Nt.zero).b)] 32))) (alloc1B _ (.cells #[.int .u64 ((l.getD k Nt.zero).t : Int), .int .u8 ((l.getD k Nt.zero).k : Int), .string (ofL (l.getD k Nt.zero).b)] 38)))
      rw [htl] at HOW f1
      have hw2 : w2.heap.size ≤ wr.heap.size := HI.out.grow.size
      have hk9 : k ≤ 100000 := by omega
      have HDU := Lib.hid (HI.out.du.on ((alloc1B wr (.cells #[.int .u64 ((l.getD k Nt.zero).t : Int), .int .u8 ((l.getD k Nt.zero).k : Int), .string (ofL (l.getD k Nt.zero).b)] 32)).trans ((alloc1B _ (.cells #[.int .u64 ((l.getD k Nt.zero).t : Int), .int .u8 ((l.getD k Nt.zero).k : Int), .string (ofL (l.getD k Nt.zero).b)] 38)).mono (by simp))))
      have HGR := Lib.hid (gb_far (gb_far HI.out.grow (Rw.gb (alloc1B wr (.cells #[.int .u64 ((l.getD k Nt.zero).t : Int), .int .u8 ((l.getD k Nt.zero).k : Int), .string (ofL (l.getD k Nt.zero).b)] 32)) none) (fun k hk => by cases hk)) (Rw.gb (alloc1B _ (.cells #[.int .u64 ((l.getD k Nt.zero).t : Int), .int .u8 ((l.getD k Nt.zero).k : Int), .string (ofL (l.getD k Nt.zero).b)] 38)) none) (fun k hk => by cases hk))
      have HLT := Lib.hid HI.out.lt
      have HNW := Lib.hid (news3 wr (l.getD k Nt.zero) 32 38)
      clear htl HI
      generalize l.getD k Nt.zero = x at *
      go_wp2_with (at_builtin; refine wpList_append_lies _ rfl _ _ 28 rfl w2.heap.size 38 iN _ 3 32 Try.underlying28 hiN hzN0 hzN1 hzN2 rfl (by omega) (.slice Av k cv) k (ncs (l.take k)) (by rfl) HOW.out ⟨wr.heap.size + 1, 0, none⟩ 1 1 (ncs [x]) (by rfl) (by rfl) HNW.out (ncs_one _) (by omega) (by unfold maxLen; omega) (by omega) (by simp; omega) _ rfl ?_; intro gg cap w4 hown hgrow hat hlt4; rw [← ncs_app, ← HTK.out] at hown; have hd4 := HDU.out.keep hgrow (fun e => by have := (HOW.out.lt _ e.symm).1; have := HLT.out; omega); have HG4 := Lib.hid (gb_far HGR.out hgrow (fun k hk => .inr (HOW.out.lt k hk).1)); have HO4 := Lib.hid hown; have HD4 := Lib.hid hd4; have f0 := hd4.c0; have f1 := hd4.c1; have ff0 := hd4.fz 0; have ff1 := hd4.fz 1; have fl := hd4.lt; clear hown hgrow hat hlt4 hd4)
      have HX := Lib.hid (show OfIn w2 w1.heap.size T (l.take (k + 1)) (.slice (some ⟨gg, 0, none⟩) (k + 1) cap) (w4.setCell ⟨w1.heap.size, 1, none⟩ (.slice (some ⟨gg, 0, none⟩) (k + 1) cap)) from by
        have hg := only_setCell (p := ⟨w1.heap.size, 1, none⟩) (World.grownBy.refl w4 (some w1.heap.size)) rfl (.slice (some ⟨gg, 0, none⟩) (k + 1) cap)
        refine ⟨HD4.out.set1 _, ?_, gb_far HG4.out hg (fun k hk => .inl (Option.some.inj hk).symm), HLT.out⟩
        rw [HTL.out]
        exact HO4.out.kept hg (.inr (Rw.own_row HO4.out HLT.out)))
      go_roundg (gk - 1)
      case rel => exact ⟨k + 1, _, by have := HK.out; omega, by go_num, HX.out⟩
      case measure => have := HK.out; omega
    · have hkL : k = l.length := by have := HK.out; omega
      rw [hkL, List.take_length] at HI
      have HR9 := Lib.hid (HR2.out.keep HI.out.grow (fun e => by have := HWS.out; have := Option.some.inj e; omega))
      have e0 := HR9.out.c0
      have e1 := HR9.out.c1
      have ef0 := HR9.out.fz 0
      have ef1 := HR9.out.fz 1
      have el := HR9.out.lt
      obtain ⟨A9, c9, e9, hc9, hn9, hr9, hb9⟩ := Rws.of_own HI.out.own
      obtain ⟨rfl, -, rfl⟩ := Value.slice.inj e9
      have HR := Lib.hid hr9
      have HBB := Lib.hid hb9
      rw [show (l.take k).length = l.length by rw [hkL, List.take_length]] at f1
      go_wp2_with fail
      have hd := HR9.out.set (.int .u64 (T : Int)) (.slice Av l.length cv)
      have g0 := hd.c0
      have g1 := hd.c1
      refine bodyPost_ret (v := .agg #[.int .u64 (T : Int), .slice Av l.length cv]) (by simp [results, Try.results12, go_sem, g0, g1]) rfl ?_
      have hbw : Below w.heap.size w wr := HB2.out.grown HI.out.grow (by have := HWS.out; have := HI.out.lt; omega) (fun k hk => by cases hk; have := HWS.out; omega)
      exact ⟨Av, cv, rfl, hc9, hn9, Rws.put2 HR.out (fun a ha => by have := (HBB.out a ha).1; have := HI.out.lt; have := HWS.out; omega) _ _, (hbw.setCell (p := ⟨w.heap.size + 1, 0, none⟩) (Nat.le_succ _) _).setCell (p := ⟨w.heap.size + 1, 1, none⟩) (Nat.le_succ _) _⟩
end Go.Proofs.Ytabnkbdbbneihaa
