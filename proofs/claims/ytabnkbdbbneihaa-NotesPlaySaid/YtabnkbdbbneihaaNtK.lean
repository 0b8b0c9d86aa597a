/-
  THE DOCUMENT's NOTES: one of a number; one more: walked.
-/
import Derived.Test.YtabnkbdbbneihaaNtJ
namespace Go.Proofs.Ytabnkbdbbneihaa
open Go.ChangeShapes Go.WideShapes Go.ChangeAt Go.RowKit

theorem set3_cells {W : World} {q : Nat} {a0 a1 a2 : Value} (u0 u1 u2 : Value) (h0 : W.cell? ⟨q, 0, none⟩ = some a0) (h1 : W.cell? ⟨q, 1, none⟩ = some a1) (h2 : W.cell? ⟨q, 2, none⟩ = some a2) :
    (((W.setCell ⟨q, 0, none⟩ u0).setCell ⟨q, 1, none⟩ u1).setCell ⟨q, 2, none⟩ u2).cell? ⟨q, 0, none⟩ = some u0 ∧ (((W.setCell ⟨q, 0, none⟩ u0).setCell ⟨q, 1, none⟩ u1).setCell ⟨q, 2, none⟩ u2).cell? ⟨q, 1, none⟩ = some u1 ∧ (((W.setCell ⟨q, 0, none⟩ u0).setCell ⟨q, 1, none⟩ u1).setCell ⟨q, 2, none⟩ u2).cell? ⟨q, 2, none⟩ = some u2 :=
  ⟨(World.cell?_setCell_other _ _ _ _ (by simp)).trans ((World.cell?_setCell_other _ _ _ _ (by simp)).trans (World.cell?_setCell_same _ _ _ h0)),
   (World.cell?_setCell_other _ _ _ _ (by simp)).trans (World.cell?_setCell_same _ _ _ ((World.cell?_setCell_other _ _ _ _ (by simp)).trans h1)),
   World.cell?_setCell_same _ _ _ ((World.cell?_setCell_other _ _ _ _ (by simp)).trans ((World.cell?_setCell_other _ _ _ _ (by simp)).trans h2))⟩
def GtSt (w : World) (l : List Nt) (T k : Nat) (g : Nat) (i : Value) (wr : World) : Prop := ∃ j : Nat, j + g = l.length ∧ i = .int .i64 (j : Int) ∧ (∀ m, m < j → T - (l.length - 1 - m) ≠ k) ∧ Below w.heap.size w wr
def GetPost (T : Nat) (l : List Nt) (k : Nat) (w : World) (e : Ending) (w' : World) : Prop := e = .returned (.tuple #[ntV (if Nt.has T l.length k then l.getD (k - (T - l.length) - 1) Nt.zero else Nt.zero), .bool (Nt.has T l.length k)]) ∧ Below w.heap.size w w'
set_option maxRecDepth 100000 in
set_option maxHeartbeats 4000000 in
theorem r19Get_any (T c : Nat) (A : Option Addr) (l : List Nt) (k : Nat) (w : World) (hl : l.length ≤ 100000) (hlT : l.length ≤ T) (hT : T < 18446744073709551616) (hk : k < 18446744073709551616) (h : Nts w A l) :
    Calls Try.prog 15 #[.agg #[.int .u64 (T : Int), .slice A l.length c], .int .u64 (k : Int)] w (GetPost T l k w) := by
  have HA := Lib.hid h
  have HD0 := Lib.hid ((Du2.new w (.int .u64 (T : Int)) (.slice A l.length c) 30).on (alloc1B _ (.cells #[.int .u64 0, .int .u8 0, .string ⟨#[]⟩] 38)))
  have HB0 := Lib.hid ((alloc1B w (.cells #[.int .u64 (T : Int), .slice A l.length c] 30)).trans ((alloc1B (w.alloc (.cells #[.int .u64 (T : Int), .slice A l.length c] 30)) (.cells #[.int .u64 0, .int .u8 0, .string ⟨#[]⟩] 38)).mono (by simp)))
  have HP := Lib.hid (fun (x : Nt) (b : Bool) (W : World) (hb : Below w.heap.size w W) (h1 : Nt.has T l.length k = b) (h2 : (if b then l.getD (k - (T - l.length) - 1) Nt.zero else Nt.zero) = x) => show GetPost T l k w (.returned (.tuple #[.agg #[.int .u64 (x.t : Int), .int .u8 (x.k : Int), .string (ofL x.b)], .bool b])) W from ⟨by rw [h1, h2]; rfl, hb⟩)
  have HR := Lib.hid (show (((w.alloc (.cells #[.int .u64 (T : Int), .slice A l.length c] 30)).alloc (.cells #[.int .u64 0, .int .u8 0, .string ⟨#[]⟩] 38)).cell? ⟨w.heap.size + 1, 0, none⟩ = some (.int .u64 0) ∧ ((w.alloc (.cells #[.int .u64 (T : Int), .slice A l.length c] 30)).alloc (.cells #[.int .u64 0, .int .u8 0, .string ⟨#[]⟩] 38)).cell? ⟨w.heap.size + 1, 1, none⟩ = some (.int .u8 0) ∧ ((w.alloc (.cells #[.int .u64 (T : Int), .slice A l.length c] 30)).alloc (.cells #[.int .u64 0, .int .u8 0, .string ⟨#[]⟩] 38)).cell? ⟨w.heap.size + 1, 2, none⟩ = some (.string ⟨#[]⟩) ∧ (∀ j, ((w.alloc (.cells #[.int .u64 (T : Int), .slice A l.length c] 30)).alloc (.cells #[.int .u64 0, .int .u8 0, .string ⟨#[]⟩] 38)).frozen? ⟨w.heap.size + 1, j, none⟩ = false)) ∧ w.heap.size + 1 < ((w.alloc (.cells #[.int .u64 (T : Int), .slice A l.length c] 30)).alloc (.cells #[.int .u64 0, .int .u8 0, .string ⟨#[]⟩] 38)).heap.size from by
    have e : (w.alloc (.cells #[.int .u64 (T : Int), .slice A l.length c] 30)).heap.size = w.heap.size + 1 := by simp
    rw [← e]
    exact ⟨⟨cell_new _ _ _ _ _ rfl, cell_new _ _ _ _ _ rfl, cell_new _ _ _ _ _ rfl, fun _ => free_new _ _ _ _ _ rfl⟩, by simp⟩)
  clear h
  go_enter Try.func15, Try.ntmps15
  go_wp2_with fail
  generalize (w.alloc (.cells #[.int .u64 (T : Int), .slice A l.length c] 30)).alloc (.cells #[.int .u64 0, .int .u8 0, .string ⟨#[]⟩] 38) = w1 at *
  go_loopg [11] l.length (fun g i wr => GtSt w1 l T k g i wr)
  case atStart => exact ⟨0, by omega, rfl, fun m hm => absurd hm (by omega), Below.refl _ _⟩
  case round =>
    obtain ⟨j, hj, rfl, hno, hb⟩ := hrel
    have HJ := Lib.hid hj
    have HNO := Lib.hid hno
    have HBE := Lib.hid hb
    have hd := HD0.out.on hb
    have e0 := hd.c0
    have e1 := hd.c1
    have r0 := (hb.cell (p := ⟨w.heap.size + 1, 0, none⟩) HR.out.2).trans HR.out.1.1
    have r1 := (hb.cell (p := ⟨w.heap.size + 1, 1, none⟩) HR.out.2).trans HR.out.1.2.1
    have r2 := (hb.cell (p := ⟨w.heap.size + 1, 2, none⟩) HR.out.2).trans HR.out.1.2.2.1
    have rf := fun j => (hb.frozen (p := ⟨w.heap.size + 1, j, none⟩) HR.out.2).trans (HR.out.1.2.2.2 j)
    have rf0 := rf 0
    have rf1 := rf 1
    have rf2 := rf 2
    have rl : w.heap.size + 1 < wr.heap.size := Nat.lt_of_lt_of_le HR.out.2 hb.size
    have el : w.heap.size < wr.heap.size := by omega
    clear hj hno hb hd rf
    by_cases hlt : j < l.length
    · obtain ⟨b1, o1, rfl, hb1, x0, x1, x2⟩ := ((HA.out.on HB0.out).on HBE.out).get hlt
      by_cases hq : T - (l.length - 1 - j) = k
      · have d0 : ((T : Int) - ((l.length : Int) - 1 - (j : Int)) == (k : Int)) = true := by rw [beq_iff_eq]; omega
        have hP := HP.out (l.getD j Nt.zero) true
        rw [if_pos rfl, show k - (T - l.length) - 1 = j by omega] at hP
        have hh : Nt.has T l.length k = true := by unfold Nt.has; simp; omega
        have HP2 := Lib.hid (fun W hb => hP W hb hh rfl)
        clear hq hP hh
        generalize l.getD j Nt.zero = x at *
        go_wp2_with fail
        have hw : Below w.heap.size w (((wr.setCell ⟨w.heap.size + 1, 0, none⟩ (.int .u64 (x.t : Int))).setCell ⟨w.heap.size + 1, 1, none⟩ (.int .u8 (x.k : Int))).setCell ⟨w.heap.size + 1, 2, none⟩ (.string (ofL x.b))) := (((bthen HB0.out HBE.out (Nat.le_refl _)).setCell (p := ⟨w.heap.size + 1, 0, none⟩) (Nat.le_succ _) _).setCell (p := ⟨w.heap.size + 1, 1, none⟩) (Nat.le_succ _) _).setCell (p := ⟨w.heap.size + 1, 2, none⟩) (Nat.le_succ _) _
        have hw2 := hw.alloc hw.size (.cells #[.int .u64 (x.t : Int), .int .u8 (x.k : Int), .string (ofL x.b)] 38)
        obtain ⟨g0, g1, g2⟩ := set3_cells (.int .u64 (x.t : Int)) (.int .u8 (x.k : Int)) (.string (ofL x.b)) r0 r1 r2
        have hlt9 : w.heap.size + 1 < (((wr.setCell ⟨w.heap.size + 1, 0, none⟩ (.int .u64 (x.t : Int))).setCell ⟨w.heap.size + 1, 1, none⟩ (.int .u8 (x.k : Int))).setCell ⟨w.heap.size + 1, 2, none⟩ (.string (ofL x.b))).heap.size := by simpa using rl
        have h9 := alloc1B (((wr.setCell ⟨w.heap.size + 1, 0, none⟩ (.int .u64 (x.t : Int))).setCell ⟨w.heap.size + 1, 1, none⟩ (.int .u8 (x.k : Int))).setCell ⟨w.heap.size + 1, 2, none⟩ (.string (ofL x.b))) (.cells #[.int .u64 (x.t : Int), .int .u8 (x.k : Int), .string (ofL x.b)] 38)
        have g0 := (h9.cell (p := ⟨w.heap.size + 1, 0, none⟩) hlt9).trans g0
        have g1 := (h9.cell (p := ⟨w.heap.size + 1, 1, none⟩) hlt9).trans g1
        have g2 := (h9.cell (p := ⟨w.heap.size + 1, 2, none⟩) hlt9).trans g2
        exact bodyPost_ret (v := .tuple #[.agg #[.int .u64 (x.t : Int), .int .u8 (x.k : Int), .string (ofL x.b)], .bool true]) (by simp [results, Try.results15, go_sem, g0, g1, g2]) rfl (HP2.out _ hw2)
      · have d0 : ((T : Int) - ((l.length : Int) - 1 - (j : Int)) == (k : Int)) = false := by rw [beq_eq_false_iff_ne]; omega
        have HN := Lib.hid (show ∀ m, m < j + 1 → T - (l.length - 1 - m) ≠ k from fun m hm => by
          by_cases e : m = j
          · rw [e]; exact hq
          · exact HNO.out m (by omega))
        clear hq
        generalize l.getD j Nt.zero = x at *
        have HBN := Lib.hid (HBE.out.alloc HBE.out.size (.cells #[.int .u64 (x.t : Int), .int .u8 (x.k : Int), .string (ofL x.b)] 38))
        go_wp2_with fail
        go_roundg (gk - 1)
        case rel => exact ⟨j + 1, by have := HJ.out; omega, by go_num, HN.out, HBN.out⟩
        case measure => have := HJ.out; omega
    · have hh : Nt.has T l.length k = false := by
        unfold Nt.has
        by_cases h1 : T - l.length < k
        · by_cases h2 : k ≤ T
          · have := HNO.out (k - (T - l.length) - 1) (by have := HJ.out; omega)
            omega
          · simp; omega
        · simp; omega
      go_wp2_with fail
      obtain ⟨g0, g1, g2⟩ := set3_cells (.int .u64 0) (.int .u8 0) (.string ⟨#[]⟩) r0 r1 r2
      have hw : Below w.heap.size w (((wr.setCell ⟨w.heap.size + 1, 0, none⟩ (.int .u64 0)).setCell ⟨w.heap.size + 1, 1, none⟩ (.int .u8 0)).setCell ⟨w.heap.size + 1, 2, none⟩ (.string ⟨#[]⟩)) := (((bthen HB0.out HBE.out (Nat.le_refl _)).setCell (p := ⟨w.heap.size + 1, 0, none⟩) (Nat.le_succ _) _).setCell (p := ⟨w.heap.size + 1, 1, none⟩) (Nat.le_succ _) _).setCell (p := ⟨w.heap.size + 1, 2, none⟩) (Nat.le_succ _) _
      exact bodyPost_ret (v := .tuple #[.agg #[.int .u64 0, .int .u8 0, .string ⟨#[]⟩], .bool false]) (by simp [results, Try.results15, go_sem, g0, g1, g2]) rfl (HP.out Nt.zero false _ hw hh rfl)
theorem news1 (w : World) (x : Nt) (t : TypeId) : ∀ j u, (ncs [x])[j]? = some u → (w.alloc (.cells #[.int .u64 (x.t : Int), .int .u8 (x.k : Int), .string (ofL x.b)] t)).cell? ((⟨w.heap.size, 0, none⟩ : Addr).add j) = some u := fun j u hu => by
  rw [rws_add, Nat.zero_add]
  rw [ncs_one1] at hu
  match j, hu with
  | 0, hu => obtain rfl := Option.some.inj hu; exact cell_new _ _ _ _ _ rfl
  | 1, hu => obtain rfl := Option.some.inj hu; exact cell_new _ _ _ _ _ rfl
  | 2, hu => obtain rfl := Option.some.inj hu; exact cell_new _ _ _ _ _ rfl
/-- the boxes of the document's Add -/
structure Ad19 (b : Nat) (T c : Nat) (A : Option Addr) (l : List Nt) (x : Nt) (W : World) : Prop where
  du : Du2 b (.int .u64 (T : Int)) (.slice A l.length c) W
  x0 : W.cell? ⟨b + 1, 0, none⟩ = some (.int .u64 (x.t : Int))
  x1 : W.cell? ⟨b + 1, 1, none⟩ = some (.int .u8 (x.k : Int))
  x2 : W.cell? ⟨b + 1, 2, none⟩ = some (.string (ofL x.b))
  rs : Du2 (b + 2) (.int .u64 0) (.slice none 0 0) W
theorem Ad19.keep {b T c : Nat} {A : Option Addr} {l : List Nt} {x : Nt} {W W' : World} {row : Option Nat} (h : Ad19 b T c A l x W) (hg : W.grownBy W' row) (hr : ∀ k, row = some k → b + 3 ≤ k) : Ad19 b T c A l x W' :=
  ⟨h.du.keep hg (fun e => by have := hr _ e.symm; omega), hg.cell h.x0 (show some (b + 1) ≠ row from fun e => by have := hr _ e.symm; omega), hg.cell h.x1 (show some (b + 1) ≠ row from fun e => by have := hr _ e.symm; omega), hg.cell h.x2 (show some (b + 1) ≠ row from fun e => by have := hr _ e.symm; omega), h.rs.keep hg (fun e => by have := hr _ e.symm; omega)⟩
set_option maxRecDepth 100000 in
set_option maxHeartbeats 4000000 in
theorem r19Add_any (T c : Nat) (A : Option Addr) (l : List Nt) (x : Nt) (w : World) (hl : l.length ≤ 32) (hc : l.length ≤ c) (hn : A = none → c = 0) (hT : T < 18446744073709551616) (hx : x.b.length ≤ 9223372036854775807) (h : Nts w A l) :
    Calls Try.prog 10 #[.agg #[.int .u64 (T : Int), .slice A l.length c], .agg #[.int .u64 (x.t : Int), .int .u8 (x.k : Int), .string (ofL x.b)]] w (NtAddPost A T l x w) := by
  have hz : (ofL x.b).size = x.b.length := ofL_size x.b
  obtain ⟨iN, hiN, hzN0, hzN1, hzN2⟩ := info_parts infoRNt
  have H := Lib.hid h
  have HN := Lib.hid hn
  clear h hn
  unfold NtAddPost Nt.addT Nt.addK Nt.addC
  by_cases h1 : 64 < x.b.length
  · simp only [if_pos h1]
    go_enter Try.func10, Try.ntmps10
    go_wp2_with fail
    refine bodyPost_ret (v := .tuple #[.agg #[.int .u64 (T : Int), .slice A l.length c], .int .i64 5]) (by simp [results, Try.results10, go_sem]) rfl ?_
    have hb : Below w.heap.size w (((w.alloc (.cells #[.int .u64 (T : Int), .slice A l.length c] 30)).alloc (.cells #[.int .u64 (x.t : Int), .int .u8 (x.k : Int), .string (ofL x.b)] 38)).alloc (.cells #[.int .u64 (T : Int), .slice A l.length c] 30)) := ((((Below.refl _ _).alloc (Nat.le_refl _) _).alloc (by simp) _).alloc (by simp; omega) _)
    exact ⟨A, c, rfl, hc, HN.out, H.out.on hb, fun a h => .inl h, hb⟩
  · simp only [if_neg h1]
    by_cases h2 : T = 18446744073709551615
    · simp only [if_pos h2]
      subst h2
      go_enter Try.func10, Try.ntmps10
      go_wp2_with fail
      refine bodyPost_ret (v := .tuple #[.agg #[.int .u64 18446744073709551615, .slice A l.length c], .int .i64 18]) (by simp [results, Try.results10, go_sem]) rfl ?_
      have hb : Below w.heap.size w (((w.alloc (.cells #[.int .u64 18446744073709551615, .slice A l.length c] 30)).alloc (.cells #[.int .u64 (x.t : Int), .int .u8 (x.k : Int), .string (ofL x.b)] 38)).alloc (.cells #[.int .u64 18446744073709551615, .slice A l.length c] 30)) := ((((Below.refl _ _).alloc (Nat.le_refl _) _).alloc (by simp) _).alloc (by simp; omega) _)
      exact ⟨A, c, rfl, hc, HN.out, H.out.on hb, fun a h => .inl h, hb⟩
    · simp only [if_neg h2]
      have hT2 : T < 18446744073709551615 := by omega
      have HB0 := Lib.hid (show Below w.heap.size w (((w.alloc (.cells #[.int .u64 (T : Int), .slice A l.length c] 30)).alloc (.cells #[.int .u64 (x.t : Int), .int .u8 (x.k : Int), .string (ofL x.b)] 38)).alloc (.cells #[.int .u64 0, .slice none 0 0] 30)) from ((((Below.refl _ _).alloc (Nat.le_refl _) _).alloc (by simp) _).alloc (by simp; omega) _))
      have H0 := Lib.hid (H.out.on HB0.out)
      have HI0 := Lib.hid (show Ad19 w.heap.size T c A l x (((w.alloc (.cells #[.int .u64 (T : Int), .slice A l.length c] 30)).alloc (.cells #[.int .u64 (x.t : Int), .int .u8 (x.k : Int), .string (ofL x.b)] 38)).alloc (.cells #[.int .u64 0, .slice none 0 0] 30)) from by
        have s1 : (w.alloc (.cells #[.int .u64 (T : Int), .slice A l.length c] 30)).heap.size = w.heap.size + 1 := by simp
        have s2 : ((w.alloc (.cells #[.int .u64 (T : Int), .slice A l.length c] 30)).alloc (.cells #[.int .u64 (x.t : Int), .int .u8 (x.k : Int), .string (ofL x.b)] 38)).heap.size = w.heap.size + 2 := by simp
        refine ⟨((Du2.new w _ _ _).on (alloc1B _ _)).on (alloc1B _ _), ?_, ?_, ?_, ?_⟩
        · exact ((alloc1B _ _).cell (p := ⟨w.heap.size + 1, 0, none⟩) (by simp)).trans (by rw [← s1]; exact cell_new _ _ _ _ _ rfl)
        · exact ((alloc1B _ _).cell (p := ⟨w.heap.size + 1, 1, none⟩) (by simp)).trans (by rw [← s1]; exact cell_new _ _ _ _ _ rfl)
        · exact ((alloc1B _ _).cell (p := ⟨w.heap.size + 1, 2, none⟩) (by simp)).trans (by rw [← s1]; exact cell_new _ _ _ _ _ rfl)
        · rw [← s2]; exact Du2.new _ _ _ _)
      have HS0 := Lib.hid (show w.heap.size + 3 ≤ (((w.alloc (.cells #[.int .u64 (T : Int), .slice A l.length c] 30)).alloc (.cells #[.int .u64 (x.t : Int), .int .u8 (x.k : Int), .string (ofL x.b)] 38)).alloc (.cells #[.int .u64 0, .slice none 0 0] 30)).heap.size from by simp)
      by_cases h32 : 31 < l.length
      · have dd : decide (32 < (l.length : Int) + 1) = true := decide_eq_true (by omega)
        go_enter Try.func10, Try.ntmps10
        go_wp2_with (first
          | (at_builtin; refine wpList_append_rws _ rfl _ _ 28 rfl (w.heap.size + 3) 38 iN _ 3 32 Try.underlying28 hiN hzN0 hzN1 hzN2 rfl (by decide) (by decide) (by rfl) (World.ownsRow_nil _ _ _ _) (by rfl) H0.out (ncs_len l) (ncs_one l) (by omega) HN.out (by simp) ?_; intro v' w5 hown hgrow; rw [Nat.zero_add, List.nil_append] at hown; have h5 := HI0.out.keep hgrow (fun k hk => by cases hk); have HI5 := Lib.hid h5; have HB5 := Lib.hid (HB0.out.grown hgrow HB0.out.size (fun k hk => by cases hk)); have HS5 := Lib.hid (Nat.le_trans HS0.out hgrow.size); have HO5 := Lib.hid (ownsRow_on2 hown (alloc1B w5 (.cells #[.int .u64 (x.t : Int), .int .u8 (x.k : Int), .string (ofL x.b)] 38))); obtain ⟨A5, c5, rfl, -, -⟩ := Rw.own_cells hown; have e0 := h5.du.c0; have e1 := h5.du.c1; have q0 := h5.x0; have q1 := h5.x1; have q2 := h5.x2; have r0 := h5.rs.c0; have r1 := h5.rs.c1; have rf0 := h5.rs.fz 0; have rf1 := h5.rs.fz 1; have rl := h5.rs.lt; have el := h5.du.lt; clear hown hgrow h5)
          | (at_builtin; refine wpList_append_lies _ rfl _ _ 28 rfl (w.heap.size + 3) 38 iN _ 3 32 Try.underlying28 hiN hzN0 hzN1 hzN2 rfl (by omega) (.slice A5 l.length c5) l.length (ncs l) (by rfl) HO5.out ⟨w5.heap.size, 0, none⟩ 1 1 (ncs [x]) (by rfl) (by rfl) (news1 w5 x 38) (ncs_one _) (by omega) (by unfold maxLen; omega) (by omega) (by have := HS5.out; simp; omega) _ rfl ?_; intro gg cap w6 hown hgrow hat hlt6; rw [← ncs_app] at hown; have h6 := (HI5.out.keep (Rw.gb (alloc1B w5 (.cells #[.int .u64 (x.t : Int), .int .u8 (x.k : Int), .string (ofL x.b)] 38)) none) (fun k hk => by cases hk)).keep hgrow (fun k hk => (HO5.out.lt k hk).1); have HB6 := Lib.hid ((bthen HB5.out (alloc1B w5 (.cells #[.int .u64 (x.t : Int), .int .u8 (x.k : Int), .string (ofL x.b)] 38)) (Nat.le_refl _)).grown hgrow (by have := HS5.out; simp; omega) (fun k hk => by have := (HO5.out.lt k hk).1; omega)); have HR6 := Lib.hid (Rws.of_own hown); have HO6 := Lib.hid hown; have HI6 := Lib.hid h6; have hcap : l.length + 1 ≤ cap := (by obtain ⟨A9, c9, e9, hc9, -⟩ := Rws.of_own hown; cases e9; exact hc9); clear e0 e1 q0 q1 q2 r0 r1 rf0 rf1 rl el; have e0 := h6.du.c0; have e1 := h6.du.c1; have r0 := h6.rs.c0; have r1 := h6.rs.c1; have rf0 := h6.rs.fz 0; have rf1 := h6.rs.fz 1; have rl := h6.rs.lt; have el := h6.du.lt; clear hown hgrow hat hlt6 h6))
        have hd := HI6.out.rs.set (.int .u64 ((T : Int) + 1)) (.slice (some ⟨gg, 3, none⟩) l.length (cap - 1))
        have g0 := hd.c0
        have g1 := hd.c1
        refine bodyPost_ret (v := .tuple #[.agg #[.int .u64 ((T : Int) + 1), .slice (some ⟨gg, 3, none⟩) l.length (cap - 1)], .int .i64 0]) (by simp [results, Try.results10, go_sem, g0, g1]) rfl ?_
        obtain ⟨A9, c9, e9, hc9, hn9, hr9, hb9⟩ := HR6.out
        obtain ⟨rfl, -, rfl⟩ := Value.slice.inj e9
        have hll : l.drop (l.length + 1 - 32) ++ [x] = (l ++ [x]).drop 1 := by rw [show l.length + 1 - 32 = 1 by omega, List.drop_append_of_le_length (by omega)]
        have hlen : ((l ++ [x]).drop 1).length = l.length := by simp
        have hr3 := hr9.drop (k := 3)
        rw [show (3 : Nat) = 1 * 3 from rfl, ncs_drop, Nat.zero_add, show (1 * 3 : Nat) = 3 from rfl] at hr3
        rw [hll]
        refine ⟨some ⟨gg, 3, none⟩, cap - 1, by rw [hlen]; rfl, by rw [hlen]; omega, (fun e => by cases e), Rws.put2 hr3 (fun a ha => by have := (hb9 ⟨gg, 0, none⟩ rfl).1; cases ha; show gg ≠ _; simp only at this; omega) _ _, fun a ha => .inr ?_, (HB6.out.setCell (p := ⟨w.heap.size + 2, 0, none⟩) (by show w.heap.size ≤ w.heap.size + 2; omega) _).setCell (p := ⟨w.heap.size + 2, 1, none⟩) (by show w.heap.size ≤ w.heap.size + 2; omega) _⟩
        cases ha
        have hb := hb9 ⟨gg, 0, none⟩ rfl
        simp only at hb
        exact ⟨by show w.heap.size ≤ gg; omega, by simpa using hb.2⟩
      · have dd : decide (32 < (l.length : Int) + 1) = false := decide_eq_false (by omega)
        go_enter Try.func10, Try.ntmps10
        go_wp2_with (first
          | (at_builtin; refine wpList_append_rws _ rfl _ _ 28 rfl (w.heap.size + 3) 38 iN _ 3 32 Try.underlying28 hiN hzN0 hzN1 hzN2 rfl (by decide) (by decide) (by rfl) (World.ownsRow_nil _ _ _ _) (by rfl) H0.out (ncs_len l) (ncs_one l) (by omega) HN.out (by simp) ?_; intro v' w5 hown hgrow; rw [Nat.zero_add, List.nil_append] at hown; have h5 := HI0.out.keep hgrow (fun k hk => by cases hk); have HI5 := Lib.hid h5; have HB5 := Lib.hid (HB0.out.grown hgrow HB0.out.size (fun k hk => by cases hk)); have HS5 := Lib.hid (Nat.le_trans HS0.out hgrow.size); have HO5 := Lib.hid (ownsRow_on2 hown (alloc1B w5 (.cells #[.int .u64 (x.t : Int), .int .u8 (x.k : Int), .string (ofL x.b)] 38))); obtain ⟨A5, c5, rfl, -, -⟩ := Rw.own_cells hown; have e0 := h5.du.c0; have e1 := h5.du.c1; have q0 := h5.x0; have q1 := h5.x1; have q2 := h5.x2; have r0 := h5.rs.c0; have r1 := h5.rs.c1; have rf0 := h5.rs.fz 0; have rf1 := h5.rs.fz 1; have rl := h5.rs.lt; have el := h5.du.lt; clear hown hgrow h5)
          | (at_builtin; refine wpList_append_lies _ rfl _ _ 28 rfl (w.heap.size + 3) 38 iN _ 3 32 Try.underlying28 hiN hzN0 hzN1 hzN2 rfl (by omega) (.slice A5 l.length c5) l.length (ncs l) (by rfl) HO5.out ⟨w5.heap.size, 0, none⟩ 1 1 (ncs [x]) (by rfl) (by rfl) (news1 w5 x 38) (ncs_one _) (by omega) (by unfold maxLen; omega) (by omega) (by have := HS5.out; simp; omega) _ rfl ?_; intro gg cap w6 hown hgrow hat hlt6; rw [← ncs_app] at hown; have h6 := (HI5.out.keep (Rw.gb (alloc1B w5 (.cells #[.int .u64 (x.t : Int), .int .u8 (x.k : Int), .string (ofL x.b)] 38)) none) (fun k hk => by cases hk)).keep hgrow (fun k hk => (HO5.out.lt k hk).1); have HB6 := Lib.hid ((bthen HB5.out (alloc1B w5 (.cells #[.int .u64 (x.t : Int), .int .u8 (x.k : Int), .string (ofL x.b)] 38)) (Nat.le_refl _)).grown hgrow (by have := HS5.out; simp; omega) (fun k hk => by have := (HO5.out.lt k hk).1; omega)); have HR6 := Lib.hid (Rws.of_own hown); have HO6 := Lib.hid hown; have HI6 := Lib.hid h6; have hcap : l.length + 1 ≤ cap := (by obtain ⟨A9, c9, e9, hc9, -⟩ := Rws.of_own hown; cases e9; exact hc9); clear e0 e1 q0 q1 q2 r0 r1 rf0 rf1 rl el; have e0 := h6.du.c0; have e1 := h6.du.c1; have r0 := h6.rs.c0; have r1 := h6.rs.c1; have rf0 := h6.rs.fz 0; have rf1 := h6.rs.fz 1; have rl := h6.rs.lt; have el := h6.du.lt; clear hown hgrow hat hlt6 h6))
        have hd := HI6.out.rs.set (.int .u64 ((T : Int) + 1)) (.slice (some ⟨gg, 0, none⟩) (l.length + 1) cap)
        have g0 := hd.c0
        have g1 := hd.c1
        refine bodyPost_ret (v := .tuple #[.agg #[.int .u64 ((T : Int) + 1), .slice (some ⟨gg, 0, none⟩) (l.length + 1) cap], .int .i64 0]) (by simp [results, Try.results10, go_sem, g0, g1]) rfl ?_
        obtain ⟨A9, c9, e9, hc9, hn9, hr9, hb9⟩ := HR6.out
        obtain ⟨rfl, -, rfl⟩ := Value.slice.inj e9
        rw [show l.length + 1 - 32 = 0 by omega, List.drop_zero]
        refine ⟨some ⟨gg, 0, none⟩, cap, by simp, by simpa using hc9, hn9, Rws.put2 hr9 (fun a ha => by have := (hb9 a ha).1; omega) _ _, fun a ha => .inr ⟨by have := (hb9 a ha).1; omega, by simpa using (hb9 a ha).2⟩, (HB6.out.setCell (p := ⟨w.heap.size + 2, 0, none⟩) (by show w.heap.size ≤ w.heap.size + 2; omega) _).setCell (p := ⟨w.heap.size + 2, 1, none⟩) (by show w.heap.size ≤ w.heap.size + 2; omega) _⟩
end Go.Proofs.Ytabnkbdbbneihaa
