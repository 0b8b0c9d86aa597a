/-
  RISE: a box of it; THE CHAPTER's EXAMPLE: walked.
-/
import Derived.Test.YtfbajmiiecmelaaDoorRt41
import Derived.Test.YtfbajmiiecmelaaDoorRt42

section
namespace Go.Proofs.YtfbajmiiecmelaaDoor
open Go.ChangeShapes Go.WideShapes Go.ChangeAt Go.RowKit
/-- the box of a Rise: how many came, what is kept -/
structure RsBox (w0 : World) (b T : Nat) (l : List Ml) (w : World) : Prop where
  at_ : ∃ A c ps, ps.map Mp.x = l ∧ BoxC w0 b [.int .u64 (T : Int), .slice A ps.length c] w ∧ ps.length ≤ c ∧ (A = none → c = 0) ∧ MasU (fun g => b < g) w A ps
theorem RsBox.on {w0 : World} {b T : Nat} {l : List Ml} {w w' : World} (h : RsBox w0 b T l w) (hb : Below w.heap.size w w') : RsBox w0 b T l w' := by
  obtain ⟨A, c, ps, h1, h2, h3, h4, h5⟩ := h.at_
  exact ⟨A, c, ps, h1, h2.on hb, h3, h4, h5.on hb⟩
theorem RsBox.new (w : World) (t : TypeId) : RsBox w w.heap.size 0 [] (w.alloc (.cells #[.int .u64 0, .slice none 0 0] t)) :=
  ⟨none, 0, [], rfl, BoxC.new (Nat.le_refl _) #[.int .u64 0, .slice none 0 0] t, Nat.le_refl _, fun _ => rfl, MasU.nil _ _⟩
theorem RsBox.fill {w0 : World} {b T T' : Nat} {l l' : List Ml} {w w' : World} (h : RsBox w0 b T l w) (hb : Below w.heap.size w w') {A' : Option Addr} {c' : Nat} {ps' : List Mp} (hm : ps'.map Mp.x = l') (hc : ps'.length ≤ c') (hn : A' = none → c' = 0) (hM : MasU (fun g => b < g ∨ w.heap.size ≤ g) w' A' ps') :
    RsBox w0 b T' l' ((w'.setCell ⟨b, 0, none⟩ (.int .u64 (T' : Int))).setCell ⟨b, 1, none⟩ (.slice A' ps'.length c')) := by
  obtain ⟨A, c, ps, -, h2, -, -, -⟩ := h.at_
  have hlt := h2.lt
  have h3 := (h2.on hb).fill [.int .u64 (T' : Int), .slice A' ps'.length c'] rfl
  simp only [putAll] at h3
  have h4 : MasU (fun g => b < g) w' A' ps' := hM.mono fun g hg => hg.elim id fun h => Nat.lt_of_lt_of_le hlt h
  exact ⟨A', c', ps', hm, h3, hc, hn, (h4.put (Nat.lt_irrefl b) 0 _).put (Nat.lt_irrefl b) 1 _⟩
theorem rs_law13Awake (w : World) (hL : Len w) : Calls Tryd.prog 12 #[] w fun e w' => e = .returned (.bool true) ∧ Below w.heap.size w w' := by
  have HA := Lib.hid (awake13_any w hL)
  go_enter Tryd.func12, Tryd.ntmps12
  go_wp2_with fail
  refine HA.out.mono ?_
  rintro x w1 ⟨rfl, b1⟩
  have B1 := Lib.hid b1
  clear b1
  go_wp2_with fail
  go_ret
  exact ⟨rfl, B1.out⟩
theorem exMl_ok (w : World) : MaOk w exMl none 0 := ⟨by decide, by decide, by decide, by decide, by decide, lite_nil, Prs.nil _ _⟩
def aw20 (k : Nat) : List Ml := List.replicate k exMl
theorem aw20_put (k : Nat) (hk : k < 20) : Rs.addT k exMl = k + 1 ∧ Rs.addK k (lastN 16 (aw20 k)) exMl = lastN 16 (aw20 (k + 1)) ∧ Rs.addC k exMl = 0 := by
  have h0 : ¬ exMl.code ≠ 0 := by rw [exMl_code]; simp
  have h1 : ¬ k = 18446744073709551615 := by omega
  unfold Rs.addT Rs.addK Rs.addC
  simp only [if_neg h0, if_neg h1]
  refine ⟨trivial, ?_, trivial⟩
  rw [lastN_snoc (by decide)]
  unfold aw20
  rw [List.replicate_succ']
theorem aw20_end : (lastN 16 (aw20 20)).length = 16 := rfl
def Aw20St (w : World) (g : Nat) (i : Value) (wr : World) : Prop := ∃ k : Nat, k + g = 20 ∧ i = .int .i64 (k : Int) ∧ RsBox w w.heap.size k (lastN 16 (aw20 k)) wr ∧ Below w.heap.size w wr
set_option maxRecDepth 100000 in
set_option maxHeartbeats 4000000 in
theorem awake20_any (w : World) (hL : Len w) : Calls Tryd.prog 5 #[] w fun x w' => x = .returned (.bool true) ∧ Below w.heap.size w w' := by
  have HS := Lib.hid (RsBox.new w 28)
  have HB := Lib.hid ((Below.refl w.heap.size w).alloc (Nat.le_refl _) (.cells #[.int .u64 0, .slice none 0 0] 28))
  have HLW := Lib.hid (fun W h => rs_law13Awake W h)
  have HL := Lib.hid hL
  clear hL
  go_enter Tryd.func5, Tryd.ntmps5
  go_wp2_with fail
  go_loopg [8] 20 (fun g i wr => Aw20St w g i wr)
  case atStart => exact ⟨0, rfl, rfl, HS.out, HB.out⟩
  case round =>
    obtain ⟨k, hk, rfl, hbox, hB⟩ := hrel
    obtain ⟨A, c, ps, hps, hd, hc, hn, hN⟩ := hbox.at_
    have hpl : ps.length = (lastN 16 (aw20 k)).length := by rw [← hps, List.length_map]
    have HK := Lib.hid hk
    have HBe := Lib.hid hB
    have HBX := Lib.hid hbox
    have e0 := hd.cs 0 _ rfl
    have e1 := hd.cs 1 _ rfl
    have ef : ∀ j, wr.frozen? ⟨w.heap.size, j, none⟩ = false := hd.s
    have el := hd.lt
    by_cases hlt : k < 20
    · have HA := Lib.hid (aw20_put k hlt)
      have HC := Lib.hid (rsPut_any _ k c A ps exMl none 0 wr (by rw [hpl]; exact lastN_le _ _) hc hn (by omega) (exMl_ok wr) hN (HL.out.on hB))
      unfold RsPutPost at HC
      rw [hps, HA.out.1, HA.out.2.1, HA.out.2.2] at HC
      rw [show maV exMl none 0 = .agg #[.int .u64 0, .string ⟨#[97]⟩, .string ⟨#[]⟩, .slice none 0 0, .string ⟨#[]⟩, .int .u64 0, .int .u8 0] from rfl] at HC
      generalize hL1 : lastN 16 (aw20 (k + 1)) = L1 at *
      have HL1 := Lib.hid hL1
      clear hL1 hk hbox hB hd hN hc hn hpl hps
      go_wp2_with fail
      refine HC.out.mono ?_
      rintro e w1 ⟨A', c', ps', rfl, hm', hc', hn', hM', b1⟩
      have HBX1 := HBX.out.on b1
      have HX := Lib.hid (HBX.out.fill (T' := k + 1) b1 hm' hc' hn' hM')
      have HB1 := Lib.hid (((bthen HBe.out b1 (Nat.le_refl _)).setCell (p := ⟨w.heap.size, 0, none⟩) (Nat.le_refl _) (.int .u64 ((k : Int) + 1))).setCell (p := ⟨w.heap.size, 1, none⟩) (Nat.le_refl _) (.slice A' ps'.length c'))
      obtain ⟨A2, c2, ps2, -, hd2, -, -, -⟩ := HBX1.at_
      have f0 := hd2.cs 0 _ rfl
      have f1 := hd2.cs 1 _ rfl
      have ff : ∀ j, w1.frozen? ⟨w.heap.size, j, none⟩ = false := hd2.s
      have fl := hd2.lt
      clear e0 e1 ef el hc' hn' hm' hM' b1 hd2 HBX1
      go_wp2_with fail
      go_roundg (gk - 1)
      case rel => exact ⟨k + 1, by have := HK.out; omega, by go_num, by rw [HL1.out]; exact HX.out, HB1.out⟩
      case measure => have := HK.out; omega
    · have h20 : k = 20 := by omega
      subst h20
      rw [aw20_end] at hpl
      have HA0 := Lib.hid (fun W h => rsAfter_any 20 c A ps 0 W (by omega) (by omega) (by omega) (by omega) (by omega) h)
      have HA1 := Lib.hid (fun W h => rsAfter_any 20 c A ps 20 W (by omega) (by omega) (by omega) (by omega) (by omega) h)
      unfold RsAftPost at HA0 HA1
      rw [List.length_map, hpl, show Rs.aftN 20 16 0 = 5 from rfl, show decide (0 < 20) = true from rfl] at HA0
      rw [List.length_map, hpl, show Rs.aftN 20 16 20 = 0 from rfl, show decide (20 < 20) = false from rfl] at HA1
      generalize Rs.aft 20 (ps.map Mp.x) 0 = y0 at *
      generalize Rs.aft 20 (ps.map Mp.x) 20 = y1 at *
      rw [hpl] at hd e1
      have HN := Lib.hid hN.m
      have HD := Lib.hid hd
      clear hB hd hN hc hn hbox hpl hps ef HBX
      go_wp2_with fail
      refine (HA0.out _ HN.out).mono ?_
      rintro e w1 ⟨Ay, cy, rfl, ho, b1⟩
      have HD1 := Lib.hid (HD.out.on b1)
      have HN1 := Lib.hid (HN.out.on b1)
      have HB1 := Lib.hid (bthen HBe.out b1 (Nat.le_refl _))
      clear e0 e1 el b1 ho
      simp only [maV]
      have e0 := HD1.out.cs 0 _ rfl
      have e1 := HD1.out.cs 1 _ rfl
      have el := HD1.out.lt
      have HL1 := Lib.hid (show Below w1.heap.size w1 (w1.alloc (.cells #[.int .u64 (y0.id : Int), .string (ofL y0.shop), .string (ofL y0.key), .slice Ay y0.head.length cy, .string (ofL y0.body), .int .u64 (y0.due : Int), .int .u8 (y0.hops : Int)] 32)) from (Below.refl _ _).alloc (Nat.le_refl _) _)
      go_wp2_with fail
      refine (HA1.out _ (HN1.out.on HL1.out)).mono ?_
      rintro e w2 ⟨Az, cz, rfl, ho, b2⟩
      have HB2 := Lib.hid (bthen (bthen HB1.out HL1.out (Nat.le_refl _)) b2 (Nat.le_refl _))
      clear e0 e1 el b2 ho
      simp only [maV]
      have HL2 := Lib.hid (show Below w2.heap.size w2 (w2.alloc (.cells #[.int .u64 (y1.id : Int), .string (ofL y1.shop), .string (ofL y1.key), .slice Az y1.head.length cz, .string (ofL y1.body), .int .u64 (y1.due : Int), .int .u8 (y1.hops : Int)] 32)) from (Below.refl _ _).alloc (Nat.le_refl _) _)
      go_wp2_with fail
      have hb3 := bthen HB2.out HL2.out (Nat.le_refl _)
      refine (HLW.out _ (HL.out.on hb3)).mono ?_
      rintro e w3 ⟨rfl, b3⟩
      have HB3 := Lib.hid (bthen hb3 b3 (Nat.le_refl _))
      clear b3 hb3
      go_wp2_with fail
      go_ret
      exact ⟨rfl, HB3.out⟩
end Go.Proofs.YtfbajmiiecmelaaDoor
end
