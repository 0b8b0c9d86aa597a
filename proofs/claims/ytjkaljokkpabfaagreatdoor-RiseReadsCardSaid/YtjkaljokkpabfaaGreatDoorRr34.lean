/-
  RISE: a box of it; THE CHAPTER's EXAMPLE: walked. WHICH MESSAGES ARE GONE THROUGH: walked. MESSAGES THAT COME IN; WHAT IS GONE THROUGH: walked.
-/
import Derived.Test.YtjkaljokkpabfaaGreatDoorRr13
import Derived.Test.YtjkaljokkpabfaaGreatDoorRr26
import Derived.Test.YtjkaljokkpabfaaGreatDoorRr32
import Derived.Test.YtjkaljokkpabfaaGreatDoorRr33

section
namespace Go.Proofs.YtjkaljokkpabfaaGreatDoor
open Go.ChangeShapes Go.WideShapes Go.ChangeAt Go.RowKit
/-- the box of a Rise: how many came, what is kept -/
structure RsBox (w0 : World) (b T : Nat) (l : List Ml) (w : World) : Prop where
  at_ : ∃ A c ps, ps.map Mp.x = l ∧ BoxC w0 b [.int .u64 (T : Int), .slice A ps.length c] w ∧ ps.length ≤ c ∧ (A = none → c = 0) ∧ MasU (fun g => b < g) w A ps
theorem RsBox.on {w0 : World} {b T : Nat} {l : List Ml} {w w' : World} (h : RsBox w0 b T l w) (hb : Below w.heap.size w w') : RsBox w0 b T l w' := by
  obtain ⟨A, c, ps, h1, h2, h3, h4, h5⟩ := h.at_
  exact ⟨A, c, ps, h1, h2.on hb, h3, h4, h5.on hb⟩
theorem RsBox.new (w : World) (t : TypeId) : RsBox w w.heap.size 0 [] (w.alloc (.cells #[.int .u64 0, .slice none 0 0] t)) :=
  ⟨none, 0, [], rfl, BoxC.new (Nat.le_refl _) #[.int .u64 0, .slice none 0 0] t, Nat.le_refl _, fun _ => rfl, MasU.nil _ _⟩
theorem RsBox.fill {w0 : World} {b T T' : Nat} {l l' : List Ml} {w w' : World} (h : RsBox w0 b T l w) (hb : Below w.heap.size w w') {A' : Option Addr} {c' : Nat} {ps' : List Mp} (hm : ps'.map Mp.x = l') (hc : ps'.length ≤ c') (hn : A' = none → c' = 0) (hM : MasU (fun g => b < g ∨ w.heap.size ≤ g) w' A' ps') :
    RsBox w0 b T' l' ((w'.setCell ⟨b, 0, none⟩ (.int .u64 (T' : Int))).setCell ⟨b, 1, none⟩ (.slice A' ps'.length c')) := by
  obtain ⟨A, c, ps, -, h2, -, -, -⟩ := h.at_
  have hlt := h2.lt
  have h3 := (h2.on hb).fill [.int .u64 (T' : Int), .slice A' ps'.length c'] rfl
  simp only [putAll] at h3
  have h4 : MasU (fun g => b < g) w' A' ps' := hM.mono fun g hg => hg.elim id fun h => Nat.lt_of_lt_of_le hlt h
  exact ⟨A', c', ps', hm, h3, hc, hn, (h4.put (Nat.lt_irrefl b) 0 _).put (Nat.lt_irrefl b) 1 _⟩
theorem rs_law13Awake (w : World) (hL : Len w) : Calls Tryz.prog 16 #[] w fun e w' => e = .returned (.bool true) ∧ Below w.heap.size w w' := by
  have HA := Lib.hid (awake13_any w hL)
  go_enter Tryz.func16, Tryz.ntmps16
  go_wp2_with fail
  refine HA.out.mono ?_
  rintro x w1 ⟨rfl, b1⟩
  have B1 := Lib.hid b1
  clear b1
  go_wp2_with fail
  go_ret
  exact ⟨rfl, B1.out⟩
theorem exMl_ok (w : World) : MaOk w exMl none 0 := ⟨by decide, by decide, by decide, by decide, by decide, lite_nil, Prs.nil _ _⟩
def aw20 (k : Nat) : List Ml := List.replicate k exMl
theorem aw20_put (k : Nat) (hk : k < 20) : Rs.addT k exMl = k + 1 ∧ Rs.addK k (lastN 16 (aw20 k)) exMl = lastN 16 (aw20 (k + 1)) ∧ Rs.addC k exMl = 0 := by
  have h0 : ¬ exMl.code ≠ 0 := by rw [exMl_code]; simp
  have h1 : ¬ k = 18446744073709551615 := by omega
  unfold Rs.addT Rs.addK Rs.addC
  simp only [if_neg h0, if_neg h1]
  refine ⟨trivial, ?_, trivial⟩
  rw [lastN_snoc (by decide)]
  unfold aw20
  rw [List.replicate_succ']
theorem aw20_end : (lastN 16 (aw20 20)).length = 16 := rfl
def Aw20St (w : World) (g : Nat) (i : Value) (wr : World) : Prop := ∃ k : Nat, k + g = 20 ∧ i = .int .i64 (k : Int) ∧ RsBox w w.heap.size k (lastN 16 (aw20 k)) wr ∧ Below w.heap.size w wr
set_option maxRecDepth 100000 in
set_option maxHeartbeats 4000000 in
theorem awake20_any (w : World) (hL : Len w) : Calls Tryz.prog 4 #[] w fun x w' => x = .returned (.bool true) ∧ Below w.heap.size w w' := by
  have HS := Lib.hid (RsBox.new w 35)
  have HB := Lib.hid ((Below.refl w.heap.size w).alloc (Nat.le_refl _) (.cells #[.int .u64 0, .slice none 0 0] 35))
  have HLW := Lib.hid (fun W h => rs_law13Awake W h)
  have HL := Lib.hid hL
  clear hL
  go_enter Tryz.func4, Tryz.ntmps4
  go_wp2_with fail
  go_loopg [8] 20 (fun g i wr => Aw20St w g i wr)
  case atStart => exact ⟨0, rfl, rfl, HS.out, HB.out⟩
  case round =>
    obtain ⟨k, hk, rfl, hbox, hB⟩ := hrel
    obtain ⟨A, c, ps, hps, hd, hc, hn, hN⟩ := hbox.at_
    have hpl : ps.length = (lastN 16 (aw20 k)).length := by rw [← hps, List.length_map]
    have HK := Lib.hid hk
    have HBe := Lib.hid hB
    have HBX := Lib.hid hbox
    have e0 := hd.cs 0 _ rfl
    have e1 := hd.cs 1 _ rfl
    have ef : ∀ j, wr.frozen? ⟨w.heap.size, j, none⟩ = false := hd.s
    have el := hd.lt
    by_cases hlt : k < 20
    · have HA := Lib.hid (aw20_put k hlt)
      have HC := Lib.hid (rsPut_any _ k c A ps exMl none 0 wr (by rw [hpl]; exact lastN_le _ _) hc hn (by omega) (exMl_ok wr) hN (HL.out.on hB))
      unfold RsPutPost at HC
      rw [hps, HA.out.1, HA.out.2.1, HA.out.2.2] at HC
      rw [show maV exMl none 0 = .agg #[.int .u64 0, .string ⟨#[97]⟩, .string ⟨#[]⟩, .slice none 0 0, .string ⟨#[]⟩, .int .u64 0, .int .u8 0] from rfl] at HC
      generalize hL1 : lastN 16 (aw20 (k + 1)) = L1 at *
      have HL1 := Lib.hid hL1
      clear hL1 hk hbox hB hd hN hc hn hpl hps
      go_wp2_with fail
      refine HC.out.mono ?_
      rintro e w1 ⟨A', c', ps', rfl, hm', hc', hn', hM', b1⟩
      have HBX1 := HBX.out.on b1
      have HX := Lib.hid (HBX.out.fill (T' := k + 1) b1 hm' hc' hn' hM')
      have HB1 := Lib.hid (((bthen HBe.out b1 (Nat.le_refl _)).setCell (p := ⟨w.heap.size, 0, none⟩) (Nat.le_refl _) (.int .u64 ((k : Int) + 1))).setCell (p := ⟨w.heap.size, 1, none⟩) (Nat.le_refl _) (.slice A' ps'.length c'))
      obtain ⟨A2, c2, ps2, -, hd2, -, -, -⟩ := HBX1.at_
      have f0 := hd2.cs 0 _ rfl
      have f1 := hd2.cs 1 _ rfl
      have ff : ∀ j, w1.frozen? ⟨w.heap.size, j, none⟩ = false := hd2.s
      have fl := hd2.lt
      clear e0 e1 ef el hc' hn' hm' hM' b1 hd2 HBX1
      go_wp2_with fail
      go_roundg (gk - 1)
      case rel => exact ⟨k + 1, by have := HK.out; omega, by go_num, by rw [HL1.out]; exact HX.out, HB1.out⟩
      case measure => have := HK.out; omega
    · have h20 : k = 20 := by omega
      subst h20
      rw [aw20_end] at hpl
      have HA0 := Lib.hid (fun W h => rsAfter_any 20 c A ps 0 W (by omega) (by omega) (by omega) (by omega) (by omega) h)
      have HA1 := Lib.hid (fun W h => rsAfter_any 20 c A ps 20 W (by omega) (by omega) (by omega) (by omega) (by omega) h)
      unfold RsAftPost at HA0 HA1
      rw [List.length_map, hpl, show Rs.aftN 20 16 0 = 5 from rfl, show decide (0 < 20) = true from rfl] at HA0
      rw [List.length_map, hpl, show Rs.aftN 20 16 20 = 0 from rfl, show decide (20 < 20) = false from rfl] at HA1
      generalize Rs.aft 20 (ps.map Mp.x) 0 = y0 at *
      generalize Rs.aft 20 (ps.map Mp.x) 20 = y1 at *
      rw [hpl] at hd e1
      have HN := Lib.hid hN.m
      have HD := Lib.hid hd
      clear hB hd hN hc hn hbox hpl hps ef HBX
      go_wp2_with fail
      refine (HA0.out _ HN.out).mono ?_
      rintro e w1 ⟨Ay, cy, rfl, ho, b1⟩
      have HD1 := Lib.hid (HD.out.on b1)
      have HN1 := Lib.hid (HN.out.on b1)
      have HB1 := Lib.hid (bthen HBe.out b1 (Nat.le_refl _))
      clear e0 e1 el b1 ho
      simp only [maV]
      have e0 := HD1.out.cs 0 _ rfl
      have e1 := HD1.out.cs 1 _ rfl
      have el := HD1.out.lt
      have HL1 := Lib.hid (show Below w1.heap.size w1 (w1.alloc (.cells #[.int .u64 (y0.id : Int), .string (ofL y0.shop), .string (ofL y0.key), .slice Ay y0.head.length cy, .string (ofL y0.body), .int .u64 (y0.due : Int), .int .u8 (y0.hops : Int)] 25)) from (Below.refl _ _).alloc (Nat.le_refl _) _)
      go_wp2_with fail
      refine (HA1.out _ (HN1.out.on HL1.out)).mono ?_
      rintro e w2 ⟨Az, cz, rfl, ho, b2⟩
      have HB2 := Lib.hid (bthen (bthen HB1.out HL1.out (Nat.le_refl _)) b2 (Nat.le_refl _))
      clear e0 e1 el b2 ho
      simp only [maV]
      have HL2 := Lib.hid (show Below w2.heap.size w2 (w2.alloc (.cells #[.int .u64 (y1.id : Int), .string (ofL y1.shop), .string (ofL y1.key), .slice Az y1.head.length cz, .string (ofL y1.body), .int .u64 (y1.due : Int), .int .u8 (y1.hops : Int)] 25)) from (Below.refl _ _).alloc (Nat.le_refl _) _)
      go_wp2_with fail
      have hb3 := bthen HB2.out HL2.out (Nat.le_refl _)
      refine (HLW.out _ (HL.out.on hb3)).mono ?_
      rintro e w3 ⟨rfl, b3⟩
      have HB3 := Lib.hid (bthen hb3 b3 (Nat.le_refl _))
      clear b3 hb3
      go_wp2_with fail
      go_ret
      exact ⟨rfl, HB3.out⟩
end Go.Proofs.YtjkaljokkpabfaaGreatDoor
end
section
namespace Go.Proofs.YtjkaljokkpabfaaGreatDoor
open Go.ChangeShapes Go.WideShapes Go.ChangeAt Go.RowKit
def maLight (x : Ml) : Bool := decide (x.shop.length ≤ 40) && decide (x.key.length ≤ 100) && lightB x.head && decide (x.body.length ≤ 300)
theorem ml_light_ok {x : Ml} (h : maLight x = true) : x.shop.length ≤ 40 ∧ x.key.length ≤ 100 ∧ lightB x.head = true ∧ x.body.length ≤ 300 := by
  unfold maLight at h
  simp only [Bool.and_eq_true, decide_eq_true_eq] at h
  exact ⟨h.1.1.1, h.1.1.2, h.1.2, h.2⟩
theorem ml_light_Ok {w : World} {x : Ml} {A : Option Addr} {c : Nat} (h : maLight x = true) (hc : x.head.length ≤ c) (hp : Prs w A x.head) : MaOk w x A c := by
  obtain ⟨h2, h3, h4, h5⟩ := ml_light_ok h
  obtain ⟨h6, h7, -⟩ := light_lite h4
  exact ⟨by omega, by omega, by omega, by omega, hc, h7, hp⟩
/-- one that came in -/
structure MaIn (w : World) (x : Ml) (A : Option Addr) (c : Nat) : Prop where
  row : Prs w A x.head
  cap : x.head.length ≤ c
  big : x.head.length ≤ 9223372036854775807
  txt : x.shop.length ≤ 9223372036854775807 ∧ x.key.length ≤ 9223372036854775807 ∧ x.body.length ≤ 9223372036854775807
  fits : Ml.Fits x
set_option maxRecDepth 100000 in
set_option maxHeartbeats 4000000 in
theorem ml_light_any (x : Ml) (A : Option Addr) (c : Nat) (w : World) (hl : x.head.length ≤ 9223372036854775807) (hp : Prs w A x.head) :
    Calls Tryz.prog 5 #[maV x A c] w fun e w' => e = .returned (.bool (maLight x)) ∧ Below w.heap.size w w' := by
  have HM0 := Lib.hid (MaX.start w x A c hp 25)
  have HLI := Lib.hid (fun W h => light9_any x.head A c W hl h)
  have HD : Hid (maLight x = (decide (x.shop.length ≤ 40) && decide (x.key.length ≤ 100) && lightB x.head && decide (x.body.length ≤ 300))) := rfl
  have s2 : (ofL x.shop).size = x.shop.length := ofL_size _
  have s3 : (ofL x.key).size = x.key.length := ofL_size _
  have s4 : (ofL x.body).size = x.body.length := ofL_size _
  generalize maLight x = LX at *
  generalize lightB x.head = LB at *
  simp only [maV]
  clear hp
  by_cases h1 : x.shop.length ≤ 40
  · have g1 : (ofL x.shop).size ≤ 40 := by omega
    by_cases h3 : x.key.length ≤ 100
    · have g3 : (ofL x.key).size ≤ 100 := by omega
      cases hb : LB with
      | false =>
        have HC := Lib.hid (show LX = false by rw [HD.out, hb]; simp)
        rw [hb] at HLI
        clear h1 h3 hb s2 s3 s4
        go_enter Tryz.func5, Tryz.ntmps5
        go_wp2_with fail
        refine (HLI.out _ HM0.out.ra).mono ?_
        rintro e w1 ⟨rfl, b1⟩
        have HM1 := Lib.hid (HM0.out.on b1)
        clear b1
        go_wp2_with fail
        go_ret
        exact ⟨ret_bool HC.out.symm, HM1.out.B⟩
      | true =>
        have HC := Lib.hid (show LX = decide (x.body.length ≤ 300) by rw [HD.out, hb, decide_eq_true h1, decide_eq_true h3]; simp)
        have hb4 : decide (((ofL x.body).size : Int) ≤ 300) = decide (x.body.length ≤ 300) := decide_eq_decide.2 (by omega)
        rw [hb] at HLI
        clear h1 h3 hb s2 s3 s4
        go_enter Tryz.func5, Tryz.ntmps5
        go_wp2_with fail
        refine (HLI.out _ HM0.out.ra).mono ?_
        rintro e w1 ⟨rfl, b1⟩
        have HM1 := Lib.hid (HM0.out.on b1)
        have lt1 := HM1.out.p.lt
        have cb := HM1.out.p.cs 4 _ rfl
        clear b1
        go_wp2_with fail
        go_ret
        exact ⟨ret_bool (by rw [HC.out, ← hb4]), HM1.out.B⟩
    · have g3 : ¬ (ofL x.key).size ≤ 100 := by omega
      have HC := Lib.hid (show LX = false by rw [HD.out, decide_eq_false h3]; simp)
      clear h1 h3 s2 s3 s4
      go_enter Tryz.func5, Tryz.ntmps5
      go_wp2_with fail
      go_ret
      exact ⟨ret_bool HC.out.symm, HM0.out.B⟩
  · have g1 : ¬ (ofL x.shop).size ≤ 40 := by omega
    have HC := Lib.hid (show LX = false by rw [HD.out, decide_eq_false h1]; simp)
    clear h1 s2 s3 s4
    go_enter Tryz.func5, Tryz.ntmps5
    go_wp2_with fail
    go_ret
    exact ⟨ret_bool HC.out.symm, HM0.out.B⟩
end Go.Proofs.YtjkaljokkpabfaaGreatDoor
end
section
namespace Go.Proofs.YtjkaljokkpabfaaGreatDoor
open Go.ChangeShapes Go.WideShapes Go.ChangeAt Go.RowKit
theorem MaIn.onR {w w' : World} {x : Ml} {A : Option Addr} {c : Nat} (h : MaIn w x A c) (hb : Below w.heap.size w w') : MaIn w' x A c := ⟨h.row.on hb, h.cap, h.big, h.txt, h.fits⟩
/-- messages that came in -/
structure MaRow (w : World) (A : Option Addr) (l : List Mp) : Prop where
  row : Rws w A (mcs l)
  h : ∀ p ∈ l, MaIn w p.x p.A p.c
theorem MaRow.on {w w' : World} {A : Option Addr} {l : List Mp} (h : MaRow w A l) (hb : Below w.heap.size w w') : MaRow w' A l := ⟨Rws.on h.row hb, fun p hp => (h.h p hp).onR hb⟩
theorem mp_mem {l : List Mp} {i : Nat} (hi : i < l.length) : l.getD i Mp.zero ∈ l := by
  rw [List.getD_eq_getElem?_getD, List.getElem?_eq_getElem hi]; exact List.getElem_mem hi
theorem MaRow.get {w : World} {A : Option Addr} {l : List Mp} (h : MaRow w A l) {i : Nat} (hi : i < l.length) :
    MaIn w (l.getD i Mp.zero).x (l.getD i Mp.zero).A (l.getD i Mp.zero).c ∧ ∃ b off, A = some ⟨b, off, none⟩ ∧ b < w.heap.size ∧ ∀ j v, (mpL (l.getD i Mp.zero))[j]? = some v → w.cell? ⟨b, off + i * 7 + j, none⟩ = some v := by
  refine ⟨h.h _ (mp_mem hi), ?_⟩
  obtain ⟨b, off, e, hlt, hc⟩ := Rws.lies h.row (by rw [mcs_len]; omega)
  refine ⟨b, off, e, hlt, fun j v hv => ?_⟩
  have hj : j < 7 := by
    rcases Nat.lt_or_ge j 7 with h | h
    · exact h
    · rw [List.getElem?_eq_none (by show (mpL _).length ≤ j; exact h)] at hv; cases hv
  have := hc _ _ ((mcs_at hi hj).trans hv)
  rw [← Nat.add_assoc] at this
  exact this
end Go.Proofs.YtjkaljokkpabfaaGreatDoor
end
