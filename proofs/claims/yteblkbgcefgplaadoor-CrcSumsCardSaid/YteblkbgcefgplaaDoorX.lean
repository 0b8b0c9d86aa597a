/-
  PROVED HERE: the tied cards of CrcSums and CrcTurned: the sum of any three texts' bytes is the document's own of them put together; a text with four bytes in a row turned has another sum.
  CONDITIONS: none but the card's own: the package-level table holds what its initialiser lays (tied to the program's text; over a pruned copy of the project).
-/
import Derived.Test.YteblkbgcefgplaaDoorSmall
import Derived.Test.YteblkbgcefgplaaDoorBig
import Derived.Test.YteblkbgcefgplaaDoorTurn
import Derived.RegionTactic
import Derived.Stop.BytesEq
import Derived.Laws.IdiomStrings
import Derived.BigRegion
import Derived.ShutString
import Derived.Lib.Strings
namespace Go.Proofs.YteblkbgcefgplaaDoor
open Go.ChangeShapes Go.WideShapes Go.ChangeAt Go.RowKit


theorem arr_eq (W : World) (a b c d : UInt8) :
    (Op.equalIn 10000 31 (.agg #[.int .u8 (a.toNat : Int), .int .u8 (b.toNat : Int), .int .u8 (c.toNat : Int), .int .u8 (d.toNat : Int)]) (.agg #[.int .u8 0, .int .u8 0, .int .u8 0, .int .u8 0])).run Tryd.prog W = .ok ([a, b, c, d] == [0, 0, 0, 0]) W :=
  run_equalIn_bytes W 9998 31 5 4 Tryd.underlying31 Tryd.underlying5 (fun _ => by kernel_rfl) [a, b, c, d] [0, 0, 0, 0] rfl rfl

/-- what the loop over the four places keeps -/
structure St (TB B : Nat) (l : List UInt8) (K : Nat) (t : Nat → UInt8) (w : World) (n : Nat) (wr : World) : Prop where
  cells : ∀ j, j < l.length → wr.cell? ⟨B, j, none⟩ = some (.int .u8 ((Crc.cellv l K t n j).toNat : Int))
  free : ∀ j, j < l.length → wr.frozen? ⟨B, j, none⟩ = false
  turns : ∀ i, i < 4 → wr.cell? ⟨TB, i, none⟩ = some (.int .u8 ((t i).toNat : Int))
  tab : Tab wr
  below : Below TB w wr
  lt : B < wr.heap.size
  tb : TB < B
theorem St.next {TB B : Nat} {l : List UInt8} {K : Nat} {t : Nat → UInt8} {w : World} {n : Nat} {wr : World} (h : St TB B l K t w n wr) (_hK : K + n < l.length) (hpos : 0 < TB) :
    St TB B l K t w (n + 1) (wr.setCell ⟨B, K + n, none⟩ (.int .u8 ((l.getD (K + n) 0 ^^^ t n).toNat : Int))) := by
  refine ⟨fun j hj => ?_, fun j hj => ?_, fun i hi => ?_, fun i hi => ?_, h.below.setCell (by have := h.tb; simp; omega) _, by have := h.lt; simp [World.setCell]; exact this, h.tb⟩
  · by_cases e : j = K + n
    · subst e
      rw [Crc.cellv_at]
      exact World.cell?_setCell_same _ _ _ (h.cells _ hj)
    · rw [Crc.cellv_other _ _ _ _ _ e, World.cell?_setCell_other _ _ _ _ (by simp only [ne_eq, Addr.mk.injEq, not_and]; omega)]
      exact h.cells j hj
  · rw [World.frozen?_setCell]
    exact h.free j hj
  · rw [World.cell?_setCell_other _ _ _ _ (by have := h.tb; simp only [ne_eq, Addr.mk.injEq, not_and]; omega)]
    exact h.turns i hi
  · rw [World.cell?_setCell_other _ _ _ _ (by have := h.tb; simp only [ne_eq, Addr.mk.injEq, not_and]; omega)]
    exact h.tab i hi
theorem St.start {TB : Nat} {s : ByteArray} {K : Nat} {t : Nat → UInt8} {w w1 : World} {cap : Nat} (hT : Tab w1) (hb : Below TB w w1) (hlt : TB < w1.heap.size)
    (ht : ∀ i, i < 4 → w1.cell? ⟨TB, i, none⟩ = some (.int .u8 ((t i).toNat : Int))) :
    St TB w1.heap.size s.data.toList K t w 0 (w1.alloc (.cells (bytesRow s cap) 5 ((bytesRow s cap).size, (bytesRow s cap).size + 1))) := by
  refine ⟨fun j hj => ?_, fun j hj => ?_, fun i hi => ?_, hT.alloc _, hb.alloc (Nat.le_of_lt hlt) _, by simp, hlt⟩
  · have hj' : j < s.data.size := by simpa using hj
    rw [World.cell?_alloc_mark, bytesRow_at _ _ _ hj', Crc.cellv_zero, Crc.getD_eq hj]
    simp
  · rw [World.frozen?_alloc_mark]
    have hj' : j < s.data.size := by simpa using hj
    have : s.data.size ≤ (bytesRow s cap).size := by simp [bytesRow]
    simp only [Bool.and_eq_false_imp, decide_eq_true_eq, decide_eq_false_iff_not]
    omega
  · rw [World.cell?_alloc_lt _ _ _ (by simpa using hlt)]
    exact ht i hi
theorem St.drewN {TB B : Nat} {l : List UInt8} {K : Nat} {t : Nat → UInt8} {w : World} {n : Nat} {wr : World} (h : St TB B l K t w n wr) (k : Nat) : St TB B l K t w n (wr.drewN k) :=
  ⟨h.cells, h.free, h.turns, h.tab, ⟨h.below.os, h.below.tape, h.below.output, h.below.size, h.below.block⟩, h.lt, h.tb⟩
theorem St.drew {TB B : Nat} {l : List UInt8} {K : Nat} {t : Nat → UInt8} {w : World} {n : Nat} {wr : World} (h : St TB B l K t w n wr) : St TB B l K t w n wr.drew :=
  ⟨h.cells, h.free, h.turns, h.tab, ⟨h.below.os, h.below.tape, h.below.output, h.below.size, h.below.block⟩, h.lt, h.tb⟩
set_option maxHeartbeats 1000000 in
theorem turned_main (s : ByteArray) (at' : Nat) (t : Nat → UInt8) (w : World) (h4 : 4 ≤ s.size) (h2000 : s.size ≤ 2000) (ha : at' < 65536) (hT : Tab w) (hne : ([t 0, t 1, t 2, t 3] == [0, 0, 0, 0]) = false) :
    Calls Tryd.prog 6 #[.string s, .int .u16 (at' : Int), .agg #[.int .u8 ((t 0).toNat : Int), .int .u8 ((t 1).toNat : Int), .int .u8 ((t 2).toNat : Int), .int .u8 ((t 3).toNat : Int)]] w fun e w' => e = .returned (.bool true) ∧ Below w.heap.size w w' := by
  have HT := Lib.hid hT
  clear hT
  have HNE := Lib.hid hne
  clear hne
  obtain ⟨K, hK, hKl⟩ : ∃ K : Nat, (at' : Int) % ((s.size : Int) - 3) = (K : Int) ∧ K + 4 ≤ s.size := by
    refine ⟨at' % (s.size - 3), by rw [show (s.size : Int) - 3 = ((s.size - 3 : Nat) : Int) by omega]; exact (Int.natCast_emod _ _).symm, ?_⟩
    have := Nat.mod_lt at' (show 0 < s.size - 3 by omega)
    omega
  have hc9 := fun W : World => run_bytes_of_string (P := Tryd.prog) W 9 32 5 s Tryd.underlying9 Tryd.underlying32 Tryd.underlying5
  go_enter Tryd.func6, Tryd.ntmps6
  go_wp2_with fail
  refine (awake_any _ (HT.out.alloc _)).mono ?_
  rintro e w1 ⟨rfl, hb1⟩
  have HT1 := Lib.hid ((HT.out.alloc _).below hb1 (HT.out.alloc _).pos)
  have c0 := hb1.cell (p := ⟨w.heap.size, 0, none⟩) (by simp)
  have c1 := hb1.cell (p := ⟨w.heap.size, 1, none⟩) (by simp)
  have c2 := hb1.cell (p := ⟨w.heap.size, 2, none⟩) (by simp)
  have c3 := hb1.cell (p := ⟨w.heap.size, 3, none⟩) (by simp)
  have f0 := fun i => hb1.frozen (p := ⟨w.heap.size, i, none⟩) (by simp)
  simp at c0 c1 c2 c3 f0
  have hz := hb1.size
  simp at hz
  have HB1 := Lib.hid hb1
  clear hb1
  have hq := arr_eq w1 (t 0) (t 1) (t 2) (t 3)
  rw [HNE.out] at hq
  go_wp2_with fail
  go_loopw [33] (fun i wr => ∃ n : Nat, n ≤ 4 ∧ i = .int .i64 n ∧ St w.heap.size w1.heap.size s.data.toList K t w n wr) (fun i _ => 4 - (intOf i).toNat)
  case atStart =>
    refine ⟨0, by omega, rfl, ?_⟩
    exact (St.start HT1.out (Below.trans (((Below.refl _ _).alloc (Nat.le_refl _) _)) (HB1.out.mono (by simp))) (by omega) (fun i hi => match i, hi with | 0, _ => c0 | 1, _ => c1 | 2, _ => c2 | 3, _ => c3)).drew
  case round =>
    obtain ⟨n, hn, rfl, hst⟩ := hrel
    have HST := Lib.hid hst
    clear hst c0 c1 c2 c3 f0 hq
    by_cases hlt : n < 4
    · have hin : K + n < s.data.toList.length := by simp; omega
      have g1 := HST.out.cells (K + n) hin
      have g2 := HST.out.free (K + n) hin
      have g3 := HST.out.turns n hlt
      have HN := Lib.hid (HST.out.next hin (by have := HT.out.pos; omega))
      rw [Crc.cellv_next] at g1
      generalize s.data.toList.getD (K + n) 0 = X at g1 HN
      generalize t n = Y at g3 HN
      have hx := X.toNat_lt
      have hy := Y.toNat_lt
      have hxy : bits .xor .u8 (X.toNat : Int) (Y.toNat : Int) = (((X ^^^ Y).toNat : Nat) : Int) := by rw [u8_xor_nat _ _ hx hy, UInt8.toNat_xor]
      clear hc9 hin
      go_wp2_with fail
      go_region
      go_wp2_with fail
      go_roundw
      case rel => exact ⟨n + 1, by omega, by go_num, by first | exact HN.out | exact HN.out.drew | exact HN.out.drewN _⟩
      case measure => simp [intOf]; omega
    · obtain rfl : n = 4 := by omega
      have hlen : s.data.toList.length = s.size := by simp
      have hne := Crc.turned_ne s.data.toList K t (by rw [hlen]; exact hKl) HNE.out
      have hl' := Crc.length_turned s.data.toList K t
      have hback : ∀ cap, (convert 32 9 (.slice (some ⟨w1.heap.size, 0, none⟩) s.size cap)).run Tryd.prog wr = .ok (.string ⟨(Crc.turnedList s.data.toList K t).toArray⟩) wr := by
        intro cap
        have h := run_convert_bytes_back (P := Tryd.prog) wr 32 9 5 ⟨w1.heap.size, 0, none⟩ cap (Crc.turnedList s.data.toList K t) Tryd.underlying32 Tryd.underlying5 Tryd.underlying9 (fun j hj => by
          have hj' : j < s.data.toList.length := by rw [← hl']; exact hj
          have e := HST.out.cells j hj'
          rw [← Crc.turned_getD _ _ _ _ hj', Crc.getD_eq hj] at e
          have ea : (⟨w1.heap.size, 0, none⟩ : Addr).add j = ⟨w1.heap.size, j, none⟩ := by unfold Addr.add; split <;> simp_all
          rw [ea]
          exact e)
        rw [hl', hlen] at h
        exact h
      have hsz : (ByteArray.mk (Crc.turnedList s.data.toList K t).toArray).size ≤ 100000 := by
        show (Crc.turnedList s.data.toList K t).toArray.size ≤ 100000
        simp only [List.size_toArray, hl', hlen]
        omega
      have hrl : (ByteArray.mk (Crc.turnedList s.data.toList K t).toArray).data.toList = Crc.turnedList s.data.toList K t := by simp
      have HSum : ∀ W : World, Hid (Tab W) → ∀ b', W.cell? ⟨b', 0, none⟩ = some (.string ⟨(Crc.turnedList s.data.toList K t).toArray⟩) →
          Calls Tryd.prog 8 #[.slice (some ⟨b', 0, none⟩) 1 1] W fun e w' => e = .returned (.int .u32 ((Crc.sum (Crc.turnedList s.data.toList K t) : Nat) : Int)) ∧ W = w' := fun W hW b' h0 => by
        have := sum_one _ b' 1 W hsz hW.out h0
        rw [hrl] at this
        exact this
      have HSum2 : ∀ W : World, Hid (Tab W) → ∀ b', W.cell? ⟨b', 0, none⟩ = some (.string s) →
          Calls Tryd.prog 8 #[.slice (some ⟨b', 0, none⟩) 1 1] W fun e w' => e = .returned (.int .u32 ((Crc.sum s.data.toList : Nat) : Int)) ∧ W = w' := fun W hW b' h0 =>
        sum_one _ b' 1 W (by omega) hW.out h0
      have hbq : (((Crc.sum (Crc.turnedList s.data.toList K t) : Nat) : Int) != ((Crc.sum s.data.toList : Nat) : Int)) = true := by
        rw [bne_iff_ne]
        intro h
        exact hne (by exact_mod_cast h)
      clear hsz hrl hl' hlen hne hc9 hK
      have HTr := Lib.hid HST.out.tab
      have hbr := HST.out.below
      have hsz2 : w.heap.size ≤ wr.heap.size := by have := HST.out.lt; have := HST.out.tb; omega
      clear HST
      generalize hr : ByteArray.mk (Crc.turnedList s.data.toList K t).toArray = r at hback HSum
      clear hr
      generalize Crc.sum (Crc.turnedList s.data.toList K t) = X at HSum hbq
      generalize Crc.sum s.data.toList = Y at HSum2 hbq
      have HSum' := Lib.hid HSum
      have HSum2' := Lib.hid HSum2
      clear HSum HSum2
      have HBr := Lib.hid hbr
      clear hbr
      go_wp2_with fail
      refine (HSum'.out _ (Lib.hid (HTr.out.alloc _)) _ (by simp)).mono ?_
      rintro e w' ⟨rfl, rfl⟩
      go_wp2_with fail
      refine (HSum2'.out _ (Lib.hid ((HTr.out.alloc _).alloc _)) _ (by simp)).mono ?_
      rintro e w' ⟨rfl, rfl⟩
      go_wp2_with fail
      go_ret
      exact ⟨rfl, (HBr.out.alloc hsz2 _).alloc (by simp; omega) _⟩

set_option maxHeartbeats 1000000 in
theorem turned_early (s : ByteArray) (at' : Nat) (t : Nat → UInt8) (w : World) (h : s.size < 4 ∨ 2000 < s.size) (hT : Tab w) :
    Calls Tryd.prog 6 #[.string s, .int .u16 (at' : Int), .agg #[.int .u8 ((t 0).toNat : Int), .int .u8 ((t 1).toNat : Int), .int .u8 ((t 2).toNat : Int), .int .u8 ((t 3).toNat : Int)]] w fun e w' => e = .returned (.bool true) ∧ Below w.heap.size w w' := by
  have HT := Lib.hid hT
  clear hT
  rcases h with h | h
  · go_enter Tryd.func6, Tryd.ntmps6
    go_wp2_with fail
    refine (awake_any _ (HT.out.alloc _)).mono ?_
    rintro e w1 ⟨rfl, hb1⟩
    have HB1 := Lib.hid hb1
    clear hb1
    go_wp2_with fail
    go_ret
    exact ⟨rfl, Below.trans ((Below.refl _ _).alloc (Nat.le_refl _) _) (HB1.out.mono (by simp))⟩
  · have h4 : ¬ s.size < 4 := by omega
    go_enter Tryd.func6, Tryd.ntmps6
    go_wp2_with fail
    refine (awake_any _ (HT.out.alloc _)).mono ?_
    rintro e w1 ⟨rfl, hb1⟩
    have HB1 := Lib.hid hb1
    clear hb1
    go_wp2_with fail
    go_ret
    exact ⟨rfl, Below.trans ((Below.refl _ _).alloc (Nat.le_refl _) _) (HB1.out.mono (by simp))⟩

set_option maxHeartbeats 1000000 in
theorem turned_zero (s : ByteArray) (at' : Nat) (t : Nat → UInt8) (w : World) (h4 : 4 ≤ s.size) (h2000 : s.size ≤ 2000) (hT : Tab w) (hne : ([t 0, t 1, t 2, t 3] == [0, 0, 0, 0]) = true) :
    Calls Tryd.prog 6 #[.string s, .int .u16 (at' : Int), .agg #[.int .u8 ((t 0).toNat : Int), .int .u8 ((t 1).toNat : Int), .int .u8 ((t 2).toNat : Int), .int .u8 ((t 3).toNat : Int)]] w fun e w' => e = .returned (.bool true) ∧ Below w.heap.size w w' := by
  have HT := Lib.hid hT
  clear hT
  have HNE := Lib.hid hne
  clear hne
  go_enter Tryd.func6, Tryd.ntmps6
  go_wp2_with fail
  refine (awake_any _ (HT.out.alloc _)).mono ?_
  rintro e w1 ⟨rfl, hb1⟩
  have c0 := hb1.cell (p := ⟨w.heap.size, 0, none⟩) (by simp)
  have c1 := hb1.cell (p := ⟨w.heap.size, 1, none⟩) (by simp)
  have c2 := hb1.cell (p := ⟨w.heap.size, 2, none⟩) (by simp)
  have c3 := hb1.cell (p := ⟨w.heap.size, 3, none⟩) (by simp)
  simp at c0 c1 c2 c3
  have HB1 := Lib.hid hb1
  clear hb1
  have hq := arr_eq w1 (t 0) (t 1) (t 2) (t 3)
  rw [HNE.out] at hq
  go_wp2_with fail
  go_ret
  exact ⟨rfl, Below.trans ((Below.refl _ _).alloc (Nat.le_refl _) _) (HB1.out.mono (by simp))⟩

theorem turned_walk (s : ByteArray) (at' : Nat) (t : Nat → UInt8) (w : World) (ha : at' < 65536) (hT : Tab w) :
    Calls Tryd.prog 6 #[.string s, .int .u16 (at' : Int), .agg #[.int .u8 ((t 0).toNat : Int), .int .u8 ((t 1).toNat : Int), .int .u8 ((t 2).toNat : Int), .int .u8 ((t 3).toNat : Int)]] w fun e w' => e = .returned (.bool true) ∧ Below w.heap.size w w' := by
  by_cases h : s.size < 4 ∨ 2000 < s.size
  · exact turned_early s at' t w h hT
  · cases hne : ([t 0, t 1, t 2, t 3] == [0, 0, 0, 0])
    · exact turned_main s at' t w (by omega) (by omega) ha hT hne
    · exact turned_zero s at' t w (by omega) (by omega) hT hne
end Go.Proofs.YteblkbgcefgplaaDoor
