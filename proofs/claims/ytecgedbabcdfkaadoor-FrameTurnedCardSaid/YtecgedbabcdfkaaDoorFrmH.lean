/-
  THE LAW ON TURNED BYTES, walked.
-/
import Derived.Test.YtecgedbabcdfkaaDoorFrmG
import Derived.Deep.CutBlock
namespace Go.Proofs.YtecgedbabcdfkaaDoor
open Go.ChangeShapes Go.WideShapes Go.ChangeAt Go.RowKit

/-- bytes that lie in block B -/
structure BySt (B : Nat) (l : List UInt8) (wr : World) : Prop where
  cells : ∀ j, j < l.length → wr.cell? ⟨B, j, none⟩ = some (.int .u8 ((l.getD j 0).toNat : Int))
  free : ∀ j, j < l.length → wr.frozen? ⟨B, j, none⟩ = false
theorem BySt.start (l : List UInt8) (w1 : World) (cap : Nat) : BySt w1.heap.size l (w1.alloc (.cells (bytesRow (ofL l) cap) 5 ((bytesRow (ofL l) cap).size, (bytesRow (ofL l) cap).size + 1))) := by
  refine ⟨fun j hj => ?_, fun j hj => ?_⟩
  · have hj' : j < (ofL l).data.size := by show j < l.toArray.size; simpa using hj
    rw [World.cell?_alloc_mark, bytesRow_at _ _ _ hj']
    congr 3
    rw [List.getD_eq_getElem?_getD, List.getElem?_eq_getElem hj]
    rfl
  · rw [World.frozen?_alloc_mark]
    have hj' : j < (ofL l).data.size := by show j < l.toArray.size; simpa using hj
    have : (ofL l).data.size ≤ (bytesRow (ofL l) cap).size := by simp [bytesRow]
    simp only [Bool.and_eq_false_imp, decide_eq_true_eq, decide_eq_false_iff_not]
    omega
theorem BySt.drew {B : Nat} {l : List UInt8} {w : World} (h : BySt B l w) : BySt B l w.drew := ⟨h.cells, h.free⟩
theorem BySt.put {B : Nat} {l : List UInt8} {w : World} (h : BySt B l w) {K : Nat} (hK : K < l.length) (z : UInt8) : BySt B (l.set K z) (w.setCell ⟨B, K, none⟩ (.int .u8 (z.toNat : Int))) := by
  refine ⟨fun j hj => ?_, fun j hj => ?_⟩
  · rw [List.length_set] at hj
    by_cases e : j = K
    · subst e
      rw [World.cell?_setCell_same _ _ _ (h.cells _ hj), List.getD_eq_getElem?_getD, List.getElem?_set_self hj]; rfl
    · rw [World.cell?_setCell_other _ _ _ _ (ne_off (fun h => e h.symm)), h.cells j hj, List.getD_eq_getElem?_getD, List.getD_eq_getElem?_getD, List.getElem?_set_ne (fun h => e h.symm)]
  · rw [World.frozen?_setCell]
    exact h.free j (by rw [List.length_set] at hj; exact hj)
theorem BySt.back {B : Nat} {l : List UInt8} {w : World} (h : BySt B l w) (n cap : Nat) (hn : n = l.length) : (convert 40 9 (.slice (some ⟨B, 0, none⟩) n cap)).run Tryd.prog w = .ok (.string (ofL l)) w := by
  subst hn
  exact run_convert_bytes_back (P := Tryd.prog) w 40 9 5 ⟨B, 0, none⟩ cap l Tryd.underlying40 Tryd.underlying5 Tryd.underlying9 (fun j hj => by
    have ea : (⟨B, 0, none⟩ : Addr).add j = ⟨B, j, none⟩ := by unfold Addr.add; split <;> simp_all
    rw [ea, h.cells j hj, List.getD_eq_getElem?_getD, List.getElem?_eq_getElem hj]
    rfl)
set_option maxRecDepth 100000 in
set_option maxHeartbeats 4000000 in
theorem turned_walk7 (c k t : UInt8) (b : List UInt8) (at' : Nat) (w : World) (hb : b.length ≤ 9223372036854775807) (hat : at' < 65536) (hT : Tab w) :
    Calls Tryd.prog 6 #[.agg #[.int .u8 (c.toNat : Int), .int .u8 (k.toNat : Int), .string (ofL b)], .int .u16 (at' : Int), .int .u8 (t.toNat : Int)] w fun e w' => e = .returned (.bool true) ∧ Below w.heap.size w w' := by
  have hz : (ofL b).size = b.length := ofL_size b
  have HT := Lib.hid (hT.alloc (.cells #[.int .u8 (c.toNat : Int), .int .u8 (k.toNat : Int), .string (ofL b)] 23))
  have HA := Lib.hid (frmAwake_any _ HT.out)
  have X0 := Lib.hid (Tri.new w (.int .u8 (c.toNat : Int)) (.int .u8 (k.toNat : Int)) (.string (ofL b)) 23)
  have hB0 : Below w.heap.size w (w.alloc (.cells #[.int .u8 (c.toNat : Int), .int .u8 (k.toNat : Int), .string (ofL b)] 23)) := (Below.refl _ _).alloc (Nat.le_refl _) _
  have B0 := Lib.hid hB0
  clear hT hB0
  by_cases hl : 300 < b.length
  · go_enter Tryd.func6, Tryd.ntmps6
    go_wp2_with fail
    refine HA.out.mono ?_
    rintro e w1 ⟨rfl, b1⟩
    have B1 := Lib.hid (bthen B0.out b1 (Nat.le_refl _))
    have c2 := (X0.out.on b1 X0.out.lt).c2
    clear b1
    go_wp2_with fail
    go_ret
    exact ⟨rfl, B1.out⟩
  by_cases ht : t = 0
  · have k0 : (((t.toNat : Nat) : Int) == 0) = true := by rw [ht]; rfl
    clear ht
    go_enter Tryd.func6, Tryd.ntmps6
    go_wp2_with fail
    refine HA.out.mono ?_
    rintro e w1 ⟨rfl, b1⟩
    have B1 := Lib.hid (bthen B0.out b1 (Nat.le_refl _))
    have c2 := (X0.out.on b1 X0.out.lt).c2
    clear b1
    go_wp2_with fail
    go_ret
    exact ⟨rfl, B1.out⟩
  have k0 : (((t.toNat : Nat) : Int) == 0) = false := by
    rw [beq_eq_false_iff_ne]
    intro h
    apply ht
    apply UInt8.toNat_inj.1
    show _ = 0
    omega
  have H1 := Lib.hid (fun W h => fbytes_any c k b W (by omega) h)
  have hv : bytesV c k b = .tuple #[.string (ofL (Fr.enc c k b)), .int .i64 0] := if_pos (by omega)
  rw [hv] at H1
  have hel := Fr.enc_length c k b
  have hez : (ofL (Fr.enc c k b)).size = b.length + 9 := by rw [ofL_size]; exact hel
  obtain ⟨K, hK, hKl⟩ : ∃ K : Nat, (at' : Int) % ((b.length : Int) + 9) = (K : Int) ∧ K < b.length + 9 := ⟨at' % (b.length + 9), by rw [Int.natCast_emod, Int.natCast_add]; rfl, Nat.mod_lt _ (by omega)⟩
  have hc9 := fun W : World => run_bytes_of_string (P := Tryd.prog) W 9 40 5 (ofL (Fr.enc c k b)) Tryd.underlying9 Tryd.underlying40 Tryd.underlying5
  have HTU := Lib.hid (fun z => Fr.turned (c := c) (k := k) (b := b) (j := K) (z := z) (by omega) (by omega))
  have HST := Lib.hid (fun W cap => BySt.start (Fr.enc c k b) W cap)
  by_cases h23 : K = 2 ∨ K = 3
  · have q2 : ((K : Int) == 2 || (K : Int) == 3) = true := by rcases h23 with h | h <;> subst h <;> rfl
    have hb2 : K < 4 := by omega
    generalize Fr.enc c k b = E at *
    generalize c.toNat = cn at *
    generalize k.toNat = kn at *
    clear hv hel ht
    rcases h23 with rfl | rfl
    all_goals
      clear q2
      go_enter Tryd.func6, Tryd.ntmps6
      go_wp2_with fail
      refine HA.out.mono ?_
      rintro e w1 ⟨rfl, b1⟩
      have B1 := Lib.hid (bthen B0.out b1 (Nat.le_refl _))
      have HT1 := Lib.hid (HT.out.below b1 HT.out.pos)
      have X1 := X0.out.on b1 X0.out.lt
      have c0 := X1.c0
      have c1 := X1.c1
      have c2 := X1.c2
      have HX1 := Lib.hid X1
      clear b1 X1
      go_wp2_with fail
      refine (H1.out _ HT1.out).mono ?_
      rintro e w2 ⟨rfl, b2⟩
      have B2 := Lib.hid (bthen B1.out b2 (Nat.le_refl _))
      clear b2 c0 c1 c2
      go_wp2_with fail
      go_ret
      exact ⟨rfl, by first | exact (B2.out.alloc B2.out.size _).drew | exact B2.out.alloc B2.out.size _⟩
  have n2 : ((K : Int) == 2) = false := by rw [beq_eq_false_iff_ne]; omega
  have n3 : ((K : Int) == 3) = false := by rw [beq_eq_false_iff_ne]; omega
  have hzx : (Fr.enc c k b).getD K 0 ^^^ t ≠ (Fr.enc c k b).getD K 0 := Fr.xor_self_ne ht
  have htu := HTU.out ((Fr.enc c k b).getD K 0 ^^^ t) (fun h => h23 (Or.inl h)) (fun h => h23 (Or.inr h)) hzx
  rw [hel] at htu
  have hlen : ((Fr.enc c k b).set K ((Fr.enc c k b).getD K 0 ^^^ t)).length = b.length + 9 := by rw [List.length_set, hel]
  have HPar := Lib.hid (fun W h => fparse_any ((Fr.enc c k b).set K ((Fr.enc c k b).getD K 0 ^^^ t)) W (by omega) h)
  have hx8 := ((Fr.enc c k b).getD K 0).toNat_lt
  have ht8 := t.toNat_lt
  have hxy : bits .xor .u8 ((((Fr.enc c k b).getD K 0).toNat : Nat) : Int) ((t.toNat : Nat) : Int) = (((((Fr.enc c k b).getD K 0) ^^^ t).toNat : Nat) : Int) := by rw [u8_xor_nat _ _ hx8 ht8, UInt8.toNat_xor]
  generalize hEx : (Fr.enc c k b).getD K 0 = x at *
  have HEx := Lib.hid hEx
  obtain ⟨hv3, hlast⟩ : (∃ cd : Nat, parseV ((Fr.enc c k b).set K (x ^^^ t)) = .tuple #[.agg #[.int .u8 0, .int .u8 0, .string ⟨#[]⟩], .int .i64 0, .int .i64 (cd : Int)] ∧ (cd = 14 ∨ (cd = 4 ∧ K + 1 = b.length + 9))) ∧ True := by
    refine ⟨?_, trivial⟩
    rcases htu with h | ⟨h, h2⟩
    · exact ⟨14, parseV_3 h (by decide), Or.inl rfl⟩
    · exact ⟨4, parseV_3 h (by decide), Or.inr ⟨rfl, h2⟩⟩
  obtain ⟨cd, hpv, hcd⟩ := hv3
  rw [hpv] at HPar
  have HLen := Lib.hid hlen
  have HCD := Lib.hid hcd
  clear hv htu hEx hpv hlast hzx ht h23 hlen hcd
  generalize hE : Fr.enc c k b = E at *
  clear hE
  generalize c.toNat = cn at *
  generalize k.toNat = kn at *
  generalize hZ : x ^^^ t = z at *
  clear hZ
  generalize hxn : x.toNat = xn at *
  have HXN := Lib.hid hxn
  clear hxn
  generalize t.toNat = tn at *
  go_enter Tryd.func6, Tryd.ntmps6
  go_wp2_with fail
  refine HA.out.mono ?_
  rintro e w1 ⟨rfl, b1⟩
  have B1 := Lib.hid (bthen B0.out b1 (Nat.le_refl _))
  have HT1 := Lib.hid (HT.out.below b1 HT.out.pos)
  have X1 := X0.out.on b1 X0.out.lt
  have c0 := X1.c0
  have c1 := X1.c1
  have c2 := X1.c2
  have HX1 := Lib.hid X1
  clear b1 X1
  go_wp2_with fail
  refine (H1.out _ HT1.out).mono ?_
  rintro e w2 ⟨rfl, b2⟩
  have B2 := Lib.hid (bthen B1.out b2 (Nat.le_refl _))
  have HT2 := Lib.hid (HT1.out.below b2 HT1.out.pos)
  clear b2 c0 c1 c2
  go_upto_region 12 with fail
  clear hc9
  generalize grownCap w2 (b.length + 9) 0 5 = cap at *
  have S3 := Lib.hid ((HST.out w2 cap).drew)
  have hb2 : Below w2.heap.size w2 (w2.alloc (.cells (bytesRow (ofL E) cap) 5 ((bytesRow (ofL E) cap).size, (bytesRow (ofL E) cap).size + 1))).drew := ((Below.refl _ _).alloc (Nat.le_refl _) _).drew
  generalize (w2.alloc (.cells (bytesRow (ofL E) cap) 5 ((bytesRow (ofL E) cap).size, (bytesRow (ofL E) cap).size + 1))).drew = w3 at *
  have HT3 := Lib.hid (HT2.out.below hb2 HT2.out.pos)
  have B3 := Lib.hid (bthen B2.out hb2 (Nat.le_refl _))
  have hB2 := B2.out.size
  clear hb2
  have p0 := S3.out.cells K (by omega)
  have p1 := S3.out.free K (by omega)
  rw [HEx.out, HXN.out] at p0
  have S4 := Lib.hid (S3.out.put (K := K) (by omega) z)
  have HT4 := Lib.hid (HT3.out.below (B := w2.heap.size) ((Below.refl _ _).setCell (p := ⟨w2.heap.size, K, none⟩) (Nat.le_refl _) (.int .u8 (z.toNat : Int))) HT2.out.pos)
  have B4 := Lib.hid (B3.out.setCell (p := ⟨w2.heap.size, K, none⟩) hB2 (.int .u8 (z.toNat : Int)))
  have hbk := S4.out.back (b.length + 9) cap HLen.out.symm
  go_wp2_with fail
  refine (HPar.out _ HT4.out).mono ?_
  rintro e w5 ⟨rfl, b5⟩
  have B5 := Lib.hid ((bthen B4.out b5 (Nat.le_refl _)).alloc (Nat.le_trans B4.out.size b5.size) (.cells #[.int .u8 0, .int .u8 0, .string ⟨#[]⟩] 23))
  clear b5 p0 p1 hbk
  rcases HCD.out with rfl | ⟨rfl, hk2⟩
  · go_wp2_with fail
    go_ret
    exact ⟨rfl, B5.out⟩
  · have q9 : ((K : Int) == (b.length : Int) + 9 - 1) = true := by rw [beq_iff_eq]; omega
    have q8 : ((K : Int) == (b.length : Int) + 8) = true := by rw [beq_iff_eq]; omega
    clear hk2
    go_wp2_with fail
    go_ret
    exact ⟨ret_bool (by first | rfl | (simp; omega)), B5.out⟩
end Go.Proofs.YtecgedbabcdfkaaDoor
