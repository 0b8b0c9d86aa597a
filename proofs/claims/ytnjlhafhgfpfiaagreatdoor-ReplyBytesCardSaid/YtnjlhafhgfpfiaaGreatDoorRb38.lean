/-
  THE FRAME THAT BYTES BEGIN WITH: the program's Parse, walked.
-/
import Derived.Test.YtnjlhafhgfpfiaaGreatDoorRb37
import Derived.StillTailTactics
section
namespace Go.Proofs.YtnjlhafhgfpfiaaGreatDoor
open Go.ChangeShapes Go.WideShapes Go.ChangeAt Go.RowKit
/-- three cells of a block of one's own -/
structure Tri (b : Nat) (x y z : Value) (w : World) : Prop where
  c0 : w.cell? ⟨b, 0, none⟩ = some x
  c1 : w.cell? ⟨b, 1, none⟩ = some y
  c2 : w.cell? ⟨b, 2, none⟩ = some z
  fz : ∀ j, w.frozen? ⟨b, j, none⟩ = false
theorem Tri.lt {b : Nat} {x y z : Value} {w : World} (h : Tri b x y z w) : b < w.heap.size := World.block_lt_of_cell? w _ h.c0
theorem Tri.new (w : World) (x y z : Value) (t : TypeId) : Tri w.heap.size x y z (w.alloc (.cells #[x, y, z] t)) :=
  ⟨cell_new _ _ _ _ _ rfl, cell_new _ _ _ _ _ rfl, cell_new _ _ _ _ _ rfl, fun _ => free_new _ _ _ _ _ rfl⟩
theorem Tri.far {b g : Nat} {x y z : Value} {w w' : World} (h : Tri b x y z w) (hg : w.grownBy w' (some g)) (hne : b ≠ g) : Tri b x y z w' := by
  have n : some b ≠ some g := by simpa using hne
  exact ⟨hg.cell h.c0 n, hg.cell h.c1 n, hg.cell h.c2 n, fun j => (World.frozen?_of_block (a := ⟨b, j, none⟩) (hg.block b h.lt n)).trans (h.fz j)⟩
theorem Tri.on {b B : Nat} {x y z : Value} {w w' : World} (h : Tri b x y z w) (hb : Below B w w') (hB : b < B) : Tri b x y z w' :=
  ⟨(hb.cell (p := ⟨b, 0, none⟩) hB).trans h.c0, (hb.cell (p := ⟨b, 1, none⟩) hB).trans h.c1, (hb.cell (p := ⟨b, 2, none⟩) hB).trans h.c2, fun j => (hb.frozen (p := ⟨b, j, none⟩) hB).trans (h.fz j)⟩
theorem ne_off {b i j : Nat} (h : i ≠ j) : (⟨b, i, none⟩ : Addr) ≠ ⟨b, j, none⟩ := by simp only [ne_eq, Addr.mk.injEq, not_and]; omega
theorem ne_blk {b c i j : Nat} (h : b ≠ c) : (⟨b, i, none⟩ : Addr) ≠ ⟨c, j, none⟩ := by simp only [ne_eq, Addr.mk.injEq, not_and]; omega
theorem Tri.set0 {b : Nat} {x y z : Value} {w : World} (h : Tri b x y z w) (v : Value) : Tri b v y z (w.setCell ⟨b, 0, none⟩ v) :=
  ⟨World.cell?_setCell_same _ _ _ h.c0, (World.cell?_setCell_other _ _ _ _ (ne_off (by decide))).trans h.c1, (World.cell?_setCell_other _ _ _ _ (ne_off (by decide))).trans h.c2, fun j => by rw [World.frozen?_setCell]; exact h.fz j⟩
theorem Tri.set1 {b : Nat} {x y z : Value} {w : World} (h : Tri b x y z w) (v : Value) : Tri b x v z (w.setCell ⟨b, 1, none⟩ v) :=
  ⟨(World.cell?_setCell_other _ _ _ _ (ne_off (by decide))).trans h.c0, World.cell?_setCell_same _ _ _ h.c1, (World.cell?_setCell_other _ _ _ _ (ne_off (by decide))).trans h.c2, fun j => by rw [World.frozen?_setCell]; exact h.fz j⟩
theorem Tri.set2 {b : Nat} {x y z : Value} {w : World} (h : Tri b x y z w) (v : Value) : Tri b x y v (w.setCell ⟨b, 2, none⟩ v) :=
  ⟨(World.cell?_setCell_other _ _ _ _ (ne_off (by decide))).trans h.c0, (World.cell?_setCell_other _ _ _ _ (ne_off (by decide))).trans h.c1, World.cell?_setCell_same _ _ _ h.c2, fun j => by rw [World.frozen?_setCell]; exact h.fz j⟩
theorem Tri.apart {b c i : Nat} {x y z : Value} {w : World} (h : Tri b x y z w) (hne : c ≠ b) (v : Value) : Tri b x y z (w.setCell ⟨c, i, none⟩ v) :=
  ⟨(World.cell?_setCell_other _ _ _ _ (ne_blk hne)).trans h.c0, (World.cell?_setCell_other _ _ _ _ (ne_blk hne)).trans h.c1, (World.cell?_setCell_other _ _ _ _ (ne_blk hne)).trans h.c2, fun j => by rw [World.frozen?_setCell]; exact h.fz j⟩
theorem InL.apart {b c i : Nat} {s : LSt} {w : World} (h : InL b s w) (hne : c ≠ b) (v : Value) : InL b s (w.setCell ⟨c, i, none⟩ v) :=
  ⟨(World.cell?_setCell_other _ _ _ _ (ne_blk hne)).trans h.c0, (World.cell?_setCell_other _ _ _ _ (ne_blk hne)).trans h.c1, fun j => by rw [World.frozen?_setCell]; exact h.fr j, by have := h.lt; simp [World.setCell]; exact this⟩
theorem InL.on {b B : Nat} {s : LSt} {w w' : World} (h : InL b s w) (hb : Below B w w') (hB : b < B) : InL b s w' :=
  ⟨(hb.cell (p := ⟨b, 0, none⟩) hB).trans h.c0, (hb.cell (p := ⟨b, 1, none⟩) hB).trans h.c1, fun j => (hb.frozen (p := ⟨b, j, none⟩) hB).trans (h.fr j), Nat.lt_of_lt_of_le h.lt hb.size⟩

/-- while a frame is read: what is answered lies behind the old blocks, then the reader, then the frame -/
structure PrS (w : World) (s : LSt) (x y z : Value) (wr : World) : Prop where
  inl : InL (w.heap.size + 1) s wr
  res : Tri w.heap.size (.int .u8 0) (.int .u8 0) (.string ⟨#[]⟩) wr
  frm : Tri (w.heap.size + 1 + 1) x y z wr
  below : Below w.heap.size w wr
theorem PrS.call {w : World} {s s' : LSt} {x y z : Value} {wr w' : World} (h : PrS w s x y z wr) (h1 : InL (w.heap.size + 1) s' w') (g : wr.grownBy w' (some (w.heap.size + 1))) : PrS w s' x y z w' :=
  ⟨h1, h.res.far g (by omega), h.frm.far g (by omega), below_in h.below g h.below.size (by omega)⟩
theorem PrS.on {w : World} {s : LSt} {x y z : Value} {wr w' : World} (h : PrS w s x y z wr) (hb : Below wr.heap.size wr w') : PrS w s x y z w' :=
  ⟨h.inl.on hb h.inl.lt, h.res.on hb h.res.lt, h.frm.on hb h.frm.lt, bthen h.below hb (Nat.le_refl _)⟩
theorem PrS.set0 {w : World} {s : LSt} {x y z : Value} {wr : World} (h : PrS w s x y z wr) (v : Value) : PrS w s v y z (wr.setCell ⟨w.heap.size + 1 + 1, 0, none⟩ v) :=
  ⟨h.inl.apart (by omega) v, h.res.apart (by omega) v, h.frm.set0 v, h.below.setCell (by simp; omega) v⟩
theorem PrS.set1 {w : World} {s : LSt} {x y z : Value} {wr : World} (h : PrS w s x y z wr) (v : Value) : PrS w s x v z (wr.setCell ⟨w.heap.size + 1 + 1, 1, none⟩ v) :=
  ⟨h.inl.apart (by omega) v, h.res.apart (by omega) v, h.frm.set1 v, h.below.setCell (by simp; omega) v⟩
theorem PrS.set2 {w : World} {s : LSt} {x y z : Value} {wr : World} (h : PrS w s x y z wr) (v : Value) : PrS w s x y v (wr.setCell ⟨w.heap.size + 1 + 1, 2, none⟩ v) :=
  ⟨h.inl.apart (by omega) v, h.res.apart (by omega) v, h.frm.set2 v, h.below.setCell (by simp; omega) v⟩
theorem PrS.start (w : World) (l : List UInt8) : PrS w (l, 0) (.int .u8 0) (.int .u8 0) (.string ⟨#[]⟩) (((w.alloc (.cells #[.int .u8 0, .int .u8 0, .string ⟨#[]⟩] 50)).alloc (.cells #[.string (ofL l), .int .i64 0] 103)).alloc (.cells #[.int .u8 0, .int .u8 0, .string ⟨#[]⟩] 50)) := by
  have t1 := Tri.new w (.int .u8 0) (.int .u8 0) (.string ⟨#[]⟩) 50
  have b1 : Below w.heap.size w (w.alloc (.cells #[.int .u8 0, .int .u8 0, .string ⟨#[]⟩] 50)) := (Below.refl _ _).alloc (Nat.le_refl _) _
  have e1 : (w.alloc (.cells #[.int .u8 0, .int .u8 0, .string ⟨#[]⟩] 50)).heap.size = w.heap.size + 1 := by simp
  generalize w.alloc (.cells #[.int .u8 0, .int .u8 0, .string ⟨#[]⟩] 50) = w1 at *
  have b2 : Below w1.heap.size w1 (w1.alloc (.cells #[.string (ofL l), .int .i64 0] 103)) := (Below.refl _ _).alloc (Nat.le_refl _) _
  have i2 : InL w1.heap.size (l, 0) (w1.alloc (.cells #[.string (ofL l), .int .i64 0] 103)) := ⟨cell_new _ _ _ _ _ rfl, cell_new _ _ _ _ _ rfl, fun j => free_new _ _ _ _ _ rfl, by simp⟩
  have e2 : (w1.alloc (.cells #[.string (ofL l), .int .i64 0] 103)).heap.size = w.heap.size + 1 + 1 := by simp [e1]
  generalize w1.alloc (.cells #[.string (ofL l), .int .i64 0] 103) = w2 at *
  have t3 := Tri.new w2 (.int .u8 0) (.int .u8 0) (.string ⟨#[]⟩) 50
  have b3 : Below w2.heap.size w2 (w2.alloc (.cells #[.int .u8 0, .int .u8 0, .string ⟨#[]⟩] 50)) := (Below.refl _ _).alloc (Nat.le_refl _) _
  rw [e2] at t3
  rw [e1] at i2
  exact ⟨i2.on b3 (by omega), (t1.on b2 (by omega)).on b3 (by omega), t3, bthen (bthen b1 b2 (Nat.le_refl _)) b3 (Nat.le_refl _)⟩
/-- what frame.Parse answers -/
def frmV (l : List UInt8) : Value := .agg #[.int .u8 ((l.getD 0 0).toNat : Int), .int .u8 ((l.getD 1 0).toNat : Int), .string (ofL (Fr.body l))]
def noFrm : Value := .agg #[.int .u8 0, .int .u8 0, .string ⟨#[]⟩]
def parseV (l : List UInt8) : Value := if Fr.code l = 0 then .tuple #[frmV l, .int .i64 ((Fr.len l + 9 : Nat) : Int), .int .i64 0] else .tuple #[noFrm, .int .i64 0, .int .i64 (Fr.code l : Int)]
theorem code_of {l : List UInt8} (h : RdOk l) : Fr.code l = if l.getD (Fr.len l + 8) 0 ≠ 206 then 4 else if Oct.val ((l.drop (Fr.len l + 4)).take 4) ≠ Crc.sum (l.take (Fr.len l + 4)) then 14 else 0 := by
  have h1 := h.lo
  have h2 := h.hi
  conv => lhs; unfold Fr.code
  rw [if_neg (by omega), if_neg (by omega), if_neg (by omega)]
set_option maxRecDepth 100000 in
set_option maxHeartbeats 8000000 in
theorem fparse_any (l : List UInt8) (w : World) (hl : l.length ≤ 100000) (hT : Tab w) :
    Calls Tryz.prog 30 #[.string (ofL l)] w fun e w' => e = .returned (parseV l) ∧ Below w.heap.size w w' := by
  have hz : (ofL l).size = l.length := ofL_size l
  have HS := Lib.hid (PrS.start w l)
  have HT := Lib.hid hT
  clear hT
  have C1 := Lib.hid (fun W h => inum_l (w.heap.size + 1) (l, 0) 1 1 W (by omega) rfl h (lOk_new l))
  have C2 := Lib.hid (fun W h => inum_l (w.heap.size + 1) (rS1 l) 1 1 W (by omega) rfl h (ok1 l))
  have C3 := Lib.hid (fun W h => itext_l (w.heap.size + 1) (rS2 l) 2048 W h (ok2 l))
  have C4 := Lib.hid (fun W h => ileft_l (w.heap.size + 1) (rS3 l) W h)
  have C5 := Lib.hid (fun W h => inum_l (w.heap.size + 1) (rS3 l) 4 4 W (by omega) rfl h (ok3 l))
  have C6 := Lib.hid (fun W h => inum_l (w.heap.size + 1) (rS4 l) 1 1 W (by omega) rfl h (ok4 l))
  have C7 := Lib.hid (fun W h => ierr_l (w.heap.size + 1) (rS5 l) W h)
  have C8 := Lib.hid (fun W h => ileft_l (w.heap.size + 1) (rS5 l) W h)
  have e1 : lRaw (l, 0) 1 = rS1 l := rfl
  have e2 : lRaw (rS1 l) 1 = rS2 l := rfl
  have e3 : lText (rS2 l) 2048 = rS3 l := rfl
  have e4 : lRaw (rS3 l) 4 = rS4 l := rfl
  have e5 : lRaw (rS4 l) 1 = rS5 l := rfl
  rw [e1] at C1
  rw [e2] at C2
  rw [e3] at C3
  rw [e4] at C5
  rw [e5] at C6
  clear e1 e2 e3 e4 e5
  have hle3 : (rS3 l).1.length ≤ l.length := Nat.le_trans (lText_le _ _) (Nat.le_trans (lRaw_le _ _) (lRaw_le _ _))
  have hle5 : (rS5 l).1.length ≤ l.length := Nat.le_trans (lRaw_le _ _) (Nat.le_trans (lRaw_le _ _) hle3)
  have hERR := Lib.hid (show Fr.code l = 3 ∨ Fr.code l = 5 → (rS5 l).2 = (Fr.code l : Int) from rS_err)
  have hOK := Lib.hid (show Fr.code l ≠ 3 → Fr.code l ≠ 5 → RdOk l from rS_ok)
  have b1 := val_out_lt l 1
  have b2 := val_out_lt (rS1 l).1 1
  have b5 := val_out_lt (rS3 l).1 4
  have b6 := val_out_lt (rS4 l).1 1
  generalize hn1 : Oct.val (lOut l 1) = n1 at *
  generalize hn2 : Oct.val (lOut (rS1 l).1 1) = n2 at *
  generalize hn5 : Oct.val (lOut (rS3 l).1 4) = n5 at *
  generalize hn6 : Oct.val (lOut (rS4 l).1 1) = n6 at *
  generalize hbd : lTextOut (rS2 l) 2048 = bd at *
  have hsl := fun W => slice_to_l (P := Tryz.prog) Tryz.underlying9 l .i64 ((l.length : Int) - ((rS3 l).1.length : Int)) (l.length - (rS3 l).1.length) (by omega) (by omega) W
  have N1 := Lib.hid hn1
  have N2 := Lib.hid hn2
  have N5 := Lib.hid hn5
  have N6 := Lib.hid hn6
  have ND := Lib.hid hbd
  clear hn1 hn2 hn5 hn6 hbd
  generalize hA : l.take (l.length - (rS3 l).1.length) = ah at *
  have HA := Lib.hid hA
  clear hA
  have p1 : n1 < 256 := b1
  have p2 : n2 < 256 := b2
  clear b1 b2 b5 b6
  go_enter Tryz.func30, Tryz.ntmps30
  go_wp2_with fail
  refine (new_any _ _).mono ?_
  rintro x w' ⟨rfl, rfl⟩
  go_wp2_with fail
  refine (C1.out _ HS.out.inl).mono ?_
  rintro x w1 ⟨rfl, h1, g1⟩
  have HS1 := Lib.hid (HS.out.call h1 g1)
  clear h1 g1
  have q0 := HS1.out.frm.c0
  have f0 := HS1.out.frm.fz 0
  go_wp2_with fail
  have HS2 := Lib.hid (HS1.out.set0 (.int .u8 (n1 : Int)))
  clear q0 f0
  refine (C2.out _ HS2.out.inl).mono ?_
  rintro x w2 ⟨rfl, h1, g1⟩
  have HS3 := Lib.hid (HS2.out.call h1 g1)
  clear h1 g1
  have q0 := HS3.out.frm.c1
  have f0 := HS3.out.frm.fz 1
  go_wp2_with fail
  have HS4 := Lib.hid (HS3.out.set1 (.int .u8 (n2 : Int)))
  clear q0 f0
  refine (C3.out _ HS4.out.inl).mono ?_
  rintro x w3 ⟨rfl, h1, g1⟩
  have HS5 := Lib.hid (HS4.out.call h1 g1)
  clear h1 g1
  have q0 := HS5.out.frm.c2
  have f0 := HS5.out.frm.fz 2
  go_wp2_with fail
  have HS6 := Lib.hid (HS5.out.set2 (.string (ofL bd)))
  clear q0 f0
  refine (C4.out _ HS6.out.inl).mono ?_
  rintro x w4 ⟨rfl, rfl⟩
  go_wp2_with fail
  refine (C5.out _ HS6.out.inl).mono ?_
  rintro x w5 ⟨rfl, h1, g1⟩
  have HS7 := Lib.hid (HS6.out.call h1 g1)
  clear h1 g1
  go_wp2_with fail
  refine (C6.out _ HS7.out.inl).mono ?_
  rintro x w6 ⟨rfl, h1, g1⟩
  have HS8 := Lib.hid (HS7.out.call h1 g1)
  clear h1 g1 hsl
  go_wp2_with fail
  refine (C7.out _ HS8.out.inl).mono ?_
  rintro x w7 ⟨rfl, rfl⟩
  have r0 := HS8.out.res.c0
  have r1 := HS8.out.res.c1
  have r2 := HS8.out.res.c2
  have rf0 := HS8.out.res.fz 0
  have rf1 := HS8.out.res.fz 1
  have rf2 := HS8.out.res.fz 2
  have hB := HS8.out.below
  have HB := Lib.hid hB
  clear hB
  by_cases hE : Fr.code l = 3 ∨ Fr.code l = 5
  · have hv : parseV l = .tuple #[noFrm, .int .i64 0, .int .i64 (Fr.code l : Int)] := if_neg (by omega)
    have he := hERR.out hE
    have k0 : ((rS5 l).2 != 0) = true := by rw [he, bne_iff_ne]; omega
    have HV := Lib.hid hv
    have HE := Lib.hid he
    clear hv he hE
    go_wp2_with fail
    refine (C7.out _ HS8.out.inl).mono ?_
    rintro x w7 ⟨rfl, rfl⟩
    go_wp2_with fail
    refine bodyPost_ret (v := .tuple #[.agg #[.int .u8 0, .int .u8 0, .string ⟨#[]⟩], .int .i64 0, .int .i64 (rS5 l).2]) (by simp [results, Tryz.results30, go_sem, r0, r1, r2]) rfl ⟨by rw [HV.out, HE.out]; rfl, ?_⟩
    first
      | exact HB.out
      | exact ((HB.out.setCell (by simp) _).setCell (by simp) _).setCell (by simp) _
  · have hR := hOK.out (by omega) (by omega)
    have hc := code_of hR
    have he : (rS5 l).2 = 0 := hR.e5
    have k0 : ((rS5 l).2 != 0) = false := by rw [he]; rfl
    have HR := Lib.hid hR
    have HE := Lib.hid he
    have en : n6 = (l.getD (Fr.len l + 8) 0).toNat := by rw [← N6.out]; exact hR.en
    clear he hE
    by_cases h206 : l.getD (Fr.len l + 8) 0 ≠ 206
    · rw [if_pos h206] at hc
      have hv : parseV l = .tuple #[noFrm, .int .i64 0, .int .i64 (Fr.code l : Int)] := if_neg (by omega)
      rw [hc] at hv
      have k1 : ((n6 : Int) != 206) = true := by
        rw [bne_iff_ne]
        intro h
        apply h206
        apply UInt8.toNat_inj.1
        show _ = 206
        omega
      have HV := Lib.hid hv
      clear hv hc h206 en hR
      go_wp2_with fail
      refine bodyPost_ret (v := .tuple #[.agg #[.int .u8 0, .int .u8 0, .string ⟨#[]⟩], .int .i64 0, .int .i64 4]) (by simp [results, Tryz.results30, go_sem, r0, r1, r2]) rfl ⟨by rw [HV.out]; rfl, ?_⟩
      exact ((HB.out.setCell (by simp) _).setCell (by simp) _).setCell (by simp) _
    · rw [if_neg h206] at hc
      have k1 : ((n6 : Int) != 206) = false := by
        have h2 : l.getD (Fr.len l + 8) 0 = 206 := by
          rcases Decidable.em (l.getD (Fr.len l + 8) 0 = 206) with h | h
          · exact h
          · exact absurd h h206
        have h3 : n6 = 206 := by rw [en, h2]; rfl
        rw [h3]; rfl
      have ha : ah = l.take (Fr.len l + 4) := by
        have h1 := hR.lo
        have h2 := hR.l3
        have h3 : l.length - (rS3 l).1.length = Fr.len l + 4 := by omega
        rw [← HA.out, h3]
      have hn5 : n5 = Oct.val ((l.drop (Fr.len l + 4)).take 4) := by rw [← N5.out]; exact hR.sm
      have hal : ah.length ≤ 100000 := by rw [ha, List.length_take]; omega
      have CS := Lib.hid (fun W g => sum_l ah g 1 W hal)
      have hS := Crc.sum_lt ah
      rw [← ha, ← hn5] at hc
      clear ha hn5 hal h206 en
      generalize Crc.sum ah = S at *
      have hw : IntKind.u64.wrap (S : Int) = (S : Int) := by rw [IntKind.wrap_u64]; omega
      have HT8 := Lib.hid (HT.out.below HB.out HT.out.pos)
      by_cases hs : n5 ≠ S
      · rw [if_pos hs] at hc
        have hv : parseV l = .tuple #[noFrm, .int .i64 0, .int .i64 (Fr.code l : Int)] := if_neg (by omega)
        rw [hc] at hv
        have k2 : ((n5 : Int) != (S : Int)) = true := by rw [bne_iff_ne]; omega
        have HV := Lib.hid hv
        clear hv hc hs hR
        go_wp2_with fail
        refine (CS.out _ _ (HT8.out.alloc _) (by simp)).mono ?_
        rintro x w7 ⟨rfl, rfl⟩
        have HSa := Lib.hid (HS8.out.on ((Below.refl _ _).alloc (Nat.le_refl _) (.cells #[.string (ofL ah)] 9)))
        clear r0 r1 r2 rf0 rf1 rf2
        have r0 := HSa.out.res.c0
        have r1 := HSa.out.res.c1
        have r2 := HSa.out.res.c2
        have rf0 := HSa.out.res.fz 0
        have rf1 := HSa.out.res.fz 1
        have rf2 := HSa.out.res.fz 2
        generalize w6.alloc (.cells #[.string (ofL ah)] 9) = w7 at *
        go_wp2_with fail
        refine bodyPost_ret (v := .tuple #[.agg #[.int .u8 0, .int .u8 0, .string ⟨#[]⟩], .int .i64 0, .int .i64 14]) (by simp [results, Tryz.results30, go_sem, r0, r1, r2]) rfl ⟨by rw [HV.out]; rfl, ?_⟩
        exact ((HSa.out.below.setCell (by simp) _).setCell (by simp) _).setCell (by simp) _
      · rw [if_neg hs] at hc
        have hv : parseV l = .tuple #[frmV l, .int .i64 ((Fr.len l + 9 : Nat) : Int), .int .i64 0] := if_pos hc
        have k2 : ((n5 : Int) != (S : Int)) = false := by
          have : n5 = S := by simpa using hs
          rw [this]; simp
        have HV := Lib.hid hv
        have w1' : frmV l = .agg #[.int .u8 (n1 : Int), .int .u8 (n2 : Int), .string (ofL bd)] := by
          have u1 := hR.v1
          have u2 := hR.v2
          have u3 := hR.bd
          rw [N1.out] at u1
          rw [N2.out] at u2
          rw [ND.out] at u3
          unfold frmV
          rw [u1, u2, u3]
        have hx5 : (l.length : Int) - ((rS5 l).1.length : Int) = ((Fr.len l + 9 : Nat) : Int) := by
          have := hR.lo
          have := hR.l5
          omega
        have HW := Lib.hid w1'
        have HX := Lib.hid hx5
        clear hv hc hs hR w1' hx5
        go_wp2_with fail
        refine (CS.out _ _ (HT8.out.alloc _) (by simp)).mono ?_
        rintro x w7 ⟨rfl, rfl⟩
        have HSa := Lib.hid (HS8.out.on ((Below.refl _ _).alloc (Nat.le_refl _) (.cells #[.string (ofL ah)] 9)))
        clear r0 r1 r2 rf0 rf1 rf2
        have r0 := HSa.out.res.c0
        have r1 := HSa.out.res.c1
        have r2 := HSa.out.res.c2
        have rf0 := HSa.out.res.fz 0
        have rf1 := HSa.out.res.fz 1
        have rf2 := HSa.out.res.fz 2
        generalize w6.alloc (.cells #[.string (ofL ah)] 9) = w7 at *
        have q0 := HSa.out.frm.c0
        have q1 := HSa.out.frm.c1
        have q2 := HSa.out.frm.c2
        go_wp2_with fail
        have hI : ∀ W : World, (∀ p, W.cell? p = w7.cell? p) → (∀ p, W.frozen? p = w7.frozen? p) → W.heap.size = w7.heap.size → InL (w.heap.size + 1) (rS5 l) W := fun W h1 h2 h3 =>
          ⟨(h1 _).trans HSa.out.inl.c0, (h1 _).trans HSa.out.inl.c1, fun j => (h2 _).trans (HSa.out.inl.fr j), by rw [h3]; exact HSa.out.inl.lt⟩
        have HI := Lib.hid hI
        have kz : IntKind.i64.wrap ((l.length : Int) - ((rS5 l).1.length : Int)) = (l.length : Int) - ((rS5 l).1.length : Int) := by rw [IntKind.wrap_i64]; omega
        clear hI
        go_region_with (first | (go_at_call 54; refine (C8.out _ (HI.out _ (fun _ => by simp) (fun _ => by simp) (by simp))).mono ?_; rintro x w8 ⟨rfl, rfl⟩))
        all_goals
          go_wp2_with fail
          refine bodyPost_ret (v := .tuple #[.agg #[.int .u8 (n1 : Int), .int .u8 (n2 : Int), .string (ofL bd)], .int .i64 ((l.length : Int) - ((rS5 l).1.length : Int)), .int .i64 0]) (by simp [results, Tryz.results30, go_sem, r0, r1, r2]) rfl ⟨by rw [HV.out, HW.out, HX.out], ?_⟩
          exact (((HSa.out.below.setCell (by simp) _).setCell (by simp) _).setCell (by simp) _).drew
end Go.Proofs.YtnjlhafhgfpfiaaGreatDoor
end
