/-
  A FRAME's BYTES, walked.
-/
import Derived.Test.YtnamkglflhkckaaDoorRr04
import Derived.Test.YtnamkglflhkckaaDoorRr42
import Derived.Deep.RegionHeld3
import Derived.Deep.DeepCutAuto
section
namespace Go.Proofs.YtnamkglflhkckaaDoor
open Go.ChangeShapes Go.WideShapes Go.ChangeAt Go.RowKit
theorem sum_l (x : List UInt8) (b c : Nat) (w : World) (hx : x.length ≤ 100000) (hT : Tab w) (h0 : w.cell? ⟨b, 0, none⟩ = some (.string (ofL x))) :
    Calls Tryd.prog 99 #[.slice (some ⟨b, 0, none⟩) 1 c] w fun e w' => e = .returned (.int .u32 ((Crc.sum x : Nat) : Int)) ∧ w = w' := sum_one (ofL x) b c w (by rw [ofL_size]; exact hx) hT h0
/-- an Out lies in a block of its own -/
structure OutAt (x : List UInt8) (w : World) (g : Nat) (wx : World) : Prop where
  c0 : wx.cell? ⟨g, 0, none⟩ = some (.string (ofL x))
  c1 : wx.cell? ⟨g, 1, none⟩ = some (.int .i64 0)
  lt : g < wx.heap.size
  ge : w.heap.size ≤ g
  below : Below w.heap.size w wx
def OutIs (x : List UInt8) (w : World) (s : Value) (wx : World) : Prop := ∃ g, s = .pointer (some ⟨g, 0, none⟩) ∧ OutAt x w g wx
theorem OutAt.on {x : List UInt8} {w wx wy : World} {g : Nat} (h : OutAt x w g wx) (hb : Below wx.heap.size wx wy) : OutAt x w g wy :=
  ⟨(hb.cell (p := ⟨g, 0, none⟩) h.lt).trans h.c0, (hb.cell (p := ⟨g, 1, none⟩) h.lt).trans h.c1, Nat.lt_of_lt_of_le h.lt hb.size, h.ge, Below.trans h.below (hb.mono h.below.size)⟩
/-- a frame lies in a block of its own, and nothing that was there has changed -/
structure FrmAt (cn kn : Int) (b : List UInt8) (w a : World) : Prop where
  c0 : a.cell? ⟨w.heap.size, 0, none⟩ = some (.int .u8 cn)
  c1 : a.cell? ⟨w.heap.size, 1, none⟩ = some (.int .u8 kn)
  c2 : a.cell? ⟨w.heap.size, 2, none⟩ = some (.string (ofL b))
  lt : w.heap.size < a.heap.size
  below : Below w.heap.size w a
theorem FrmAt.on {cn kn : Int} {b : List UInt8} {w a a' : World} (h : FrmAt cn kn b w a) (hb : Below a.heap.size a a') : FrmAt cn kn b w a' :=
  ⟨(hb.cell (p := ⟨w.heap.size, 0, none⟩) h.lt).trans h.c0, (hb.cell (p := ⟨w.heap.size, 1, none⟩) h.lt).trans h.c1, (hb.cell (p := ⟨w.heap.size, 2, none⟩) h.lt).trans h.c2, Nat.lt_of_lt_of_le h.lt hb.size, Below.trans h.below (hb.mono h.below.size)⟩
theorem FrmAt.start (cn kn : Int) (b : List UInt8) (w : World) (t : TypeId) : FrmAt cn kn b w (w.alloc (.cells #[.int .u8 cn, .int .u8 kn, .string (ofL b)] t)) :=
  ⟨cell_new _ _ _ _ _ rfl, cell_new _ _ _ _ _ rfl, cell_new _ _ _ _ _ rfl, by simp, (Below.refl _ _).alloc (Nat.le_refl _) _⟩
abbrev FrmS (cn kn : Int) (b : List UInt8) (w a : World) : Prop :=
  a.cell? ⟨w.heap.size, 0, none⟩ = some (.int .u8 cn) ∧ a.cell? ⟨w.heap.size, 1, none⟩ = some (.int .u8 kn) ∧ a.cell? ⟨w.heap.size, 2, none⟩ = some (.string (ofL b)) ∧ FrmAt cn kn b w a
theorem FrmAt.six {cn kn : Int} {b : List UInt8} {w a : World} (h : FrmAt cn kn b w a) : FrmS cn kn b w a := ⟨h.c0, h.c1, h.c2, h⟩
theorem FrmS.on {cn kn : Int} {b : List UInt8} {w a a' : World} (h : FrmS cn kn b w a) (hb : Below a.heap.size a a') : FrmS cn kn b w a' := (h.2.2.2.on hb).six
theorem FrmS.put {cn kn : Int} {b : List UInt8} {w a : World} (h : FrmS cn kn b w a) {g : Nat} (hg : w.heap.size < g) (i : Nat) (v : Value) : FrmS cn kn b w (a.setCell ⟨g, i, none⟩ v) := by
  have hne : ∀ j, (⟨g, i, none⟩ : Addr) ≠ ⟨w.heap.size, j, none⟩ := fun j => by simp only [ne_eq, Addr.mk.injEq, not_and]; omega
  have f := h.2.2.2
  exact FrmAt.six ⟨(World.cell?_setCell_other _ _ _ _ (hne 0)).trans f.c0, (World.cell?_setCell_other _ _ _ _ (hne 1)).trans f.c1, (World.cell?_setCell_other _ _ _ _ (hne 2)).trans f.c2, by simp [World.setCell]; exact f.lt, f.below.setCell (by simp; omega) _⟩
theorem FrmS.re {cn kn : Int} {b : List UInt8} {w W : World} {o : Obj} (h : FrmS cn kn b w (W.alloc o)) (hW : w.heap.size < W.heap.size) (o' : Obj) : FrmS cn kn b w (W.alloc o') := by
  have f := h.2.2.2
  have b0 : Below W.heap.size W (W.alloc o) := (Below.refl _ _).alloc (Nat.le_refl _) _
  have b1 : Below W.heap.size W (W.alloc o') := (Below.refl _ _).alloc (Nat.le_refl _) _
  have e : ∀ j, (W.alloc o').cell? ⟨w.heap.size, j, none⟩ = (W.alloc o).cell? ⟨w.heap.size, j, none⟩ := fun j => (b1.cell (p := ⟨w.heap.size, j, none⟩) hW).trans (b0.cell (p := ⟨w.heap.size, j, none⟩) hW).symm
  refine FrmAt.six ⟨(e 0).trans f.c0, (e 1).trans f.c1, (e 2).trans f.c2, by simp; omega, ⟨f.below.os, f.below.tape, f.below.output, by simp; omega, fun i hi => ?_⟩⟩
  rw [b1.block i (by omega), ← b0.block i (by omega)]
  exact f.below.block i hi
theorem bcell {W w1 : World} (hb : Below W.heap.size W w1) : (∀ b o, b < W.heap.size → w1.cell? ⟨b, o, none⟩ = W.cell? ⟨b, o, none⟩) ∧ (∀ b o, b < W.heap.size → w1.frozen? ⟨b, o, none⟩ = W.frozen? ⟨b, o, none⟩) :=
  ⟨fun b o h => hb.cell (p := ⟨b, o, none⟩) h, fun b o h => hb.frozen (p := ⟨b, o, none⟩) h⟩
theorem be1 (c : UInt8) : Oct.be 1 c.toNat = [c] := by
  have h := c.toNat_lt
  show [UInt8.ofNat (c.toNat % 256)] = [c]
  rw [Nat.mod_eq_of_lt h, UInt8.ofNat_toNat]
/-- what frame.Bytes answers -/
def bytesV (c k : UInt8) (b : List UInt8) : Value := if b.length ≤ 2048 then .tuple #[.string (ofL (Fr.enc c k b)), .int .i64 0] else .tuple #[.string ⟨#[]⟩, .int .i64 5]
set_option maxRecDepth 100000 in
set_option maxHeartbeats 4000000 in
theorem fbytes_any (c k : UInt8) (b : List UInt8) (w : World) (hb : b.length ≤ 100000) (hT : Tab w) :
    Calls Tryd.prog 88 #[.agg #[.int .u8 (c.toNat : Int), .int .u8 (k.toNat : Int), .string (ofL b)]] w fun e w' => e = .returned (bytesV c k b) ∧ Below w.heap.size w w' := by
  have hz : (ofL b).size = b.length := ofL_size b
  by_cases h : b.length ≤ 2048
  · have HV := Lib.hid (show bytesV c k b = .tuple #[.string (ofL (Fr.enc c k b)), .int .i64 0] from if_pos h)
    have hc := c.toNat_lt
    have hk := k.toNat_lt
    have H1 := Lib.hid (fun W => num_l [] c.toNat 1 1 W (by omega) (by omega) rfl (by simp))
    rw [be1, show ofL [] = ⟨#[]⟩ from rfl] at H1
    have H2 := Lib.hid (fun W => num_l ([] ++ [c]) k.toNat 1 1 W (by omega) (by omega) rfl (by simp))
    rw [be1] at H2
    have H3 := Lib.hid (fun W => text_l ([] ++ [c] ++ [k]) b W (by simp) (by omega))
    have ea : [] ++ [c] ++ [k] ++ (Oct.be 2 b.length ++ b) = Fr.ahead c k b := rfl
    rw [ea] at H3
    have hal : (Fr.ahead c k b).length = b.length + 4 := by rw [Fr.ahead_eq]; simp
    have H4 := Lib.hid (fun W => str_any (ofL (Fr.ahead c k b)) 0 W)
    have H5 := Lib.hid (fun W g => sum_l (Fr.ahead c k b) g 1 W (by omega))
    have hs := Crc.sum_lt (Fr.ahead c k b)
    have H6 := Lib.hid (fun W => num_l (Fr.ahead c k b) (Crc.sum (Fr.ahead c k b)) 4 4 W (by omega) (by omega) rfl (by omega))
    have H7 := Lib.hid (fun W => num_l (Fr.ahead c k b ++ Oct.be 4 (Crc.sum (Fr.ahead c k b))) 206 1 1 W (by omega) (by omega) rfl (by rw [List.length_append, Oct.length_be]; omega))
    have ee : Fr.ahead c k b ++ Oct.be 4 (Crc.sum (Fr.ahead c k b)) ++ Oct.be 1 206 = Fr.enc c k b := by unfold Fr.enc; rw [List.append_assoc]; rfl
    rw [ee] at H7
    clear ea hal ee
    generalize Fr.ahead c k b ++ Oct.be 4 (Crc.sum (Fr.ahead c k b)) = A2 at *
    generalize Crc.sum (Fr.ahead c k b) = S at *
    generalize Fr.ahead c k b = A1 at *
    generalize Fr.enc c k b = E at *
    generalize [] ++ [c] ++ [k] = L2 at *
    generalize [] ++ [c] = L1 at *
    generalize c.toNat = cn at *
    generalize k.toNat = kn at *
    have HT := Lib.hid hT
    clear hT
    go_enter Tryd.func88, Tryd.ntmps88
    have HF := Lib.hid (FrmAt.start (cn : Int) (kn : Int) b w 23)
    go_upto_region 3 with fail
    go_cut [4] (fun s4 wx => OutIs A1 w s4 wx)
    case first =>
      have hw1 : IntKind.u64.wrap (cn : Int) = (cn : Int) := by rw [IntKind.wrap_u64]; omega
      have hw2 : IntKind.u64.wrap (kn : Int) = (kn : Int) := by rw [IntKind.wrap_u64]; omega
      go_region_held3 (fun a => a.cell? ⟨w.heap.size, 0, none⟩ = some (.int .u8 (cn : Int)) ∧ a.cell? ⟨w.heap.size, 1, none⟩ = some (.int .u8 (kn : Int)) ∧ a.cell? ⟨w.heap.size, 2, none⟩ = some (.string (ofL b)) ∧ FrmAt (cn : Int) (kn : Int) b w a)
        (first
          | exact (HF.out.on (Below.refl _ _).drew).six
          | exact FrmS.on (by assumption) hb2
          | exact FrmS.on (by assumption) ((Below.refl _ _).alloc (Nat.le_refl _) _)
          | (refine @FrmS.re _ _ _ _ _ ?o1 ?h1 ?w1 _; (case h1 => assumption); (case w1 => first | (simp; done) | omega | (simp; omega)))
          | (refine FrmS.put (FrmS.put ?h1 ?w1 _ _) ?w2 _ _; (case h1 => assumption); (case w1 => first | (simp; done) | omega | (simp; omega)); (case w2 => first | (simp; done) | omega | (simp; omega))))
        ((first
          | (go_at_call 53; ((with_reducible refine (H1.out _).mono ?_); rintro e' wa ⟨rfl, hb2⟩); obtain ⟨kc, kf⟩ := bcell hb2; have z1 := hb2.size; (try simp at z1); (try have y1 := Nat.lt_of_succ_le z1))
          | (go_at_call 53; ((with_reducible refine (H2.out _).mono ?_); rintro e' wb ⟨rfl, hb2⟩); obtain ⟨kc, kf⟩ := bcell hb2; have z2 := hb2.size; (try simp at z2); (try have y2 := Nat.lt_of_succ_le z2); (try have x2 : w.heap.size + 1 < wb.heap.size := by omega))
          | (go_at_call 54; ((with_reducible refine (H3.out _).mono ?_); rintro e' wc ⟨rfl, hb2⟩); obtain ⟨kc, kf⟩ := bcell hb2; have z3 := hb2.size; (try simp at z3); (try have y3 := Nat.lt_of_succ_le z3); (try have x3 : w.heap.size + 1 < wc.heap.size := by omega); (try have u3 : wa.heap.size < wc.heap.size := by omega))))
      all_goals
        rename_i hlast
        have hbl := hlast.2.2.2.below
        go_wp2_with fail
        go_meet
        exact ⟨_, rfl, ⟨by go_simp, by go_simp, by first | (simp; done) | (simp; omega), by first | (simp; done) | (simp; omega) | omega, hbl⟩⟩
    case rest =>
      obtain ⟨g, rfl, hO⟩ := hcut
      have c0 := hO.c0
      have c1 := hO.c1
      have HO := Lib.hid hO
      clear hO
      go_wp2_with fail
      refine (H4.out _).mono ?_
      rintro x w1 ⟨rfl, b1⟩
      have HO1 := Lib.hid (HO.out.on b1)
      have HT1 := Lib.hid (HT.out.below HO1.out.below HT.out.pos)
      clear b1 c0 c1
      go_wp2_with fail
      refine (H5.out _ _ (HT1.out.alloc _) (by simp)).mono ?_
      rintro x w2 ⟨rfl, rfl⟩
      have HO2 := Lib.hid (HO1.out.on ((Below.refl _ _).alloc (Nat.le_refl _) (.cells #[.string (ofL A1)] 9)))
      have c0 := HO2.out.c0
      have c1 := HO2.out.c1
      go_wp2_with fail
      refine (H6.out _).mono ?_
      rintro x w3 ⟨rfl, b3⟩
      have B3 := Lib.hid (bthen HO2.out.below b3 (Nat.le_refl _))
      clear b3 c0 c1
      go_wp2_with fail
      refine (H7.out _).mono ?_
      rintro x w4 ⟨rfl, b4⟩
      have B4 := Lib.hid (bthen B3.out b4 (Nat.le_refl _))
      clear b4
      have H8 := Lib.hid (fun W => str_any (ofL E) 0 W)
      go_wp2_with fail
      refine (H8.out _).mono ?_
      rintro x w5 ⟨rfl, b5⟩
      have B5 := Lib.hid (bthen B4.out b5 (Nat.le_refl _))
      clear b5
      go_wp2_with fail
      go_ret2
      exact ⟨by rw [HV.out]; rfl, B5.out⟩
  · have HV := Lib.hid (show bytesV c k b = .tuple #[.string ⟨#[]⟩, .int .i64 5] from if_neg h)
    go_enter Tryd.func88, Tryd.ntmps88
    go_wp2_with fail
    go_ret2
    exact ⟨by rw [HV.out]; rfl, (Below.refl _ _).alloc (Nat.le_refl _) _⟩
end Go.Proofs.YtnamkglflhkckaaDoor
end
