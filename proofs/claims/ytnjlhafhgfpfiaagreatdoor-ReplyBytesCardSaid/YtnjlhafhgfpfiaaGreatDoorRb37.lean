/-
  A FRAME's BYTES, walked. THE FRAME THAT BYTES BEGIN WITH: the program's Parse, walked.
-/
import Derived.Test.YtnjlhafhgfpfiaaGreatDoorRb03
import Derived.Test.YtnjlhafhgfpfiaaGreatDoorRb36
import Derived.Deep.RegionHeld3
import Derived.Deep.DeepCutAuto
section
namespace Go.Proofs.YtnjlhafhgfpfiaaGreatDoor
open Go.ChangeShapes Go.WideShapes Go.ChangeAt Go.RowKit
theorem sum_l (x : List UInt8) (b c : Nat) (w : World) (hx : x.length ≤ 100000) (hT : Tab w) (h0 : w.cell? ⟨b, 0, none⟩ = some (.string (ofL x))) :
    Calls Tryz.prog 46 #[.slice (some ⟨b, 0, none⟩) 1 c] w fun e w' => e = .returned (.int .u32 ((Crc.sum x : Nat) : Int)) ∧ w = w' := sum_one (ofL x) b c w (by rw [ofL_size]; exact hx) hT h0
/-- an Out lies in a block of its own -/
structure OutAt (x : List UInt8) (w : World) (g : Nat) (wx : World) : Prop where
  c0 : wx.cell? ⟨g, 0, none⟩ = some (.string (ofL x))
  c1 : wx.cell? ⟨g, 1, none⟩ = some (.int .i64 0)
  lt : g < wx.heap.size
  ge : w.heap.size ≤ g
  below : Below w.heap.size w wx
def OutIs (x : List UInt8) (w : World) (s : Value) (wx : World) : Prop := ∃ g, s = .pointer (some ⟨g, 0, none⟩) ∧ OutAt x w g wx
theorem OutAt.on {x : List UInt8} {w wx wy : World} {g : Nat} (h : OutAt x w g wx) (hb : Below wx.heap.size wx wy) : OutAt x w g wy :=
  ⟨(hb.cell (p := ⟨g, 0, none⟩) h.lt).trans h.c0, (hb.cell (p := ⟨g, 1, none⟩) h.lt).trans h.c1, Nat.lt_of_lt_of_le h.lt hb.size, h.ge, Below.trans h.below (hb.mono h.below.size)⟩
/-- a frame lies in a block of its own, and nothing that was there has changed -/
structure FrmAt (cn kn : Int) (b : List UInt8) (w a : World) : Prop where
  c0 : a.cell? ⟨w.heap.size, 0, none⟩ = some (.int .u8 cn)
  c1 : a.cell? ⟨w.heap.size, 1, none⟩ = some (.int .u8 kn)
  c2 : a.cell? ⟨w.heap.size, 2, none⟩ = some (.string (ofL b))
  lt : w.heap.size < a.heap.size
  below : Below w.heap.size w a
theorem FrmAt.on {cn kn : Int} {b : List UInt8} {w a a' : World} (h : FrmAt cn kn b w a) (hb : Below a.heap.size a a') : FrmAt cn kn b w a' :=
  ⟨(hb.cell (p := ⟨w.heap.size, 0, none⟩) h.lt).trans h.c0, (hb.cell (p := ⟨w.heap.size, 1, none⟩) h.lt).trans h.c1, (hb.cell (p := ⟨w.heap.size, 2, none⟩) h.lt).trans h.c2, Nat.lt_of_lt_of_le h.lt hb.size, Below.trans h.below (hb.mono h.below.size)⟩
theorem FrmAt.start (cn kn : Int) (b : List UInt8) (w : World) (t : TypeId) : FrmAt cn kn b w (w.alloc (.cells #[.int .u8 cn, .int .u8 kn, .string (ofL b)] t)) :=
  ⟨cell_new _ _ _ _ _ rfl, cell_new _ _ _ _ _ rfl, cell_new _ _ _ _ _ rfl, by simp, (Below.refl _ _).alloc (Nat.le_refl _) _⟩
abbrev FrmS (cn kn : Int) (b : List UInt8) (w a : World) : Prop :=
  a.cell? ⟨w.heap.size, 0, none⟩ = some (.int .u8 cn) ∧ a.cell? ⟨w.heap.size, 1, none⟩ = some (.int .u8 kn) ∧ a.cell? ⟨w.heap.size, 2, none⟩ = some (.string (ofL b)) ∧ FrmAt cn kn b w a
theorem FrmAt.six {cn kn : Int} {b : List UInt8} {w a : World} (h : FrmAt cn kn b w a) : FrmS cn kn b w a := ⟨h.c0, h.c1, h.c2, h⟩
theorem FrmS.on {cn kn : Int} {b : List UInt8} {w a a' : World} (h : FrmS cn kn b w a) (hb : Below a.heap.size a a') : FrmS cn kn b w a' := (h.2.2.2.on hb).six
theorem FrmS.put {cn kn : Int} {b : List UInt8} {w a : World} (h : FrmS cn kn b w a) {g : Nat} (hg : w.heap.size < g) (i : Nat) (v : Value) : FrmS cn kn b w (a.setCell ⟨g, i, none⟩ v) := by
  have hne : ∀ j, (⟨g, i, none⟩ : Addr) ≠ ⟨w.heap.size, j, none⟩ := fun j => by simp only [ne_eq, Addr.mk.injEq, not_and]; omega
  have f := h.2.2.2
  exact FrmAt.six ⟨(World.cell?_setCell_other _ _ _ _ (hne 0)).trans f.c0, (World.cell?_setCell_other _ _ _ _ (hne 1)).trans f.c1, (World.cell?_setCell_other _ _ _ _ (hne 2)).trans f.c2, by simp [World.setCell]; exact f.lt, f.below.setCell (by simp; omega) _⟩
theorem FrmS.re {cn kn : Int} {b : List UInt8} {w W : World} {o : Obj} (h : FrmS cn kn b w (W.alloc o)) (hW : w.heap.size < W.heap.size) (o' : Obj) : FrmS cn kn b w (W.alloc o') := by
  have f := h.2.2.2
  have b0 : Below W.heap.size W (W.alloc o) := (Below.refl _ _).alloc (Nat.le_refl _) _
  have b1 : Below W.heap.size W (W.alloc o') := (Below.refl _ _).alloc (Nat.le_refl _) _
  have e : ∀ j, (W.alloc o').cell? ⟨w.heap.size, j, none⟩ = (W.alloc o).cell? ⟨w.heap.size, j, none⟩ := fun j => (b1.cell (p := ⟨w.heap.size, j, none⟩) hW).trans (b0.cell (p := ⟨w.heap.size, j, none⟩) hW).symm
  refine FrmAt.six ⟨(e 0).trans f.c0, (e 1).trans f.c1, (e 2).trans f.c2, by simp; omega, ⟨f.below.os, f.below.tape, f.below.output, by simp; omega, fun i hi => ?_⟩⟩
  rw [b1.block i (by omega), ← b0.block i (by omega)]
  exact f.below.block i hi
theorem bcell {W w1 : World} (hb : Below W.heap.size W w1) : (∀ b o, b < W.heap.size → w1.cell? ⟨b, o, none⟩ = W.cell? ⟨b, o, none⟩) ∧ (∀ b o, b < W.heap.size → w1.frozen? ⟨b, o, none⟩ = W.frozen? ⟨b, o, none⟩) :=
  ⟨fun b o h => hb.cell (p := ⟨b, o, none⟩) h, fun b o h => hb.frozen (p := ⟨b, o, none⟩) h⟩
theorem be1 (c : UInt8) : Oct.be 1 c.toNat = [c] := by
  have h := c.toNat_lt
  show [UInt8.ofNat (c.toNat % 256)] = [c]
  rw [Nat.mod_eq_of_lt h, UInt8.ofNat_toNat]
/-- what frame.Bytes answers -/
def bytesV (c k : UInt8) (b : List UInt8) : Value := if b.length ≤ 2048 then .tuple #[.string (ofL (Fr.enc c k b)), .int .i64 0] else .tuple #[.string ⟨#[]⟩, .int .i64 5]
set_option maxRecDepth 100000 in
set_option maxHeartbeats 4000000 in
theorem fbytes_any (c k : UInt8) (b : List UInt8) (w : World) (hb : b.length ≤ 100000) (hT : Tab w) :
    Calls Tryz.prog 25 #[.agg #[.int .u8 (c.toNat : Int), .int .u8 (k.toNat : Int), .string (ofL b)]] w fun e w' => e = .returned (bytesV c k b) ∧ Below w.heap.size w w' := by
  have hz : (ofL b).size = b.length := ofL_size b
  by_cases h : b.length ≤ 2048
  · have HV := Lib.hid (show bytesV c k b = .tuple #[.string (ofL (Fr.enc c k b)), .int .i64 0] from if_pos h)
    have hc := c.toNat_lt
    have hk := k.toNat_lt
    have H1 := Lib.hid (fun W => num_l [] c.toNat 1 1 W (by omega) (by omega) rfl (by simp))
    rw [be1, show ofL [] = ⟨#[]⟩ from rfl] at H1
    have H2 := Lib.hid (fun W => num_l ([] ++ [c]) k.toNat 1 1 W (by omega) (by omega) rfl (by simp))
    rw [be1] at H2
    have H3 := Lib.hid (fun W => text_l ([] ++ [c] ++ [k]) b W (by simp) (by omega))
    have ea : [] ++ [c] ++ [k] ++ (Oct.be 2 b.length ++ b) = Fr.ahead c k b := rfl
    rw [ea] at H3
    have hal : (Fr.ahead c k b).length = b.length + 4 := by rw [Fr.ahead_eq]; simp
    have H4 := Lib.hid (fun W => str_any (ofL (Fr.ahead c k b)) 0 W)
    have H5 := Lib.hid (fun W g => sum_l (Fr.ahead c k b) g 1 W (by omega))
    have hs := Crc.sum_lt (Fr.ahead c k b)
    have H6 := Lib.hid (fun W => num_l (Fr.ahead c k b) (Crc.sum (Fr.ahead c k b)) 4 4 W (by omega) (by omega) rfl (by omega))
    have H7 := Lib.hid (fun W => num_l (Fr.ahead c k b ++ Oct.be 4 (Crc.sum (Fr.ahead c k b))) 206 1 1 W (by omega) (by omega) rfl (by rw [List.length_append, Oct.length_be]; omega))
    have ee : Fr.ahead c k b ++ Oct.be 4 (Crc.sum (Fr.ahead c k b)) ++ Oct.be 1 206 = Fr.enc c k b := by unfold Fr.enc; rw [List.append_assoc]; rfl
    rw [ee] at H7
    clear ea hal ee
    generalize Fr.ahead c k b ++ Oct.be 4 (Crc.sum (Fr.ahead c k b)) = A2 at *
    generalize Crc.sum (Fr.ahead c k b) = S at *
    generalize Fr.ahead c k b = A1 at *
    generalize Fr.enc c k b = E at *
    generalize [] ++ [c] ++ [k] = L2 at *
    generalize [] ++ [c] = L1 at *
    generalize c.toNat = cn at *
    generalize k.toNat = kn at *
    have HT := Lib.hid hT
    clear hT
    go_enter Tryz.func25, Tryz.ntmps25
    have HF := Lib.hid (FrmAt.start (cn : Int) (kn : Int) b w 50)
    go_upto_region 3 with fail
    go_cut [4] (fun s4 wx => OutIs A1 w s4 wx)
    case first =>
      have hw1 : IntKind.u64.wrap (cn : Int) = (cn : Int) := by rw [IntKind.wrap_u64]; omega
      have hw2 : IntKind.u64.wrap (kn : Int) = (kn : Int) := by rw [IntKind.wrap_u64]; omega
      go_region_held3 (fun a => a.cell? ⟨w.heap.size, 0, none⟩ = some (.int .u8 (cn : Int)) ∧ a.cell? ⟨w.heap.size, 1, none⟩ = some (.int .u8 (kn : Int)) ∧ a.cell? ⟨w.heap.size, 2, none⟩ = some (.string (ofL b)) ∧ FrmAt (cn : Int) (kn : Int) b w a)
        (first
          | exact (HF.out.on (Below.refl _ _).drew).six
          | exact FrmS.on (by assumption) hb2
          | exact FrmS.on (by assumption) ((Below.refl _ _).alloc (Nat.le_refl _) _)
          | (refine @FrmS.re _ _ _ _ _ ?o1 ?h1 ?w1 _; (case h1 => assumption); (case w1 => first | (simp; done) | omega | (simp; omega)))
          | (refine FrmS.put (FrmS.put ?h1 ?w1 _ _) ?w2 _ _; (case h1 => assumption); (case w1 => first | (simp; done) | omega | (simp; omega)); (case w2 => first | (simp; done) | omega | (simp; omega))))
        ((first
          | (go_at_call 44; ((with_reducible refine (H1.out _).mono ?_); rintro e' wa ⟨rfl, hb2⟩); obtain ⟨kc, kf⟩ := bcell hb2; have z1 := hb2.size; (try simp at z1); (try have y1 := Nat.lt_of_succ_le z1))
          | (go_at_call 44; ((with_reducible refine (H2.out _).mono ?_); rintro e' wb ⟨rfl, hb2⟩); obtain ⟨kc, kf⟩ := bcell hb2; have z2 := hb2.size; (try simp at z2); (try have y2 := Nat.lt_of_succ_le z2); (try have x2 : w.heap.size + 1 < wb.heap.size := by omega))
          | (go_at_call 45; ((with_reducible refine (H3.out _).mono ?_); rintro e' wc ⟨rfl, hb2⟩); obtain ⟨kc, kf⟩ := bcell hb2; have z3 := hb2.size; (try simp at z3); (try have y3 := Nat.lt_of_succ_le z3); (try have x3 : w.heap.size + 1 < wc.heap.size := by omega); (try have u3 : wa.heap.size < wc.heap.size := by omega))))
      all_goals
        rename_i hlast
        have hbl := hlast.2.2.2.below
        go_wp2_with fail
        go_meet
        exact ⟨_, rfl, ⟨by go_simp, by go_simp, by first | (simp; done) | (simp; omega), by first | (simp; done) | (simp; omega) | omega, hbl⟩⟩
    case rest =>
      obtain ⟨g, rfl, hO⟩ := hcut
      have c0 := hO.c0
      have c1 := hO.c1
      have HO := Lib.hid hO
      clear hO
      go_wp2_with fail
      refine (H4.out _).mono ?_
      rintro x w1 ⟨rfl, b1⟩
      have HO1 := Lib.hid (HO.out.on b1)
      have HT1 := Lib.hid (HT.out.below HO1.out.below HT.out.pos)
      clear b1 c0 c1
      go_wp2_with fail
      refine (H5.out _ _ (HT1.out.alloc _) (by simp)).mono ?_
      rintro x w2 ⟨rfl, rfl⟩
      have HO2 := Lib.hid (HO1.out.on ((Below.refl _ _).alloc (Nat.le_refl _) (.cells #[.string (ofL A1)] 9)))
      have c0 := HO2.out.c0
      have c1 := HO2.out.c1
      go_wp2_with fail
      refine (H6.out _).mono ?_
      rintro x w3 ⟨rfl, b3⟩
      have B3 := Lib.hid (bthen HO2.out.below b3 (Nat.le_refl _))
      clear b3 c0 c1
      go_wp2_with fail
      refine (H7.out _).mono ?_
      rintro x w4 ⟨rfl, b4⟩
      have B4 := Lib.hid (bthen B3.out b4 (Nat.le_refl _))
      clear b4
      have H8 := Lib.hid (fun W => str_any (ofL E) 0 W)
      go_wp2_with fail
      refine (H8.out _).mono ?_
      rintro x w5 ⟨rfl, b5⟩
      have B5 := Lib.hid (bthen B4.out b5 (Nat.le_refl _))
      clear b5
      go_wp2_with fail
      go_ret2
      exact ⟨by rw [HV.out]; rfl, B5.out⟩
  · have HV := Lib.hid (show bytesV c k b = .tuple #[.string ⟨#[]⟩, .int .i64 5] from if_neg h)
    go_enter Tryz.func25, Tryz.ntmps25
    go_wp2_with fail
    go_ret2
    exact ⟨by rw [HV.out]; rfl, (Below.refl _ _).alloc (Nat.le_refl _) _⟩
end Go.Proofs.YtnjlhafhgfpfiaaGreatDoor
end
section
namespace Go.Proofs.YtnjlhafhgfpfiaaGreatDoor
open Go.ChangeShapes Go.WideShapes Go.ChangeAt Go.RowKit
/-! ### what is read, in lists -/
def rS1 (l : List UInt8) : LSt := lRaw (l, 0) 1
def rS2 (l : List UInt8) : LSt := lRaw (rS1 l) 1
def rS3 (l : List UInt8) : LSt := lText (rS2 l) 2048
def rS4 (l : List UInt8) : LSt := lRaw (rS3 l) 4
def rS5 (l : List UInt8) : LSt := lRaw (rS4 l) 1
theorem ok1 (l : List UInt8) : lOk (rS1 l) := lOk_raw (lOk_new l) 1
theorem ok2 (l : List UInt8) : lOk (rS2 l) := lOk_raw (ok1 l) 1
theorem ok3 (l : List UInt8) : lOk (rS3 l) := lOk_text (ok2 l) 2048
theorem ok4 (l : List UInt8) : lOk (rS4 l) := lOk_raw (ok3 l) 4
theorem rS_err3 {l : List UInt8} {e : Int} (h : (rS3 l).2 = e) (he : e ≠ 0) : (rS5 l).2 = e := by
  have h4 : rS4 l = rS3 l := lRaw_err (ok3 l) (by rw [h]; exact he) 4
  unfold rS5
  rw [h4, lRaw_err (ok3 l) (by rw [h]; exact he) 1, h]
theorem rS_err2 {l : List UInt8} {e : Int} (h : (rS2 l).2 = e) (he : e ≠ 0) : (rS5 l).2 = e := by
  refine rS_err3 ?_ he
  unfold rS3
  rw [lText_err (ok2 l) (by rw [h]; exact he), h]
theorem rS_small {l : List UInt8} (h : l.length < 4) : (rS5 l).2 = 3 := by
  match l, h with
  | [], _ => exact rS_err2 (by decide) (by decide)
  | [a], _ => exact rS_err2 (by simp [rS2, rS1, lRaw]) (by decide)
  | [a, b], _ =>
    refine rS_err3 ?_ (by decide)
    have h2 : rS2 [a, b] = ([], 0) := by simp [rS2, rS1, lRaw]
    unfold rS3
    rw [h2]
    decide
  | [a, b, c], _ =>
    refine rS_err3 ?_ (by decide)
    have h2 : rS2 [a, b, c] = ([c], 0) := by simp [rS2, rS1, lRaw]
    have hl : lLen ([c], 0) = 0 := by simp [lLen, lOut, Oct.val]
    have hm : lMid ([c], 0) 2048 = ([], 3) := by unfold lMid; rw [hl, if_neg (by decide)]; simp [lRaw]
    unfold rS3 lText
    rw [h2, hm, hl]
    simp [lRaw]
theorem val2 (c d : UInt8) : Oct.val [c, d] = c.toNat * 256 + d.toNat := by simp [Oct.val]
theorem rS2_of {a b c d : UInt8} {r : List UInt8} : rS2 (a :: b :: c :: d :: r) = (c :: d :: r, 0) := by
  simp [rS2, rS1, lRaw]
theorem lLen_of {c d : UInt8} {r : List UInt8} {e : Int} : lLen (c :: d :: r, e) = c.toNat * 256 + d.toNat := by
  unfold lLen
  rw [lOut_of (by simp)]
  exact val2 c d
theorem rS3_long {a b c d : UInt8} {r : List UInt8} (h : 2048 < Fr.len (a :: b :: c :: d :: r)) : (rS5 (a :: b :: c :: d :: r)).2 = 5 := by
  have hn : c.toNat * 256 + d.toNat = Fr.len (a :: b :: c :: d :: r) := rfl
  refine rS_err3 ?_ (by decide)
  have hm : lMid (c :: d :: r, 0) 2048 = ([], 5) := by
    unfold lMid
    rw [lLen_of, if_pos (by omega), lRaw_of (by simp)]
    simp [lFail]
  unfold rS3 lText
  rw [rS2_of, hm, lRaw_err (fun _ => rfl) (by decide)]
theorem rS3_of {a b c d : UInt8} {r : List UInt8} (h : Fr.len (a :: b :: c :: d :: r) ≤ 2048) : rS3 (a :: b :: c :: d :: r) = lRaw (r, 0) (Fr.len (a :: b :: c :: d :: r)) ∧ lTextOut (rS2 (a :: b :: c :: d :: r)) 2048 = lOut r (Fr.len (a :: b :: c :: d :: r)) := by
  have hn : c.toNat * 256 + d.toNat = Fr.len (a :: b :: c :: d :: r) := rfl
  have hm : lMid (c :: d :: r, 0) 2048 = (r, 0) := by
    unfold lMid
    rw [lLen_of, if_neg (by omega), lRaw_of (by simp)]
    rfl
  unfold rS3 lText lTextOut
  rw [rS2_of, hm, lLen_of, hn]
  exact ⟨rfl, rfl⟩
theorem four_of {l : List UInt8} (h : ¬ l.length < 4) : ∃ a b c d r, l = a :: b :: c :: d :: r := by
  match l with
  | [] => exact absurd (by decide) h
  | [_] => exact absurd (by simp) h
  | [_, _] => exact absurd (by simp) h
  | [_, _, _] => exact absurd (by simp) h
  | a :: b :: c :: d :: r => exact ⟨a, b, c, d, r, rfl⟩
theorem rS_err {l : List UInt8} (h : Fr.code l = 3 ∨ Fr.code l = 5) : (rS5 l).2 = (Fr.code l : Int) := by
  by_cases h4 : l.length < 4
  · have hc : Fr.code l = 3 := by unfold Fr.code; rw [if_pos h4]
    rw [rS_small h4, hc]; rfl
  · obtain ⟨a, b, c, d, r, rfl⟩ := four_of h4
    · by_cases h5 : 2048 < Fr.len (a :: b :: c :: d :: r)
      · have hc : Fr.code (a :: b :: c :: d :: r) = 5 := by unfold Fr.code; rw [if_neg h4, if_pos h5]
        rw [rS3_long h5, hc]; rfl
      · have h9 : (a :: b :: c :: d :: r).length < Fr.len (a :: b :: c :: d :: r) + 9 := by
          rcases Nat.lt_or_ge (a :: b :: c :: d :: r).length (Fr.len (a :: b :: c :: d :: r) + 9) with hlt | hge
          · exact hlt
          · exfalso
            unfold Fr.code at h
            rw [if_neg h4, if_neg h5, if_neg (by omega)] at h
            split at h
            · omega
            · split at h <;> omega
        have hc : Fr.code (a :: b :: c :: d :: r) = 3 := by unfold Fr.code; rw [if_neg h4, if_neg h5, if_pos h9]
        have hs := (rS3_of (a := a) (b := b) (c := c) (d := d) (r := r) (by omega)).1
        rw [hc]
        simp only [List.length_cons] at h9
        generalize Fr.len (a :: b :: c :: d :: r) = n at *
        by_cases hr : r.length < n
        · exact rS_err3 (by rw [hs, lRaw_short hr]; rfl) (by decide)
        · rw [lRaw_of (by omega)] at hs
          unfold rS5 rS4
          rw [hs]
          by_cases hr4 : (r.drop n).length < 4
          · rw [lRaw_short hr4, lRaw_err (fun _ => rfl) (by decide)]; rfl
          · rw [lRaw_of (r := r.drop n) (n := 4) (by omega), lRaw_short (by simp only [List.length_drop] at hr4 ⊢; omega)]; rfl
theorem val1 (x : UInt8) : Oct.val [x] = x.toNat := by simp [Oct.val]
/-- what is read of bytes that begin with what may be a frame -/
structure RdOk (l : List UInt8) : Prop where
  lo : Fr.len l + 9 ≤ l.length
  hi : Fr.len l ≤ 2048
  e5 : (rS5 l).2 = 0
  v1 : Oct.val (lOut l 1) = (l.getD 0 0).toNat
  v2 : Oct.val (lOut (rS1 l).1 1) = (l.getD 1 0).toNat
  bd : lTextOut (rS2 l) 2048 = Fr.body l
  l3 : (rS3 l).1.length = l.length - (Fr.len l + 4)
  sm : Oct.val (lOut (rS3 l).1 4) = Oct.val ((l.drop (Fr.len l + 4)).take 4)
  en : Oct.val (lOut (rS4 l).1 1) = (l.getD (Fr.len l + 8) 0).toNat
  l5 : (rS5 l).1.length = l.length - (Fr.len l + 9)
theorem rS_ok {l : List UInt8} (h3 : Fr.code l ≠ 3) (h5 : Fr.code l ≠ 5) : RdOk l := by
  have hl4 : ¬ l.length < 4 := fun h => h3 (by unfold Fr.code; rw [if_pos h])
  have hn5 : ¬ 2048 < Fr.len l := fun h => h5 (by unfold Fr.code; rw [if_neg hl4, if_pos h])
  have hn9 : ¬ l.length < Fr.len l + 9 := fun h => h3 (by unfold Fr.code; rw [if_neg hl4, if_neg hn5, if_pos h])
  obtain ⟨a, b, c, d, r, rfl⟩ := four_of hl4
  · obtain ⟨hs, hb⟩ := rS3_of (a := a) (b := b) (c := c) (d := d) (r := r) (by omega)
    have hbody : Fr.body (a :: b :: c :: d :: r) = r.take (Fr.len (a :: b :: c :: d :: r)) := rfl
    have hdrop : ∀ n, (a :: b :: c :: d :: r).drop (n + 4) = r.drop n := fun n => rfl
    have hget : ∀ n, (a :: b :: c :: d :: r).getD (n + 4 + 4) 0 = r.getD (n + 4) 0 := fun n => rfl
    simp only [List.length_cons] at hn9
    generalize hN : Fr.len (a :: b :: c :: d :: r) = n at *
    rw [lRaw_of (by omega)] at hs
    have hs4 : rS4 (a :: b :: c :: d :: r) = (r.drop (n + 4), 0) := by
      unfold rS4
      rw [hs, lRaw_of (by rw [List.length_drop]; omega), List.drop_drop]
    have hs5 : rS5 (a :: b :: c :: d :: r) = (r.drop (n + 5), 0) := by
      unfold rS5
      rw [hs4, lRaw_of (by rw [List.length_drop]; omega), List.drop_drop]
    refine ⟨by rw [hN]; simp only [List.length_cons]; omega, by rw [hN]; omega, by rw [hs5], ?_, ?_, ?_, ?_, ?_, ?_, ?_⟩
    · rw [lOut_of (by simp)]; exact val1 a
    · have : rS1 (a :: b :: c :: d :: r) = (b :: c :: d :: r, 0) := by simp [rS1, lRaw]
      rw [this, lOut_of (by simp)]; exact val1 b
    · rw [hb, hbody, lOut_of (by omega)]
    · rw [hs, hN]; simp only [List.length_drop, List.length_cons]; omega
    · rw [hs, hN, hdrop, lOut_of (by rw [List.length_drop]; omega)]
    · rw [hs4, hN, show n + 8 = n + 4 + 4 from rfl, hget, lOut_of (by rw [List.length_drop]; omega), List.take_one]
      have : (r.drop (n + 4)).head? = some (r.getD (n + 4) 0) := by
        rw [List.head?_drop, List.getD_eq_getElem?_getD, List.getElem?_eq_getElem (by omega)]; rfl
      rw [this]
      exact val1 _
    · rw [hs5, hN]; simp only [List.length_drop, List.length_cons]; omega
end Go.Proofs.YtnjlhafhgfpfiaaGreatDoor
end
