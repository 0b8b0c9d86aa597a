/-
 A part of the proof.
-/
import Derived.Test.YtaikigponkjkgaaGreatDoorXq19
import Derived.Deep.RegionHeld3
import Derived.Deep.DeepCutAuto
section
namespace Go.Proofs.YtaikigponkjkgaaGreatDoor
open Go.ChangeShapes Go.WideShapes Go.ChangeAt Go.RowKit
open Go.Lib (hid)
theorem qxq20a (l : List Value) (i : Nat) (v : Value) : l.toArray.setIfInBounds i v = (l.set i v).toArray := by simp
theorem qxq20b (v u : Value) (l : List Value) : (v :: l).set 0 u = u :: l := rfl
theorem qxq20c (v u : Value) (n : Nat) (l : List Value) : (v :: l).set (n + 1) u = v :: l.set n u := rfl
def maBytesV (x : Ml) : Value := if x.code = 0 then .tuple #[.string (ofL x.enc), .int .i64 0] else .tuple #[.string ⟨#[]⟩, .int .i64 (x.code : Int)]
structure MbC (w : World) (x : Ml) (A : Option Addr) (c g : Nat) (W : World) : Prop where
 o : ∃ (s : ByteArray) (e : Int), W.cell? ⟨g, 0, none⟩ = some (.string s) ∧ W.cell? ⟨g, 1, none⟩ = some (.int .i64 e)
 so : ∀ j, W.frozen? ⟨g, j, none⟩ = false
 p : BoxC w w.heap.size (maL x A c) W
 lg : g < W.heap.size
 gg : w.heap.size < g
 B : Below w.heap.size w W
theorem MbC.on {w : World} {x : Ml} {A : Option Addr} {c g : Nat} {W W' : World} (h : MbC w x A c g W) (hb : Below W.heap.size W W') : MbC w x A c g W' := by
 obtain ⟨s, e, h0, h1⟩ := h.o
 exact ⟨⟨s, e, (hb.cell (p := ⟨g, 0, none⟩) h.lg).trans h0, (hb.cell (p := ⟨g, 1, none⟩) h.lg).trans h1⟩, fun j => (hb.frozen (p := ⟨g, j, none⟩) h.lg).trans (h.so j), h.p.on hb, Nat.lt_of_lt_of_le h.lg hb.size, h.gg, bthen h.B hb (Nat.le_refl _)⟩
abbrev MbS (w : World) (x : Ml) (A : Option Addr) (c g : Nat) (W : World) : Prop :=
 (W.cell? ⟨w.heap.size, 0, none⟩ = some (.int .u64 (x.id : Int)) ∧ W.cell? ⟨w.heap.size, 1, none⟩ = some (.string (ofL x.shop)) ∧ W.cell? ⟨w.heap.size, 2, none⟩ = some (.string (ofL x.key)) ∧ W.cell? ⟨w.heap.size, 3, none⟩ = some (.slice A x.head.length c) ∧ W.cell? ⟨w.heap.size, 4, none⟩ = some (.string (ofL x.body)) ∧ W.cell? ⟨w.heap.size, 5, none⟩ = some (.int .u64 (x.due : Int)) ∧ W.cell? ⟨w.heap.size, 6, none⟩ = some (.int .u8 (x.hops : Int)) ∧ w.heap.size < W.heap.size) ∧ MbC w x A c g W
theorem MbC.s {w : World} {x : Ml} {A : Option Addr} {c g : Nat} {W : World} (h : MbC w x A c g W) : MbS w x A c g W := ⟨⟨h.p.cs 0 _ rfl, h.p.cs 1 _ rfl, h.p.cs 2 _ rfl, h.p.cs 3 _ rfl, h.p.cs 4 _ rfl, h.p.cs 5 _ rfl, h.p.cs 6 _ rfl, h.p.lt⟩, h⟩
theorem MbS.on {w : World} {x : Ml} {A : Option Addr} {c g : Nat} {W W' : World} (h : MbS w x A c g W) (hb : Below W.heap.size W W') : MbS w x A c g W' := (h.2.on hb).s
theorem MbC.done {w : World} {x : Ml} {A : Option Addr} {c g : Nat} {W : World} (h : MbC w x A c g W) (s : ByteArray) :
  MbC w x A c g ((W.setCell ⟨g, 0, none⟩ (.string s)).setCell ⟨g, 1, none⟩ (.int .i64 0)) ∧ ((W.setCell ⟨g, 0, none⟩ (.string s)).setCell ⟨g, 1, none⟩ (.int .i64 0)).cell? ⟨g, 0, none⟩ = some (.string s) ∧ ((W.setCell ⟨g, 0, none⟩ (.string s)).setCell ⟨g, 1, none⟩ (.int .i64 0)).cell? ⟨g, 1, none⟩ = some (.int .i64 0) := by
 obtain ⟨s0, e0, h0, h1⟩ := h.o
 have hgg := h.gg
 have hC : Cels W g [.string s0, .int .i64 e0] := fun j v hj => by
  match j, hj with
  | 0, hj => obtain rfl := Option.some.inj hj; exact h0
  | 1, hj => obtain rfl := Option.some.inj hj; exact h1
 have hD := (hC.put 0 (.string s) (by simp)).put 1 (.int .i64 0) (by simp)
 have f0 := hD 0 _ rfl
 have f1 := hD 1 _ rfl
 exact ⟨⟨⟨s, 0, f0, f1⟩, fun j => ((Soft.put (Soft.put h.so _ _) _ _) j), (h.p.aside (by omega) 0 _).aside (by omega) 1 _, by simpa [World.setCell] using h.lg, h.gg, (h.B.setCell (by show w.heap.size ≤ g; omega) _).setCell (by show w.heap.size ≤ g; omega) _⟩, f0, f1⟩
theorem MbC.start {w W : World} {x : Ml} {A : Option Addr} {c : Nat} (h : MaX w x A c w.heap.size W) (y : List UInt8) : MbC w x A c W.heap.size (W.alloc (.cells #[.string (ofL y), .int .i64 0] 70)) ∧ (W.alloc (.cells #[.string (ofL y), .int .i64 0] 70)).cell? ⟨W.heap.size, 0, none⟩ = some (.string (ofL y)) ∧ (W.alloc (.cells #[.string (ofL y), .int .i64 0] 70)).cell? ⟨W.heap.size, 1, none⟩ = some (.int .i64 0) := by
 have hC := Cels.new W #[.string (ofL y), .int .i64 0] 70
 have hb : Below W.heap.size W (W.alloc (.cells #[.string (ofL y), .int .i64 0] 70)) := (Below.refl _ _).alloc (Nat.le_refl _) _
 exact ⟨⟨⟨_, _, hC 0 _ rfl, hC 1 _ rfl⟩, Soft.new _ _ _, h.p.on hb, by simp, h.p.lt, bthen h.B hb (Nat.le_refl _)⟩, hC 0 _ rfl, hC 1 _ rfl⟩
set_option maxRecDepth 100000 in
set_option maxHeartbeats 16000000 in
theorem maBytes_any (x : Ml) (A : Option Addr) (c : Nat) (w : World) (h : MaOk w x A c) (hf : Ml.Fits x) (hL : Len w) : Calls Tryz.prog 82 #[maV x A c] w fun e w' => e = .returned (maBytesV x) ∧ Below w.heap.size w w' := by
 have HM0 := hid (MaX.start w x A c h.row 50)
 have HOK := hid (h.on HM0.out.B)
 have HL0 := hid (hL.on HM0.out.B)
 have HOK1 := hid (fun W (g : Below (w.alloc (.cells #[.int .u64 (x.id : Int), .string (ofL x.shop), .string (ofL x.key), .slice A x.head.length c, .string (ofL x.body), .int .u64 (x.due : Int), .int .u8 (x.hops : Int)] 50)).heap.size (w.alloc (.cells #[.int .u64 (x.id : Int), .string (ofL x.shop), .string (ofL x.key), .slice A x.head.length c, .string (ofL x.body), .int .u64 (x.due : Int), .int .u8 (x.hops : Int)] 50)) W) => HOK.out.on g)
 have HCK := hid (fun W h1 h2 => ml_Check_any x A c W h1 h2)
 have HHB := hid (fun W (g : Prs W A x.head) => hbytes_any x.head A c W h.len h.cap h.lite g)
 have HV : Hid (maBytesV x = if x.code = 0 then .tuple #[.string (ofL x.enc), .int .i64 0] else .tuple #[.string ⟨#[]⟩, .int .i64 (x.code : Int)]) := rfl
 simp only [maV] at HCK ⊢
 by_cases h0 : x.code = 0
 ·have HVV := hid (show maBytesV x = .tuple #[.string (ofL x.enc), .int .i64 0] by rw [HV.out, if_pos h0])
  obtain ⟨c1, c2, c3, c4, c5⟩ := Ml.code_ok h0
  rw [show hbytesV x.head = .tuple #[.string (ofL (Hd.henc x.head)), .int .i64 0] by unfold hbytesV; rw [if_pos c3]] at HHB
  rw [h0] at HCK
  have l1 : x.shop.length ≤ 16 := (Hd.name_ok_len c1).1
  have l2 : x.key.length ≤ 64 := Ml.key_len c2
  have l3 : (Hd.henc x.head).length ≤ 1000 := by have := (hfine_of c3).pre x.head.length; rw [hpre_all (Nat.le_refl _)] at this; exact this
  have hE : x.enc = Oct.be 8 x.id ++ (Oct.be 2 x.shop.length ++ x.shop) ++ (Oct.be 2 x.key.length ++ x.key) ++ Hd.henc x.head ++ (Oct.be 2 x.body.length ++ x.body) ++ Oct.be 8 x.due ++ Oct.be 1 x.hops := by unfold Ml.enc Oct.text; simp [List.append_assoc]
  obtain ⟨y0, hy0⟩ : ∃ y, Oct.be 8 x.id = y := ⟨_, rfl⟩
  obtain ⟨y1, hy1⟩ : ∃ y, y0 ++ (Oct.be 2 x.shop.length ++ x.shop) = y := ⟨_, rfl⟩
  obtain ⟨y2, hy2⟩ : ∃ y, y1 ++ (Oct.be 2 x.key.length ++ x.key) = y := ⟨_, rfl⟩
  obtain ⟨y3, hy3⟩ : ∃ y, y2 ++ Hd.henc x.head = y := ⟨_, rfl⟩
  obtain ⟨y4, hy4⟩ : ∃ y, y3 ++ (Oct.be 2 x.body.length ++ x.body) = y := ⟨_, rfl⟩
  obtain ⟨y5, hy5⟩ : ∃ y, y4 ++ Oct.be 8 x.due = y := ⟨_, rfl⟩
  obtain ⟨y6, hy6⟩ : ∃ y, y5 ++ Oct.be 1 x.hops = y := ⟨_, rfl⟩
  have z0 : y0.length = 8 := by rw [← hy0, Oct.length_be]
  have z1 : y1.length ≤ 30 := by rw [← hy1]; simp only [List.length_append, Oct.length_be]; omega
  have z2 : y2.length ≤ 100 := by rw [← hy2]; simp only [List.length_append, Oct.length_be]; omega
  have z3 : y3.length ≤ 1100 := by rw [← hy3]; simp only [List.length_append]; omega
  have z4 : y4.length ≤ 1400 := by rw [← hy4]; simp only [List.length_append, Oct.length_be]; omega
  have z5 : y5.length ≤ 1500 := by rw [← hy5]; simp only [List.length_append, Oct.length_be]; omega
  have HEE := hid (show x.enc = y6 by rw [hE, hy0, hy1, hy2, hy3, hy4, hy5, hy6])
  have HN0 := hid (fun W => num_l [] x.id 8 8 W hf.id (by omega) rfl (by simp))
  rw [show ofL [] = ⟨#[]⟩ from rfl, show [] ++ Oct.be 8 x.id = y0 by rw [← hy0]; rfl] at HN0
  have HT1 := hid (fun W => text_l y0 x.shop W (by omega) (by omega))
  rw [hy1] at HT1
  have HT2 := hid (fun W => text_l y1 x.key W (by omega) (by omega))
  rw [hy2] at HT2
  have HT3 := hid (fun W => raw_l y2 (Hd.henc x.head) W (by omega) (by omega))
  rw [hy3] at HT3
  have HT4 := hid (fun W => text_l y3 x.body W (by omega) (by omega))
  rw [hy4] at HT4
  have HN5 := hid (fun W => num_l y4 x.due 8 8 W hf.due (by omega) rfl (by omega))
  rw [hy5] at HN5
  have HN6 := hid (fun W => num_l y5 x.hops 1 1 W (by have := hf.hops; omega) (by omega) rfl (by omega))
  rw [hy6] at HN6
  have HSO := hid (fun W => str_any (ofL y6) 0 W)
  have hw : IntKind.u64.wrap (x.hops : Int) = (x.hops : Int) := by rw [IntKind.wrap_u64]; have := hf.hops; omega
  have HST := hid (fun W (h : MaX w x A c w.heap.size W) => MbC.start h y0)
  rw [HEE.out] at HVV
  clear h0 HV hE hy0 hy1 hy2 hy3 hy4 hy5 hy6 z0 z1 z2 z3 z4 z5 l1 l2 l3 c1 c2 c3 c4 c5 h hf hL HEE
  generalize Hd.henc x.head = EH at *
  generalize maBytesV x = V at *
  go_enter Tryz.func82, Tryz.ntmps82
  go_wp2_with fail
  refine (HCK.out _ HOK.out HL0.out).mono ?_
  rintro e w1 ⟨rfl, b1⟩
  have HM1 := hid (HM0.out.on b1)
  clear b1
  have c0 := HM1.out.p.cs 0 _ rfl
  have c1 := HM1.out.p.cs 1 _ rfl
  have c2 := HM1.out.p.cs 2 _ rfl
  have c3 := HM1.out.p.cs 3 _ rfl
  have c4 := HM1.out.p.cs 4 _ rfl
  have c5 := HM1.out.p.cs 5 _ rfl
  have c6 := HM1.out.p.cs 6 _ rfl
  have cl := HM1.out.p.lt
  go_wp2_with fail
  refine (HHB.out _ HM1.out.ra).mono ?_
  rintro e w2 ⟨rfl, b2⟩
  have HM2 := hid (HM1.out.on b2)
  clear b2 c0 c1 c2 c3 c4 c5 c6 cl
  have c0 := HM2.out.p.cs 0 _ rfl
  have c1 := HM2.out.p.cs 1 _ rfl
  have c2 := HM2.out.p.cs 2 _ rfl
  have c3 := HM2.out.p.cs 3 _ rfl
  have c4 := HM2.out.p.cs 4 _ rfl
  have c5 := HM2.out.p.cs 5 _ rfl
  have c6 := HM2.out.p.cs 6 _ rfl
  have cl := HM2.out.p.lt
  go_wp2_with fail
  refine (HN0.out _).mono ?_
  rintro e w3 ⟨rfl, b3⟩
  have HM3 := hid (HM2.out.on b3)
  clear b3 c0 c1 c2 c3 c4 c5 c6 cl
  have HS3 := hid (HST.out w3 HM3.out)
  go_upto_region 6 with fail
  generalize w3.alloc (.cells #[.string (ofL y0), .int .i64 0] 70) = w4 at *
  generalize w3.heap.size = g at *
  obtain ⟨hM4, d0, d1⟩ := HS3.out
  have HX := hid (show MbS w x A c g w4.drew from (hM4.on (Below.refl _ _).drew).s)
  have q3 := hM4.lg
  clear hM4 HS3 HST HM0 HM1 HM2 HM3 HCK HHB HN0
  refine wp_region_noPanic ?_
  refine wp_region_held_drew (S := MbS w x A c g) (by kernel_rfl) ?_ (fun hHeld => ?_)
  ·(try dsimp only); (first | assumption | exact HX.out | exact MbS.on (by assumption) hb2 | exact (MbC.done (by assumption) _).1.s)
  refine wpAnyH_take (i := 1) (v := ?_) rfl (by kernel_rfl) (by kernel_rfl) (by kernel_rfl) (fun _ _ _ h => h) (Or.inl ⟨by rfl, ?_⟩) (by assumption) ?_
  rotate_left
  ·intro w hSw; (try dsimp only at hSw); go_simp; try with_reducible rfl
  (try simp only [List.getElem_toArray, List.getElem_cons_succ, List.getElem_cons_zero, Act.put, qxq20a, qxq20b, qxq20c])
  refine wpAnyH_take (i := 2) (v := ?_) rfl (by kernel_rfl) (by kernel_rfl) (by kernel_rfl) (fun _ _ _ h => h) (Or.inl ⟨by rfl, ?_⟩) (by assumption) ?_
  rotate_left
  ·intro w hSw; (try dsimp only at hSw); go_simp; try with_reducible rfl
  (try simp only [List.getElem_toArray, List.getElem_cons_succ, List.getElem_cons_zero, Act.put, qxq20a, qxq20b, qxq20c])
  refine wpAnyH_take (i := 4) (v := ?_) rfl (by kernel_rfl) (by kernel_rfl) (by kernel_rfl) (fun _ _ _ h => h) (Or.inl ⟨by rfl, ?_⟩) (by assumption) ?_
  rotate_left
  ·intro w hSw; (try dsimp only at hSw); go_simp; try with_reducible rfl
  (try simp only [List.getElem_toArray, List.getElem_cons_succ, List.getElem_cons_zero, Act.put, qxq20a, qxq20b, qxq20c])
  refine wpAnyH_take (i := 5) (v := ?_) rfl (by kernel_rfl) (by kernel_rfl) (by kernel_rfl) (fun _ _ _ h => h) (Or.inl ⟨by rfl, ?_⟩) (by assumption) ?_
  rotate_left
  ·intro w hSw; (try dsimp only at hSw); go_simp; try with_reducible rfl
  (try simp only [List.getElem_toArray, List.getElem_cons_succ, List.getElem_cons_zero, Act.put, qxq20a, qxq20b, qxq20c])
  refine wpAnyH_take (i := 7) (v := ?_) rfl (by kernel_rfl) (by kernel_rfl) (by kernel_rfl) (fun _ _ _ h => h) (Or.inl ⟨by rfl, ?_⟩) (by assumption) ?_
  rotate_left
  ·intro w hSw; (try dsimp only at hSw); go_simp; try with_reducible rfl
  (try simp only [List.getElem_toArray, List.getElem_cons_succ, List.getElem_cons_zero, Act.put, qxq20a, qxq20b, qxq20c])
  refine wpAnyH_take (i := 9) (v := ?_) rfl (by kernel_rfl) (by kernel_rfl) (by kernel_rfl) (fun _ _ _ h => h) (Or.inl ⟨by rfl, ?_⟩) (by assumption) ?_
  rotate_left
  ·intro w hSw; (try dsimp only at hSw); go_simp; try with_reducible rfl
  (try simp only [List.getElem_toArray, List.getElem_cons_succ, List.getElem_cons_zero, Act.put, qxq20a, qxq20b, qxq20c])
  refine wpAnyH_take (i := 10) (v := ?_) rfl (by kernel_rfl) (by kernel_rfl) (by kernel_rfl) (fun _ _ _ h => h) (Or.inl ⟨by rfl, ?_⟩) (by assumption) ?_
  rotate_left
  ·intro w hSw; (try dsimp only at hSw); go_simp; try with_reducible rfl
  (try simp only [List.getElem_toArray, List.getElem_cons_succ, List.getElem_cons_zero, Act.put, qxq20a, qxq20b, qxq20c])
  refine wpAnyH_ready (rs := [0]) (by kernel_rfl) (by simp) ?_
  refine AllReadyH.cons rfl (fun K hK => ?_) (AllReadyH.nil)
  ·go_simp
   refine hK.out _ _ ?_ (fun hHeld => ?_)
   ·(try dsimp only); (first | assumption | exact HX.out | exact MbS.on (by assumption) hb2 | exact (MbC.done (by assumption) _).1.s)
   clear hK K
   (try simp only [List.getElem_toArray, List.getElem_cons_succ, List.getElem_cons_zero, Act.put, qxq20a, qxq20b, qxq20c])
   refine wpAnyH_ready (rs := [3]) (by kernel_rfl) (by simp) ?_
   refine AllReadyH.cons rfl (fun K hK => ?_) (AllReadyH.nil)
   ·go_simp
    (go_at_call 35; ((refine (HT1.out _).mono ?_); rintro e' wz ⟨rfl, hb2⟩); clear d0 d1)
    refine hK.out _ _ ?_ (fun hHeld => ?_)
    ·(try dsimp only); (first | assumption | exact HX.out | exact MbS.on (by assumption) hb2 | exact (MbC.done (by assumption) _).1.s)
    clear hK K
    (try simp only [List.getElem_toArray, List.getElem_cons_succ, List.getElem_cons_zero, Act.put, qxq20a, qxq20b, qxq20c])
    refine wpAnyH_ready (rs := [6]) (by kernel_rfl) (by simp) ?_
    refine AllReadyH.cons rfl (fun K hK => ?_) (AllReadyH.nil)
    ·go_simp
     (go_at_call 35; ((refine (HT2.out _).mono ?_); rintro e' wz ⟨rfl, hb2⟩))
     refine hK.out _ _ ?_ (fun hHeld => ?_)
     ·(try dsimp only); (first | assumption | exact HX.out | exact MbS.on (by assumption) hb2 | exact (MbC.done (by assumption) _).1.s)
     clear hK K
     (try simp only [List.getElem_toArray, List.getElem_cons_succ, List.getElem_cons_zero, Act.put, qxq20a, qxq20b, qxq20c])
     refine wpAnyH_ready (rs := [8]) (by kernel_rfl) (by simp) ?_
     refine AllReadyH.cons rfl (fun K hK => ?_) (AllReadyH.nil)
     ·go_simp
      (go_at_call 44; ((refine (HT3.out _).mono ?_); rintro e' wz ⟨rfl, hb2⟩))
      refine hK.out _ _ ?_ (fun hHeld => ?_)
      ·(try dsimp only); (first | assumption | exact HX.out | exact MbS.on (by assumption) hb2 | exact (MbC.done (by assumption) _).1.s)
      clear hK K
      (try simp only [List.getElem_toArray, List.getElem_cons_succ, List.getElem_cons_zero, Act.put, qxq20a, qxq20b, qxq20c])
      refine wpAnyH_ready (rs := [11]) (by kernel_rfl) (by simp) ?_
      refine AllReadyH.cons rfl (fun K hK => ?_) (AllReadyH.nil)
      ·go_simp
       (go_at_call 35; ((refine (HT4.out _).mono ?_); rintro e' wz ⟨rfl, hb2⟩); have HZ := hid (MbS.on hHeld hb2).2; have hZ := (MbS.on hHeld hb2).2; obtain ⟨s0, e0, d0, d1⟩ := hZ.o; have q2 := hZ.so; have q3 := hZ.lg; clear hZ)
       refine hK.out _ _ ?_ (fun hHeld => ?_)
       ·(try dsimp only); (first | assumption | exact HX.out | exact MbS.on (by assumption) hb2 | exact (MbC.done (by assumption) _).1.s)
       clear hK K
       (try simp only [List.getElem_toArray, List.getElem_cons_succ, List.getElem_cons_zero, Act.put, qxq20a, qxq20b, qxq20c])
       refine wpAnyH_ready (rs := [12]) (by kernel_rfl) (by simp) ?_
       refine AllReadyH.cons rfl (fun K hK => ?_) (AllReadyH.nil)
       ·go_simp
        refine hK.out _ _ ?_ (fun hHeld => ?_)
        ·(try dsimp only); (first | assumption | exact HX.out | exact MbS.on (by assumption) hb2 | exact (MbC.done (by assumption) _).1.s)
        clear hK K
        (try simp only [List.getElem_toArray, List.getElem_cons_succ, List.getElem_cons_zero, Act.put, qxq20a, qxq20b, qxq20c])
        refine wpAnyH_done (by kernel_rfl) ?_ _
        refine NoPanic.normal ?_
        have HE := hid (HZ.out.done (ofL y4))
        clear hHeld HZ HX d0 d1 q2 q3
        generalize hw4 : (wz.setCell ⟨g, 0, none⟩ (.string (ofL y4))).setCell ⟨g, 1, none⟩ (.int .i64 0) = w5 at *
        clear hw4
        obtain ⟨hM5, d0, d1⟩ := HE.out
        have HX := hid (show MbS w x A c g w5.drew from (hM5.on (Below.refl _ _).drew).s)
        have q3 := hM5.lg
        clear hM5 HE
        go_upto_region 7 with fail
        refine wp_region_noPanic ?_
        refine wp_region_held_drew (S := MbS w x A c g) (by kernel_rfl) ?_ (fun hHeld => ?_)
        ·(try dsimp only); (first | assumption | exact HX.out | exact MbS.on (by assumption) hb2 | exact (MbC.done (by assumption) _).1.s)
        refine wpAnyH_take (i := 1) (v := ?_) rfl (by kernel_rfl) (by kernel_rfl) (by kernel_rfl) (fun _ _ _ h => h) (Or.inl ⟨by rfl, ?_⟩) (by assumption) ?_
        rotate_left
        ·intro w hSw; (try dsimp only at hSw); go_simp; try with_reducible rfl
        (try simp only [List.getElem_toArray, List.getElem_cons_succ, List.getElem_cons_zero, Act.put, qxq20a, qxq20b, qxq20c])
        refine wpAnyH_take (i := 2) (v := ?_) rfl (by kernel_rfl) (by kernel_rfl) (by kernel_rfl) (fun _ _ _ h => h) (Or.inl ⟨by rfl, ?_⟩) (by assumption) ?_
        rotate_left
        ·intro w hSw; (try dsimp only at hSw); go_simp; try with_reducible rfl
        (try simp only [List.getElem_toArray, List.getElem_cons_succ, List.getElem_cons_zero, Act.put, qxq20a, qxq20b, qxq20c])
        refine wpAnyH_take (i := 4) (v := ?_) rfl (by kernel_rfl) (by kernel_rfl) (by kernel_rfl) (fun _ _ _ h => h) (Or.inl ⟨by rfl, ?_⟩) (by assumption) ?_
        rotate_left
        ·intro w hSw; (try dsimp only at hSw); go_simp; try with_reducible rfl
        (try simp only [List.getElem_toArray, List.getElem_cons_succ, List.getElem_cons_zero, Act.put, qxq20a, qxq20b, qxq20c])
        refine wpAnyH_take (i := 5) (v := ?_) rfl (by kernel_rfl) (by kernel_rfl) (by kernel_rfl) (fun _ _ _ h => h) (Or.inl ⟨by rfl, ?_⟩) (by assumption) ?_
        rotate_left
        ·intro w hSw; (try dsimp only at hSw); go_simp; try with_reducible rfl
        (try simp only [List.getElem_toArray, List.getElem_cons_succ, List.getElem_cons_zero, Act.put, qxq20a, qxq20b, qxq20c])
        refine wpAnyH_take (i := 6) (v := ?_) rfl (by kernel_rfl) (by kernel_rfl) (by kernel_rfl) (fun _ _ _ h => h) (Or.inl ⟨by rfl, ?_⟩) (by assumption) ?_
        rotate_left
        ·intro w hSw; (try dsimp only at hSw); go_simp; try with_reducible rfl
        (try simp only [List.getElem_toArray, List.getElem_cons_succ, List.getElem_cons_zero, Act.put, qxq20a, qxq20b, qxq20c])
        refine wpAnyH_ready (rs := [0]) (by kernel_rfl) (by simp) ?_
        refine AllReadyH.cons rfl (fun K hK => ?_) (AllReadyH.nil)
        ·go_simp
         refine hK.out _ _ ?_ (fun hHeld => ?_)
         ·(try dsimp only); (first | assumption | exact HX.out | exact MbS.on (by assumption) hb2 | exact (MbC.done (by assumption) _).1.s)
         clear hK K
         (try simp only [List.getElem_toArray, List.getElem_cons_succ, List.getElem_cons_zero, Act.put, qxq20a, qxq20b, qxq20c])
         refine wpAnyH_ready (rs := [3]) (by kernel_rfl) (by simp) ?_
         refine AllReadyH.cons rfl (fun K hK => ?_) (AllReadyH.nil)
         ·go_simp
          (go_at_call 19; ((refine (HN5.out _).mono ?_); rintro e' wz ⟨rfl, hb2⟩); clear d0 d1)
          refine hK.out _ _ ?_ (fun hHeld => ?_)
          ·(try dsimp only); (first | assumption | exact HX.out | exact MbS.on (by assumption) hb2 | exact (MbC.done (by assumption) _).1.s)
          clear hK K
          (try simp only [List.getElem_toArray, List.getElem_cons_succ, List.getElem_cons_zero, Act.put, qxq20a, qxq20b, qxq20c])
          refine wpAnyH_ready (rs := [7]) (by kernel_rfl) (by simp) ?_
          refine AllReadyH.cons rfl (fun K hK => ?_) (AllReadyH.nil)
          ·go_simp
           (go_at_call 19; ((refine (HN6.out _).mono ?_); rintro e' wz ⟨rfl, hb2⟩); have HZ := hid (MbS.on hHeld hb2).2; have hZ := (MbS.on hHeld hb2).2; obtain ⟨s0, e0, d0, d1⟩ := hZ.o; have q2 := hZ.so; have q3 := hZ.lg; clear hZ)
           refine hK.out _ _ ?_ (fun hHeld => ?_)
           ·(try dsimp only); (first | assumption | exact HX.out | exact MbS.on (by assumption) hb2 | exact (MbC.done (by assumption) _).1.s)
           clear hK K
           (try simp only [List.getElem_toArray, List.getElem_cons_succ, List.getElem_cons_zero, Act.put, qxq20a, qxq20b, qxq20c])
           refine wpAnyH_ready (rs := [8]) (by kernel_rfl) (by simp) ?_
           refine AllReadyH.cons rfl (fun K hK => ?_) (AllReadyH.nil)
           ·go_simp
            refine hK.out _ _ ?_ (fun hHeld => ?_)
            ·(try dsimp only); (first | assumption | exact HX.out | exact MbS.on (by assumption) hb2 | exact (MbC.done (by assumption) _).1.s)
            clear hK K
            (try simp only [List.getElem_toArray, List.getElem_cons_succ, List.getElem_cons_zero, Act.put, qxq20a, qxq20b, qxq20c])
            refine wpAnyH_done (by kernel_rfl) ?_ _
            refine NoPanic.normal ?_
            have HE := hid (HZ.out.done (ofL y6))
            clear hHeld HZ HX d0 d1 q2 q3
            generalize hw4 : (wz.setCell ⟨g, 0, none⟩ (.string (ofL y6))).setCell ⟨g, 1, none⟩ (.int .i64 0) = w6 at *
            clear hw4
            obtain ⟨hM6, d0, d1⟩ := HE.out
            have HM6 := hid hM6
            have q3 := hM6.lg
            clear hM6 HE
            go_wp2_with fail
            refine (HSO.out _).mono ?_
            rintro e w7 ⟨rfl, b7⟩
            have HM7 := hid (HM6.out.on b7)
            clear b7 d0 d1 q3
            go_wp2_with fail
            go_ret2
            exact ⟨by rw [HVV.out]; rfl, HM7.out.B⟩
 ·have HVV := hid (show maBytesV x = .tuple #[.string ⟨#[]⟩, .int .i64 (x.code : Int)] by rw [HV.out, if_neg h0])
  have hk0 := code_ne h0
  generalize x.code = C at *
  generalize maBytesV x = V at *
  clear h0 HV h hf hL HHB
  go_enter Tryz.func82, Tryz.ntmps82
  go_wp2_with fail
  refine (HCK.out _ HOK.out HL0.out).mono ?_
  rintro e w1 ⟨rfl, b1⟩
  have HM1 := hid (HM0.out.on b1)
  clear b1
  go_wp2_with fail
  go_ret2
  exact ⟨by rw [HVV.out]; rfl, HM1.out.B⟩
end Go.Proofs.YtaikigponkjkgaaGreatDoor
end
