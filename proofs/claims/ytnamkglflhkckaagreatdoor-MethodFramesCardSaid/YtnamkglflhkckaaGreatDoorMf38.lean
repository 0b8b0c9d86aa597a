/-
  A METHOD's BYTES, as the document has them: walked, class by class of its kinds.
-/
import Derived.Test.YtnamkglflhkckaaGreatDoorMf15
import Derived.Test.YtnamkglflhkckaaGreatDoorMf17
import Derived.Deep.RegionHeld3
import Derived.Deep.DeepCutAuto
section
namespace Go.Proofs.YtnamkglflhkckaaGreatDoor
open Go.ChangeShapes Go.WideShapes Go.ChangeAt Go.RowKit
abbrev MqS_b (w : World) (x : Me) (A : Option Addr) (c g : Nat) (W : World) : Prop :=
  ((W.cell? ⟨w.heap.size, 0, none⟩ = some (.int .u8 (x.ch.toNat : Int)) ∧ W.cell? ⟨w.heap.size, 1, none⟩ = some (.int .u8 (x.kd.toNat : Int)) ∧ W.cell? ⟨w.heap.size, 2, none⟩ = some (.string (ofL x.name)) ∧ W.cell? ⟨w.heap.size, 3, none⟩ = some (.string (ofL x.other)) ∧ W.cell? ⟨w.heap.size, 4, none⟩ = some (.string (ofL x.key)) ∧ W.cell? ⟨w.heap.size, 5, none⟩ = some (.slice A x.head.length c) ∧ W.cell? ⟨w.heap.size, 6, none⟩ = some (.string (ofL x.body)) ∧ W.cell? ⟨w.heap.size, 7, none⟩ = some (.int .u64 (x.n : Int)) ∧ W.cell? ⟨w.heap.size, 8, none⟩ = some (.int .u64 (x.m : Int)) ∧ W.cell? ⟨w.heap.size, 9, none⟩ = some (.bool x.yes)) ∧ w.heap.size < W.heap.size) ∧ MkC w x A c g [.bool true, .bool true, .bool false, .bool true, .bool true, .bool true, .bool false, .bool false, .bool false, .bool true] W
theorem mq_s_b {w : World} {x : Me} {A : Option Addr} {c g : Nat} {W : World} (h : MkC w x A c g [.bool true, .bool true, .bool false, .bool true, .bool true, .bool true, .bool false, .bool false, .bool false, .bool true] W) : MqS_b w x A c g W := ⟨⟨⟨h.p.cs 0 _ rfl, h.p.cs 1 _ rfl, h.p.cs 2 _ rfl, h.p.cs 3 _ rfl, h.p.cs 4 _ rfl, h.p.cs 5 _ rfl, h.p.cs 6 _ rfl, h.p.cs 7 _ rfl, h.p.cs 8 _ rfl, h.p.cs 9 _ rfl⟩, h.p.lt⟩, h⟩
set_option maxRecDepth 100000 in
set_option maxHeartbeats 16000000 in
theorem r11Bytes_b (x : Me) (A : Option Addr) (c : Nat) (w : World) (h : Prs w A x.head) (_hf : Me.Fits x) (h0 : x.code = 0) (hk : x.kd.toNat = 7 ∨ x.kd.toNat = 8 ∨ x.kd.toNat = 9 ∨ x.kd.toNat = 10) : Calls Tryz.prog 17 #[meV x A c] w fun e w' => e = .returned (.string (ofL x.enc)) ∧ Below w.heap.size w w' := by
  obtain ⟨-, -, hpc⟩ := Me.code_ok h0
  have ht : Me.tells x.kd.toNat = [0, 1, 2, 3, 7] := by rcases hk with hk | hk | hk | hk <;> (rw [hk]; rfl)
  rw [ht] at hpc
  have HST := Lib.hid (fun W (hb : Below (w.alloc (.cells #[.int .u8 (x.ch.toNat : Int), .int .u8 (x.kd.toNat : Int), .string (ofL x.name), .string (ofL x.other), .string (ofL x.key), .slice A x.head.length c, .string (ofL x.body), .int .u64 (x.n : Int), .int .u64 (x.m : Int), .bool x.yes] 29)).heap.size (w.alloc (.cells #[.int .u8 (x.ch.toNat : Int), .int .u8 (x.kd.toNat : Int), .string (ofL x.name), .string (ofL x.other), .string (ofL x.key), .slice A x.head.length c, .string (ofL x.body), .int .u64 (x.n : Int), .int .u64 (x.m : Int), .bool x.yes] 29)) W) => MkC.start (w := w) (W := W) (x := x) (A := A) (c := c) h hb #[.bool true, .bool true, .bool false, .bool true, .bool true, .bool true, .bool false, .bool false, .bool false, .bool true] 108)
  have HOF := Lib.hid (fun W => r11Of_any x.kd.toNat (by omega) W)
  rw [show Me.has x.kd.toNat = ⟨true, true, false, true, true, true, false, false, false, true⟩ by rcases hk with hk | hk | hk | hk <;> (rw [hk]; rfl)] at HOF
  have hE0 : ofL x.enc = ofL (x.enc1 0 ++ (x.enc1 1 ++ (x.enc1 2 ++ (x.enc1 3 ++ (x.enc1 7 ++ []))))) := by unfold Me.enc; rw [ht]; rfl
  have l0 : x.name.length ≤ 16 := (Hd.name_ok_len (show Wrd.nameCode x.name = 0 from hpc 0 (by decide))).1
  have l1 : x.other.length ≤ 16 := Me.ocode_len (show x.ocode = 0 from hpc 1 (by decide))
  have l2 : x.key.length ≤ 64 := Me.kcode_len (show x.kcode = 0 from hpc 2 (by decide))
  have h3 : Hd.hcode x.head = 0 := hpc 3 (by decide)
  have l3 : (Hd.henc x.head).length ≤ 1000 := by have := (hfine_of h3).pre x.head.length; rw [hpre_all (Nat.le_refl _)] at this; exact this
  have HT0 := Lib.hid (fun W => hrtext_l x.name W (by omega))
  have x0 : (ofL (Oct.text x.name)).size ≤ 1100 := by rw [ofL_size]; unfold Oct.text; rw [List.length_append, Oct.length_be]; omega
  have HT1 := Lib.hid (fun W => hrtext_l x.other W (by omega))
  have x1 : (ofL (Oct.text x.other)).size ≤ 1100 := by rw [ofL_size]; unfold Oct.text; rw [List.length_append, Oct.length_be]; omega
  have HT2 := Lib.hid (fun W => hrtext_l x.key W (by omega))
  have x2 : (ofL (Oct.text x.key)).size ≤ 1100 := by rw [ofL_size]; unfold Oct.text; rw [List.length_append, Oct.length_be]; omega
  have HT3 := Lib.hid (fun W g => rbytes9_any x.head A c W h3 g)
  have x3 : (ofL (Hd.henc x.head)).size ≤ 1100 := by rw [ofL_size]; omega
  have x4 : (ofL (Pt.yesEnc x.yes)).size ≤ 1100 := by rw [ofL_size]; unfold Pt.yesEnc; cases x.yes <;> decide
  rw [show x.enc1 0 = Oct.text x.name from rfl] at hE0
  rw [show x.enc1 1 = Oct.text x.other from rfl] at hE0
  rw [show x.enc1 2 = Oct.text x.key from rfl] at hE0
  rw [show x.enc1 3 = Hd.henc x.head from rfl] at hE0
  rw [show x.enc1 7 = Pt.yesEnc x.yes from rfl] at hE0
  obtain ⟨E1, hE1⟩ : ∃ E, (⟨#[]⟩ : ByteArray) ++ ofL (Oct.text x.name) = E := ⟨_, rfl⟩
  have y1 : E1.size ≤ 1100 := by rw [← hE1, ByteArray.size_append]; show (⟨#[]⟩ : ByteArray).size + _ ≤ _; rw [show (⟨#[]⟩ : ByteArray).size = 0 from rfl]; omega
  obtain ⟨E2, hE2⟩ : ∃ E, E1 ++ ofL (Oct.text x.other) = E := ⟨_, rfl⟩
  have y2 : E2.size ≤ 2200 := by rw [← hE2, ByteArray.size_append]; omega
  obtain ⟨E3, hE3⟩ : ∃ E, E2 ++ ofL (Oct.text x.key) = E := ⟨_, rfl⟩
  have y3 : E3.size ≤ 3300 := by rw [← hE3, ByteArray.size_append]; omega
  obtain ⟨E4, hE4⟩ : ∃ E, E3 ++ ofL (Hd.henc x.head) = E := ⟨_, rfl⟩
  have y4 : E4.size ≤ 4400 := by rw [← hE4, ByteArray.size_append]; omega
  obtain ⟨E5, hE5⟩ : ∃ E, E4 ++ ofL (Pt.yesEnc x.yes) = E := ⟨_, rfl⟩
  have y5 : E5.size ≤ 5500 := by rw [← hE5, ByteArray.size_append]; omega
  have HEE := Lib.hid (show ofL x.enc = E5 by
    rw [hE0, ← hE5, ← hE4, ← hE3, ← hE2, ← hE1]
    rw [show (⟨#[]⟩ : ByteArray) = ofL [] from rfl, ofL_app, ofL_app, ofL_app, ofL_app, ofL_app]
    simp [List.append_assoc])
  generalize ofL (Oct.text x.name) = X0 at *
  generalize ofL (Oct.text x.other) = X1 at *
  generalize ofL (Oct.text x.key) = X2 at *
  generalize ofL (Hd.henc x.head) = X3 at *
  generalize ofL x.enc = EN at *
  have HY1 := Lib.hid (fun (hy : x.yes = true) => show E4 ++ ⟨#[1]⟩ = E5 by rw [← hE5, hy]; rfl)
  have HY0 := Lib.hid (fun (hy : x.yes = false) => show E4 ++ ⟨#[0]⟩ = E5 by rw [← hE5, hy]; rfl)
  clear hE5 x4
  have hp2 := h
  clear h _hf h0 hk hpc ht hE0 hp2 l0 l1 l2 l3 h3
  simp only [meV]
  simp only [hasV] at HOF
  go_enter Tryz.func17, Tryz.ntmps17
  go_wp2_with fail
  refine (HOF.out _).mono ?_
  rintro e w1 ⟨rfl, b1⟩
  have HD := Lib.hid (HST.out w1 b1)
  clear b1 HST HOF
  go_upto_if 9 with fail
  generalize w1.alloc (.cells #[.bool true, .bool true, .bool false, .bool true, .bool true, .bool true, .bool false, .bool false, .bool false, .bool true] 108) = w2 at *
  generalize w1.heap.size = g at *
  have c0 := HD.out.p.cs 0 _ rfl
  have c1 := HD.out.p.cs 1 _ rfl
  have c2 := HD.out.p.cs 2 _ rfl
  have c3 := HD.out.p.cs 3 _ rfl
  have c4 := HD.out.p.cs 4 _ rfl
  have c5 := HD.out.p.cs 5 _ rfl
  have c6 := HD.out.p.cs 6 _ rfl
  have c7 := HD.out.p.cs 7 _ rfl
  have c8 := HD.out.p.cs 8 _ rfl
  have c9 := HD.out.p.cs 9 _ rfl
  have cl := HD.out.p.lt
  have h0 : _ = some (Value.bool true) := HD.out.h.cs 0 _ rfl
  have h1 : _ = some (Value.bool true) := HD.out.h.cs 1 _ rfl
  have h2 : _ = some (Value.bool false) := HD.out.h.cs 2 _ rfl
  have h3 : _ = some (Value.bool true) := HD.out.h.cs 3 _ rfl
  have h4 : _ = some (Value.bool true) := HD.out.h.cs 4 _ rfl
  have h5 : _ = some (Value.bool true) := HD.out.h.cs 5 _ rfl
  have h6 : _ = some (Value.bool false) := HD.out.h.cs 6 _ rfl
  have h7 : _ = some (Value.bool false) := HD.out.h.cs 7 _ rfl
  have h8 : _ = some (Value.bool false) := HD.out.h.cs 8 _ rfl
  have h9 : _ = some (Value.bool true) := HD.out.h.cs 9 _ rfl
  have hl := HD.out.h.lt
  go_wp2_with fail
  refine (HT0.out _).mono ?_
  rintro e u11 ⟨rfl, b11⟩
  have HD11 := Lib.hid (HD.out.on b11)
  clear b11 c0 c1 c2 c3 c4 c5 c6 c7 c8 c9 cl h0 h1 h2 h3 h4 h5 h6 h7 h8 h9 hl
  have c0 := HD11.out.p.cs 0 _ rfl
  have c1 := HD11.out.p.cs 1 _ rfl
  have c2 := HD11.out.p.cs 2 _ rfl
  have c3 := HD11.out.p.cs 3 _ rfl
  have c4 := HD11.out.p.cs 4 _ rfl
  have c5 := HD11.out.p.cs 5 _ rfl
  have c6 := HD11.out.p.cs 6 _ rfl
  have c7 := HD11.out.p.cs 7 _ rfl
  have c8 := HD11.out.p.cs 8 _ rfl
  have c9 := HD11.out.p.cs 9 _ rfl
  have cl := HD11.out.p.lt
  have h0 : _ = some (Value.bool true) := HD11.out.h.cs 0 _ rfl
  have h1 : _ = some (Value.bool true) := HD11.out.h.cs 1 _ rfl
  have h2 : _ = some (Value.bool false) := HD11.out.h.cs 2 _ rfl
  have h3 : _ = some (Value.bool true) := HD11.out.h.cs 3 _ rfl
  have h4 : _ = some (Value.bool true) := HD11.out.h.cs 4 _ rfl
  have h5 : _ = some (Value.bool true) := HD11.out.h.cs 5 _ rfl
  have h6 : _ = some (Value.bool false) := HD11.out.h.cs 6 _ rfl
  have h7 : _ = some (Value.bool false) := HD11.out.h.cs 7 _ rfl
  have h8 : _ = some (Value.bool false) := HD11.out.h.cs 8 _ rfl
  have h9 : _ = some (Value.bool true) := HD11.out.h.cs 9 _ rfl
  have hl := HD11.out.h.lt
  go_wp2_with fail
  refine (HT1.out _).mono ?_
  rintro e u12 ⟨rfl, b12⟩
  have HD12 := Lib.hid (HD11.out.on b12)
  clear b12 c0 c1 c2 c3 c4 c5 c6 c7 c8 c9 cl h0 h1 h2 h3 h4 h5 h6 h7 h8 h9 hl
  have c0 := HD12.out.p.cs 0 _ rfl
  have c1 := HD12.out.p.cs 1 _ rfl
  have c2 := HD12.out.p.cs 2 _ rfl
  have c3 := HD12.out.p.cs 3 _ rfl
  have c4 := HD12.out.p.cs 4 _ rfl
  have c5 := HD12.out.p.cs 5 _ rfl
  have c6 := HD12.out.p.cs 6 _ rfl
  have c7 := HD12.out.p.cs 7 _ rfl
  have c8 := HD12.out.p.cs 8 _ rfl
  have c9 := HD12.out.p.cs 9 _ rfl
  have cl := HD12.out.p.lt
  have h0 : _ = some (Value.bool true) := HD12.out.h.cs 0 _ rfl
  have h1 : _ = some (Value.bool true) := HD12.out.h.cs 1 _ rfl
  have h2 : _ = some (Value.bool false) := HD12.out.h.cs 2 _ rfl
  have h3 : _ = some (Value.bool true) := HD12.out.h.cs 3 _ rfl
  have h4 : _ = some (Value.bool true) := HD12.out.h.cs 4 _ rfl
  have h5 : _ = some (Value.bool true) := HD12.out.h.cs 5 _ rfl
  have h6 : _ = some (Value.bool false) := HD12.out.h.cs 6 _ rfl
  have h7 : _ = some (Value.bool false) := HD12.out.h.cs 7 _ rfl
  have h8 : _ = some (Value.bool false) := HD12.out.h.cs 8 _ rfl
  have h9 : _ = some (Value.bool true) := HD12.out.h.cs 9 _ rfl
  have hl := HD12.out.h.lt
  go_upto_region 12 with fail
  have HDD := Lib.hid (mq_s_b (HD12.out.on (Below.refl _ _).drew))
  clear c0 c1 c2 c3 c4 c5 c6 c7 c8 c9 cl h0 h1 h2 h3 h4 h5 h6 h7 h8 h9 hl
  refine wp_region_noPanic ?_
  refine wp_region_held_drew (S := MqS_b w x A c g) (by kernel_rfl) ?_ (fun hHeld => ?_)
  · (try dsimp only); (first | assumption | exact HDD.out | exact mq_s_b (hHeld.2.on hb2))
  refine wpAnyH_take (i := 0) (v := ?_) rfl (by kernel_rfl) (by kernel_rfl) (by kernel_rfl) (fun _ _ _ h => h) (Or.inl ⟨by rfl, ?_⟩) (by assumption) ?_
  rotate_left
  · intro w hSw; (try dsimp only at hSw); go_simp; (try rw [if_neg (by first | omega | (simp [ByteArray.size_append]; omega))]); try with_reducible rfl
  (try simp only [List.getElem_toArray, List.getElem_cons_zero, Act.put, List.setIfInBounds_toArray, List.set_cons_zero, List.set_cons_succ])
  refine wpAnyH_take (i := 1) (v := ?_) rfl (by kernel_rfl) (by kernel_rfl) (by kernel_rfl) (fun _ _ _ h => h) (Or.inl ⟨by rfl, ?_⟩) (by assumption) ?_
  rotate_left
  · intro w hSw; (try dsimp only at hSw); go_simp; (try rw [if_neg (by first | omega | (simp [ByteArray.size_append]; omega))]); try with_reducible rfl
  (try simp only [List.getElem_toArray, List.getElem_cons_succ, List.getElem_cons_zero, Act.put, List.setIfInBounds_toArray, List.set_cons_zero, List.set_cons_succ])
  refine wpAnyH_take (i := 2) (v := ?_) rfl (by kernel_rfl) (by kernel_rfl) (by kernel_rfl) (fun _ _ _ h => h) (Or.inl ⟨by rfl, ?_⟩) (by assumption) ?_
  rotate_left
  · intro w hSw; (try dsimp only at hSw); go_simp; (try rw [if_neg (by first | omega | (simp [ByteArray.size_append]; omega))]); try with_reducible rfl
  (try simp only [List.getElem_toArray, List.getElem_cons_succ, List.getElem_cons_zero, Act.put, List.setIfInBounds_toArray, List.set_cons_zero, List.set_cons_succ])
  refine wpAnyH_take (i := 5) (v := ?_) rfl (by kernel_rfl) (by kernel_rfl) (by kernel_rfl) (fun _ _ _ h => h) (Or.inl ⟨by rfl, ?_⟩) (by assumption) ?_
  rotate_left
  · intro w hSw; (try dsimp only at hSw); go_simp; (try rw [if_neg (by first | omega | (simp [ByteArray.size_append]; omega))]); try with_reducible rfl
  (try simp only [List.getElem_toArray, List.getElem_cons_succ, List.getElem_cons_zero, Act.put, List.setIfInBounds_toArray, List.set_cons_zero, List.set_cons_succ])
  refine wpAnyH_take (i := 6) (v := ?_) rfl (by kernel_rfl) (by kernel_rfl) (by kernel_rfl) (fun _ _ _ h => h) (Or.inl ⟨by rfl, ?_⟩) (by assumption) ?_
  rotate_left
  · intro w hSw; (try dsimp only at hSw); go_simp; (try rw [if_neg (by first | omega | (simp [ByteArray.size_append]; omega))]); try with_reducible rfl
  (try simp only [List.getElem_toArray, List.getElem_cons_succ, List.getElem_cons_zero, Act.put, List.setIfInBounds_toArray, List.set_cons_zero, List.set_cons_succ])
  refine wpAnyH_ready (rs := [3]) (by kernel_rfl) (by simp) ?_
  refine AllReadyH.cons rfl (fun K hK => ?_) (AllReadyH.nil)
  · go_simp
    (go_at_call 60; ((refine (HT2.out _).mono ?_); rintro e' wz ⟨rfl, hb2⟩))
    refine hK.out _ _ ?_ (fun hHeld => ?_)
    · (try dsimp only); (first | assumption | exact HDD.out | exact mq_s_b (hHeld.2.on hb2))
    clear hK K
    (try simp only [List.getElem_toArray, List.getElem_cons_succ, List.getElem_cons_zero, Act.put, List.setIfInBounds_toArray, List.set_cons_zero, List.set_cons_succ])
    refine wpAnyH_take (i := 4) (v := ?_) rfl (by kernel_rfl) (by kernel_rfl) (by kernel_rfl) (fun _ _ _ h => h) (Or.inl ⟨by rfl, ?_⟩) (by assumption) ?_
    rotate_left
    · intro w hSw; (try dsimp only at hSw); go_simp; (try rw [if_neg (by first | omega | (simp [ByteArray.size_append]; omega))]); try with_reducible rfl
    (try simp only [List.getElem_toArray, List.getElem_cons_succ, List.getElem_cons_zero, Act.put, List.setIfInBounds_toArray, List.set_cons_zero, List.set_cons_succ])
    refine wpAnyH_ready (rs := [7]) (by kernel_rfl) (by simp) ?_
    refine AllReadyH.cons rfl (fun K hK => ?_) (AllReadyH.nil)
    · go_simp
      (go_at_call 62; ((refine (HT3.out _ hHeld.2.ra).mono ?_); rintro e' wz ⟨rfl, hb2⟩))
      refine hK.out _ _ ?_ (fun hHeld => ?_)
      · (try dsimp only); (first | assumption | exact HDD.out | exact mq_s_b (hHeld.2.on hb2))
      clear hK K
      (try simp only [List.getElem_toArray, List.getElem_cons_succ, List.getElem_cons_zero, Act.put, List.setIfInBounds_toArray, List.set_cons_zero, List.set_cons_succ])
      refine wpAnyH_take (i := 8) (v := ?_) rfl (by kernel_rfl) (by kernel_rfl) (by kernel_rfl) (fun _ _ _ h => h) (Or.inl ⟨by rfl, ?_⟩) (by assumption) ?_
      rotate_left
      · intro w hSw; (try dsimp only at hSw); go_simp; (try rw [if_neg (by first | omega | (simp [ByteArray.size_append]; omega))]); try with_reducible rfl
      (try simp only [List.getElem_toArray, List.getElem_cons_succ, List.getElem_cons_zero, Act.put, List.setIfInBounds_toArray, List.set_cons_zero, List.set_cons_succ])
      refine wpAnyH_take (i := 9) (v := ?_) rfl (by kernel_rfl) (by kernel_rfl) (by kernel_rfl) (fun _ _ _ h => h) (Or.inl ⟨by rfl, ?_⟩) (by assumption) ?_
      rotate_left
      · intro w hSw; (try dsimp only at hSw); go_simp; (try rw [if_neg (by first | omega | (simp [ByteArray.size_append]; omega))]); try with_reducible rfl
      (try simp only [List.getElem_toArray, List.getElem_cons_succ, List.getElem_cons_zero, Act.put, List.setIfInBounds_toArray, List.set_cons_zero, List.set_cons_succ])
      refine wpAnyH_done (by kernel_rfl) ?_ _
      refine NoPanic.normal ?_
      have HDR := Lib.hid hHeld.2
      clear hHeld HDD
      have c0 := HDR.out.p.cs 0 _ rfl
      have c1 := HDR.out.p.cs 1 _ rfl
      have c2 := HDR.out.p.cs 2 _ rfl
      have c3 := HDR.out.p.cs 3 _ rfl
      have c4 := HDR.out.p.cs 4 _ rfl
      have c5 := HDR.out.p.cs 5 _ rfl
      have c6 := HDR.out.p.cs 6 _ rfl
      have c7 := HDR.out.p.cs 7 _ rfl
      have c8 := HDR.out.p.cs 8 _ rfl
      have c9 := HDR.out.p.cs 9 _ rfl
      have cl := HDR.out.p.lt
      have h0 : _ = some (Value.bool true) := HDR.out.h.cs 0 _ rfl
      have h1 : _ = some (Value.bool true) := HDR.out.h.cs 1 _ rfl
      have h2 : _ = some (Value.bool false) := HDR.out.h.cs 2 _ rfl
      have h3 : _ = some (Value.bool true) := HDR.out.h.cs 3 _ rfl
      have h4 : _ = some (Value.bool true) := HDR.out.h.cs 4 _ rfl
      have h5 : _ = some (Value.bool true) := HDR.out.h.cs 5 _ rfl
      have h6 : _ = some (Value.bool false) := HDR.out.h.cs 6 _ rfl
      have h7 : _ = some (Value.bool false) := HDR.out.h.cs 7 _ rfl
      have h8 : _ = some (Value.bool false) := HDR.out.h.cs 8 _ rfl
      have h9 : _ = some (Value.bool true) := HDR.out.h.cs 9 _ rfl
      have hl := HDR.out.h.lt
      cases hyy : x.yes with
      | true =>
        have hs := HY1.out hyy
        have c9y : wz.cell? ⟨w.heap.size, 9, none⟩ = some (Value.bool true) := by rw [← hyy]; exact HDR.out.p.cs 9 _ rfl
        clear hyy c9
        go_wp2_with fail
        go_ret
        exact ⟨by rw [HEE.out]; first | done | rfl, HDR.out.B⟩
      | false =>
        have hs := HY0.out hyy
        have c9y : wz.cell? ⟨w.heap.size, 9, none⟩ = some (Value.bool false) := by rw [← hyy]; exact HDR.out.p.cs 9 _ rfl
        clear hyy c9
        go_wp2_with fail
        go_ret
        exact ⟨by rw [HEE.out]; first | done | rfl, HDR.out.B⟩
end Go.Proofs.YtnamkglflhkckaaGreatDoor
end
