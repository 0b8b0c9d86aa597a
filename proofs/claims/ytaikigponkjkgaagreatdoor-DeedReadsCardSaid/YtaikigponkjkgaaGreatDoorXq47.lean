/-
 A part of the proof.
-/
import Derived.Test.YtaikigponkjkgaaGreatDoorXq19
import Derived.Deep.RegionHeld3
import Derived.Deep.DeepCutAuto
section
namespace Go.Proofs.YtaikigponkjkgaaGreatDoor
open Go.ChangeShapes Go.WideShapes Go.ChangeAt Go.RowKit
open Go.Lib (hid)
theorem qxq47a (l : List Value) (i : Nat) (v : Value) : l.toArray.setIfInBounds i v = (l.set i v).toArray := by simp
theorem qxq47b (v u : Value) (l : List Value) : (v :: l).set 0 u = u :: l := rfl
theorem qxq47c (v u : Value) (n : Nat) (l : List Value) : (v :: l).set (n + 1) u = v :: l.set n u := rfl
abbrev MdS (w : World) (x : Ml) (A : Option Addr) (c : Nat) (W : World) : Prop :=
 (W.cell? ⟨w.heap.size, 0, none⟩ = some (.int .u64 (x.id : Int)) ∧ W.cell? ⟨w.heap.size, 1, none⟩ = some (.string (ofL x.shop)) ∧ W.cell? ⟨w.heap.size, 2, none⟩ = some (.string (ofL x.key)) ∧ W.cell? ⟨w.heap.size, 3, none⟩ = some (.slice A x.head.length c) ∧ W.cell? ⟨w.heap.size, 4, none⟩ = some (.string (ofL x.body)) ∧ W.cell? ⟨w.heap.size, 5, none⟩ = some (.int .u64 (x.due : Int)) ∧ W.cell? ⟨w.heap.size, 6, none⟩ = some (.int .u8 (x.hops : Int)) ∧ w.heap.size < W.heap.size) ∧ MaX w x A c w.heap.size W
theorem MaX.s {w : World} {x : Ml} {A : Option Addr} {c : Nat} {W : World} (h : MaX w x A c w.heap.size W) : MdS w x A c W := ⟨⟨h.p.cs 0 _ rfl, h.p.cs 1 _ rfl, h.p.cs 2 _ rfl, h.p.cs 3 _ rfl, h.p.cs 4 _ rfl, h.p.cs 5 _ rfl, h.p.cs 6 _ rfl, h.p.lt⟩, h⟩
set_option maxRecDepth 100000 in
set_option maxHeartbeats 16000000 in
theorem r13Bytes_any (x : Ml) (A : Option Addr) (c : Nat) (w : World) (h : Prs w A x.head) (hf : Ml.Fits x) (h0 : x.code = 0) : Calls Tryz.prog 55 #[maV x A c] w fun e w' => e = .returned (.string (ofL x.enc)) ∧ Below w.heap.size w w' := by
 have HM0 := hid (MaX.start w x A c h 50)
 obtain ⟨c1, c2, c3, c4, c5⟩ := Ml.code_ok h0
 have l1 : x.shop.length ≤ 16 := (Hd.name_ok_len c1).1
 have l2 : x.key.length ≤ 64 := Ml.key_len c2
 have l3 : (Hd.henc x.head).length ≤ 1000 := by have := (hfine_of c3).pre x.head.length; rw [hpre_all (Nat.le_refl _)] at this; exact this
 have HN0 := hid (fun W => hrnum_l x.id 8 8 W hf.id (by omega) rfl)
 have HT1 := hid (fun W => hrtext_l x.shop W (by omega))
 have HT2 := hid (fun W => hrtext_l x.key W (by omega))
 have HTH := hid (fun W g => rbytes9_any x.head A c W c3 g)
 have HT4 := hid (fun W => hrtext_l x.body W (by omega))
 have HN5 := hid (fun W => hrnum_l x.due 8 8 W hf.due (by omega) rfl)
 have HN6 := hid (fun W => hrnum_l x.hops 1 1 W (by have := hf.hops; omega) (by omega) rfl)
 have hw : IntKind.u64.wrap (x.hops : Int) = (x.hops : Int) := by rw [IntKind.wrap_u64]; have := hf.hops; omega
 have HSM := hid (show ofL (Oct.be 8 x.id) ++ ofL (Oct.text x.shop) ++ ofL (Oct.text x.key) ++ ofL (Hd.henc x.head) ++ ofL (Oct.text x.body) ++ ofL (Oct.be 8 x.due) ++ ofL (Oct.be 1 x.hops) = ofL x.enc by
  unfold Ml.enc; rw [ofL_app, ofL_app, ofL_app, ofL_app, ofL_app, ofL_app]; simp only [List.append_assoc])
 have s0 : (ofL (Oct.be 8 x.id)).size ≤ 100 := by rw [ofL_size, Oct.length_be]; omega
 have s1 : (ofL (Oct.text x.shop)).size ≤ 100 := by rw [ofL_size]; unfold Oct.text; rw [List.length_append, Oct.length_be]; omega
 have s2 : (ofL (Oct.text x.key)).size ≤ 100 := by rw [ofL_size]; unfold Oct.text; rw [List.length_append, Oct.length_be]; omega
 have s3 : (ofL (Hd.henc x.head)).size ≤ 1000 := by rw [ofL_size]; exact l3
 have s4 : (ofL (Oct.text x.body)).size ≤ 300 := by rw [ofL_size]; unfold Oct.text; rw [List.length_append, Oct.length_be]; omega
 have s5 : (ofL (Oct.be 8 x.due)).size ≤ 100 := by rw [ofL_size, Oct.length_be]; omega
 have s6 : (ofL (Oct.be 1 x.hops)).size ≤ 100 := by rw [ofL_size, Oct.length_be]; omega
 generalize ofL (Oct.be 8 x.id) = X0 at *
 generalize ofL (Oct.text x.shop) = X1 at *
 generalize ofL (Oct.text x.key) = X2 at *
 generalize ofL (Hd.henc x.head) = X3 at *
 generalize ofL (Oct.text x.body) = X4 at *
 generalize ofL (Oct.be 8 x.due) = X5 at *
 generalize ofL (Oct.be 1 x.hops) = X6 at *
 generalize x.enc = EN at *
 clear h hf h0 c1 c2 c3 c4 c5 l1 l2 l3
 simp only [maV]
 go_enter Tryz.func55, Tryz.ntmps55
 go_upto_region 1 with fail
 have HDD := hid ((HM0.out.on (Below.refl _ _).drew).s)
 generalize w.alloc (.cells #[.int .u64 (x.id : Int), .string (ofL x.shop), .string (ofL x.key), .slice A x.head.length c, .string (ofL x.body), .int .u64 (x.due : Int), .int .u8 (x.hops : Int)] 50) = w1 at *
 refine wp_region_noPanic ?_
 refine wp_region_held_drew (S := MdS w x A c) (by kernel_rfl) ?_ (fun hHeld => ?_)
 ·(try dsimp only); (first | assumption | exact HDD.out | exact (hHeld.2.on hb2).s)
 refine wpAnyH_take (i := 0) (v := ?_) rfl (by kernel_rfl) (by kernel_rfl) (by kernel_rfl) (fun _ _ _ h => h) (Or.inl ⟨by rfl, ?_⟩) (by assumption) ?_
 rotate_left
 ·intro w hSw; (try dsimp only at hSw); go_simp; (try rw [if_neg (by first | omega | (simp [ByteArray.size_append]; omega))]); try with_reducible rfl
 (try simp only [List.getElem_toArray, List.getElem_cons_zero, Act.put, qxq47a, qxq47b, qxq47c])
 refine wpAnyH_take (i := 1) (v := ?_) rfl (by kernel_rfl) (by kernel_rfl) (by kernel_rfl) (fun _ _ _ h => h) (Or.inl ⟨by rfl, ?_⟩) (by assumption) ?_
 rotate_left
 ·intro w hSw; (try dsimp only at hSw); go_simp; (try rw [if_neg (by first | omega | (simp [ByteArray.size_append]; omega))]); try with_reducible rfl
 (try simp only [List.getElem_toArray, List.getElem_cons_succ, List.getElem_cons_zero, Act.put, qxq47a, qxq47b, qxq47c])
 refine wpAnyH_take (i := 3) (v := ?_) rfl (by kernel_rfl) (by kernel_rfl) (by kernel_rfl) (fun _ _ _ h => h) (Or.inl ⟨by rfl, ?_⟩) (by assumption) ?_
 rotate_left
 ·intro w hSw; (try dsimp only at hSw); go_simp; (try rw [if_neg (by first | omega | (simp [ByteArray.size_append]; omega))]); try with_reducible rfl
 (try simp only [List.getElem_toArray, List.getElem_cons_succ, List.getElem_cons_zero, Act.put, qxq47a, qxq47b, qxq47c])
 refine wpAnyH_take (i := 4) (v := ?_) rfl (by kernel_rfl) (by kernel_rfl) (by kernel_rfl) (fun _ _ _ h => h) (Or.inl ⟨by rfl, ?_⟩) (by assumption) ?_
 rotate_left
 ·intro w hSw; (try dsimp only at hSw); go_simp; (try rw [if_neg (by first | omega | (simp [ByteArray.size_append]; omega))]); try with_reducible rfl
 (try simp only [List.getElem_toArray, List.getElem_cons_succ, List.getElem_cons_zero, Act.put, qxq47a, qxq47b, qxq47c])
 refine wpAnyH_take (i := 7) (v := ?_) rfl (by kernel_rfl) (by kernel_rfl) (by kernel_rfl) (fun _ _ _ h => h) (Or.inl ⟨by rfl, ?_⟩) (by assumption) ?_
 rotate_left
 ·intro w hSw; (try dsimp only at hSw); go_simp; (try rw [if_neg (by first | omega | (simp [ByteArray.size_append]; omega))]); try with_reducible rfl
 (try simp only [List.getElem_toArray, List.getElem_cons_succ, List.getElem_cons_zero, Act.put, qxq47a, qxq47b, qxq47c])
 refine wpAnyH_take (i := 8) (v := ?_) rfl (by kernel_rfl) (by kernel_rfl) (by kernel_rfl) (fun _ _ _ h => h) (Or.inl ⟨by rfl, ?_⟩) (by assumption) ?_
 rotate_left
 ·intro w hSw; (try dsimp only at hSw); go_simp; (try rw [if_neg (by first | omega | (simp [ByteArray.size_append]; omega))]); try with_reducible rfl
 (try simp only [List.getElem_toArray, List.getElem_cons_succ, List.getElem_cons_zero, Act.put, qxq47a, qxq47b, qxq47c])
 refine wpAnyH_take (i := 11) (v := ?_) rfl (by kernel_rfl) (by kernel_rfl) (by kernel_rfl) (fun _ _ _ h => h) (Or.inl ⟨by rfl, ?_⟩) (by assumption) ?_
 rotate_left
 ·intro w hSw; (try dsimp only at hSw); go_simp; (try rw [if_neg (by first | omega | (simp [ByteArray.size_append]; omega))]); try with_reducible rfl
 (try simp only [List.getElem_toArray, List.getElem_cons_succ, List.getElem_cons_zero, Act.put, qxq47a, qxq47b, qxq47c])
 refine wpAnyH_take (i := 12) (v := ?_) rfl (by kernel_rfl) (by kernel_rfl) (by kernel_rfl) (fun _ _ _ h => h) (Or.inl ⟨by rfl, ?_⟩) (by assumption) ?_
 rotate_left
 ·intro w hSw; (try dsimp only at hSw); go_simp; (try rw [if_neg (by first | omega | (simp [ByteArray.size_append]; omega))]); try with_reducible rfl
 (try simp only [List.getElem_toArray, List.getElem_cons_succ, List.getElem_cons_zero, Act.put, qxq47a, qxq47b, qxq47c])
 refine wpAnyH_take (i := 15) (v := ?_) rfl (by kernel_rfl) (by kernel_rfl) (by kernel_rfl) (fun _ _ _ h => h) (Or.inl ⟨by rfl, ?_⟩) (by assumption) ?_
 rotate_left
 ·intro w hSw; (try dsimp only at hSw); go_simp; (try rw [if_neg (by first | omega | (simp [ByteArray.size_append]; omega))]); try with_reducible rfl
 (try simp only [List.getElem_toArray, List.getElem_cons_succ, List.getElem_cons_zero, Act.put, qxq47a, qxq47b, qxq47c])
 refine wpAnyH_take (i := 16) (v := ?_) rfl (by kernel_rfl) (by kernel_rfl) (by kernel_rfl) (fun _ _ _ h => h) (Or.inl ⟨by rfl, ?_⟩) (by assumption) ?_
 rotate_left
 ·intro w hSw; (try dsimp only at hSw); go_simp; (try rw [if_neg (by first | omega | (simp [ByteArray.size_append]; omega))]); try with_reducible rfl
 (try simp only [List.getElem_toArray, List.getElem_cons_succ, List.getElem_cons_zero, Act.put, qxq47a, qxq47b, qxq47c])
 refine wpAnyH_take (i := 19) (v := ?_) rfl (by kernel_rfl) (by kernel_rfl) (by kernel_rfl) (fun _ _ _ h => h) (Or.inl ⟨by rfl, ?_⟩) (by assumption) ?_
 rotate_left
 ·intro w hSw; (try dsimp only at hSw); go_simp; (try rw [if_neg (by first | omega | (simp [ByteArray.size_append]; omega))]); try with_reducible rfl
 (try simp only [List.getElem_toArray, List.getElem_cons_succ, List.getElem_cons_zero, Act.put, qxq47a, qxq47b, qxq47c])
 refine wpAnyH_take (i := 20) (v := ?_) rfl (by kernel_rfl) (by kernel_rfl) (by kernel_rfl) (fun _ _ _ h => h) (Or.inl ⟨by rfl, ?_⟩) (by assumption) ?_
 rotate_left
 ·intro w hSw; (try dsimp only at hSw); go_simp; (try rw [if_neg (by first | omega | (simp [ByteArray.size_append]; omega))]); try with_reducible rfl
 (try simp only [List.getElem_toArray, List.getElem_cons_succ, List.getElem_cons_zero, Act.put, qxq47a, qxq47b, qxq47c])
 refine wpAnyH_take (i := 23) (v := ?_) rfl (by kernel_rfl) (by kernel_rfl) (by kernel_rfl) (fun _ _ _ h => h) (Or.inl ⟨by rfl, ?_⟩) (by assumption) ?_
 rotate_left
 ·intro w hSw; (try dsimp only at hSw); go_simp; (try rw [if_neg (by first | omega | (simp [ByteArray.size_append]; omega))]); try with_reducible rfl
 (try simp only [List.getElem_toArray, List.getElem_cons_succ, List.getElem_cons_zero, Act.put, qxq47a, qxq47b, qxq47c])
 refine wpAnyH_take (i := 24) (v := ?_) rfl (by kernel_rfl) (by kernel_rfl) (by kernel_rfl) (fun _ _ _ h => h) (Or.inl ⟨by rfl, ?_⟩) (by assumption) ?_
 rotate_left
 ·intro w hSw; (try dsimp only at hSw); go_simp; (try rw [if_neg (by first | omega | (simp [ByteArray.size_append]; omega))]); try with_reducible rfl
 (try simp only [List.getElem_toArray, List.getElem_cons_succ, List.getElem_cons_zero, Act.put, qxq47a, qxq47b, qxq47c])
 refine wpAnyH_take (i := 25) (v := ?_) rfl (by kernel_rfl) (by kernel_rfl) (by kernel_rfl) (fun _ _ _ h => h) (Or.inl ⟨by rfl, ?_⟩) (by assumption) ?_
 rotate_left
 ·intro w hSw; (try dsimp only at hSw); go_simp; (try rw [if_neg (by first | omega | (simp [ByteArray.size_append]; omega))]); try with_reducible rfl
 (try simp only [List.getElem_toArray, List.getElem_cons_succ, List.getElem_cons_zero, Act.put, qxq47a, qxq47b, qxq47c])
 refine wpAnyH_ready (rs := [2]) (by kernel_rfl) (by simp) ?_
 refine AllReadyH.cons rfl (fun K hK => ?_) (AllReadyH.nil)
 ·go_simp
  (go_at_call 22; ((refine (HN0.out _).mono ?_); rintro e' wz ⟨rfl, hb2⟩))
  refine hK.out _ _ ?_ (fun hHeld => ?_)
  ·(try dsimp only); (first | assumption | exact HDD.out | exact (hHeld.2.on hb2).s)
  clear hK K
  (try simp only [List.getElem_toArray, List.getElem_cons_succ, List.getElem_cons_zero, Act.put, qxq47a, qxq47b, qxq47c])
  refine wpAnyH_ready (rs := [5]) (by kernel_rfl) (by simp) ?_
  refine AllReadyH.cons rfl (fun K hK => ?_) (AllReadyH.nil)
  ·go_simp
   (go_at_call 52; ((refine (HT1.out _).mono ?_); rintro e' wz ⟨rfl, hb2⟩))
   refine hK.out _ _ ?_ (fun hHeld => ?_)
   ·(try dsimp only); (first | assumption | exact HDD.out | exact (hHeld.2.on hb2).s)
   clear hK K
   (try simp only [List.getElem_toArray, List.getElem_cons_succ, List.getElem_cons_zero, Act.put, qxq47a, qxq47b, qxq47c])
   refine wpAnyH_take (i := 6) (v := ?_) rfl (by kernel_rfl) (by kernel_rfl) (by kernel_rfl) (fun _ _ _ h => h) (Or.inl ⟨by rfl, ?_⟩) (by assumption) ?_
   rotate_left
   ·intro w hSw; (try dsimp only at hSw); go_simp; (try rw [if_neg (by first | omega | (simp [ByteArray.size_append]; omega))]); try with_reducible rfl
   (try simp only [List.getElem_toArray, List.getElem_cons_succ, List.getElem_cons_zero, Act.put, qxq47a, qxq47b, qxq47c])
   refine wpAnyH_ready (rs := [9]) (by kernel_rfl) (by simp) ?_
   refine AllReadyH.cons rfl (fun K hK => ?_) (AllReadyH.nil)
   ·go_simp
    (go_at_call 52; ((refine (HT2.out _).mono ?_); rintro e' wz ⟨rfl, hb2⟩))
    refine hK.out _ _ ?_ (fun hHeld => ?_)
    ·(try dsimp only); (first | assumption | exact HDD.out | exact (hHeld.2.on hb2).s)
    clear hK K
    (try simp only [List.getElem_toArray, List.getElem_cons_succ, List.getElem_cons_zero, Act.put, qxq47a, qxq47b, qxq47c])
    refine wpAnyH_take (i := 10) (v := ?_) rfl (by kernel_rfl) (by kernel_rfl) (by kernel_rfl) (fun _ _ _ h => h) (Or.inl ⟨by rfl, ?_⟩) (by assumption) ?_
    rotate_left
    ·intro w hSw; (try dsimp only at hSw); go_simp; (try rw [if_neg (by first | omega | (simp [ByteArray.size_append]; omega))]); try with_reducible rfl
    (try simp only [List.getElem_toArray, List.getElem_cons_succ, List.getElem_cons_zero, Act.put, qxq47a, qxq47b, qxq47c])
    refine wpAnyH_ready (rs := [13]) (by kernel_rfl) (by simp) ?_
    refine AllReadyH.cons rfl (fun K hK => ?_) (AllReadyH.nil)
    ·go_simp
     (go_at_call 54; ((refine (HTH.out _ hHeld.2.ra).mono ?_); rintro e' wz ⟨rfl, hb2⟩))
     refine hK.out _ _ ?_ (fun hHeld => ?_)
     ·(try dsimp only); (first | assumption | exact HDD.out | exact (hHeld.2.on hb2).s)
     clear hK K
     (try simp only [List.getElem_toArray, List.getElem_cons_succ, List.getElem_cons_zero, Act.put, qxq47a, qxq47b, qxq47c])
     refine wpAnyH_take (i := 14) (v := ?_) rfl (by kernel_rfl) (by kernel_rfl) (by kernel_rfl) (fun _ _ _ h => h) (Or.inl ⟨by rfl, ?_⟩) (by assumption) ?_
     rotate_left
     ·intro w hSw; (try dsimp only at hSw); go_simp; (try rw [if_neg (by first | omega | (simp [ByteArray.size_append]; omega))]); try with_reducible rfl
     (try simp only [List.getElem_toArray, List.getElem_cons_succ, List.getElem_cons_zero, Act.put, qxq47a, qxq47b, qxq47c])
     refine wpAnyH_ready (rs := [17]) (by kernel_rfl) (by simp) ?_
     refine AllReadyH.cons rfl (fun K hK => ?_) (AllReadyH.nil)
     ·go_simp
      (go_at_call 52; ((refine (HT4.out _).mono ?_); rintro e' wz ⟨rfl, hb2⟩))
      refine hK.out _ _ ?_ (fun hHeld => ?_)
      ·(try dsimp only); (first | assumption | exact HDD.out | exact (hHeld.2.on hb2).s)
      clear hK K
      (try simp only [List.getElem_toArray, List.getElem_cons_succ, List.getElem_cons_zero, Act.put, qxq47a, qxq47b, qxq47c])
      refine wpAnyH_take (i := 18) (v := ?_) rfl (by kernel_rfl) (by kernel_rfl) (by kernel_rfl) (fun _ _ _ h => h) (Or.inl ⟨by rfl, ?_⟩) (by assumption) ?_
      rotate_left
      ·intro w hSw; (try dsimp only at hSw); go_simp; (try rw [if_neg (by first | omega | (simp [ByteArray.size_append]; omega))]); try with_reducible rfl
      (try simp only [List.getElem_toArray, List.getElem_cons_succ, List.getElem_cons_zero, Act.put, qxq47a, qxq47b, qxq47c])
      refine wpAnyH_ready (rs := [21]) (by kernel_rfl) (by simp) ?_
      refine AllReadyH.cons rfl (fun K hK => ?_) (AllReadyH.nil)
      ·go_simp
       (go_at_call 22; ((refine (HN5.out _).mono ?_); rintro e' wz ⟨rfl, hb2⟩))
       refine hK.out _ _ ?_ (fun hHeld => ?_)
       ·(try dsimp only); (first | assumption | exact HDD.out | exact (hHeld.2.on hb2).s)
       clear hK K
       (try simp only [List.getElem_toArray, List.getElem_cons_succ, List.getElem_cons_zero, Act.put, qxq47a, qxq47b, qxq47c])
       refine wpAnyH_take (i := 22) (v := ?_) rfl (by kernel_rfl) (by kernel_rfl) (by kernel_rfl) (fun _ _ _ h => h) (Or.inl ⟨by rfl, ?_⟩) (by assumption) ?_
       rotate_left
       ·intro w hSw; (try dsimp only at hSw); go_simp; (try rw [if_neg (by first | omega | (simp [ByteArray.size_append]; omega))]); try with_reducible rfl
       (try simp only [List.getElem_toArray, List.getElem_cons_succ, List.getElem_cons_zero, Act.put, qxq47a, qxq47b, qxq47c])
       refine wpAnyH_ready (rs := [26]) (by kernel_rfl) (by simp) ?_
       refine AllReadyH.cons rfl (fun K hK => ?_) (AllReadyH.nil)
       ·go_simp
        (go_at_call 22; ((refine (HN6.out _).mono ?_); rintro e' wz ⟨rfl, hb2⟩))
        refine hK.out _ _ ?_ (fun hHeld => ?_)
        ·(try dsimp only); (first | assumption | exact HDD.out | exact (hHeld.2.on hb2).s)
        clear hK K
        (try simp only [List.getElem_toArray, List.getElem_cons_succ, List.getElem_cons_zero, Act.put, qxq47a, qxq47b, qxq47c])
        refine wpAnyH_take (i := 27) (v := ?_) rfl (by kernel_rfl) (by kernel_rfl) (by kernel_rfl) (fun _ _ _ h => h) (Or.inl ⟨by rfl, ?_⟩) (by assumption) ?_
        rotate_left
        ·intro w hSw; (try dsimp only at hSw); go_simp; (try rw [if_neg (by first | omega | (simp [ByteArray.size_append]; omega))]); try with_reducible rfl
        (try simp only [List.getElem_toArray, List.getElem_cons_succ, List.getElem_cons_zero, Act.put, qxq47a, qxq47b, qxq47c])
        refine wpAnyH_take (i := 28) (v := ?_) rfl (by kernel_rfl) (by kernel_rfl) (by kernel_rfl) (fun _ _ _ h => h) (Or.inl ⟨by rfl, ?_⟩) (by assumption) ?_
        rotate_left
        ·intro w hSw; (try dsimp only at hSw); go_simp; (try rw [if_neg (by first | omega | (simp [ByteArray.size_append]; omega))]); try with_reducible rfl
        (try simp only [List.getElem_toArray, List.getElem_cons_succ, List.getElem_cons_zero, Act.put, qxq47a, qxq47b, qxq47c])
        refine wpAnyH_done (by kernel_rfl) ?_ _
        refine NoPanic.normal ?_
        have HD9 := hid hHeld.2
        clear hHeld
        rw [HSM.out]
        go_wp2_with fail
        go_ret
        exact ⟨rfl, HD9.out.B⟩
end Go.Proofs.YtaikigponkjkgaaGreatDoor
end
