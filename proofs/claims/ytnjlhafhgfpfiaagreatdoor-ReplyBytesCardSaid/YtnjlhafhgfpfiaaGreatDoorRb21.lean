/-
  A HEAD's BYTES: the document's, walked.
-/
import Derived.Test.YtnjlhafhgfpfiaaGreatDoorRb20
import Derived.Deep.RegionHeld3
import Derived.Deep.DeepCutAuto
section
namespace Go.Proofs.YtnjlhafhgfpfiaaGreatDoor
open Go.ChangeShapes Go.WideShapes Go.ChangeAt Go.RowKit
theorem qrb21a (l : List Value) (i : Nat) (v : Value) : l.toArray.setIfInBounds i v = (l.set i v).toArray := by simp
theorem qrb21b (v u : Value) (l : List Value) : (v :: l).set 0 u = u :: l := rfl
theorem qrb21c (v u : Value) (n : Nat) (l : List Value) : (v :: l).set (n + 1) u = v :: l.set n u := rfl
theorem hrnum_l (n k : Nat) (b : Int) (w : World) (hn : n < 18446744073709551616) (hk : k ≤ 8) (hb : b = (k : Int)) :
    Calls Tryz.prog 49 #[.int .u64 (n : Int), .int .i64 b] w fun e w' => e = .returned (.string (ofL (Oct.be k n))) ∧ Below w.heap.size w w' := by
  subst hb
  exact rnum_at k hk n w hn
theorem hrtext_l (s : List UInt8) (w : World) (hs : s.length ≤ 65535) :
    Calls Tryz.prog 48 #[.string (ofL s)] w fun e w' => e = .returned (.string (ofL (Oct.text s))) ∧ Below w.heap.size w w' := by
  have h := rtext_any (ofL s) w (by rw [ofL_size]; exact hs)
  have e : textB (ofL s) = ofL (Oct.text s) := by
    unfold textB Oct.text
    rw [ofL_size, show ByteArray.mk (Oct.be 2 s.length).toArray = ofL (Oct.be 2 s.length) from rfl, ofL_app]
  rw [e] at h
  exact h
abbrev RbS (w : World) (b : Nat) (k : List UInt8) (kd : Nat) (n : Int) (t : List UInt8) (W : World) : Prop :=
  (W.cell? ⟨b, 0, none⟩ = some (.string (ofL k)) ∧ W.cell? ⟨b, 1, none⟩ = some (.int .u8 (kd : Int)) ∧ b < W.heap.size) ∧ Below w.heap.size w W ∧ PrAt W b 0 ⟨k, kd, n, t⟩ ∧ b < W.heap.size
theorem RbS.on {w : World} {b : Nat} {k : List UInt8} {kd : Nat} {n : Int} {t : List UInt8} {W W' : World} (h : RbS w b k kd n t W) (hb : Below W.heap.size W W') : RbS w b k kd n t W' := by
  obtain ⟨⟨h0, h1, h2⟩, h3, h4, h5⟩ := h
  have hp := h4.below hb h5
  exact ⟨⟨hp.c0, hp.c1, Nat.lt_of_lt_of_le h2 hb.size⟩, bthen h3 hb (Nat.le_refl _), hp, Nat.lt_of_lt_of_le h5 hb.size⟩
def RySt (l : List Hd.Pr) (w : World) (n g : Nat) (s i : Value) (wr : World) : Prop := ∃ k : Nat, k + g = n ∧ i = .int .i64 (k : Int) ∧ s = .string (ofL (hpre l k)) ∧ Below w.heap.size w wr
set_option maxRecDepth 100000 in
set_option maxHeartbeats 8000000 in
theorem rbytes9_any (l : List Hd.Pr) (A : Option Addr) (c : Nat) (w : World) (h0 : Hd.hcode l = 0) (hp : Prs w A l) :
    Calls Tryz.prog 51 #[.slice A l.length c] w fun e w' => e = .returned (.string (ofL (Hd.henc l))) ∧ Below w.heap.size w w' := by
  have HP := Lib.hid hp
  have HF := Lib.hid (hfine_of h0)
  clear hp h0
  obtain ⟨n, hn⟩ : ∃ n, n = l.length := ⟨_, rfl⟩
  have HN := Lib.hid hn
  have hn8 : n ≤ 8 := by have := HF.out.len; omega
  have H1 := Lib.hid (fun W => hrnum_l n 1 1 W (by omega) (by omega) rfl)
  rw [show Oct.be 1 n = hpre l 0 by rw [hpre_zero, hn]] at H1
  have hw : IntKind.u64.wrap (n : Int) = (n : Int) := by rw [IntKind.wrap_u64]; omega
  rw [← hn]
  clear hn
  have HALL := Lib.hid (fun k (h : n ≤ k) => hpre_all (l := l) (k := k) (by have := HN.out; omega))
  generalize Hd.henc l = E at *
  go_enter Tryz.func51, Tryz.ntmps51
  go_wp2_with fail
  refine (H1.out _).mono ?_
  rintro e w1 ⟨rfl, b1⟩
  have HB1 := Lib.hid b1
  clear b1 H1
  go_wp2_with fail
  go_loopg [3, 12] n (fun g s i wr => RySt l w n g s i wr)
  case atStart => exact ⟨0, by omega, rfl, rfl, HB1.out⟩
  case round =>
    obtain ⟨k, hk, rfl, rfl, hB⟩ := hrel
    have HBK := Lib.hid hB
    clear hB
    by_cases hlt : k < n
    · have hkl : k < l.length := by have := HN.out; omega
      have HPR := Lib.hid (HP.out.on HBK.out)
      obtain ⟨b, off, rfl, hbl, hat⟩ := HPR.out.at_ k hkl
      obtain ⟨f1, f2, f3⟩ := HF.out.one k hkl
      have hnx := hpre_next hkl
      have hpl := HF.out.pre k
      have hpl2 := HF.out.pre (k + 1)
      generalize Hd.pr l k = x at *
      obtain ⟨x1, x2, x3, x4⟩ := x
      have HBX := Lib.hid (PrAt.new ⟨x1, x2, x3, x4⟩ wr)
      obtain ⟨c0, c1, c2, c3⟩ := hat
      simp only at f1 f2 f3 c0 c1 c2 c3
      try simp only at HBX
      have hsum : hpre l k ++ Oct.text x1 ++ Oct.be 1 x2 ++ Hd.pbody ⟨x1, x2, x3, x4⟩ = hpre l (k + 1) := by rw [← hnx]; unfold Hd.penc; simp [List.append_assoc]
      generalize hE2 : hpre l (k + 1) = E2 at *
      have HE2 := Lib.hid hE2
      clear hE2
      generalize hpre l k = E0 at *
      have H1 := Lib.hid (fun W => hrtext_l x1 W (by omega))
      have H2 := Lib.hid (fun W => hrnum_l x2 1 1 W (by omega) (by omega) rfl)
      have hw1 : IntKind.u64.wrap (x2 : Int) = (x2 : Int) := by rw [IntKind.wrap_u64]; omega
      have hwn : IntKind.u64.wrap x3 = ((Hd.n64 x3 : Nat) : Int) := by rw [IntKind.wrap_u64]; exact (Hd.n64_cast x3).symm
      have HE1 := Lib.hid (show ofL E0 ++ ofL (Oct.text x1) ++ ofL (Oct.be 1 x2) = ofL (E0 ++ Oct.text x1 ++ Oct.be 1 x2) by rw [ofL_app, ofL_app])
      have hz : (E0 ++ Oct.text x1 ++ Oct.be 1 x2).length ≤ 2000 := by
        have := congrArg List.length hsum
        rw [List.length_append] at this
        omega
      generalize hE1 : E0 ++ Oct.text x1 ++ Oct.be 1 x2 = E1 at *
      have HEF := Lib.hid hsum
      have hz0 : (ofL E0).size ≤ 1000 := by rw [ofL_size]; exact hpl
      have hz1 : (ofL (Oct.text x1)).size ≤ 1002 := by rw [ofL_size]; unfold Oct.text; rw [List.length_append, Oct.length_be]; omega
      have hz2 : (ofL (Oct.be 1 x2)).size ≤ 1 := by rw [ofL_size, Oct.length_be]; omega
      clear hnx hsum hpl hpl2 hE1 hkl
      go_upto_region 5 with fail
      have HX := Lib.hid (show RbS w wr.heap.size x1 x2 x3 x4 (wr.alloc (.cells #[.string (ofL x1), .int .u8 (x2 : Int), .int .i64 x3, .string (ofL x4)] 86)).drew from
        RbS.on ⟨⟨HBX.out.c0, HBX.out.c1, by simp⟩, HBK.out.alloc HBK.out.size _, HBX.out, by simp⟩ (Below.refl _ _).drew)
      refine wp_region_noPanic ?_
      refine wp_region_held_drew (S := RbS w wr.heap.size x1 x2 x3 x4) (by kernel_rfl) ?_ (fun hHeld => ?_)
      · (try dsimp only); (first | assumption | exact HX.out | exact RbS.on (by assumption) hb2)
      refine wpAnyH_take (i := 0) (v := ?_) rfl (by kernel_rfl) (by kernel_rfl) (by kernel_rfl) (fun _ _ _ h => h) (Or.inl ⟨by rfl, ?_⟩) (by assumption) ?_
      rotate_left
      · intro w hSw; (try dsimp only at hSw); go_simp; (try rw [if_neg (by first | omega | (simp [ByteArray.size_append]; omega))]); try with_reducible rfl
      (try simp only [List.getElem_toArray, List.getElem_cons_zero, Act.put, qrb21a, qrb21b, qrb21c])
      refine wpAnyH_take (i := 1) (v := ?_) rfl (by kernel_rfl) (by kernel_rfl) (by kernel_rfl) (fun _ _ _ h => h) (Or.inl ⟨by rfl, ?_⟩) (by assumption) ?_
      rotate_left
      · intro w hSw; (try dsimp only at hSw); go_simp; (try rw [if_neg (by first | omega | (simp [ByteArray.size_append]; omega))]); try with_reducible rfl
      (try simp only [List.getElem_toArray, List.getElem_cons_succ, List.getElem_cons_zero, Act.put, qrb21a, qrb21b, qrb21c])
      refine wpAnyH_take (i := 2) (v := ?_) rfl (by kernel_rfl) (by kernel_rfl) (by kernel_rfl) (fun _ _ _ h => h) (Or.inl ⟨by rfl, ?_⟩) (by assumption) ?_
      rotate_left
      · intro w hSw; (try dsimp only at hSw); go_simp; (try rw [if_neg (by first | omega | (simp [ByteArray.size_append]; omega))]); try with_reducible rfl
      (try simp only [List.getElem_toArray, List.getElem_cons_succ, List.getElem_cons_zero, Act.put, qrb21a, qrb21b, qrb21c])
      refine wpAnyH_take (i := 5) (v := ?_) rfl (by kernel_rfl) (by kernel_rfl) (by kernel_rfl) (fun _ _ _ h => h) (Or.inl ⟨by rfl, ?_⟩) (by assumption) ?_
      rotate_left
      · intro w hSw; (try dsimp only at hSw); go_simp; (try rw [if_neg (by first | omega | (simp [ByteArray.size_append]; omega))]); try with_reducible rfl
      (try simp only [List.getElem_toArray, List.getElem_cons_succ, List.getElem_cons_zero, Act.put, qrb21a, qrb21b, qrb21c])
      refine wpAnyH_take (i := 6) (v := ?_) rfl (by kernel_rfl) (by kernel_rfl) (by kernel_rfl) (fun _ _ _ h => h) (Or.inl ⟨by rfl, ?_⟩) (by assumption) ?_
      rotate_left
      · intro w hSw; (try dsimp only at hSw); go_simp; (try rw [if_neg (by first | omega | (simp [ByteArray.size_append]; omega))]); try with_reducible rfl
      (try simp only [List.getElem_toArray, List.getElem_cons_succ, List.getElem_cons_zero, Act.put, qrb21a, qrb21b, qrb21c])
      refine wpAnyH_take (i := 7) (v := ?_) rfl (by kernel_rfl) (by kernel_rfl) (by kernel_rfl) (fun _ _ _ h => h) (Or.inl ⟨by rfl, ?_⟩) (by assumption) ?_
      rotate_left
      · intro w hSw; (try dsimp only at hSw); go_simp; (try rw [if_neg (by first | omega | (simp [ByteArray.size_append]; omega))]); try with_reducible rfl
      (try simp only [List.getElem_toArray, List.getElem_cons_succ, List.getElem_cons_zero, Act.put, qrb21a, qrb21b, qrb21c])
      refine wpAnyH_ready (rs := [3]) (by kernel_rfl) (by simp) ?_
      refine AllReadyH.cons rfl (fun K hK => ?_) (AllReadyH.nil)
      · go_simp
        (go_at_call 48; ((refine (H1.out _).mono ?_); rintro e' wz ⟨rfl, hb2⟩))
        refine hK.out _ _ ?_ (fun hHeld => ?_)
        · (try dsimp only); (first | assumption | exact HX.out | exact RbS.on (by assumption) hb2)
        clear hK K
        (try simp only [List.getElem_toArray, List.getElem_cons_succ, List.getElem_cons_zero, Act.put, qrb21a, qrb21b, qrb21c])
        refine wpAnyH_take (i := 4) (v := ?_) rfl (by kernel_rfl) (by kernel_rfl) (by kernel_rfl) (fun _ _ _ h => h) (Or.inl ⟨by rfl, ?_⟩) (by assumption) ?_
        rotate_left
        · intro w hSw; (try dsimp only at hSw); go_simp; (try rw [if_neg (by first | omega | (simp [ByteArray.size_append]; omega))]); try with_reducible rfl
        (try simp only [List.getElem_toArray, List.getElem_cons_succ, List.getElem_cons_zero, Act.put, qrb21a, qrb21b, qrb21c])
        refine wpAnyH_ready (rs := [8]) (by kernel_rfl) (by simp) ?_
        refine AllReadyH.cons rfl (fun K hK => ?_) (AllReadyH.nil)
        · go_simp
          (go_at_call 49; ((refine (H2.out _).mono ?_); rintro e' wz ⟨rfl, hb2⟩))
          refine hK.out _ _ ?_ (fun hHeld => ?_)
          · (try dsimp only); (first | assumption | exact HX.out | exact RbS.on (by assumption) hb2)
          clear hK K
          (try simp only [List.getElem_toArray, List.getElem_cons_succ, List.getElem_cons_zero, Act.put, qrb21a, qrb21b, qrb21c])
          refine wpAnyH_take (i := 9) (v := ?_) rfl (by kernel_rfl) (by kernel_rfl) (by kernel_rfl) (fun _ _ _ h => h) (Or.inl ⟨by rfl, ?_⟩) (by assumption) ?_
          rotate_left
          · intro w hSw; (try dsimp only at hSw); go_simp; (try rw [if_neg (by first | omega | (simp [ByteArray.size_append]; omega))]); try with_reducible rfl
          (try simp only [List.getElem_toArray, List.getElem_cons_succ, List.getElem_cons_zero, Act.put, qrb21a, qrb21b, qrb21c])
          refine wpAnyH_take (i := 10) (v := ?_) rfl (by kernel_rfl) (by kernel_rfl) (by kernel_rfl) (fun _ _ _ h => h) (Or.inl ⟨by rfl, ?_⟩) (by assumption) ?_
          rotate_left
          · intro w hSw; (try dsimp only at hSw); go_simp; (try rw [if_neg (by first | omega | (simp [ByteArray.size_append]; omega))]); try with_reducible rfl
          (try simp only [List.getElem_toArray, List.getElem_cons_succ, List.getElem_cons_zero, Act.put, qrb21a, qrb21b, qrb21c])
          refine wpAnyH_done (by kernel_rfl) ?_ _
          refine NoPanic.normal ?_
          rw [HE1.out]
          have HB5 := Lib.hid hHeld.2.1
          have hA5 := hHeld.2.2.1
          have HA5 := Lib.hid hA5
          have hl5 := hHeld.2.2.2
          clear hHeld HX H1 H2
          obtain ⟨c0, c1, c2, c3⟩ := hA5
          simp only [Nat.zero_add] at c0 c1 c2 c3
          obtain rfl | rfl | rfl : x2 = 0 ∨ x2 = 1 ∨ x2 = 2 := by omega
          · have H3 := Lib.hid (fun W => hrnum_l (Hd.n64 x3) 8 8 W (Hd.n64_lt x3) (by omega) rfl)
            have hres : E1 ++ Oct.be 8 (Hd.n64 x3) = E2 := by rw [← HEF.out]; rfl
            have hadd : ofL E1 ++ ofL (Oct.be 8 (Hd.n64 x3)) = ofL E2 := by rw [ofL_app, hres]
            have hs1 : (ofL E1).size ≤ 2000 := by rw [ofL_size]; exact hz
            have hs2 : (ofL (Oct.be 8 (Hd.n64 x3))).size ≤ 2000 := by rw [ofL_size]; rw [Oct.length_be]; omega
            have HADD := Lib.hid hadd
            clear hres hadd
            go_wp2_with fail
            refine (H3.out _).mono ?_
            rintro e w5 ⟨rfl, b5⟩
            have HB6 := Lib.hid (bthen HB5.out b5 (Nat.le_refl _))
            clear b5
            go_wp2_with fail
            go_roundg (gk - 1)
            case rel => exact ⟨k + 1, by omega, by go_num, by rw [HE2.out]; exact congrArg Value.string HADD.out, HB6.out⟩
            case measure => omega
          · have H3 := Lib.hid (fun W => hrtext_l x4 W (by omega))
            have hres : E1 ++ Oct.text x4 = E2 := by rw [← HEF.out]; rfl
            have hadd : ofL E1 ++ ofL (Oct.text x4) = ofL E2 := by rw [ofL_app, hres]
            have hs1 : (ofL E1).size ≤ 2000 := by rw [ofL_size]; exact hz
            have hs2 : (ofL (Oct.text x4)).size ≤ 2000 := by rw [ofL_size]; unfold Oct.text; rw [List.length_append, Oct.length_be]; omega
            have HADD := Lib.hid hadd
            clear hres hadd
            go_wp2_with fail
            refine (H3.out _).mono ?_
            rintro e w5 ⟨rfl, b5⟩
            have HB6 := Lib.hid (bthen HB5.out b5 (Nat.le_refl _))
            clear b5
            go_wp2_with fail
            go_roundg (gk - 1)
            case rel => exact ⟨k + 1, by omega, by go_num, by rw [HE2.out]; exact congrArg Value.string HADD.out, HB6.out⟩
            case measure => omega
          · have H3 := Lib.hid (fun W => hrnum_l (Hd.n64 x3) 1 1 W (Hd.n64_lt x3) (by omega) rfl)
            have hres : E1 ++ Oct.be 1 (Hd.n64 x3) = E2 := by rw [← HEF.out]; rfl
            have hadd : ofL E1 ++ ofL (Oct.be 1 (Hd.n64 x3)) = ofL E2 := by rw [ofL_app, hres]
            have hs1 : (ofL E1).size ≤ 2000 := by rw [ofL_size]; exact hz
            have hs2 : (ofL (Oct.be 1 (Hd.n64 x3))).size ≤ 2000 := by rw [ofL_size]; rw [Oct.length_be]; omega
            have HADD := Lib.hid hadd
            clear hres hadd
            go_wp2_with fail
            refine (H3.out _).mono ?_
            rintro e w5 ⟨rfl, b5⟩
            have HB6 := Lib.hid (bthen HB5.out b5 (Nat.le_refl _))
            clear b5
            go_wp2_with fail
            go_roundg (gk - 1)
            case rel => exact ⟨k + 1, by omega, by go_num, by rw [HE2.out]; exact congrArg Value.string HADD.out, HB6.out⟩
            case measure => omega
    · have hkn : n ≤ k := by omega
      have HE := Lib.hid (HALL.out k hkn)
      clear hkn
      go_wp2_with fail
      go_ret
      exact ⟨by first | (rw [HE.out]; done) | (rw [HE.out]; rfl), HBK.out⟩
end Go.Proofs.YtnjlhafhgfpfiaaGreatDoor
end
