/-
  THE DOCUMENT's OWN FRAMES, walked: their bytes, and the frame that bytes begin with.
-/
import Derived.Test.YtnjlhafhgfpfiaaGreatDoorRb20
import Derived.Test.YtnjlhafhgfpfiaaGreatDoorRb38
import Derived.Deep.QuietTactic
import Derived.BigQuiet
section
namespace Go.Proofs.YtnjlhafhgfpfiaaGreatDoor
open Go.ChangeShapes Go.WideShapes Go.ChangeAt Go.RowKit
theorem qrb39a (l : List Value) (i : Nat) (v : Value) : l.toArray.setIfInBounds i v = (l.set i v).toArray := by simp
theorem qrb39b (v u : Value) (l : List Value) : (v :: l).set 0 u = u :: l := rfl
theorem qrb39c (v u : Value) (n : Nat) (l : List Value) : (v :: l).set (n + 1) u = v :: l.set n u := rfl
theorem rnum_l (n k : Nat) (b : Int) (w : World) (hn : n < 18446744073709551616) (hk : k ≤ 8) (hb : b = (k : Int)) :
    Calls Tryz.prog 49 #[.int .u64 (n : Int), .int .i64 b] w fun x w' => x = .returned (.string (ofL (Oct.be k n))) ∧ Below w.heap.size w w' := by
  subst hb
  have h := rnum_any (k : Int) n w hn
  rw [Oct.width_num k hk] at h
  exact h
theorem rtext_l (s : List UInt8) (w : World) (hs : s.length ≤ 65535) :
    Calls Tryz.prog 48 #[.string (ofL s)] w fun x w' => x = .returned (.string (ofL (Oct.be 2 s.length ++ s))) ∧ Below w.heap.size w w' := by
  have h := rtext_any (ofL s) w (by rw [ofL_size]; exact hs)
  have e : textB (ofL s) = ofL (Oct.be 2 s.length ++ s) := by
    unfold textB
    rw [ofL_size, show ByteArray.mk (Oct.be 2 s.length).toArray = ofL (Oct.be 2 s.length) from rfl, ofL_app]
  rw [e] at h
  exact h
theorem rsum_l (s : List UInt8) (w : World) (hs : s.length ≤ 100000) :
    Calls Tryz.prog 50 #[.string (ofL s)] w fun e w' => e = .returned (.int .u32 ((Crc.sum s : Nat) : Int)) ∧ w = w' := rsum_any (ofL s) w (by rw [ofL_size]; exact hs)
theorem conv_two (c k : UInt8) (W : World) (g cap : Nat) (h0 : W.cell? ⟨g, 0, none⟩ = some (.int .u8 (c.toNat : Int))) (h1 : W.cell? ⟨g, 1, none⟩ = some (.int .u8 (k.toNat : Int))) :
    (convert 61 9 (.slice (some ⟨g, 0, none⟩) 2 cap)).run Tryz.prog W = .ok (.string (ofL [c, k])) W := by
  have hb := run_convert_bytes_back (P := Tryz.prog) W 61 9 5 ⟨g, 0, none⟩ cap [c, k] Tryz.underlying61 Tryz.underlying5 Tryz.underlying9 (fun j hj => by
    match j, hj with
    | 0, _ => exact h0
    | 1, _ =>
      have ea : (⟨g, 0, none⟩ : Addr).add 1 = ⟨g, 1, none⟩ := rfl
      rw [ea]; exact h1)
  exact hb
set_option maxRecDepth 100000 in
set_option maxHeartbeats 4000000 in
theorem rbytes_any (c k : UInt8) (b : List UInt8) (w : World) (hb : b.length ≤ 2048) :
    Calls Tryz.prog 28 #[.agg #[.int .u8 (c.toNat : Int), .int .u8 (k.toNat : Int), .string (ofL b)]] w fun e w' => e = .returned (.string (ofL (Fr.enc c k b))) ∧ Below w.heap.size w w' := by
  have hz : (ofL b).size = b.length := ofL_size b
  have H1 := Lib.hid (fun W => rtext_l b W (by omega))
  have ha : ofL [c, k] ++ ofL (Oct.be 2 b.length ++ b) = ofL (Fr.ahead c k b) := by rw [ofL_app]; rfl
  have hal : (Fr.ahead c k b).length = b.length + 4 := by rw [Fr.ahead_eq]; simp
  have H2 := Lib.hid (fun W => rsum_l (Fr.ahead c k b) W (by omega))
  have hs := Crc.sum_lt (Fr.ahead c k b)
  have H3 := Lib.hid (fun W => rnum_l (Crc.sum (Fr.ahead c k b)) 4 4 W (by omega) (by omega) rfl)
  have he : ofL (Fr.ahead c k b) ++ ofL (Oct.be 4 (Crc.sum (Fr.ahead c k b))) ++ (⟨#[206]⟩ : ByteArray) = ofL (Fr.enc c k b) := by
    rw [ofL_app, show (⟨#[206]⟩ : ByteArray) = ofL [206] from rfl, ofL_app, List.append_assoc]; rfl
  have t1 : (ofL (Oct.be 2 b.length ++ b)).size ≤ 3000 := by rw [ofL_size, List.length_append, Oct.length_be]; omega
  have t2 : (ofL (Fr.ahead c k b)).size ≤ 3000 := by rw [ofL_size]; omega
  have t3 : (ofL (Oct.be 4 (Crc.sum (Fr.ahead c k b)))).size ≤ 8 := by rw [ofL_size, Oct.length_be]; omega
  generalize Oct.be 4 (Crc.sum (Fr.ahead c k b)) = B4 at *
  generalize Crc.sum (Fr.ahead c k b) = S at *
  generalize Fr.ahead c k b = A1 at *
  generalize Fr.enc c k b = E at *
  generalize Oct.be 2 b.length ++ b = T at *
  have hc2 := conv_two c k
  have hck : (ofL [c, k]).size ≤ 8 := by rw [ofL_size]; simp
  generalize ofL [c, k] = CK at *
  have hc := c.toNat_lt
  have hk := k.toNat_lt
  generalize c.toNat = cn at *
  generalize k.toNat = kn at *
  have HA := Lib.hid ha
  have HE := Lib.hid he
  clear ha he hal
  have HF := Lib.hid (FrmAt.start (cn : Int) (kn : Int) b w 71)
  go_enter Tryz.func28, Tryz.ntmps28
  have hcat : ¬ (9223372036854775807 < CK.size + (ofL T).size) := by omega
  go_upto_region 1 with fail
  go_cut [3] (fun s3 wx => s3 = .string (ofL A1) ∧ Below w.heap.size w wx)
  case first =>
    refine wp_region_noPanic ?_
    refine wp_region_held_drew (S := fun a => a.cell? ⟨w.heap.size, 0, none⟩ = some (.int .u8 (cn : Int)) ∧ a.cell? ⟨w.heap.size, 1, none⟩ = some (.int .u8 (kn : Int)) ∧ a.cell? ⟨w.heap.size, 2, none⟩ = some (.string (ofL b)) ∧ FrmAt (cn : Int) (kn : Int) b w a) (by kernel_rfl) ?_ (fun hHeld => ?_)
    · (try dsimp only); (first | assumption | exact (HF.out.on (Below.refl _ _).drew).six | exact FrmS.on (by assumption) hb2 | exact FrmS.on (by assumption) ((Below.refl _ _).alloc (Nat.le_refl _) _))
    refine wpAnyH_take (i := 0) (v := ?_) rfl (by kernel_rfl) (by kernel_rfl) (by kernel_rfl) (fun _ _ _ h => h) (Or.inl ⟨by rfl, ?_⟩) (by assumption) ?_
    rotate_left
    · intro w hSw; (try dsimp only at hSw); go_simp; try with_reducible rfl
    (try simp only [List.getElem_toArray, List.getElem_cons_zero, Act.put, qrb39a, qrb39b, qrb39c])
    refine wpAnyH_take (i := 1) (v := ?_) rfl (by kernel_rfl) (by kernel_rfl) (by kernel_rfl) (fun _ _ _ h => h) (Or.inl ⟨by rfl, ?_⟩) (by assumption) ?_
    rotate_left
    · intro w hSw; (try dsimp only at hSw); go_simp; try with_reducible rfl
    (try simp only [List.getElem_toArray, List.getElem_cons_succ, List.getElem_cons_zero, Act.put, qrb39a, qrb39b, qrb39c])
    refine wpAnyH_take (i := 2) (v := ?_) rfl (by kernel_rfl) (by kernel_rfl) (by kernel_rfl) (fun _ _ _ h => h) (Or.inl ⟨by rfl, ?_⟩) (by assumption) ?_
    rotate_left
    · intro w hSw; (try dsimp only at hSw); go_simp; try with_reducible rfl
    (try simp only [List.getElem_toArray, List.getElem_cons_succ, List.getElem_cons_zero, Act.put, qrb39a, qrb39b, qrb39c])
    refine wpAnyH_take (i := 3) (v := ?_) rfl (by kernel_rfl) (by kernel_rfl) (by kernel_rfl) (fun _ _ _ h => h) (Or.inl ⟨by rfl, ?_⟩) (by assumption) ?_
    rotate_left
    · intro w hSw; (try dsimp only at hSw); go_simp; try with_reducible rfl
    (try simp only [List.getElem_toArray, List.getElem_cons_succ, List.getElem_cons_zero, Act.put, qrb39a, qrb39b, qrb39c])
    refine wpAnyH_take (i := 6) (v := ?_) rfl (by kernel_rfl) (by kernel_rfl) (by kernel_rfl) (fun _ _ _ h => h) (Or.inl ⟨by rfl, ?_⟩) (by assumption) ?_
    rotate_left
    · intro w hSw; (try dsimp only at hSw); go_simp; try with_reducible rfl
    (try simp only [List.getElem_toArray, List.getElem_cons_succ, List.getElem_cons_zero, Act.put, qrb39a, qrb39b, qrb39c])
    refine wpAnyH_take (i := 7) (v := ?_) rfl (by kernel_rfl) (by kernel_rfl) (by kernel_rfl) (fun _ _ _ h => h) (Or.inl ⟨by rfl, ?_⟩) (by assumption) ?_
    rotate_left
    · intro w hSw; (try dsimp only at hSw); go_simp; try with_reducible rfl
    (try simp only [List.getElem_toArray, List.getElem_cons_succ, List.getElem_cons_zero, Act.put, qrb39a, qrb39b, qrb39c])
    refine wpAnyH_ready (rs := [4, 8]) (by kernel_rfl) (by simp) ?_
    refine AllReadyH.cons rfl (fun K hK => ?_) (AllReadyH.cons rfl (fun K hK => ?_) (AllReadyH.nil))
    · go_simp
      refine hK.out _ _ ?_ (fun hHeld => ?_)
      · (try dsimp only); (first | assumption | exact (HF.out.on (Below.refl _ _).drew).six | exact FrmS.on (by assumption) hb2 | exact FrmS.on (by assumption) ((Below.refl _ _).alloc (Nat.le_refl _) _))
      clear hK K
      (try simp only [List.getElem_toArray, List.getElem_cons_succ, List.getElem_cons_zero, Act.put, qrb39a, qrb39b, qrb39c])
      refine wpAnyH_ready (rs := [5, 8]) (by kernel_rfl) (by simp) ?_
      refine AllReadyH.cons rfl (fun K hK => ?_) (AllReadyH.cons rfl (fun K hK => ?_) (AllReadyH.nil))
      · go_simp
        refine hK.out _ _ ?_ (fun hHeld => ?_)
        · (try dsimp only); (first | assumption | exact (HF.out.on (Below.refl _ _).drew).six | exact FrmS.on (by assumption) hb2 | exact FrmS.on (by assumption) ((Below.refl _ _).alloc (Nat.le_refl _) _))
        clear hK K
        (try simp only [List.getElem_toArray, List.getElem_cons_succ, List.getElem_cons_zero, Act.put, qrb39a, qrb39b, qrb39c])
        refine wpAnyH_ready (rs := [8]) (by kernel_rfl) (by simp) ?_
        refine AllReadyH.cons rfl (fun K hK => ?_) (AllReadyH.nil)
        · go_simp
          (go_at_call 48; ((with_reducible refine (H1.out _).mono ?_); rintro e' wa ⟨rfl, hb2⟩); obtain ⟨kc, kf⟩ := bcell hb2; have z1 := hb2.size; (try simp at z1); (try have y1 := Nat.lt_of_succ_le z1))
          refine hK.out _ _ ?_ (fun hHeld => ?_)
          · (try dsimp only); (first | assumption | exact (HF.out.on (Below.refl _ _).drew).six | exact FrmS.on (by assumption) hb2 | exact FrmS.on (by assumption) ((Below.refl _ _).alloc (Nat.le_refl _) _))
          clear hK K
          (try simp only [List.getElem_toArray, List.getElem_cons_succ, List.getElem_cons_zero, Act.put, qrb39a, qrb39b, qrb39c])
          refine wpAnyH_ready (rs := [9]) (by kernel_rfl) (by simp) ?_
          refine AllReadyH.cons rfl (fun K hK => ?_) (AllReadyH.nil)
          · go_simp
            refine hK.out _ _ ?_ (fun hHeld => ?_)
            · (try dsimp only); (first | assumption | exact (HF.out.on (Below.refl _ _).drew).six | exact FrmS.on (by assumption) hb2 | exact FrmS.on (by assumption) ((Below.refl _ _).alloc (Nat.le_refl _) _))
            clear hK K
            (try simp only [List.getElem_toArray, List.getElem_cons_succ, List.getElem_cons_zero, Act.put, qrb39a, qrb39b, qrb39c])
            refine wpAnyH_take (i := 10) (v := ?_) rfl (by kernel_rfl) (by kernel_rfl) (by kernel_rfl) (fun _ _ _ h => h) (Or.inl ⟨by rfl, ?_⟩) (by assumption) ?_
            rotate_left
            · intro w hSw; (try dsimp only at hSw); go_simp; try with_reducible rfl
            (try simp only [List.getElem_toArray, List.getElem_cons_succ, List.getElem_cons_zero, Act.put, qrb39a, qrb39b, qrb39c])
            refine wpAnyH_done (by kernel_rfl) ?_ _
            refine NoPanic.normal ?_
            have hbl := hHeld.2.2.2.below
            go_wp2_with fail
            go_meet
            exact ⟨by rw [HA.out], hbl⟩
      · go_simp
        (go_at_call 48; ((with_reducible refine (H1.out _).mono ?_); rintro e' wa ⟨rfl, hb2⟩); obtain ⟨kc, kf⟩ := bcell hb2; have z1 := hb2.size; (try simp at z1); (try have y1 := Nat.lt_of_succ_le z1))
        refine hK.out _ _ ?_ (fun hHeld => ?_)
        · (try dsimp only); (first | assumption | exact (HF.out.on (Below.refl _ _).drew).six | exact FrmS.on (by assumption) hb2 | exact FrmS.on (by assumption) ((Below.refl _ _).alloc (Nat.le_refl _) _))
        clear hK K
        (try simp only [List.getElem_toArray, List.getElem_cons_succ, List.getElem_cons_zero, Act.put, qrb39a, qrb39b, qrb39c])
        refine wpAnyH_ready (rs := [5]) (by kernel_rfl) (by simp) ?_
        refine AllReadyH.cons rfl (fun K hK => ?_) (AllReadyH.nil)
        · go_simp
          refine hK.out _ _ ?_ (fun hHeld => ?_)
          · (try dsimp only); (first | assumption | exact (HF.out.on (Below.refl _ _).drew).six | exact FrmS.on (by assumption) hb2 | exact FrmS.on (by assumption) ((Below.refl _ _).alloc (Nat.le_refl _) _))
          clear hK K
          (try simp only [List.getElem_toArray, List.getElem_cons_succ, List.getElem_cons_zero, Act.put, qrb39a, qrb39b, qrb39c])
          refine wpAnyH_ready (rs := [9]) (by kernel_rfl) (by simp) ?_
          refine AllReadyH.cons rfl (fun K hK => ?_) (AllReadyH.nil)
          · go_simp
            refine hK.out _ _ ?_ (fun hHeld => ?_)
            · (try dsimp only); (first | assumption | exact (HF.out.on (Below.refl _ _).drew).six | exact FrmS.on (by assumption) hb2 | exact FrmS.on (by assumption) ((Below.refl _ _).alloc (Nat.le_refl _) _))
            clear hK K
            (try simp only [List.getElem_toArray, List.getElem_cons_succ, List.getElem_cons_zero, Act.put, qrb39a, qrb39b, qrb39c])
            refine wpAnyH_take (i := 10) (v := ?_) rfl (by kernel_rfl) (by kernel_rfl) (by kernel_rfl) (fun _ _ _ h => h) (Or.inl ⟨by rfl, ?_⟩) (by assumption) ?_
            rotate_left
            · intro w hSw; (try dsimp only at hSw); go_simp; try with_reducible rfl
            (try simp only [List.getElem_toArray, List.getElem_cons_succ, List.getElem_cons_zero, Act.put, qrb39a, qrb39b, qrb39c])
            refine wpAnyH_done (by kernel_rfl) ?_ _
            refine NoPanic.normal ?_
            have hbl := hHeld.2.2.2.below
            go_wp2_with fail
            go_meet
            exact ⟨by rw [HA.out], hbl⟩
    · go_simp
      (go_at_call 48; ((with_reducible refine (H1.out _).mono ?_); rintro e' wa ⟨rfl, hb2⟩); obtain ⟨kc, kf⟩ := bcell hb2; have z1 := hb2.size; (try simp at z1); (try have y1 := Nat.lt_of_succ_le z1))
      refine hK.out _ _ ?_ (fun hHeld => ?_)
      · (try dsimp only); (first | assumption | exact (HF.out.on (Below.refl _ _).drew).six | exact FrmS.on (by assumption) hb2 | exact FrmS.on (by assumption) ((Below.refl _ _).alloc (Nat.le_refl _) _))
      clear hK K
      (try simp only [List.getElem_toArray, List.getElem_cons_succ, List.getElem_cons_zero, Act.put, qrb39a, qrb39b, qrb39c])
      refine wpAnyH_ready (rs := [4]) (by kernel_rfl) (by simp) ?_
      refine AllReadyH.cons rfl (fun K hK => ?_) (AllReadyH.nil)
      · go_simp
        refine hK.out _ _ ?_ (fun hHeld => ?_)
        · (try dsimp only); (first | assumption | exact (HF.out.on (Below.refl _ _).drew).six | exact FrmS.on (by assumption) hb2 | exact FrmS.on (by assumption) ((Below.refl _ _).alloc (Nat.le_refl _) _))
        clear hK K
        (try simp only [List.getElem_toArray, List.getElem_cons_succ, List.getElem_cons_zero, Act.put, qrb39a, qrb39b, qrb39c])
        refine wpAnyH_ready (rs := [5]) (by kernel_rfl) (by simp) ?_
        refine AllReadyH.cons rfl (fun K hK => ?_) (AllReadyH.nil)
        · go_simp
          refine hK.out _ _ ?_ (fun hHeld => ?_)
          · (try dsimp only); (first | assumption | exact (HF.out.on (Below.refl _ _).drew).six | exact FrmS.on (by assumption) hb2 | exact FrmS.on (by assumption) ((Below.refl _ _).alloc (Nat.le_refl _) _))
          clear hK K
          (try simp only [List.getElem_toArray, List.getElem_cons_succ, List.getElem_cons_zero, Act.put, qrb39a, qrb39b, qrb39c])
          refine wpAnyH_ready (rs := [9]) (by kernel_rfl) (by simp) ?_
          refine AllReadyH.cons rfl (fun K hK => ?_) (AllReadyH.nil)
          · go_simp
            refine hK.out _ _ ?_ (fun hHeld => ?_)
            · (try dsimp only); (first | assumption | exact (HF.out.on (Below.refl _ _).drew).six | exact FrmS.on (by assumption) hb2 | exact FrmS.on (by assumption) ((Below.refl _ _).alloc (Nat.le_refl _) _))
            clear hK K
            (try simp only [List.getElem_toArray, List.getElem_cons_succ, List.getElem_cons_zero, Act.put, qrb39a, qrb39b, qrb39c])
            refine wpAnyH_take (i := 10) (v := ?_) rfl (by kernel_rfl) (by kernel_rfl) (by kernel_rfl) (fun _ _ _ h => h) (Or.inl ⟨by rfl, ?_⟩) (by assumption) ?_
            rotate_left
            · intro w hSw; (try dsimp only at hSw); go_simp; try with_reducible rfl
            (try simp only [List.getElem_toArray, List.getElem_cons_succ, List.getElem_cons_zero, Act.put, qrb39a, qrb39b, qrb39c])
            refine wpAnyH_done (by kernel_rfl) ?_ _
            refine NoPanic.normal ?_
            have hbl := hHeld.2.2.2.below
            go_wp2_with fail
            go_meet
            exact ⟨by rw [HA.out], hbl⟩
  case rest =>
    obtain ⟨rfl, hB⟩ := hcut
    have HB := Lib.hid hB
    clear hB
    go_wp2_with fail
    refine (H2.out _).mono ?_
    rintro x w1 ⟨rfl, rfl⟩
    go_wp2_with fail
    refine (H3.out _).mono ?_
    rintro x w2 ⟨rfl, b2⟩
    have B2 := Lib.hid (bthen HB.out b2 (Nat.le_refl _))
    clear b2
    go_wp2_with fail
    go_ret
    exact ⟨ret_str HE.out, B2.out⟩
end Go.Proofs.YtnjlhafhgfpfiaaGreatDoor
end
