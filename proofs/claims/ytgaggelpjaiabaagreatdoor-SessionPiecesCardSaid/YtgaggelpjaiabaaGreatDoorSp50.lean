/-
  THE LAW SessionPieces: walked.
-/
import Derived.Test.YtgaggelpjaiabaaGreatDoorSp28
import Derived.Test.YtgaggelpjaiabaaGreatDoorSp42
import Derived.Test.YtgaggelpjaiabaaGreatDoorSp49

section
namespace Go.Proofs.YtgaggelpjaiabaaGreatDoor
open Go.ChangeShapes Go.WideShapes Go.ChangeAt Go.RowKit
theorem qsp50a (l : List Value) (i : Nat) (v : Value) : l.toArray.setIfInBounds i v = (l.set i v).toArray := by simp
theorem qsp50b (v u : Value) (l : List Value) : (v :: l).set 0 u = u :: l := rfl
theorem qsp50c (v u : Value) (n : Nat) (l : List Value) : (v :: l).set (n + 1) u = v :: l.set n u := rfl
theorem me_sizeS : (Tryz.prog.info? 25).map (·.size) = some 10 := by kernel_rfl
theorem me_allS (y : Me) (A : Option Addr) (c : Nat) : (meL y A c).toArray.all (·.oneCell') = true := all_oneCell_toArray (mq_one ⟨y, A, c⟩)
theorem mqs_elt {w : World} {A : Option Addr} {l : List Mq} (h : Mqs w A l) {i : Nat} (hi : i < l.length) : ∃ b off, A = some ⟨b, off, none⟩ ∧ b < w.heap.size ∧ w.rangeAt b (off + i * 10) (mqL l[i]) ∧ Prs w l[i].A l[i].x.head := by
  obtain ⟨b, off, e, hb, hc⟩ := Rws.elt mqL 10 (fun _ => rfl) (by decide) h.row hi
  exact ⟨b, off, e, hb, fun j v hj => hc j v hj, h.ok _ (List.getElem_mem hi)⟩
/-- all at once, and in two pieces: what the two tell -/
theorem pieces {s : List UInt8} {K : Nat} {R R1 : List Fr.Frame × List UInt8 × Nat} (hR : R = Fr.feed s) (hR1 : R1 = Fr.feed (s.take K)) (hf : stC R1 ≠ 0) : stC R ≠ 0 ∧ (oks R.1).1.length = (oks R1.1).1.length := by
  have hT := Fr.take_feed (s.take K) (s.drop K)
  rw [List.take_append_drop, ← hR, ← hR1] at hT
  by_cases h0 : (oks R1.1).2 = 0
  · have h1 : stC R1 = (R1.2.2 : Int) := by unfold stC; rw [if_neg (by simpa using h0)]
    have h2 : R1.2.2 ≠ 0 := fun e => hf (by rw [h1, e]; rfl)
    have h3 : Fr.take R1.2.1 R1.2.2 (s.drop K) = ([], R1.2.1, R1.2.2) := by unfold Fr.take; rw [if_pos h2]
    rw [h3] at hT
    simp only [List.append_nil] at hT
    have hRR : R = R1 := hT
    rw [hRR]
    exact ⟨hf, rfl⟩
  · have h1 : oks R.1 = oks R1.1 := by rw [hT, oks_append, if_neg h0]
    refine ⟨?_, by rw [h1]⟩
    unfold stC
    rw [h1, if_pos h0]
    exact h0
theorem pieces2 {s : List UInt8} {K : Nat} {R R1 T : List Fr.Frame × List UInt8 × Nat} (hR : R = Fr.feed s) (hR1 : R1 = Fr.feed (s.take K)) (hf : stC R1 = 0) (hTT : T = Fr.feed (R1.2.1 ++ s.drop K)) : R1.2.2 = 0 ∧ stC R = stC T ∧ (oks R.1).1 = (oks R1.1).1 ++ (oks T.1).1 := by
  have hT := Fr.take_feed (s.take K) (s.drop K)
  rw [List.take_append_drop, ← hR, ← hR1] at hT
  have h0 : (oks R1.1).2 = 0 := by
    by_cases h : (oks R1.1).2 = 0
    · exact h
    · unfold stC at hf
      rw [if_pos h] at hf
      exact absurd hf h
  have h1 : R1.2.2 = 0 := by
    unfold stC at hf
    rw [if_neg (by simpa using h0)] at hf
    omega
  have h3 : Fr.take R1.2.1 R1.2.2 (s.drop K) = T := by unfold Fr.take; rw [if_neg (by simpa using h1), hTT]
  rw [h3] at hT
  have h4 : oks R.1 = ((oks R1.1).1 ++ (oks T.1).1, (oks T.1).2) := by rw [hT, oks_append, if_pos h0]
  refine ⟨h1, ?_, by rw [h4]⟩
  have h5 : R.2 = T.2 := by rw [hT]
  unfold stC
  rw [h4, h5]
theorem oks_le (l : List Fr.Frame) : (oks l).1.length ≤ l.length := by
  induction l with
  | nil => exact Nat.le_refl _
  | cons f l ih =>
    by_cases h : Me.rcode f.c f.k f.b = 0
    · rw [oks_ok h]
      simp only [List.length_cons]
      omega
    · rw [oks_no h]
      exact Nat.zero_le _
set_option maxRecDepth 100000 in
set_option maxHeartbeats 32000000 in
theorem sessionPieces_walk (s : List UInt8) (at' : Nat) (w : World) (_ha : at' < 65536) (hT : Tab w) (hL : Len w) :
    Calls Tryz.prog 4 #[.string (ofL s), .int .u16 (at' : Int)] w fun e w' => e = .returned (.bool true) ∧ Below w.heap.size w w' := by
  have HAW := Lib.hid (awake28_any w hT hL)
  have HT0 := Lib.hid hT
  have HL0 := Lib.hid hL
  have hsz : (ofL s).size = s.length := ofL_size s
  clear hT hL
  by_cases h6 : 600 < s.length
  · have hd : decide ((s.length : Int) > 600) = true := decide_eq_true (by omega)
    have hdn : decide (600 < s.length) = true := decide_eq_true h6
    go_enter Tryz.func4, Tryz.ntmps4
    go_wp2_with fail
    refine HAW.out.mono ?_
    rintro e w1 ⟨rfl, b1⟩
    have HB1 := Lib.hid b1
    clear b1
    go_wp2_with fail
    go_ret
    exact ⟨rfl, HB1.out⟩
  · have hd : decide ((s.length : Int) > 600) = false := decide_eq_false (by omega)
    have hdn : decide (600 < s.length) = false := decide_eq_false h6
    obtain ⟨K, hK, hKl⟩ : ∃ K : Nat, (at' : Int) % ((s.length : Int) + 1) = (K : Int) ∧ K < s.length + 1 := ⟨at' % (s.length + 1), by rw [Int.natCast_emod, Int.natCast_add]; rfl, Nat.mod_lt _ (by omega)⟩
    have s1 := fun W => slice_to_l (P := Tryz.prog) Tryz.underlying9 s .i64 (K : Int) K rfl (by omega) W
    have s2 := fun W => slice_from_l (P := Tryz.prog) Tryz.underlying9 s .i64 (K : Int) K rfl (by omega) W
    obtain ⟨R, hR⟩ : ∃ R, R = Fr.feed s := ⟨_, rfl⟩
    obtain ⟨R1, hR1⟩ : ∃ R, R = Fr.feed (s.take K) := ⟨_, rfl⟩
    obtain ⟨TT, hTT⟩ : ∃ R, R = Fr.feed (R1.2.1 ++ s.drop K) := ⟨_, rfl⟩
    have HPN := Lib.hid (fun h => pieces hR hR1 h)
    have HPY := Lib.hid (fun h => pieces2 hR hR1 h hTT)
    have hr1l : R1.2.1.length ≤ 600 := by rw [hR1]; have h1 := Fr.feed_rest_le (s.take K); rw [List.length_take] at h1; omega
    have HNW := Lib.hid (fun W => show Calls Tryz.prog 9 #[.string ⟨#[108, 111, 119]⟩] W fun e w' => e = .returned (seV lw [] 0 false false) ∧ Below W.heap.size W w' from seNew_any lw W)
    have HTK0 := Lib.hid (fun W h1 h2 => seTake_any lw [] s false W (by simp; omega) h1 h2)
    have HTK1 := Lib.hid (fun W h1 h2 => seTake_any lw [] (s.take K) false W (by simp; omega) h1 h2)
    have HTK2 := Lib.hid (fun W h1 h2 => show Calls Tryz.prog 15 #[.agg (seL lw R1.2.1 0 false false).toArray, .string (ofL (s.drop K))] W (SeTkPost lw false (Fr.feed (R1.2.1 ++ s.drop K)) W) from seTake_any lw R1.2.1 (s.drop K) false W (by rw [List.length_drop]; omega) h1 h2)
    rw [List.nil_append, ← hR] at HTK0
    rw [List.nil_append, ← hR1] at HTK1
    rw [← hTT] at HTK2
    have hz1 : (ofL (s.take K)).size ≤ 600 := by rw [ofL_size, List.length_take]; omega
    have hz2 : (ofL (s.drop K)).size ≤ 600 := by rw [ofL_size, List.length_drop]; omega
    have HLN0 := Lib.hid (show (oks R.1).1.length ≤ 600 by have h1 := oks_le R.1; have h2 := Fr.feed_count s; rw [← hR] at h2; omega)
    have hle : s.length ≤ 600 := by omega
    clear hR hR1 hTT h6 hr1l
    generalize s.take K = sa at *
    generalize s.drop K = sb at *
    go_enter Tryz.func4, Tryz.ntmps4
    go_wp2_with fail
    refine HAW.out.mono ?_
    rintro e w1 ⟨rfl, b1⟩
    have HB1 := Lib.hid b1
    clear b1
    go_wp2_with fail
    refine (HNW.out _).mono ?_
    rintro e w1a ⟨rfl, b1⟩
    have HB1a := Lib.hid (bthen HB1.out b1 (Nat.le_refl _))
    clear b1
    go_wp2_with fail
    refine (HTK0.out _ (tab_onS HT0.out HB1a.out) (HL0.out.on HB1a.out)).mono ?_
    rintro e w2 ⟨A0, c0, q0, rfl, hcq, hqm, hmq, -, b2⟩
    have HM0 := Lib.hid hqm
    have HB2 := Lib.hid (bthen HB1a.out b2 (Nat.le_refl _))
    have HX3 := Lib.hid (rtOne w2 (.cells (seL lw R.2.1 R.2.2 false false).toArray 45))
    have HB3 := Lib.hid (bthen HB2.out HX3.out (Nat.le_refl _))
    have HQ0 := Lib.hid (hmq.on HX3.out)
    clear hcq hqm hmq b2
    go_upto_region 7 with (refine wpList_store_new2 (by rfl) 45 _ _ (by rfl) _ (seL lw R.2.1 R.2.2 false false).toArray (by rfl) (by rfl) (by rw [se_size]; rfl) (by rfl) (se_all _ _ _ _ _) ?_)
    generalize w2.alloc (.cells (seL lw R.2.1 R.2.2 false false).toArray 45) = w3 at *
    have HTW := Lib.hid (tab_onS HT0.out HB3.out)
    have HLW := Lib.hid (HL0.out.on HB3.out)
    go_cut [9, 10, 11] (fun s9 s10 s11 wx => ∃ g1 A1 c1 q1, s9 = .pointer (some ⟨g1, 0, none⟩) ∧ s10 = .slice A1 q1.length c1 ∧ s11 = .int .i64 (stC R1) ∧ BoxC w3 g1 (seL lw R1.2.1 R1.2.2 false false) wx ∧ q1.map Mq.x = (oks R1.1).1 ∧ Mqs wx A1 q1 ∧ Below w3.heap.size w3 wx)
    case first =>
      refine wp_region_held_drew (S := fun a => Below (w3.heap.size) w3 a) (by kernel_rfl) (by (try dsimp only); exact (Below.refl _ _).drew) (fun hHeld => ?_)
      refine wpAnyH_take (i := 1) (oi := ⟨some 37, .move (.tmp 0), 9, "law.go:235", #[], none⟩) (v := ?_) rfl (by kernel_rfl) (by kernel_rfl) (by kernel_rfl) (fun _ _ _ h => h) (Or.inl ⟨by rfl, ?_⟩) (by assumption) ?_
      rotate_left 1
      · intro wS hSw; (try dsimp only at hSw); go_simp; try with_reducible rfl
      try simp only [Act.put, qsp50a, qsp50b, qsp50c]
      refine wpAnyH_take (i := 2) (oi := ⟨some 38, .move (.tmp 5), 3, "law.go:235", #[], none⟩) (v := ?_) rfl (by kernel_rfl) (by kernel_rfl) (by kernel_rfl) (fun _ _ _ h => h) (Or.inl ⟨by rfl, ?_⟩) (by assumption) ?_
      rotate_left 1
      · intro wS hSw; (try dsimp only at hSw); go_simp; try with_reducible rfl
      try simp only [Act.put, qsp50a, qsp50b, qsp50c]
      refine wpAnyH_take (i := 3) (oi := ⟨some 39, .slice 9 (.tmp 37) none (some (.tmp 38)) none, 9, "law.go:235", #[⟨1, .data⟩, ⟨2, .data⟩], none⟩) (v := ?_) rfl (by kernel_rfl) (by kernel_rfl) (by kernel_rfl) (fun _ _ _ h => h) (Or.inl ⟨by rfl, ?_⟩) (by assumption) ?_
      rotate_left 1
      · intro wS hSw; (try dsimp only at hSw); go_simp; try with_reducible rfl
      try simp only [Act.put, qsp50a, qsp50b, qsp50c]
      refine wpAnyH_ready (rs := [0, 9]) (by kernel_rfl) (by simp) ?_
      refine AllReadyH.cons (o := ⟨some 36, .call { callee := .value (.func 9), args := #[.const (.string { data := #[108, 111, 119] })], argTypes := #[9] }, 45, "law.go:235", #[], none⟩) rfl (fun K hK => ?_) (AllReadyH.cons (o := ⟨some 9, .alloc 45, 0, "law.go:235", #[], none⟩) rfl (fun K hK => ?_) (AllReadyH.nil))
      · skip
        go_simp
        go_at_call 9
        refine (HNW.out _).mono ?_
        rintro e wx ⟨rfl, hb2⟩
        try replace HZ := Lib.hid (HZ.out.on hb2)
        refine hK.out _ _ (bthen hHeld hb2 (Nat.le_refl _)) (fun hHeld2 => ?_)
        clear hK K hHeld hb2
        have hHeld := hHeld2
        clear hHeld2
        try simp only [Act.put, qsp50a, qsp50b, qsp50c]
        refine wpAnyH_ready (rs := [4, 9]) (by kernel_rfl) (by simp) ?_
        refine AllReadyH.cons (o := ⟨some 40, .call { callee := .value (.func 15), args := #[.tmp 36, .tmp 39], argTypes := #[45, 9] }, 57, "law.go:235", #[⟨0, .data⟩, ⟨3, .data⟩, ⟨0, .chain⟩], none⟩) rfl (fun K hK => ?_) (AllReadyH.cons (o := ⟨some 9, .alloc 45, 0, "law.go:235", #[], none⟩) rfl (fun K hK => ?_) (AllReadyH.nil))
        · skip
          go_simp
          go_at_call 15
          refine (HTK1.out _ (tab_onS HTW.out hHeld) (HLW.out.on hHeld)).mono ?_
          rintro e wx ⟨A1, c1, q1, rfl, hcq, hqm, hmq, hfq, hb2⟩
          have HQ1 := Lib.hid hmq
          have HM1 := Lib.hid hqm
          try have HZN := Lib.hid (far_ne hfq HZ.out.lt)
          try replace HZ := Lib.hid (HZ.out.on hb2)
          clear hcq hqm hmq hfq
          refine hK.out _ _ (bthen hHeld hb2 (Nat.le_refl _)) (fun hHeld2 => ?_)
          clear hK K hHeld hb2
          have hHeld := hHeld2
          clear hHeld2
          try simp only [Act.put, qsp50a, qsp50b, qsp50c]
          refine wpAnyH_take (i := 5) (oi := ⟨some 35, .move (.tmp 40), 57, "law.go:235", #[⟨4, .data⟩], none⟩) (v := ?_) rfl (by kernel_rfl) (by kernel_rfl) (by kernel_rfl) (fun _ _ _ h => h) (Or.inl ⟨by rfl, ?_⟩) (by assumption) ?_
          rotate_left 1
          · intro wS hSw; (try dsimp only at hSw); go_simp; try with_reducible rfl
          try simp only [Act.put, qsp50a, qsp50b, qsp50c]
          refine wpAnyH_take (i := 6) (oi := ⟨some 41, .extract (.tmp 35) 0, 45, "law.go:235", #[⟨5, .data⟩], none⟩) (v := ?_) rfl (by kernel_rfl) (by kernel_rfl) (by kernel_rfl) (fun _ _ _ h => h) (Or.inl ⟨by rfl, ?_⟩) (by assumption) ?_
          rotate_left 1
          · intro wS hSw; (try dsimp only at hSw); go_simp; try with_reducible rfl
          try simp only [Act.put, qsp50a, qsp50b, qsp50c]
          refine wpAnyH_take (i := 7) (oi := ⟨some 42, .extract (.tmp 35) 1, 56, "law.go:235", #[⟨5, .data⟩, ⟨10, .gcOnly .lateStores⟩], none⟩) (v := ?_) rfl (by kernel_rfl) (by kernel_rfl) (by kernel_rfl) (fun _ _ _ h => h) (Or.inl ⟨by rfl, ?_⟩) (by assumption) ?_
          rotate_left 1
          · intro wS hSw; (try dsimp only at hSw); go_simp; try with_reducible rfl
          try simp only [Act.put, qsp50a, qsp50b, qsp50c]
          refine wpAnyH_take (i := 8) (oi := ⟨some 43, .extract (.tmp 35) 2, 31, "law.go:235", #[⟨5, .data⟩, ⟨11, .gcOnly .lateStores⟩], none⟩) (v := ?_) rfl (by kernel_rfl) (by kernel_rfl) (by kernel_rfl) (fun _ _ _ h => h) (Or.inl ⟨by rfl, ?_⟩) (by assumption) ?_
          rotate_left 1
          · intro wS hSw; (try dsimp only at hSw); go_simp; try with_reducible rfl
          try simp only [Act.put, qsp50a, qsp50b, qsp50c]
          refine wpAnyH_ready (rs := [9]) (by kernel_rfl) (by simp) ?_
          refine AllReadyH.cons (o := ⟨some 9, .alloc 45, 0, "law.go:235", #[], none⟩) rfl (fun K hK => ?_) (AllReadyH.nil)
          have HAX := Lib.hid (rtOne wx (.cells #[.string ⟨#[]⟩, .string ⟨#[]⟩, .int .i64 0, .bool false, .bool false, .int .i64 0, .slice none 0 0, .slice none 0 0, .bool false, .int .u64 0, .bool false, .slice none 0 0, .bool false, .int .i64 0, .slice none 0 0, .slice none 0 0, .bool false, .int .u64 0, .bool false, .slice none 0 0, .bool false, .int .i64 0, .slice none 0 0, .slice none 0 0, .bool false, .int .u64 0, .bool false, .slice none 0 0, .bool false, .int .i64 0, .slice none 0 0, .slice none 0 0, .bool false, .int .u64 0, .bool false, .slice none 0 0, .bool false] 45))
          have HZ := Lib.hid (BoxC.new (w := w3) (W := wx) hHeld.size #[.string ⟨#[]⟩, .string ⟨#[]⟩, .int .i64 0, .bool false, .bool false, .int .i64 0, .slice none 0 0, .slice none 0 0, .bool false, .int .u64 0, .bool false, .slice none 0 0, .bool false, .int .i64 0, .slice none 0 0, .slice none 0 0, .bool false, .int .u64 0, .bool false, .slice none 0 0, .bool false, .int .i64 0, .slice none 0 0, .slice none 0 0, .bool false, .int .u64 0, .bool false, .slice none 0 0, .bool false, .int .i64 0, .slice none 0 0, .slice none 0 0, .bool false, .int .u64 0, .bool false, .slice none 0 0, .bool false] 45)
          have HQY := HQ1
          go_simp
          refine hK.out _ _ ?_ (fun hHeld2 => ?_)
          · (try dsimp only); first | assumption | exact hHeld.alloc hHeld.size _
          clear hK K hHeld
          have hHeld := hHeld2
          clear hHeld2
          try simp only [Act.put, qsp50a, qsp50b, qsp50c]
          refine wpAnyH_ready (rs := [10]) (by kernel_rfl) (by simp) ?_
          refine AllReadyH.cons (o := ⟨none, .store 45 (.tmp 9) (.tmp 41), 0, "law.go:235", #[⟨9, .data⟩, ⟨6, .data⟩, ⟨4, .chain⟩, ⟨0, .phase⟩, ⟨1, .phase⟩, ⟨2, .phase⟩, ⟨3, .phase⟩, ⟨4, .phase⟩, ⟨5, .phase⟩, ⟨6, .phase⟩, ⟨7, .textOnly .lateStores⟩, ⟨8, .textOnly .lateStores⟩, ⟨9, .phase⟩], none⟩) rfl (fun K hK => ?_) (AllReadyH.nil)
          rw [if_pos (by rfl)]
          refine wp_store_mid 45 _ _ (by rfl) _ 0 (seL lw R1.2.1 R1.2.2 false false).toArray (by rfl) (by rfl) HZ.out.there (by rw [se_size]; rfl) (se_all _ _ _ _ _) ?_
          refine hK.out _ _ ?_ (fun hHeld2 => ?_)
          · (try dsimp only); exact below_setCells3 hHeld HZ.out.ge _ _
          replace HZ := Lib.hid (HZ.out.over (seL lw R1.2.1 R1.2.2 false false) rfl)
          first | (replace HQ1 := Lib.hid (mqs_setCells HQ1.out HZN.out.1 HZN.out.2 (seL lw R1.2.1 R1.2.2 false false) 0)) | (replace HQ1 := Lib.hid (HQY.out.on (below_setCells3 HAX.out (Nat.le_refl _) (seL lw R1.2.1 R1.2.2 false false) 0)))
          clear hK K hHeld
          have hHeld := hHeld2
          clear hHeld2
          try simp only [Act.put]
          refine wpAnyH_take (i := 11) (oi := ⟨some 10, .assign (.tmp 42), 56, "law.go:235", #[⟨7, .data⟩, ⟨10, .chain⟩, ⟨0, .phase⟩, ⟨1, .phase⟩, ⟨2, .phase⟩, ⟨3, .phase⟩, ⟨4, .phase⟩, ⟨5, .phase⟩, ⟨6, .phase⟩, ⟨7, .phase⟩, ⟨8, .textOnly .lateStores⟩, ⟨9, .phase⟩, ⟨10, .phase⟩], none⟩) (v := ?_) rfl (by kernel_rfl) (by kernel_rfl) (by kernel_rfl) (fun _ _ _ h => h) (Or.inl ⟨by rfl, ?_⟩) (by assumption) ?_
          rotate_left 1
          · intro wS hSw; (try dsimp only at hSw); go_simp; try with_reducible rfl
          try simp only [Act.put, qsp50a, qsp50b, qsp50c]
          refine wpAnyH_take (i := 12) (oi := ⟨some 11, .assign (.tmp 43), 31, "law.go:235", #[⟨8, .data⟩, ⟨11, .chain⟩, ⟨0, .phase⟩, ⟨1, .phase⟩, ⟨2, .phase⟩, ⟨3, .phase⟩, ⟨4, .phase⟩, ⟨5, .phase⟩, ⟨6, .phase⟩, ⟨7, .phase⟩, ⟨8, .phase⟩, ⟨9, .phase⟩, ⟨10, .phase⟩, ⟨11, .phase⟩], none⟩) (v := ?_) rfl (by kernel_rfl) (by kernel_rfl) (by kernel_rfl) (fun _ _ _ h => h) (Or.inl ⟨by rfl, ?_⟩) (by assumption) ?_
          rotate_left 1
          · intro wS hSw; (try dsimp only at hSw); go_simp; try with_reducible rfl
          try simp only [Act.put]
          refine wpAnyH_done (by kernel_rfl) ?_ _
          have hZ := hHeld
          clear hHeld
          go_wp2_with fail
          go_meet
          exact ⟨_, A1, c1, q1, rfl, rfl, rfl, HZ.out, HM1.out, HQ1.out, hZ⟩
        · skip
          have HAX := Lib.hid (rtOne wx (.cells #[.string ⟨#[]⟩, .string ⟨#[]⟩, .int .i64 0, .bool false, .bool false, .int .i64 0, .slice none 0 0, .slice none 0 0, .bool false, .int .u64 0, .bool false, .slice none 0 0, .bool false, .int .i64 0, .slice none 0 0, .slice none 0 0, .bool false, .int .u64 0, .bool false, .slice none 0 0, .bool false, .int .i64 0, .slice none 0 0, .slice none 0 0, .bool false, .int .u64 0, .bool false, .slice none 0 0, .bool false, .int .i64 0, .slice none 0 0, .slice none 0 0, .bool false, .int .u64 0, .bool false, .slice none 0 0, .bool false] 45))
          have HZ := Lib.hid (BoxC.new (w := w3) (W := wx) hHeld.size #[.string ⟨#[]⟩, .string ⟨#[]⟩, .int .i64 0, .bool false, .bool false, .int .i64 0, .slice none 0 0, .slice none 0 0, .bool false, .int .u64 0, .bool false, .slice none 0 0, .bool false, .int .i64 0, .slice none 0 0, .slice none 0 0, .bool false, .int .u64 0, .bool false, .slice none 0 0, .bool false, .int .i64 0, .slice none 0 0, .slice none 0 0, .bool false, .int .u64 0, .bool false, .slice none 0 0, .bool false, .int .i64 0, .slice none 0 0, .slice none 0 0, .bool false, .int .u64 0, .bool false, .slice none 0 0, .bool false] 45)
          go_simp
          refine hK.out _ _ ?_ (fun hHeld2 => ?_)
          · (try dsimp only); first | assumption | exact hHeld.alloc hHeld.size _
          clear hK K hHeld
          have hHeld := hHeld2
          clear hHeld2
          try simp only [Act.put, qsp50a, qsp50b, qsp50c]
          refine wpAnyH_ready (rs := [4]) (by kernel_rfl) (by simp) ?_
          refine AllReadyH.cons (o := ⟨some 40, .call { callee := .value (.func 15), args := #[.tmp 36, .tmp 39], argTypes := #[45, 9] }, 57, "law.go:235", #[⟨0, .data⟩, ⟨3, .data⟩, ⟨0, .chain⟩], none⟩) rfl (fun K hK => ?_) (AllReadyH.nil)
          go_simp
          go_at_call 15
          refine (HTK1.out _ (tab_onS HTW.out hHeld) (HLW.out.on hHeld)).mono ?_
          rintro e wx ⟨A1, c1, q1, rfl, hcq, hqm, hmq, hfq, hb2⟩
          have HQ1 := Lib.hid hmq
          have HM1 := Lib.hid hqm
          try have HZN := Lib.hid (far_ne hfq HZ.out.lt)
          try replace HZ := Lib.hid (HZ.out.on hb2)
          clear hcq hqm hmq hfq
          refine hK.out _ _ (bthen hHeld hb2 (Nat.le_refl _)) (fun hHeld2 => ?_)
          clear hK K hHeld hb2
          have hHeld := hHeld2
          clear hHeld2
          try simp only [Act.put, qsp50a, qsp50b, qsp50c]
          refine wpAnyH_take (i := 5) (oi := ⟨some 35, .move (.tmp 40), 57, "law.go:235", #[⟨4, .data⟩], none⟩) (v := ?_) rfl (by kernel_rfl) (by kernel_rfl) (by kernel_rfl) (fun _ _ _ h => h) (Or.inl ⟨by rfl, ?_⟩) (by assumption) ?_
          rotate_left 1
          · intro wS hSw; (try dsimp only at hSw); go_simp; try with_reducible rfl
          try simp only [Act.put, qsp50a, qsp50b, qsp50c]
          refine wpAnyH_take (i := 6) (oi := ⟨some 41, .extract (.tmp 35) 0, 45, "law.go:235", #[⟨5, .data⟩], none⟩) (v := ?_) rfl (by kernel_rfl) (by kernel_rfl) (by kernel_rfl) (fun _ _ _ h => h) (Or.inl ⟨by rfl, ?_⟩) (by assumption) ?_
          rotate_left 1
          · intro wS hSw; (try dsimp only at hSw); go_simp; try with_reducible rfl
          try simp only [Act.put, qsp50a, qsp50b, qsp50c]
          refine wpAnyH_take (i := 7) (oi := ⟨some 42, .extract (.tmp 35) 1, 56, "law.go:235", #[⟨5, .data⟩, ⟨10, .gcOnly .lateStores⟩], none⟩) (v := ?_) rfl (by kernel_rfl) (by kernel_rfl) (by kernel_rfl) (fun _ _ _ h => h) (Or.inl ⟨by rfl, ?_⟩) (by assumption) ?_
          rotate_left 1
          · intro wS hSw; (try dsimp only at hSw); go_simp; try with_reducible rfl
          try simp only [Act.put, qsp50a, qsp50b, qsp50c]
          refine wpAnyH_take (i := 8) (oi := ⟨some 43, .extract (.tmp 35) 2, 31, "law.go:235", #[⟨5, .data⟩, ⟨11, .gcOnly .lateStores⟩], none⟩) (v := ?_) rfl (by kernel_rfl) (by kernel_rfl) (by kernel_rfl) (fun _ _ _ h => h) (Or.inl ⟨by rfl, ?_⟩) (by assumption) ?_
          rotate_left 1
          · intro wS hSw; (try dsimp only at hSw); go_simp; try with_reducible rfl
          try simp only [Act.put, qsp50a, qsp50b, qsp50c]
          refine wpAnyH_ready (rs := [10]) (by kernel_rfl) (by simp) ?_
          refine AllReadyH.cons (o := ⟨none, .store 45 (.tmp 9) (.tmp 41), 0, "law.go:235", #[⟨9, .data⟩, ⟨6, .data⟩, ⟨4, .chain⟩, ⟨0, .phase⟩, ⟨1, .phase⟩, ⟨2, .phase⟩, ⟨3, .phase⟩, ⟨4, .phase⟩, ⟨5, .phase⟩, ⟨6, .phase⟩, ⟨7, .textOnly .lateStores⟩, ⟨8, .textOnly .lateStores⟩, ⟨9, .phase⟩], none⟩) rfl (fun K hK => ?_) (AllReadyH.nil)
          rw [if_pos (by rfl)]
          refine wp_store_mid 45 _ _ (by rfl) _ 0 (seL lw R1.2.1 R1.2.2 false false).toArray (by rfl) (by rfl) HZ.out.there (by rw [se_size]; rfl) (se_all _ _ _ _ _) ?_
          refine hK.out _ _ ?_ (fun hHeld2 => ?_)
          · (try dsimp only); exact below_setCells3 hHeld HZ.out.ge _ _
          replace HZ := Lib.hid (HZ.out.over (seL lw R1.2.1 R1.2.2 false false) rfl)
          first | (replace HQ1 := Lib.hid (mqs_setCells HQ1.out HZN.out.1 HZN.out.2 (seL lw R1.2.1 R1.2.2 false false) 0)) | (replace HQ1 := Lib.hid (HQY.out.on (below_setCells3 HAX.out (Nat.le_refl _) (seL lw R1.2.1 R1.2.2 false false) 0)))
          clear hK K hHeld
          have hHeld := hHeld2
          clear hHeld2
          try simp only [Act.put]
          refine wpAnyH_take (i := 11) (oi := ⟨some 10, .assign (.tmp 42), 56, "law.go:235", #[⟨7, .data⟩, ⟨10, .chain⟩, ⟨0, .phase⟩, ⟨1, .phase⟩, ⟨2, .phase⟩, ⟨3, .phase⟩, ⟨4, .phase⟩, ⟨5, .phase⟩, ⟨6, .phase⟩, ⟨7, .phase⟩, ⟨8, .textOnly .lateStores⟩, ⟨9, .phase⟩, ⟨10, .phase⟩], none⟩) (v := ?_) rfl (by kernel_rfl) (by kernel_rfl) (by kernel_rfl) (fun _ _ _ h => h) (Or.inl ⟨by rfl, ?_⟩) (by assumption) ?_
          rotate_left 1
          · intro wS hSw; (try dsimp only at hSw); go_simp; try with_reducible rfl
          try simp only [Act.put, qsp50a, qsp50b, qsp50c]
          refine wpAnyH_take (i := 12) (oi := ⟨some 11, .assign (.tmp 43), 31, "law.go:235", #[⟨8, .data⟩, ⟨11, .chain⟩, ⟨0, .phase⟩, ⟨1, .phase⟩, ⟨2, .phase⟩, ⟨3, .phase⟩, ⟨4, .phase⟩, ⟨5, .phase⟩, ⟨6, .phase⟩, ⟨7, .phase⟩, ⟨8, .phase⟩, ⟨9, .phase⟩, ⟨10, .phase⟩, ⟨11, .phase⟩], none⟩) (v := ?_) rfl (by kernel_rfl) (by kernel_rfl) (by kernel_rfl) (fun _ _ _ h => h) (Or.inl ⟨by rfl, ?_⟩) (by assumption) ?_
          rotate_left 1
          · intro wS hSw; (try dsimp only at hSw); go_simp; try with_reducible rfl
          try simp only [Act.put]
          refine wpAnyH_done (by kernel_rfl) ?_ _
          have hZ := hHeld
          clear hHeld
          go_wp2_with fail
          go_meet
          exact ⟨_, A1, c1, q1, rfl, rfl, rfl, HZ.out, HM1.out, HQ1.out, hZ⟩
      · skip
        have HZ := Lib.hid (rtDrew (BoxC.new (w := w3) (W := w3) (Nat.le_refl _) #[.string ⟨#[]⟩, .string ⟨#[]⟩, .int .i64 0, .bool false, .bool false, .int .i64 0, .slice none 0 0, .slice none 0 0, .bool false, .int .u64 0, .bool false, .slice none 0 0, .bool false, .int .i64 0, .slice none 0 0, .slice none 0 0, .bool false, .int .u64 0, .bool false, .slice none 0 0, .bool false, .int .i64 0, .slice none 0 0, .slice none 0 0, .bool false, .int .u64 0, .bool false, .slice none 0 0, .bool false, .int .i64 0, .slice none 0 0, .slice none 0 0, .bool false, .int .u64 0, .bool false, .slice none 0 0, .bool false] 45))
        go_simp
        refine hK.out _ _ ?_ (fun hHeld2 => ?_)
        · (try dsimp only); first | assumption | exact hHeld.alloc hHeld.size _
        clear hK K hHeld
        have hHeld := hHeld2
        clear hHeld2
        try simp only [Act.put, qsp50a, qsp50b, qsp50c]
        refine wpAnyH_ready (rs := [0]) (by kernel_rfl) (by simp) ?_
        refine AllReadyH.cons (o := ⟨some 36, .call { callee := .value (.func 9), args := #[.const (.string { data := #[108, 111, 119] })], argTypes := #[9] }, 45, "law.go:235", #[], none⟩) rfl (fun K hK => ?_) (AllReadyH.nil)
        go_simp
        go_at_call 9
        refine (HNW.out _).mono ?_
        rintro e wx ⟨rfl, hb2⟩
        try replace HZ := Lib.hid (HZ.out.on hb2)
        refine hK.out _ _ (bthen hHeld hb2 (Nat.le_refl _)) (fun hHeld2 => ?_)
        clear hK K hHeld hb2
        have hHeld := hHeld2
        clear hHeld2
        try simp only [Act.put, qsp50a, qsp50b, qsp50c]
        refine wpAnyH_ready (rs := [4]) (by kernel_rfl) (by simp) ?_
        refine AllReadyH.cons (o := ⟨some 40, .call { callee := .value (.func 15), args := #[.tmp 36, .tmp 39], argTypes := #[45, 9] }, 57, "law.go:235", #[⟨0, .data⟩, ⟨3, .data⟩, ⟨0, .chain⟩], none⟩) rfl (fun K hK => ?_) (AllReadyH.nil)
        go_simp
        go_at_call 15
        refine (HTK1.out _ (tab_onS HTW.out hHeld) (HLW.out.on hHeld)).mono ?_
        rintro e wx ⟨A1, c1, q1, rfl, hcq, hqm, hmq, hfq, hb2⟩
        have HQ1 := Lib.hid hmq
        have HM1 := Lib.hid hqm
        try have HZN := Lib.hid (far_ne hfq HZ.out.lt)
        try replace HZ := Lib.hid (HZ.out.on hb2)
        clear hcq hqm hmq hfq
        refine hK.out _ _ (bthen hHeld hb2 (Nat.le_refl _)) (fun hHeld2 => ?_)
        clear hK K hHeld hb2
        have hHeld := hHeld2
        clear hHeld2
        try simp only [Act.put, qsp50a, qsp50b, qsp50c]
        refine wpAnyH_take (i := 5) (oi := ⟨some 35, .move (.tmp 40), 57, "law.go:235", #[⟨4, .data⟩], none⟩) (v := ?_) rfl (by kernel_rfl) (by kernel_rfl) (by kernel_rfl) (fun _ _ _ h => h) (Or.inl ⟨by rfl, ?_⟩) (by assumption) ?_
        rotate_left 1
        · intro wS hSw; (try dsimp only at hSw); go_simp; try with_reducible rfl
        try simp only [Act.put, qsp50a, qsp50b, qsp50c]
        refine wpAnyH_take (i := 6) (oi := ⟨some 41, .extract (.tmp 35) 0, 45, "law.go:235", #[⟨5, .data⟩], none⟩) (v := ?_) rfl (by kernel_rfl) (by kernel_rfl) (by kernel_rfl) (fun _ _ _ h => h) (Or.inl ⟨by rfl, ?_⟩) (by assumption) ?_
        rotate_left 1
        · intro wS hSw; (try dsimp only at hSw); go_simp; try with_reducible rfl
        try simp only [Act.put, qsp50a, qsp50b, qsp50c]
        refine wpAnyH_take (i := 7) (oi := ⟨some 42, .extract (.tmp 35) 1, 56, "law.go:235", #[⟨5, .data⟩, ⟨10, .gcOnly .lateStores⟩], none⟩) (v := ?_) rfl (by kernel_rfl) (by kernel_rfl) (by kernel_rfl) (fun _ _ _ h => h) (Or.inl ⟨by rfl, ?_⟩) (by assumption) ?_
        rotate_left 1
        · intro wS hSw; (try dsimp only at hSw); go_simp; try with_reducible rfl
        try simp only [Act.put, qsp50a, qsp50b, qsp50c]
        refine wpAnyH_take (i := 8) (oi := ⟨some 43, .extract (.tmp 35) 2, 31, "law.go:235", #[⟨5, .data⟩, ⟨11, .gcOnly .lateStores⟩], none⟩) (v := ?_) rfl (by kernel_rfl) (by kernel_rfl) (by kernel_rfl) (fun _ _ _ h => h) (Or.inl ⟨by rfl, ?_⟩) (by assumption) ?_
        rotate_left 1
        · intro wS hSw; (try dsimp only at hSw); go_simp; try with_reducible rfl
        try simp only [Act.put, qsp50a, qsp50b, qsp50c]
        refine wpAnyH_ready (rs := [10]) (by kernel_rfl) (by simp) ?_
        refine AllReadyH.cons (o := ⟨none, .store 45 (.tmp 9) (.tmp 41), 0, "law.go:235", #[⟨9, .data⟩, ⟨6, .data⟩, ⟨4, .chain⟩, ⟨0, .phase⟩, ⟨1, .phase⟩, ⟨2, .phase⟩, ⟨3, .phase⟩, ⟨4, .phase⟩, ⟨5, .phase⟩, ⟨6, .phase⟩, ⟨7, .textOnly .lateStores⟩, ⟨8, .textOnly .lateStores⟩, ⟨9, .phase⟩], none⟩) rfl (fun K hK => ?_) (AllReadyH.nil)
        rw [if_pos (by rfl)]
        refine wp_store_mid 45 _ _ (by rfl) _ 0 (seL lw R1.2.1 R1.2.2 false false).toArray (by rfl) (by rfl) HZ.out.there (by rw [se_size]; rfl) (se_all _ _ _ _ _) ?_
        refine hK.out _ _ ?_ (fun hHeld2 => ?_)
        · (try dsimp only); exact below_setCells3 hHeld HZ.out.ge _ _
        replace HZ := Lib.hid (HZ.out.over (seL lw R1.2.1 R1.2.2 false false) rfl)
        first | (replace HQ1 := Lib.hid (mqs_setCells HQ1.out HZN.out.1 HZN.out.2 (seL lw R1.2.1 R1.2.2 false false) 0)) | (replace HQ1 := Lib.hid (HQY.out.on (below_setCells3 HAX.out (Nat.le_refl _) (seL lw R1.2.1 R1.2.2 false false) 0)))
        clear hK K hHeld
        have hHeld := hHeld2
        clear hHeld2
        try simp only [Act.put]
        refine wpAnyH_take (i := 11) (oi := ⟨some 10, .assign (.tmp 42), 56, "law.go:235", #[⟨7, .data⟩, ⟨10, .chain⟩, ⟨0, .phase⟩, ⟨1, .phase⟩, ⟨2, .phase⟩, ⟨3, .phase⟩, ⟨4, .phase⟩, ⟨5, .phase⟩, ⟨6, .phase⟩, ⟨7, .phase⟩, ⟨8, .textOnly .lateStores⟩, ⟨9, .phase⟩, ⟨10, .phase⟩], none⟩) (v := ?_) rfl (by kernel_rfl) (by kernel_rfl) (by kernel_rfl) (fun _ _ _ h => h) (Or.inl ⟨by rfl, ?_⟩) (by assumption) ?_
        rotate_left 1
        · intro wS hSw; (try dsimp only at hSw); go_simp; try with_reducible rfl
        try simp only [Act.put, qsp50a, qsp50b, qsp50c]
        refine wpAnyH_take (i := 12) (oi := ⟨some 11, .assign (.tmp 43), 31, "law.go:235", #[⟨8, .data⟩, ⟨11, .chain⟩, ⟨0, .phase⟩, ⟨1, .phase⟩, ⟨2, .phase⟩, ⟨3, .phase⟩, ⟨4, .phase⟩, ⟨5, .phase⟩, ⟨6, .phase⟩, ⟨7, .phase⟩, ⟨8, .phase⟩, ⟨9, .phase⟩, ⟨10, .phase⟩, ⟨11, .phase⟩], none⟩) (v := ?_) rfl (by kernel_rfl) (by kernel_rfl) (by kernel_rfl) (fun _ _ _ h => h) (Or.inl ⟨by rfl, ?_⟩) (by assumption) ?_
        rotate_left 1
        · intro wS hSw; (try dsimp only at hSw); go_simp; try with_reducible rfl
        try simp only [Act.put]
        refine wpAnyH_done (by kernel_rfl) ?_ _
        have hZ := hHeld
        clear hHeld
        go_wp2_with fail
        go_meet
        exact ⟨_, A1, c1, q1, rfl, rfl, rfl, HZ.out, HM1.out, HQ1.out, hZ⟩
    case rest =>
      obtain ⟨g1, A1, c1, q1, rfl, rfl, rfl, hX4, hM1, hQ1, hB4⟩ := hcut
      generalize wc = w4 at *
      have HX4 := Lib.hid hX4
      have HM1 := Lib.hid hM1
      have HQ1 := Lib.hid hQ1
      have HQ04 := Lib.hid (HQ0.out.on hB4)
      have HB4 := Lib.hid (bthen HB3.out hB4 (Nat.le_refl _))
      clear hX4 hM1 hQ1 hB4 HTW HLW HQ0 HB3 HTK0 HTK1 HNW HAW
      by_cases hf : stC R1 = 0
      · obtain ⟨hz, hst, hap⟩ := HPY.out hf
        have hne : (stC R1 != 0) = false := by rw [hf]; rfl
        have hcc : (stC R != stC TT) = false := by rw [hst]; simp
        rw [hz] at HX4
        generalize R1.2.1 = r1 at *
        have HAP := Lib.hid hap
        clear hz hst hap hf HPY HPN
        go_upto_region 10 with fail
        have HTW := Lib.hid (tab_onS HT0.out HB4.out)
        have HLW := Lib.hid (HL0.out.on HB4.out)
        go_cut [12, 13, 14] (fun _ s13 s14 wx => ∃ A2 c2 q2, s13 = .slice A2 q2.length c2 ∧ s14 = .int .i64 (stC TT) ∧ q2.map Mq.x = (oks TT.1).1 ∧ Mqs wx A2 q2 ∧ Below w4.heap.size w4 wx)
        case first =>
          refine wp_region_held_drew (S := fun a => Below (w4.heap.size) w4 a) (by kernel_rfl) (by (try dsimp only); exact (Below.refl _ _).drew) (fun hHeld => ?_)
          refine wpAnyH_take (i := 0) (oi := ⟨some 56, .load 45 (.tmp 9), 45, "law.go:239", #[], none⟩) (v := .agg (seL lw r1 0 false false).toArray) rfl (by kernel_rfl) (by kernel_rfl) (by kernel_rfl) (fun _ _ _ h => h) (yieldsIf_load_mid (by rfl) 45 _ (by rfl) g1 0 (by rfl) (seL lw r1 0 false false) _ (fun W9 h9 => (cels_far HX4.out.cs h9 HX4.out.lt).range) Tryz.underlying45 rfl (by rw [se_size, seL_len])) (by assumption) ?_
          try simp only [Act.put, qsp50a, qsp50b, qsp50c]
          refine wpAnyH_take (i := 1) (oi := ⟨some 57, .move (.tmp 0), 9, "law.go:239", #[], none⟩) (v := ?_) rfl (by kernel_rfl) (by kernel_rfl) (by kernel_rfl) (fun _ _ _ h => h) (Or.inl ⟨by rfl, ?_⟩) (by assumption) ?_
          rotate_left 1
          · intro wS hSw; (try dsimp only at hSw); go_simp; try with_reducible rfl
          try simp only [Act.put, qsp50a, qsp50b, qsp50c]
          refine wpAnyH_take (i := 2) (oi := ⟨some 58, .move (.tmp 5), 3, "law.go:239", #[], none⟩) (v := ?_) rfl (by kernel_rfl) (by kernel_rfl) (by kernel_rfl) (fun _ _ _ h => h) (Or.inl ⟨by rfl, ?_⟩) (by assumption) ?_
          rotate_left 1
          · intro wS hSw; (try dsimp only at hSw); go_simp; try with_reducible rfl
          try simp only [Act.put, qsp50a, qsp50b, qsp50c]
          refine wpAnyH_take (i := 3) (oi := ⟨some 59, .slice 9 (.tmp 57) (some (.tmp 58)) none none, 9, "law.go:239", #[⟨1, .data⟩, ⟨2, .data⟩], none⟩) (v := ?_) rfl (by kernel_rfl) (by kernel_rfl) (by kernel_rfl) (fun _ _ _ h => h) (Or.inl ⟨by rfl, ?_⟩) (by assumption) ?_
          rotate_left 1
          · intro wS hSw; (try dsimp only at hSw); go_simp; try with_reducible rfl
          try simp only [Act.put, qsp50a, qsp50b, qsp50c]
          refine wpAnyH_ready (rs := [4, 9]) (by kernel_rfl) (by simp) ?_
          refine AllReadyH.cons (o := ⟨some 60, .call { callee := .value (.func 15), args := #[.tmp 56, .tmp 59], argTypes := #[45, 9] }, 57, "law.go:239", #[⟨0, .data⟩, ⟨3, .data⟩], none⟩) rfl (fun K hK => ?_) (AllReadyH.cons (o := ⟨some 12, .alloc 45, 0, "law.go:239", #[], none⟩) rfl (fun K hK => ?_) (AllReadyH.nil))
          · skip
            go_simp
            go_at_call 15
            refine (HTK2.out _ (tab_onS HTW.out hHeld) (HLW.out.on hHeld)).mono ?_
            rintro e wx ⟨A2, c2, q2, rfl, hcq, hqm, hmq, hfq, hb2⟩
            have HQ1 := Lib.hid hmq
            have HM2 := Lib.hid hqm
            try have HZN := Lib.hid (far_ne hfq HZ.out.lt)
            try replace HZ := Lib.hid (HZ.out.on hb2)
            clear hcq hqm hmq hfq
            refine hK.out _ _ (bthen hHeld hb2 (Nat.le_refl _)) (fun hHeld2 => ?_)
            clear hK K hHeld hb2
            have hHeld := hHeld2
            clear hHeld2
            try simp only [Act.put, qsp50a, qsp50b, qsp50c]
            refine wpAnyH_take (i := 5) (oi := ⟨some 55, .move (.tmp 60), 57, "law.go:239", #[⟨4, .data⟩], none⟩) (v := ?_) rfl (by kernel_rfl) (by kernel_rfl) (by kernel_rfl) (fun _ _ _ h => h) (Or.inl ⟨by rfl, ?_⟩) (by assumption) ?_
            rotate_left 1
            · intro wS hSw; (try dsimp only at hSw); go_simp; try with_reducible rfl
            try simp only [Act.put, qsp50a, qsp50b, qsp50c]
            refine wpAnyH_take (i := 6) (oi := ⟨some 61, .extract (.tmp 55) 0, 45, "law.go:239", #[⟨5, .data⟩], none⟩) (v := ?_) rfl (by kernel_rfl) (by kernel_rfl) (by kernel_rfl) (fun _ _ _ h => h) (Or.inl ⟨by rfl, ?_⟩) (by assumption) ?_
            rotate_left 1
            · intro wS hSw; (try dsimp only at hSw); go_simp; try with_reducible rfl
            try simp only [Act.put, qsp50a, qsp50b, qsp50c]
            refine wpAnyH_take (i := 7) (oi := ⟨some 62, .extract (.tmp 55) 1, 56, "law.go:239", #[⟨5, .data⟩, ⟨10, .gcOnly .lateStores⟩], none⟩) (v := ?_) rfl (by kernel_rfl) (by kernel_rfl) (by kernel_rfl) (fun _ _ _ h => h) (Or.inl ⟨by rfl, ?_⟩) (by assumption) ?_
            rotate_left 1
            · intro wS hSw; (try dsimp only at hSw); go_simp; try with_reducible rfl
            try simp only [Act.put, qsp50a, qsp50b, qsp50c]
            refine wpAnyH_take (i := 8) (oi := ⟨some 63, .extract (.tmp 55) 2, 31, "law.go:239", #[⟨5, .data⟩, ⟨11, .gcOnly .lateStores⟩], none⟩) (v := ?_) rfl (by kernel_rfl) (by kernel_rfl) (by kernel_rfl) (fun _ _ _ h => h) (Or.inl ⟨by rfl, ?_⟩) (by assumption) ?_
            rotate_left 1
            · intro wS hSw; (try dsimp only at hSw); go_simp; try with_reducible rfl
            try simp only [Act.put, qsp50a, qsp50b, qsp50c]
            refine wpAnyH_ready (rs := [9]) (by kernel_rfl) (by simp) ?_
            refine AllReadyH.cons (o := ⟨some 12, .alloc 45, 0, "law.go:239", #[], none⟩) rfl (fun K hK => ?_) (AllReadyH.nil)
            have HAX := Lib.hid (rtOne wx (.cells #[.string ⟨#[]⟩, .string ⟨#[]⟩, .int .i64 0, .bool false, .bool false, .int .i64 0, .slice none 0 0, .slice none 0 0, .bool false, .int .u64 0, .bool false, .slice none 0 0, .bool false, .int .i64 0, .slice none 0 0, .slice none 0 0, .bool false, .int .u64 0, .bool false, .slice none 0 0, .bool false, .int .i64 0, .slice none 0 0, .slice none 0 0, .bool false, .int .u64 0, .bool false, .slice none 0 0, .bool false, .int .i64 0, .slice none 0 0, .slice none 0 0, .bool false, .int .u64 0, .bool false, .slice none 0 0, .bool false] 45))
            have HZ := Lib.hid (BoxC.new (w := w4) (W := wx) hHeld.size #[.string ⟨#[]⟩, .string ⟨#[]⟩, .int .i64 0, .bool false, .bool false, .int .i64 0, .slice none 0 0, .slice none 0 0, .bool false, .int .u64 0, .bool false, .slice none 0 0, .bool false, .int .i64 0, .slice none 0 0, .slice none 0 0, .bool false, .int .u64 0, .bool false, .slice none 0 0, .bool false, .int .i64 0, .slice none 0 0, .slice none 0 0, .bool false, .int .u64 0, .bool false, .slice none 0 0, .bool false, .int .i64 0, .slice none 0 0, .slice none 0 0, .bool false, .int .u64 0, .bool false, .slice none 0 0, .bool false] 45)
            have HQY := HQ1
            go_simp
            refine hK.out _ _ ?_ (fun hHeld2 => ?_)
            · (try dsimp only); first | assumption | exact hHeld.alloc hHeld.size _
            clear hK K hHeld
            have hHeld := hHeld2
            clear hHeld2
            try simp only [Act.put, qsp50a, qsp50b, qsp50c]
            refine wpAnyH_ready (rs := [10]) (by kernel_rfl) (by simp) ?_
            refine AllReadyH.cons (o := ⟨none, .store 45 (.tmp 12) (.tmp 61), 0, "law.go:239", #[⟨9, .data⟩, ⟨6, .data⟩, ⟨4, .chain⟩, ⟨0, .phase⟩, ⟨1, .phase⟩, ⟨2, .phase⟩, ⟨3, .phase⟩, ⟨4, .phase⟩, ⟨5, .phase⟩, ⟨6, .phase⟩, ⟨7, .textOnly .lateStores⟩, ⟨8, .textOnly .lateStores⟩, ⟨9, .phase⟩], none⟩) rfl (fun K hK => ?_) (AllReadyH.nil)
            rw [if_pos (by rfl)]
            refine wp_store_mid 45 _ _ (by rfl) _ 0 (seL lw TT.2.1 TT.2.2 false false).toArray (by rfl) (by rfl) HZ.out.there (by rw [se_size]; rfl) (se_all _ _ _ _ _) ?_
            refine hK.out _ _ ?_ (fun hHeld2 => ?_)
            · (try dsimp only); exact below_setCells3 hHeld HZ.out.ge _ _
            replace HZ := Lib.hid (HZ.out.over (seL lw TT.2.1 TT.2.2 false false) rfl)
            first | (replace HQ1 := Lib.hid (mqs_setCells HQ1.out HZN.out.1 HZN.out.2 (seL lw TT.2.1 TT.2.2 false false) 0)) | (replace HQ1 := Lib.hid (HQY.out.on (below_setCells3 HAX.out (Nat.le_refl _) (seL lw TT.2.1 TT.2.2 false false) 0)))
            clear hK K hHeld
            have hHeld := hHeld2
            clear hHeld2
            try simp only [Act.put]
            refine wpAnyH_take (i := 11) (oi := ⟨some 13, .assign (.tmp 62), 56, "law.go:239", #[⟨7, .data⟩, ⟨10, .chain⟩, ⟨0, .phase⟩, ⟨1, .phase⟩, ⟨2, .phase⟩, ⟨3, .phase⟩, ⟨4, .phase⟩, ⟨5, .phase⟩, ⟨6, .phase⟩, ⟨7, .phase⟩, ⟨8, .textOnly .lateStores⟩, ⟨9, .phase⟩, ⟨10, .phase⟩], none⟩) (v := ?_) rfl (by kernel_rfl) (by kernel_rfl) (by kernel_rfl) (fun _ _ _ h => h) (Or.inl ⟨by rfl, ?_⟩) (by assumption) ?_
            rotate_left 1
            · intro wS hSw; (try dsimp only at hSw); go_simp; try with_reducible rfl
            try simp only [Act.put, qsp50a, qsp50b, qsp50c]
            refine wpAnyH_take (i := 12) (oi := ⟨some 14, .assign (.tmp 63), 31, "law.go:239", #[⟨8, .data⟩, ⟨11, .chain⟩, ⟨0, .phase⟩, ⟨1, .phase⟩, ⟨2, .phase⟩, ⟨3, .phase⟩, ⟨4, .phase⟩, ⟨5, .phase⟩, ⟨6, .phase⟩, ⟨7, .phase⟩, ⟨8, .phase⟩, ⟨9, .phase⟩, ⟨10, .phase⟩, ⟨11, .phase⟩], none⟩) (v := ?_) rfl (by kernel_rfl) (by kernel_rfl) (by kernel_rfl) (fun _ _ _ h => h) (Or.inl ⟨by rfl, ?_⟩) (by assumption) ?_
            rotate_left 1
            · intro wS hSw; (try dsimp only at hSw); go_simp; try with_reducible rfl
            try simp only [Act.put]
            refine wpAnyH_done (by kernel_rfl) ?_ _
            have hZ := hHeld
            clear hHeld
            go_wp2_with fail
            go_meet
            exact ⟨A2, c2, q2, rfl, rfl, HM2.out, HQ1.out, hZ⟩
          · skip
            have HZ := Lib.hid (rtDrew (BoxC.new (w := w4) (W := w4) (Nat.le_refl _) #[.string ⟨#[]⟩, .string ⟨#[]⟩, .int .i64 0, .bool false, .bool false, .int .i64 0, .slice none 0 0, .slice none 0 0, .bool false, .int .u64 0, .bool false, .slice none 0 0, .bool false, .int .i64 0, .slice none 0 0, .slice none 0 0, .bool false, .int .u64 0, .bool false, .slice none 0 0, .bool false, .int .i64 0, .slice none 0 0, .slice none 0 0, .bool false, .int .u64 0, .bool false, .slice none 0 0, .bool false, .int .i64 0, .slice none 0 0, .slice none 0 0, .bool false, .int .u64 0, .bool false, .slice none 0 0, .bool false] 45))
            go_simp
            refine hK.out _ _ ?_ (fun hHeld2 => ?_)
            · (try dsimp only); first | assumption | exact hHeld.alloc hHeld.size _
            clear hK K hHeld
            have hHeld := hHeld2
            clear hHeld2
            try simp only [Act.put, qsp50a, qsp50b, qsp50c]
            refine wpAnyH_ready (rs := [4]) (by kernel_rfl) (by simp) ?_
            refine AllReadyH.cons (o := ⟨some 60, .call { callee := .value (.func 15), args := #[.tmp 56, .tmp 59], argTypes := #[45, 9] }, 57, "law.go:239", #[⟨0, .data⟩, ⟨3, .data⟩], none⟩) rfl (fun K hK => ?_) (AllReadyH.nil)
            go_simp
            go_at_call 15
            refine (HTK2.out _ (tab_onS HTW.out hHeld) (HLW.out.on hHeld)).mono ?_
            rintro e wx ⟨A2, c2, q2, rfl, hcq, hqm, hmq, hfq, hb2⟩
            have HQ1 := Lib.hid hmq
            have HM2 := Lib.hid hqm
            try have HZN := Lib.hid (far_ne hfq HZ.out.lt)
            try replace HZ := Lib.hid (HZ.out.on hb2)
            clear hcq hqm hmq hfq
            refine hK.out _ _ (bthen hHeld hb2 (Nat.le_refl _)) (fun hHeld2 => ?_)
            clear hK K hHeld hb2
            have hHeld := hHeld2
            clear hHeld2
            try simp only [Act.put, qsp50a, qsp50b, qsp50c]
            refine wpAnyH_take (i := 5) (oi := ⟨some 55, .move (.tmp 60), 57, "law.go:239", #[⟨4, .data⟩], none⟩) (v := ?_) rfl (by kernel_rfl) (by kernel_rfl) (by kernel_rfl) (fun _ _ _ h => h) (Or.inl ⟨by rfl, ?_⟩) (by assumption) ?_
            rotate_left 1
            · intro wS hSw; (try dsimp only at hSw); go_simp; try with_reducible rfl
            try simp only [Act.put, qsp50a, qsp50b, qsp50c]
            refine wpAnyH_take (i := 6) (oi := ⟨some 61, .extract (.tmp 55) 0, 45, "law.go:239", #[⟨5, .data⟩], none⟩) (v := ?_) rfl (by kernel_rfl) (by kernel_rfl) (by kernel_rfl) (fun _ _ _ h => h) (Or.inl ⟨by rfl, ?_⟩) (by assumption) ?_
            rotate_left 1
            · intro wS hSw; (try dsimp only at hSw); go_simp; try with_reducible rfl
            try simp only [Act.put, qsp50a, qsp50b, qsp50c]
            refine wpAnyH_take (i := 7) (oi := ⟨some 62, .extract (.tmp 55) 1, 56, "law.go:239", #[⟨5, .data⟩, ⟨10, .gcOnly .lateStores⟩], none⟩) (v := ?_) rfl (by kernel_rfl) (by kernel_rfl) (by kernel_rfl) (fun _ _ _ h => h) (Or.inl ⟨by rfl, ?_⟩) (by assumption) ?_
            rotate_left 1
            · intro wS hSw; (try dsimp only at hSw); go_simp; try with_reducible rfl
            try simp only [Act.put, qsp50a, qsp50b, qsp50c]
            refine wpAnyH_take (i := 8) (oi := ⟨some 63, .extract (.tmp 55) 2, 31, "law.go:239", #[⟨5, .data⟩, ⟨11, .gcOnly .lateStores⟩], none⟩) (v := ?_) rfl (by kernel_rfl) (by kernel_rfl) (by kernel_rfl) (fun _ _ _ h => h) (Or.inl ⟨by rfl, ?_⟩) (by assumption) ?_
            rotate_left 1
            · intro wS hSw; (try dsimp only at hSw); go_simp; try with_reducible rfl
            try simp only [Act.put, qsp50a, qsp50b, qsp50c]
            refine wpAnyH_ready (rs := [10]) (by kernel_rfl) (by simp) ?_
            refine AllReadyH.cons (o := ⟨none, .store 45 (.tmp 12) (.tmp 61), 0, "law.go:239", #[⟨9, .data⟩, ⟨6, .data⟩, ⟨4, .chain⟩, ⟨0, .phase⟩, ⟨1, .phase⟩, ⟨2, .phase⟩, ⟨3, .phase⟩, ⟨4, .phase⟩, ⟨5, .phase⟩, ⟨6, .phase⟩, ⟨7, .textOnly .lateStores⟩, ⟨8, .textOnly .lateStores⟩, ⟨9, .phase⟩], none⟩) rfl (fun K hK => ?_) (AllReadyH.nil)
            rw [if_pos (by rfl)]
            refine wp_store_mid 45 _ _ (by rfl) _ 0 (seL lw TT.2.1 TT.2.2 false false).toArray (by rfl) (by rfl) HZ.out.there (by rw [se_size]; rfl) (se_all _ _ _ _ _) ?_
            refine hK.out _ _ ?_ (fun hHeld2 => ?_)
            · (try dsimp only); exact below_setCells3 hHeld HZ.out.ge _ _
            replace HZ := Lib.hid (HZ.out.over (seL lw TT.2.1 TT.2.2 false false) rfl)
            first | (replace HQ1 := Lib.hid (mqs_setCells HQ1.out HZN.out.1 HZN.out.2 (seL lw TT.2.1 TT.2.2 false false) 0)) | (replace HQ1 := Lib.hid (HQY.out.on (below_setCells3 HAX.out (Nat.le_refl _) (seL lw TT.2.1 TT.2.2 false false) 0)))
            clear hK K hHeld
            have hHeld := hHeld2
            clear hHeld2
            try simp only [Act.put]
            refine wpAnyH_take (i := 11) (oi := ⟨some 13, .assign (.tmp 62), 56, "law.go:239", #[⟨7, .data⟩, ⟨10, .chain⟩, ⟨0, .phase⟩, ⟨1, .phase⟩, ⟨2, .phase⟩, ⟨3, .phase⟩, ⟨4, .phase⟩, ⟨5, .phase⟩, ⟨6, .phase⟩, ⟨7, .phase⟩, ⟨8, .textOnly .lateStores⟩, ⟨9, .phase⟩, ⟨10, .phase⟩], none⟩) (v := ?_) rfl (by kernel_rfl) (by kernel_rfl) (by kernel_rfl) (fun _ _ _ h => h) (Or.inl ⟨by rfl, ?_⟩) (by assumption) ?_
            rotate_left 1
            · intro wS hSw; (try dsimp only at hSw); go_simp; try with_reducible rfl
            try simp only [Act.put, qsp50a, qsp50b, qsp50c]
            refine wpAnyH_take (i := 12) (oi := ⟨some 14, .assign (.tmp 63), 31, "law.go:239", #[⟨8, .data⟩, ⟨11, .chain⟩, ⟨0, .phase⟩, ⟨1, .phase⟩, ⟨2, .phase⟩, ⟨3, .phase⟩, ⟨4, .phase⟩, ⟨5, .phase⟩, ⟨6, .phase⟩, ⟨7, .phase⟩, ⟨8, .phase⟩, ⟨9, .phase⟩, ⟨10, .phase⟩, ⟨11, .phase⟩], none⟩) (v := ?_) rfl (by kernel_rfl) (by kernel_rfl) (by kernel_rfl) (fun _ _ _ h => h) (Or.inl ⟨by rfl, ?_⟩) (by assumption) ?_
            rotate_left 1
            · intro wS hSw; (try dsimp only at hSw); go_simp; try with_reducible rfl
            try simp only [Act.put]
            refine wpAnyH_done (by kernel_rfl) ?_ _
            have hZ := hHeld
            clear hHeld
            go_wp2_with fail
            go_meet
            exact ⟨A2, c2, q2, rfl, rfl, HM2.out, HQ1.out, hZ⟩
        case rest =>
          obtain ⟨A2, c2, q2, rfl, rfl, hM2, hQ2, hB5⟩ := hcut
          generalize wc = w5 at *
          have HM2 := Lib.hid hM2
          have HQ2 := Lib.hid hQ2
          have HQ15 := Lib.hid (HQ1.out.on hB5)
          have HQ05 := Lib.hid (HQ04.out.on hB5)
          have HB5 := Lib.hid (bthen HB4.out hB5 (Nat.le_refl _))
          have HMA := Lib.hid (show q0.map Mq.x = (q1 ++ q2).map Mq.x by rw [HM0.out, HAP.out, List.map_append, HM1.out, hM2])
          clear hM2 hQ2 hB5 HTW HLW HX4 HQ1 HQ04
          have hnn : q0.length = q1.length + q2.length := by
            have h := congrArg List.length HMA.out
            simp only [List.length_map, List.length_append] at h
            exact h
          have hn6 : q0.length ≤ 600 := by
            have hlq0 := congrArg List.length HM0.out
            rw [List.length_map] at hlq0
            rw [hlq0]
            exact HLN0.out
          have HLOW := Lib.hid (show ∀ p ∈ q0, p.x.head.length ≤ 8 from fun p hp => (oks_low R.1 _ (by rw [← HM0.out]; exact List.mem_map_of_mem hp)).len)
          have hw12 : IntKind.i64.wrap ((q1.length : Int) + (q2.length : Int)) = (q1.length : Int) + (q2.length : Int) := by rw [IntKind.wrap_i64]; omega
          have hll : (((q1.length : Int) + (q2.length : Int)) != (q0.length : Int)) = false := by rw [hnn]; simp
          obtain ⟨iD, hiD, hzD, hsD, hbD⟩ := info_parts infoMeS
          have hB8 := rtOne w5 (.cells #[] 25)
          have hown8 := World.ownsRow_made (e := 25) (size := 10) w5 #[] 0 (Nat.le_refl _) (by unfold maxLen; omega) rfl
          have hs8 : (w5.alloc (.cells #[] 25)).heap.size = w5.heap.size + 1 := by simp
          obtain ⟨v9, w9, hr9, ho9, hg9, -⟩ := appAny_run (P := Tryz.prog) (W := w5.alloc (.cells #[] 25)) 56 25 iD _ 10 120 Tryz.underlying56 hiD hzD hsD hbD (by rfl) (by decide) (by decide) hown8 (A := A1) (n := q1.length) (c := c1) ((HQ15.out.on hB8).row) (mqs_len _) (mqs_one q1) (by omega) (by omega)
          have hb9 := hB8.grown hg9 (by omega) (fun k hk => (hown8.lt k hk).1)
          rw [Nat.zero_add, List.nil_append] at ho9
          obtain ⟨v10, w10, hr10, ho10, hg10, -⟩ := appAny_run (P := Tryz.prog) (W := w9) 56 25 iD _ 10 120 Tryz.underlying56 hiD hzD hsD hbD (by rfl) (by decide) (by decide) ho9 (A := A2) (n := q2.length) (c := c2) ((HQ2.out.on hb9).row) (mqs_len _) (mqs_one q2) (by omega) hb9.size
          have hb10 := hb9.grown hg10 hb9.size (fun k hk => (ho9.lt k hk).1)
          have HB10 := Lib.hid (bthen HB5.out hb10 (Nat.le_refl _))
          have HQ010 := Lib.hid (HQ05.out.on hb10)
          obtain ⟨A9, c9, rfl, -, -, -, -⟩ := Rws.of_own ho9
          obtain ⟨A10, c10, rfl, -, -, hrow10, -⟩ := Rws.of_own ho10
          have HQ10 := Lib.hid (show Mqs w10 A10 (q1 ++ q2) from ⟨by rw [List.flatMap_append]; exact hrow10, fun p hp => by
            rcases List.mem_append.1 hp with hp | hp
            · exact (HQ15.out.on hb10).ok p hp
            · exact (HQ2.out.on hb10).ok p hp⟩)
          have HR9 := Lib.hid hr9
          have HR10 := Lib.hid hr10
          obtain ⟨N, hN⟩ : ∃ N, N = q1.length + q2.length := ⟨_, rfl⟩
          have HNN := Lib.hid hN
          have HN0 := Lib.hid hnn
          rw [← hN] at HR10
          clear hB8 hown8 hs8 hr9 ho9 hg9 hb9 hr10 ho10 hg10 hb10 hrow10 hiD hzD hsD hbD HQ15 HQ2 HQ05
          have hN6 : N ≤ 600 := by omega
          clear hN hnn hn6
          go_wp2_with (first
            | (at_builtin; refine wpList_append_run (by rfl) _ _ 56 (by rfl) _ _ (by rfl) (by rfl) HR9.out ?_)
            | (at_builtin; refine wpList_append_run (by rfl) _ _ 56 (by rfl) _ _ (by rfl) (by rfl) HR10.out ?_))
          have HS0 := Lib.hid (show (fun (g : Nat) (i : Value) (wr : World) => ∃ k : Nat, k + g = N ∧ i = .int .i64 (k : Int) ∧ Below w10.heap.size w10 wr) N (.int .i64 ((0 : Nat) : Int)) w10 from ⟨0, by omega, rfl, Below.refl _ _⟩)
          go_loopg [15, 83] N (fun g _ i wr => ∃ k : Nat, k + g = N ∧ i = .int .i64 (k : Int) ∧ Below w10.heap.size w10 wr)
          case atStart => exact HS0.out
          case round =>
            obtain ⟨k, hk, rfl, hBW⟩ := hrel
            have HK := Lib.hid hk
            have HBW := Lib.hid hBW
            have HB := Lib.hid (bthen HB10.out hBW (Nat.le_refl _))
            clear hk hBW HS0
            by_cases hlt : k < N
            · have hki : (k : Int) < (N : Int) := by omega
              have hk12 : k < (q1 ++ q2).length := by rw [List.length_append, ← HNN.out]; exact hlt
              have hk0 : k < q0.length := by rw [HN0.out, ← HNN.out]; exact hlt
              obtain ⟨b1, o1, rfl, hb1, hat1, hpr1⟩ := mqs_elt (HQ10.out.on HBW.out) hk12
              obtain ⟨b0, o0, rfl, hb0, hat0, hpr0⟩ := mqs_elt (HQ010.out.on HBW.out) hk0
              have hlow := HLOW.out _ (List.getElem_mem hk0)
              have hxx : q0[k].x = (q1 ++ q2)[k].x := by
                have h := congrArg (fun l => l[k]?) HMA.out
                simp only [List.getElem?_map, List.getElem?_eq_getElem hk0, List.getElem?_eq_getElem hk12, Option.map_some] at h
                exact Option.some.inj h
              generalize q0[k] = p0 at *
              generalize (q1 ++ q2)[k] = p1 at *
              obtain ⟨y, B0, d0⟩ := p0
              obtain ⟨y1, B1, d1⟩ := p1
              dsimp only at hxx hlow hpr0 hpr1
              subst hxx
              have HAT1 := Lib.hid (show wr.rangeAt b1 (o1 + k * 10) (meL y B1 d1) from hat1)
              have HAT0 := Lib.hid (show wr.rangeAt b0 (o0 + k * 10) (meL y B0 d0) from hat0)
              have hHSM := fun W h1 h2 => me_Same_any y y B1 d1 B0 d0 W (by omega) (by omega) h1 h2
              rw [meEq_self] at hHSM
              have HSM := Lib.hid (show ∀ W, Prs W B1 y.head → Prs W B0 y.head → Calls Tryz.prog 16 #[.agg (meL y B1 d1).toArray, .agg (meL y B0 d0).toArray] W fun e w' => e = .returned (.bool true) ∧ Below W.heap.size W w' from hHSM)
              have HX9 := Lib.hid (rtOne wr (.cells (meL y B1 d1).toArray 25))
              have HPX := Lib.hid (hpr1.on HX9.out)
              have HPZ := Lib.hid (hpr0.on HX9.out)
              have hne9 := BoxC.new (w := wr) (W := wr) (Nat.le_refl _) (meL y B1 d1).toArray 25
              have HG9 := Lib.hid hne9.lt
              have HE9 := Lib.hid hne9.cs.range
              have HY9 := Lib.hid (show (wr.alloc (.cells (meL y B1 d1).toArray 25)).rangeAt b0 (o0 + k * 10) (meL y B0 d0) from fun j v hj => (HX9.out.cell (p := ⟨b0, o0 + k * 10 + j, none⟩) hb0).trans (HAT0.out j v hj))
              have HB0L := Lib.hid (Nat.lt_of_lt_of_le hb0 HX9.out.size)
              have HB9 := Lib.hid (bthen HB.out HX9.out (Nat.le_refl _))
              have HBW9 := Lib.hid (bthen HBW.out HX9.out (Nat.le_refl _))
              clear hat1 hat0 hHSM hpr1 hpr0 hne9 hlow
              go_upto_region 16 with (first
                | (refine wpList_load_mid (by rfl) 25 _ (by rfl) b1 (o1 + k * 10) (by rfl) (meL y B1 d1) _ HAT1.out Tryz.underlying25 rfl (by rw [me_sizeS]; rfl) ?_)
                | (refine wpList_store_new2 (by rfl) 25 _ _ (by rfl) _ (meL y B1 d1).toArray (by rfl) (by rfl) (by rw [me_sizeS]; rfl) (by rfl) (me_allS _ _ _) ?_))
              clear HX9 HAT1 HAT0
              generalize hg9 : wr.heap.size = g9 at *
              try rw [hg9]
              generalize wr.alloc (.cells (meL y B1 d1).toArray 25) = w9 at *
              refine wp_region_held_drew (S := fun a => Below (w9.heap.size) w9 a) (by kernel_rfl) (by (try dsimp only); exact (Below.refl _ _).drew) (fun hHeld => ?_)
              refine wpAnyH_take (i := 0) (oi := ⟨some 88, .load 25 (.tmp 16), 25, "law.go:244", #[], none⟩) (v := .agg (meL y B1 d1).toArray) rfl (by kernel_rfl) (by kernel_rfl) (by kernel_rfl) (fun _ _ _ h => h) (yieldsIf_load_mid (by rfl) 25 _ (by rfl) g9 (0) (by rfl) (meL y B1 d1) _ (fun W9 h9 j v hj => (h9.cell (p := ⟨g9, 0 + j, none⟩) HG9.out).trans (HE9.out j v hj)) Tryz.underlying25 rfl (by rw [me_sizeS]; rfl)) (by assumption) ?_
              try simp only [Act.put, qsp50a, qsp50b, qsp50c]
              refine wpAnyH_take (i := 1) (oi := ⟨some 89, .move (.tmp 7), 56, "law.go:244", #[], none⟩) (v := ?_) rfl (by kernel_rfl) (by kernel_rfl) (by kernel_rfl) (fun _ _ _ h => h) (Or.inl ⟨by rfl, ?_⟩) (by assumption) ?_
              rotate_left 1
              · intro wS hSw; (try dsimp only at hSw); go_simp; try with_reducible rfl
              try simp only [Act.put, qsp50a, qsp50b, qsp50c]
              refine wpAnyH_take (i := 2) (oi := ⟨some 90, .move (.tmp 15), 3, "law.go:244", #[], none⟩) (v := ?_) rfl (by kernel_rfl) (by kernel_rfl) (by kernel_rfl) (fun _ _ _ h => h) (Or.inl ⟨by rfl, ?_⟩) (by assumption) ?_
              rotate_left 1
              · intro wS hSw; (try dsimp only at hSw); go_simp; try with_reducible rfl
              try simp only [Act.put, qsp50a, qsp50b, qsp50c]
              refine wpAnyH_take (i := 3) (oi := ⟨some 91, .indexAddr 56 (.tmp 89) (.tmp 90), 0, "law.go:244", #[⟨1, .data⟩, ⟨2, .data⟩], none⟩) (v := ?_) rfl (by kernel_rfl) (by kernel_rfl) (by kernel_rfl) (fun _ _ _ h => h) (Or.inl ⟨by rfl, ?_⟩) (by assumption) ?_
              rotate_left 1
              · intro wS hSw; (try dsimp only at hSw); go_simp; try with_reducible rfl
              try simp only [Act.put, qsp50a, qsp50b, qsp50c]
              refine wpAnyH_take (i := 4) (oi := ⟨some 92, .load 25 (.tmp 91), 25, "law.go:244", #[⟨3, .data⟩], none⟩) (v := .agg (meL y B0 d0).toArray) rfl (by kernel_rfl) (by kernel_rfl) (by kernel_rfl) (fun _ _ _ h => h) (yieldsIf_load_mid (by rfl) 25 _ (by rfl) b0 (o0 + k * 10) (by rfl) (meL y B0 d0) _ (fun W9 h9 j v hj => (h9.cell (p := ⟨b0, o0 + k * 10 + j, none⟩) HB0L.out).trans (HY9.out j v hj)) Tryz.underlying25 rfl (by rw [me_sizeS]; rfl)) (by assumption) ?_
              try simp only [Act.put, qsp50a, qsp50b, qsp50c]
              refine wpAnyH_ready (rs := [5]) (by kernel_rfl) (by simp) ?_
              refine AllReadyH.cons (o := ⟨some 93, .call { callee := .value (.func 16), args := #[.tmp 88, .tmp 92], argTypes := #[25, 25] }, 4, "law.go:244", #[⟨0, .data⟩, ⟨4, .data⟩], none⟩) rfl (fun K hK => ?_) (AllReadyH.nil)
              go_simp
              go_at_call 16
              refine (HSM.out _ (HPX.out.on hHeld) (HPZ.out.on hHeld)).mono ?_
              rintro e wx ⟨rfl, hb2⟩
              refine hK.out _ _ (bthen hHeld hb2 (Nat.le_refl _)) (fun hHeld2 => ?_)
              clear hK K hHeld hb2
              have hHeld := hHeld2
              clear hHeld2
              try simp only [Act.put, qsp50a, qsp50b, qsp50c]
              refine wpAnyH_take (i := 6) (oi := ⟨some 94, .unOp .not 4 (.tmp 93), 4, "law.go:244", #[⟨5, .data⟩], none⟩) (v := ?_) rfl (by kernel_rfl) (by kernel_rfl) (by kernel_rfl) (fun _ _ _ h => h) (Or.inl ⟨by rfl, ?_⟩) (by assumption) ?_
              rotate_left 1
              · intro wS hSw; (try dsimp only at hSw); go_simp; try with_reducible rfl
              try simp only [Act.put]
              refine wpAnyH_done (by kernel_rfl) ?_ _
              have hZ := hHeld
              clear hHeld
              have HB10 := Lib.hid (bthen HB9.out hZ (Nat.le_refl _))
              have HBW10 := Lib.hid (bthen HBW9.out hZ (Nat.le_refl _))
              clear hZ
              go_wp2_with fail
              go_roundg (gk - 1)
              case rel => exact ⟨k + 1, by have := HK.out; omega, by go_num, HBW10.out⟩
              case measure => have := HK.out; omega
            · have hkn : k = N := by have := HK.out; omega
              subst hkn
              go_wp2_with fail
              go_ret
              exact ⟨rfl, HB.out⟩
      · have hne : (stC R1 != 0) = true := by simpa using hf
        obtain ⟨hn1, hn2⟩ := HPN.out hf
        have hne2 : (stC R != 0) = true := by simpa using hn1
        have hll : ((q1.length : Int) == (q0.length : Int)) = true := by
          have hlq0 := congrArg List.length HM0.out
          have hlq1 := congrArg List.length HM1.out
          rw [List.length_map] at hlq0 hlq1
          rw [hlq0, hlq1, hn2]
          simp
        generalize stC R1 = C1 at *
        generalize stC R = C at *
        clear hf hn1 hn2
        generalize q1.length = n1 at *
        generalize q0.length = n0 at *
        go_wp2_with fail
        go_ret
        exact ⟨rfl, HB4.out⟩
end Go.Proofs.YtgaggelpjaiabaaGreatDoor
end
