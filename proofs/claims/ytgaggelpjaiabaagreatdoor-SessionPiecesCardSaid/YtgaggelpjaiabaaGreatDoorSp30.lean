/-
  MAY A METHOD COME NOW (of a session without open channels): walked.
-/
import Derived.Test.YtgaggelpjaiabaaGreatDoorSp29

section
namespace Go.Proofs.YtgaggelpjaiabaaGreatDoor
open Go.ChangeShapes Go.WideShapes Go.ChangeAt Go.RowKit
theorem qsp30a (l : List Value) (i : Nat) (v : Value) : l.toArray.setIfInBounds i v = (l.set i v).toArray := by simp
theorem qsp30b (v u : Value) (l : List Value) : (v :: l).set 0 u = u :: l := rfl
theorem qsp30c (v u : Value) (n : Nat) (l : List Value) : (v :: l).set (n + 1) u = v :: l.set n u := rfl
set_option maxRecDepth 100000 in
set_option maxHeartbeats 8000000 in
theorem seIsOpen_any (p r : List UInt8) (e : Nat) (b o : Bool) (n : Nat) (w : World) (hn : n < 256) : Calls Tryz.prog 44 #[seV p r e b o, .int .u8 (n : Int)] w fun x w' => x = .returned (.bool false) ∧ Below w.heap.size w w' := by
  simp only [seV]
  have HB := Lib.hid (rtOne w (.cells #[.string (ofL p), .string (ofL r), .int .i64 (e : Int), .bool b, .bool o, .int .i64 0, .slice none 0 0, .slice none 0 0, .bool false, .int .u64 0, .bool false, .slice none 0 0, .bool false, .int .i64 0, .slice none 0 0, .slice none 0 0, .bool false, .int .u64 0, .bool false, .slice none 0 0, .bool false, .int .i64 0, .slice none 0 0, .slice none 0 0, .bool false, .int .u64 0, .bool false, .slice none 0 0, .bool false, .int .i64 0, .slice none 0 0, .slice none 0 0, .bool false, .int .u64 0, .bool false, .slice none 0 0, .bool false] 45))
  by_cases h0 : n = 0
  · subst h0
    go_enter Tryz.func44, Tryz.ntmps44
    go_wp2_with fail
    go_ret
    exact ⟨rfl, HB.out⟩
  · have d0 : decide ((0 : Int) < (n : Int)) = true := decide_eq_true (by omega)
    have d0n : decide (0 < n) = true := decide_eq_true (by omega)
    by_cases h4 : n ≤ 4
    · have hc : n = 1 ∨ n = 2 ∨ n = 3 ∨ n = 4 := by omega
      rcases hc with rfl | rfl | rfl | rfl
      all_goals
        clear d0 d0n h0 h4 hn
        go_enter Tryz.func44, Tryz.ntmps44
        go_wp2_with fail
        go_ret
        exact ⟨rfl, HB.out⟩
    · have d4 : decide ((n : Int) ≤ 4) = false := decide_eq_false (by omega)
      have d4n : decide (n ≤ 4) = false := decide_eq_false (by omega)
      go_enter Tryz.func44, Tryz.ntmps44
      go_wp2_with fail
      go_ret
      exact ⟨rfl, HB.out⟩
theorem ret_i64 {a b : Int} (h : a = b) : Ending.returned (.int .i64 a) = Ending.returned (.int .i64 b) := by rw [h]
/-- may it begin a session -/
def mayB (kd ch n : Nat) : Int := if kd ≠ 0 ∨ ch ≠ 0 then 13 else if n ≠ 1 then 7 else 0
set_option maxRecDepth 100000 in
set_option maxHeartbeats 4000000 in
theorem seMayBegin_any (x : Me) (A : Option Addr) (c : Nat) (w : World) : Calls Tryz.prog 43 #[meV x A c] w fun e w' => e = .returned (.int .i64 (mayB x.kd.toNat x.ch.toNat x.n)) ∧ Below w.heap.size w w' := by
  simp only [meV]
  generalize x.kd.toNat = kd
  generalize x.ch.toNat = ch
  generalize hxn : x.n = n
  clear hxn
  have HB := Lib.hid (rtOne w (.cells #[.int .u8 (ch : Int), .int .u8 (kd : Int), .string (ofL x.name), .string (ofL x.other), .string (ofL x.key), .slice A x.head.length c, .string (ofL x.body), .int .u64 (n : Int), .int .u64 (x.m : Int), .bool x.yes] 25))
  by_cases h1 : kd = 0
  · have k1 : ((kd : Int) != 0) = false := by rw [h1]; rfl
    by_cases h2 : ch = 0
    · have k2 : ((ch : Int) != 0) = false := by rw [h2]; rfl
      by_cases h3 : n = 1
      · have k3 : ((n : Int) != 1) = false := by rw [h3]; rfl
        have e1 : mayB kd ch n = 0 := by unfold mayB; rw [if_neg (by omega), if_neg (by omega)]
        rw [e1]
        clear h1 h2 h3 e1
        go_enter Tryz.func43, Tryz.ntmps43
        go_wp2_with fail
        go_ret
        exact ⟨rfl, HB.out⟩
      · have k3 : ((n : Int) != 1) = true := by simp; omega
        have e1 : mayB kd ch n = 7 := by unfold mayB; rw [if_neg (by omega), if_pos h3]
        rw [e1]
        clear h1 h2 h3 e1
        go_enter Tryz.func43, Tryz.ntmps43
        go_wp2_with fail
        go_ret
        exact ⟨rfl, HB.out⟩
    · have k2 : ((ch : Int) != 0) = true := by simp; omega
      have e1 : mayB kd ch n = 13 := by unfold mayB; rw [if_pos (by omega)]
      rw [e1]
      clear h1 h2 e1
      go_enter Tryz.func43, Tryz.ntmps43
      go_wp2_with fail
      go_ret
      exact ⟨rfl, HB.out⟩
  · have k1 : ((kd : Int) != 0) = true := by simp; omega
    have e1 : mayB kd ch n = 13 := by unfold mayB; rw [if_pos (by omega)]
    rw [e1]
    clear h1 e1
    go_enter Tryz.func43, Tryz.ntmps43
    go_wp2_with fail
    go_ret
    exact ⟨rfl, HB.out⟩
/-- may it come -/
def mayN (b o : Bool) (kd ch n : Nat) : Int := if o = true then 20 else if b = false then mayB kd ch n else if kd = 0 ∨ ch = 0 then 13 else if 4 < ch then 7 else if kd = 1 then 0 else 13
set_option maxRecDepth 100000 in
set_option maxHeartbeats 8000000 in
theorem seMay_any (p r : List UInt8) (e : Nat) (b o : Bool) (x : Me) (A : Option Addr) (c : Nat) (w : World) : Calls Tryz.prog 26 #[seV p r e b o, meV x A c] w fun y w' => y = .returned (.int .i64 (mayN b o x.kd.toNat x.ch.toNat x.n)) ∧ Below w.heap.size w w' := by
  have HMB := Lib.hid (fun W => seMayBegin_any x A c W)
  simp only [seV, meV] at HMB ⊢
  have hch := UInt8.toNat_lt x.ch
  generalize x.kd.toNat = kd at *
  generalize x.ch.toNat = ch at *
  have HB2 := Lib.hid (rtTwo w (.cells #[.string (ofL p), .string (ofL r), .int .i64 (e : Int), .bool b, .bool o, .int .i64 0, .slice none 0 0, .slice none 0 0, .bool false, .int .u64 0, .bool false, .slice none 0 0, .bool false, .int .i64 0, .slice none 0 0, .slice none 0 0, .bool false, .int .u64 0, .bool false, .slice none 0 0, .bool false, .int .i64 0, .slice none 0 0, .slice none 0 0, .bool false, .int .u64 0, .bool false, .slice none 0 0, .bool false, .int .i64 0, .slice none 0 0, .slice none 0 0, .bool false, .int .u64 0, .bool false, .slice none 0 0, .bool false] 45) (.cells #[.int .u8 (ch : Int), .int .u8 (kd : Int), .string (ofL x.name), .string (ofL x.other), .string (ofL x.key), .slice A x.head.length c, .string (ofL x.body), .int .u64 (x.n : Int), .int .u64 (x.m : Int), .bool x.yes] 25))
  have HX2 := Lib.hid (rtNext (rtAt0 w #[.string (ofL p), .string (ofL r), .int .i64 (e : Int), .bool b, .bool o, .int .i64 0, .slice none 0 0, .slice none 0 0, .bool false, .int .u64 0, .bool false, .slice none 0 0, .bool false, .int .i64 0, .slice none 0 0, .slice none 0 0, .bool false, .int .u64 0, .bool false, .slice none 0 0, .bool false, .int .i64 0, .slice none 0 0, .slice none 0 0, .bool false, .int .u64 0, .bool false, .slice none 0 0, .bool false, .int .i64 0, .slice none 0 0, .slice none 0 0, .bool false, .int .u64 0, .bool false, .slice none 0 0, .bool false] 45) (.cells #[.int .u8 (ch : Int), .int .u8 (kd : Int), .string (ofL x.name), .string (ofL x.other), .string (ofL x.key), .slice A x.head.length c, .string (ofL x.body), .int .u64 (x.n : Int), .int .u64 (x.m : Int), .bool x.yes] 25))
  have HM2 := Lib.hid (rtAt1 w (.cells #[.string (ofL p), .string (ofL r), .int .i64 (e : Int), .bool b, .bool o, .int .i64 0, .slice none 0 0, .slice none 0 0, .bool false, .int .u64 0, .bool false, .slice none 0 0, .bool false, .int .i64 0, .slice none 0 0, .slice none 0 0, .bool false, .int .u64 0, .bool false, .slice none 0 0, .bool false, .int .i64 0, .slice none 0 0, .slice none 0 0, .bool false, .int .u64 0, .bool false, .slice none 0 0, .bool false, .int .i64 0, .slice none 0 0, .slice none 0 0, .bool false, .int .u64 0, .bool false, .slice none 0 0, .bool false] 45) #[.int .u8 (ch : Int), .int .u8 (kd : Int), .string (ofL x.name), .string (ofL x.other), .string (ofL x.key), .slice A x.head.length c, .string (ofL x.body), .int .u64 (x.n : Int), .int .u64 (x.m : Int), .bool x.yes] 25)
  cases o with
  | true =>
    go_enter Tryz.func26, Tryz.ntmps26
    go_wp2_with fail
    go_ret
    exact ⟨rfl, HB2.out⟩
  | false =>
    cases b with
    | false =>
      have hm : mayN false false kd ch x.n = mayB kd ch x.n := rfl
      rw [hm]
      clear hm
      generalize mayB kd ch x.n = N at *
      go_enter Tryz.func26, Tryz.ntmps26
      go_wp2_with fail
      refine (HMB.out _).mono ?_
      rintro y w3 ⟨rfl, b3⟩
      have HB3 := Lib.hid (bthen HB2.out b3 (Nat.le_refl _))
      clear b3
      go_wp2_with fail
      go_ret
      exact ⟨rfl, HB3.out⟩
    | true =>
      have hm : mayN true false kd ch x.n = if kd = 0 ∨ ch = 0 then 13 else if 4 < ch then 7 else if kd = 1 then 0 else 13 := rfl
      rw [hm]
      clear hm HMB
      by_cases h1 : kd = 0
      · have k1 : ((kd : Int) == 0) = true := by rw [h1]; rfl
        rw [if_pos (Or.inl h1)]
        clear h1
        go_enter Tryz.func26, Tryz.ntmps26
        go_wp2_with fail
        go_ret
        exact ⟨rfl, HB2.out⟩
      · have k1 : ((kd : Int) == 0) = false := by simp; omega
        by_cases h2 : ch = 0
        · have k2 : ((ch : Int) == 0) = true := by rw [h2]; rfl
          rw [if_pos (Or.inr h2)]
          clear h1 h2
          go_enter Tryz.func26, Tryz.ntmps26
          go_wp2_with fail
          go_ret
          exact ⟨rfl, HB2.out⟩
        · have k2 : ((ch : Int) == 0) = false := by simp; omega
          by_cases h3 : 4 < ch
          · have k3 : decide ((ch : Int) > 4) = true := decide_eq_true (by omega)
            have k3n : decide (4 < ch) = true := decide_eq_true h3
            rw [if_neg (by omega), if_pos h3]
            clear h1 h2
            go_enter Tryz.func26, Tryz.ntmps26
            go_wp2_with fail
            go_ret
            exact ⟨rfl, HB2.out⟩
          · have k3 : decide ((ch : Int) > 4) = false := decide_eq_false (by omega)
            have k3n : decide (4 < ch) = false := decide_eq_false h3
            have HIO := Lib.hid (fun W => seIsOpen_any p r e true false ch W (by omega))
            simp only [seV] at HIO
            by_cases h5 : kd = 1
            · have k5 : ((kd : Int) == 1) = true := by rw [h5]; rfl
              have HM := Lib.hid (show (0 : Int) = (if kd = 0 ∨ ch = 0 then 13 else if 4 < ch then 7 else if kd = 1 then 0 else 13) by rw [if_neg (by omega), if_neg h3, if_pos h5])
              obtain ⟨M, hM⟩ : ∃ M : Int, M = if kd = 0 ∨ ch = 0 then 13 else if 4 < ch then 7 else if kd = 1 then 0 else 13 := ⟨_, rfl⟩
              rw [← hM] at HM ⊢
              clear hM h1 h2 h3 h5
              go_enter Tryz.func26, Tryz.ntmps26
              go_upto_region 9 with fail
              have HX := Lib.hid (show BoxC w w.heap.size (seL p r e true false) ((w.alloc (.cells #[.string (ofL p), .string (ofL r), .int .i64 (e : Int), .bool true, .bool false, .int .i64 0, .slice none 0 0, .slice none 0 0, .bool false, .int .u64 0, .bool false, .slice none 0 0, .bool false, .int .i64 0, .slice none 0 0, .slice none 0 0, .bool false, .int .u64 0, .bool false, .slice none 0 0, .bool false, .int .i64 0, .slice none 0 0, .slice none 0 0, .bool false, .int .u64 0, .bool false, .slice none 0 0, .bool false, .int .i64 0, .slice none 0 0, .slice none 0 0, .bool false, .int .u64 0, .bool false, .slice none 0 0, .bool false] 45)).alloc (.cells #[.int .u8 (ch : Int), .int .u8 (kd : Int), .string (ofL x.name), .string (ofL x.other), .string (ofL x.key), .slice A x.head.length c, .string (ofL x.body), .int .u64 (x.n : Int), .int .u64 (x.m : Int), .bool x.yes] 25)) from HX2.out)
              have m0 := HM2.out.cs 0 _ rfl
              have m1 := HM2.out.cs 1 _ rfl
              clear HX2
              generalize (w.alloc (.cells #[.string (ofL p), .string (ofL r), .int .i64 (e : Int), .bool true, .bool false, .int .i64 0, .slice none 0 0, .slice none 0 0, .bool false, .int .u64 0, .bool false, .slice none 0 0, .bool false, .int .i64 0, .slice none 0 0, .slice none 0 0, .bool false, .int .u64 0, .bool false, .slice none 0 0, .bool false, .int .i64 0, .slice none 0 0, .slice none 0 0, .bool false, .int .u64 0, .bool false, .slice none 0 0, .bool false, .int .i64 0, .slice none 0 0, .slice none 0 0, .bool false, .int .u64 0, .bool false, .slice none 0 0, .bool false] 45)).alloc (.cells #[.int .u8 (ch : Int), .int .u8 (kd : Int), .string (ofL x.name), .string (ofL x.other), .string (ofL x.key), .slice A x.head.length c, .string (ofL x.body), .int .u64 (x.n : Int), .int .u64 (x.m : Int), .bool x.yes] 25) = w2 at *
              refine wp_region_held_drew (S := fun a => Below (w2.heap.size) w2 a) (by kernel_rfl) (by (try dsimp only); exact (Below.refl _ _).drew) (fun hHeld => ?_)
              refine wpAnyH_take (i := 0) (oi := ⟨some 28, .load 45 (.tmp 2), 45, "plan.go:34", #[], none⟩) (v := .agg (seL p r e true false).toArray) rfl (by kernel_rfl) (by kernel_rfl) (by kernel_rfl) (fun _ _ _ h => h) (yieldsIf_load_mid (by rfl) 45 _ (by rfl) w.heap.size 0 (by rfl) (seL p r e true false) _ (fun W9 h9 => (cels_far HX.out.cs h9 HX.out.lt).range) Tryz.underlying45 rfl (by rw [se_size, seL_len])) (by assumption) ?_
              try simp only [Act.put, qsp30a, qsp30b, qsp30c]
              refine wpAnyH_take (i := 1) (oi := ⟨some 29, .fieldAddr 25 (.tmp 3) 0, 0, "plan.go:34", #[], none⟩) (v := ?_) rfl (by kernel_rfl) (by kernel_rfl) (by kernel_rfl) (fun _ _ _ h => h) (Or.inl ⟨by rfl, ?_⟩) (by assumption) ?_
              rotate_left 1
              · intro wS hSw; (try dsimp only at hSw); go_simp; try with_reducible rfl
              try simp only [Act.put, qsp30a, qsp30b, qsp30c]
              refine wpAnyH_take (i := 2) (oi := ⟨some 30, .load 5 (.tmp 29), 5, "plan.go:34", #[⟨1, .data⟩], none⟩) (v := ?_) rfl (by kernel_rfl) (by kernel_rfl) (by kernel_rfl) (fun _ _ _ h => h) (Or.inl ⟨by rfl, ?_⟩) (by assumption) ?_
              rotate_left 1
              · intro wS hSw; (try dsimp only at hSw); have m0 := cell_on hSw m0; have m1 := cell_on hSw m1; go_simp; try with_reducible rfl
              try simp only [Act.put, qsp30a, qsp30b, qsp30c]
              refine wpAnyH_take (i := 4) (oi := ⟨some 32, .fieldAddr 25 (.tmp 3) 1, 0, "plan.go:34", #[], none⟩) (v := ?_) rfl (by kernel_rfl) (by kernel_rfl) (by kernel_rfl) (fun _ _ _ h => h) (Or.inl ⟨by rfl, ?_⟩) (by assumption) ?_
              rotate_left 1
              · intro wS hSw; (try dsimp only at hSw); go_simp; try with_reducible rfl
              try simp only [Act.put, qsp30a, qsp30b, qsp30c]
              refine wpAnyH_take (i := 5) (oi := ⟨some 33, .load 5 (.tmp 32), 5, "plan.go:34", #[⟨4, .data⟩], none⟩) (v := ?_) rfl (by kernel_rfl) (by kernel_rfl) (by kernel_rfl) (fun _ _ _ h => h) (Or.inl ⟨by rfl, ?_⟩) (by assumption) ?_
              rotate_left 1
              · intro wS hSw; (try dsimp only at hSw); have m0 := cell_on hSw m0; have m1 := cell_on hSw m1; go_simp; try with_reducible rfl
              try simp only [Act.put, qsp30a, qsp30b, qsp30c]
              refine wpAnyH_take (i := 6) (oi := ⟨some 34, .binOp .eql 5 (.tmp 33) (.const (.int .u8 1)) 5, 4, "plan.go:34", #[⟨5, .data⟩], none⟩) (v := ?_) rfl (by kernel_rfl) (by kernel_rfl) (by kernel_rfl) (fun _ _ _ h => h) (Or.inl ⟨by rfl, ?_⟩) (by assumption) ?_
              rotate_left 1
              · intro wS hSw; (try dsimp only at hSw); go_simp; try with_reducible rfl
              try simp only [Act.put, qsp30a, qsp30b, qsp30c]
              refine wpAnyH_ready (rs := [3]) (by kernel_rfl) (by simp) ?_
              refine AllReadyH.cons (o := ⟨some 31, .call { callee := .value (.func 44), args := #[.tmp 28, .tmp 30], argTypes := #[45, 5] }, 4, "plan.go:34", #[⟨0, .data⟩, ⟨2, .data⟩], none⟩) rfl (fun K hK => ?_) (AllReadyH.nil)
              go_simp
              go_at_call 44
              refine (HIO.out _).mono ?_
              rintro e wx ⟨rfl, hb2⟩
              refine hK.out _ _ (bthen hHeld hb2 (Nat.le_refl _)) (fun hHeld2 => ?_)
              clear hK K hHeld hb2
              have hHeld := hHeld2
              clear hHeld2
              try simp only [Act.put, qsp30a, qsp30b, qsp30c]
              refine wpAnyH_take (i := 7) (oi := ⟨some 35, .binOp .eql 4 (.tmp 31) (.tmp 34) 4, 4, "plan.go:34", #[⟨3, .data⟩, ⟨6, .data⟩], none⟩) (v := ?_) rfl (by kernel_rfl) (by kernel_rfl) (by kernel_rfl) (fun _ _ _ h => h) (Or.inl ⟨by rfl, ?_⟩) (by assumption) ?_
              rotate_left 1
              · intro wS hSw; (try dsimp only at hSw); go_simp; try with_reducible rfl
              try simp only [Act.put, qsp30a, qsp30b, qsp30c]
              refine wpAnyH_take (i := 8) (oi := ⟨some 27, .assign (.tmp 35), 4, "plan.go:34", #[⟨7, .data⟩, ⟨3, .chain⟩], none⟩) (v := ?_) rfl (by kernel_rfl) (by kernel_rfl) (by kernel_rfl) (fun _ _ _ h => h) (Or.inl ⟨by rfl, ?_⟩) (by assumption) ?_
              rotate_left 1
              · intro wS hSw; (try dsimp only at hSw); go_simp; try with_reducible rfl
              try simp only [Act.put, qsp30a, qsp30b, qsp30c]
              refine wpAnyH_done (by kernel_rfl) ?_ _
              have hZ := hHeld
              clear hHeld
              have HBF := Lib.hid (bthen HB2.out hZ (Nat.le_refl _))
              clear hZ
              go_wp2_with fail
              go_ret
              exact ⟨ret_i64 HM.out, HBF.out⟩
            · have k5 : ((kd : Int) == 1) = false := by simp; omega
              have HM := Lib.hid (show (13 : Int) = (if kd = 0 ∨ ch = 0 then 13 else if 4 < ch then 7 else if kd = 1 then 0 else 13) by rw [if_neg (by omega), if_neg h3, if_neg h5])
              obtain ⟨M, hM⟩ : ∃ M : Int, M = if kd = 0 ∨ ch = 0 then 13 else if 4 < ch then 7 else if kd = 1 then 0 else 13 := ⟨_, rfl⟩
              rw [← hM] at HM ⊢
              clear hM h1 h2 h3 h5
              go_enter Tryz.func26, Tryz.ntmps26
              go_upto_region 9 with fail
              have HX := Lib.hid (show BoxC w w.heap.size (seL p r e true false) ((w.alloc (.cells #[.string (ofL p), .string (ofL r), .int .i64 (e : Int), .bool true, .bool false, .int .i64 0, .slice none 0 0, .slice none 0 0, .bool false, .int .u64 0, .bool false, .slice none 0 0, .bool false, .int .i64 0, .slice none 0 0, .slice none 0 0, .bool false, .int .u64 0, .bool false, .slice none 0 0, .bool false, .int .i64 0, .slice none 0 0, .slice none 0 0, .bool false, .int .u64 0, .bool false, .slice none 0 0, .bool false, .int .i64 0, .slice none 0 0, .slice none 0 0, .bool false, .int .u64 0, .bool false, .slice none 0 0, .bool false] 45)).alloc (.cells #[.int .u8 (ch : Int), .int .u8 (kd : Int), .string (ofL x.name), .string (ofL x.other), .string (ofL x.key), .slice A x.head.length c, .string (ofL x.body), .int .u64 (x.n : Int), .int .u64 (x.m : Int), .bool x.yes] 25)) from HX2.out)
              have m0 := HM2.out.cs 0 _ rfl
              have m1 := HM2.out.cs 1 _ rfl
              clear HX2
              generalize (w.alloc (.cells #[.string (ofL p), .string (ofL r), .int .i64 (e : Int), .bool true, .bool false, .int .i64 0, .slice none 0 0, .slice none 0 0, .bool false, .int .u64 0, .bool false, .slice none 0 0, .bool false, .int .i64 0, .slice none 0 0, .slice none 0 0, .bool false, .int .u64 0, .bool false, .slice none 0 0, .bool false, .int .i64 0, .slice none 0 0, .slice none 0 0, .bool false, .int .u64 0, .bool false, .slice none 0 0, .bool false, .int .i64 0, .slice none 0 0, .slice none 0 0, .bool false, .int .u64 0, .bool false, .slice none 0 0, .bool false] 45)).alloc (.cells #[.int .u8 (ch : Int), .int .u8 (kd : Int), .string (ofL x.name), .string (ofL x.other), .string (ofL x.key), .slice A x.head.length c, .string (ofL x.body), .int .u64 (x.n : Int), .int .u64 (x.m : Int), .bool x.yes] 25) = w2 at *
              refine wp_region_held_drew (S := fun a => Below (w2.heap.size) w2 a) (by kernel_rfl) (by (try dsimp only); exact (Below.refl _ _).drew) (fun hHeld => ?_)
              refine wpAnyH_take (i := 0) (oi := ⟨some 28, .load 45 (.tmp 2), 45, "plan.go:34", #[], none⟩) (v := .agg (seL p r e true false).toArray) rfl (by kernel_rfl) (by kernel_rfl) (by kernel_rfl) (fun _ _ _ h => h) (yieldsIf_load_mid (by rfl) 45 _ (by rfl) w.heap.size 0 (by rfl) (seL p r e true false) _ (fun W9 h9 => (cels_far HX.out.cs h9 HX.out.lt).range) Tryz.underlying45 rfl (by rw [se_size, seL_len])) (by assumption) ?_
              try simp only [Act.put, qsp30a, qsp30b, qsp30c]
              refine wpAnyH_take (i := 1) (oi := ⟨some 29, .fieldAddr 25 (.tmp 3) 0, 0, "plan.go:34", #[], none⟩) (v := ?_) rfl (by kernel_rfl) (by kernel_rfl) (by kernel_rfl) (fun _ _ _ h => h) (Or.inl ⟨by rfl, ?_⟩) (by assumption) ?_
              rotate_left 1
              · intro wS hSw; (try dsimp only at hSw); go_simp; try with_reducible rfl
              try simp only [Act.put, qsp30a, qsp30b, qsp30c]
              refine wpAnyH_take (i := 2) (oi := ⟨some 30, .load 5 (.tmp 29), 5, "plan.go:34", #[⟨1, .data⟩], none⟩) (v := ?_) rfl (by kernel_rfl) (by kernel_rfl) (by kernel_rfl) (fun _ _ _ h => h) (Or.inl ⟨by rfl, ?_⟩) (by assumption) ?_
              rotate_left 1
              · intro wS hSw; (try dsimp only at hSw); have m0 := cell_on hSw m0; have m1 := cell_on hSw m1; go_simp; try with_reducible rfl
              try simp only [Act.put, qsp30a, qsp30b, qsp30c]
              refine wpAnyH_take (i := 4) (oi := ⟨some 32, .fieldAddr 25 (.tmp 3) 1, 0, "plan.go:34", #[], none⟩) (v := ?_) rfl (by kernel_rfl) (by kernel_rfl) (by kernel_rfl) (fun _ _ _ h => h) (Or.inl ⟨by rfl, ?_⟩) (by assumption) ?_
              rotate_left 1
              · intro wS hSw; (try dsimp only at hSw); go_simp; try with_reducible rfl
              try simp only [Act.put, qsp30a, qsp30b, qsp30c]
              refine wpAnyH_take (i := 5) (oi := ⟨some 33, .load 5 (.tmp 32), 5, "plan.go:34", #[⟨4, .data⟩], none⟩) (v := ?_) rfl (by kernel_rfl) (by kernel_rfl) (by kernel_rfl) (fun _ _ _ h => h) (Or.inl ⟨by rfl, ?_⟩) (by assumption) ?_
              rotate_left 1
              · intro wS hSw; (try dsimp only at hSw); have m0 := cell_on hSw m0; have m1 := cell_on hSw m1; go_simp; try with_reducible rfl
              try simp only [Act.put, qsp30a, qsp30b, qsp30c]
              refine wpAnyH_take (i := 6) (oi := ⟨some 34, .binOp .eql 5 (.tmp 33) (.const (.int .u8 1)) 5, 4, "plan.go:34", #[⟨5, .data⟩], none⟩) (v := ?_) rfl (by kernel_rfl) (by kernel_rfl) (by kernel_rfl) (fun _ _ _ h => h) (Or.inl ⟨by rfl, ?_⟩) (by assumption) ?_
              rotate_left 1
              · intro wS hSw; (try dsimp only at hSw); go_simp; try with_reducible rfl
              try simp only [Act.put, qsp30a, qsp30b, qsp30c]
              refine wpAnyH_ready (rs := [3]) (by kernel_rfl) (by simp) ?_
              refine AllReadyH.cons (o := ⟨some 31, .call { callee := .value (.func 44), args := #[.tmp 28, .tmp 30], argTypes := #[45, 5] }, 4, "plan.go:34", #[⟨0, .data⟩, ⟨2, .data⟩], none⟩) rfl (fun K hK => ?_) (AllReadyH.nil)
              go_simp
              go_at_call 44
              refine (HIO.out _).mono ?_
              rintro e wx ⟨rfl, hb2⟩
              refine hK.out _ _ (bthen hHeld hb2 (Nat.le_refl _)) (fun hHeld2 => ?_)
              clear hK K hHeld hb2
              have hHeld := hHeld2
              clear hHeld2
              try simp only [Act.put, qsp30a, qsp30b, qsp30c]
              refine wpAnyH_take (i := 7) (oi := ⟨some 35, .binOp .eql 4 (.tmp 31) (.tmp 34) 4, 4, "plan.go:34", #[⟨3, .data⟩, ⟨6, .data⟩], none⟩) (v := ?_) rfl (by kernel_rfl) (by kernel_rfl) (by kernel_rfl) (fun _ _ _ h => h) (Or.inl ⟨by rfl, ?_⟩) (by assumption) ?_
              rotate_left 1
              · intro wS hSw; (try dsimp only at hSw); go_simp; try with_reducible rfl
              try simp only [Act.put, qsp30a, qsp30b, qsp30c]
              refine wpAnyH_take (i := 8) (oi := ⟨some 27, .assign (.tmp 35), 4, "plan.go:34", #[⟨7, .data⟩, ⟨3, .chain⟩], none⟩) (v := ?_) rfl (by kernel_rfl) (by kernel_rfl) (by kernel_rfl) (fun _ _ _ h => h) (Or.inl ⟨by rfl, ?_⟩) (by assumption) ?_
              rotate_left 1
              · intro wS hSw; (try dsimp only at hSw); go_simp; try with_reducible rfl
              try simp only [Act.put, qsp30a, qsp30b, qsp30c]
              refine wpAnyH_done (by kernel_rfl) ?_ _
              have hZ := hHeld
              clear hHeld
              have HBF := Lib.hid (bthen HB2.out hZ (Nat.le_refl _))
              clear hZ
              go_wp2_with fail
              go_ret
              exact ⟨ret_i64 HM.out, HBF.out⟩
end Go.Proofs.YtgaggelpjaiabaaGreatDoor
end
