/-
  THE DOCUMENT's DISK: a write that waits; a read; a new one.
-/
import Derived.Test.YtpdgadohfhmcnaaDkV
namespace Go.Proofs.Ytpdgadohfhmcnaa
open Go.ChangeShapes Go.WideShapes Go.ChangeAt Go.RowKit

theorem kp_set {F : Nat → Prop} {w w' : World} (h : Kp F w w') (b i : Nat) (v : Value) (hb : F b) : Kp F w (w'.setCell ⟨b, i, none⟩ v) := h.trans (Kp.set w' ⟨b, i, none⟩ v hb) (fun _ _ f => f)
set_option maxHeartbeats 8000000 in
theorem r15Put_ok (L : ByteArray) (A : Option Addr) (l : List Dk.Wr) (c : Nat) (on am : Bool) (sy ct : Int) (a : Nat) (d : List UInt8) (w : World) (hd : d.length ≤ 64) (hl : l.length ≤ 100000) (hA : WRow w A l)
    (HC : ∀ W, Below w.heap.size w W → Calls Try.prog 35 #[sixV L A l.length c on am sy ct, .int .i64 (a : Int)] W fun e w' => e = .returned (.int .i64 0) ∧ Below W.heap.size W w') :
    Calls Try.prog 30 #[sixV L A l.length c on am sy ct, .int .i64 (a : Int), .string (ofL d)] w fun e w' => ∃ gg cap, e = .returned (.tuple #[sixV L (some ⟨gg, 0, none⟩) (l.length + 1) cap on am sy ct, .int .i64 0]) ∧ w.heap.size ≤ gg ∧ WRow w' (some ⟨gg, 0, none⟩) (l ++ [(a, d)]) ∧ Below w.heap.size w w' := by
  replace HC := Lib.hid HC
  have hz : (ofL d).size = d.length := ofL_size d
  have HTL := Lib.hid (two_laid w (.cells #[.string L, .slice A l.length c, .bool on, .bool am, .int .i64 sy, .int .i64 ct] 31) (.cells #[.string ⟨#[]⟩, .slice none 0 0, .bool false, .bool false, .int .i64 0, .int .i64 0] 31))
  have k0 : decide ((d.length : Int) > 64) = false := decide_eq_false (by omega)
  have HA := Lib.hid hA
  obtain ⟨i1, hi1, hz0, hz1, hz2⟩ := info_parts infoRwr
  clear hA hd
  go_enter Try.func30, Try.ntmps30
  go_wp2_with fail
  refine (HC.out _ HTL.out.2.2).mono ?_
  rintro x w1 ⟨rfl, b1⟩
  have HR := Lib.hid ((b1.block (w.heap.size + 1) (by simp)).trans HTL.out.2.1)
  have HQ := Lib.hid ((b1.block w.heap.size (by simp; omega)).trans HTL.out.1)
  obtain ⟨q0, q1, q2, q3, q4, q5⟩ := six_cells HQ.out
  have HB := Lib.hid (Below.trans HTL.out.2.2 (b1.mono HTL.out.2.2.size))
  obtain ⟨A', c', w2, hrun, hown, hb2⟩ := wcopy_run (c := c) hl (HA.out.on (show Below w.heap.size w w1 from HB.out))
  have HR2 := Lib.hid ((hb2.block _ (Array.getElem?_eq_some_iff.1 HR.out).1).trans HR.out)
  have HQ2 := Lib.hid ((hb2.block _ (Array.getElem?_eq_some_iff.1 HQ.out).1).trans HQ.out)
  have HB2 := Lib.hid (Below.trans HB.out (hb2.mono HB.out.size))
  have HOW := Lib.hid hown
  have HS := Lib.hid hb2.size
  have hsz1 : w.heap.size + 1 < w1.heap.size := (Array.getElem?_eq_some_iff.1 HR.out).1
  have HSZ1 := Lib.hid hsz1
  have HGE := Lib.hid (show w.heap.size ≤ w.heap.size + 1 from Nat.le_succ _)
  clear b1 hown hb2 hsz1
  have HRUN := Lib.hid hrun
  clear hrun
  go_upto_region 8 with (first | (at_builtin; refine wpList_app_run (by rfl) _ _ _ (by rfl) _ _ (by rfl) (by rfl) HRUN.out ?_))
  clear q0 q1 q2 q3 q4 q5
  obtain ⟨q0, q1, q2, q3, q4, q5⟩ := six_cells HQ2.out
  have q1f := Lib.frozen_of_heap HQ2.out 1
  go_wp2_with (first
    | (at_builtin; refine wpList_append_lies _ rfl _ _ 29 rfl w1.heap.size 70 i1 _ 2 24 Try.underlying29 hi1 hz0 hz1 hz2 rfl (by omega) (.slice A' l.length c') l.length (wcells l) (by rfl) (HOW.out.alloc _) ⟨w2.heap.size, 0, none⟩ 1 1 [.int .i64 (a : Int), .string (ofL d)] (by rfl) (by rfl) (World.news_of_block (heap_alloc_new w2 _)) (by simp [Value.oneCell']) (by omega) (by unfold maxLen; omega) (by omega) (by have := HS.out; simp; omega) _ rfl ?_; intro gg cap w3 hown1 hgrow hat hlt'; have HW := Lib.hid hown1; have HG := Lib.hid hgrow; have HLT := Lib.hid hlt'; clear hown1 hgrow hat hlt'; have HR3 := Lib.hid ((HG.out.block (w.heap.size + 1) (by have := HSZ1.out; have := HS.out; simp; omega) (fun e => by have := (HOW.out.lt _ e.symm).1; have := HSZ1.out; omega)).trans ((Below.heap_alloc w2 _ (w.heap.size + 1) (by have := HSZ1.out; have := HS.out; omega)).trans HR2.out)); have HQ3 := Lib.hid ((HG.out.block w.heap.size (by have := HSZ1.out; have := HS.out; simp; omega) (fun e => by have := (HOW.out.lt _ e.symm).1; have := HSZ1.out; omega)).trans ((Below.heap_alloc w2 _ w.heap.size (by have := HSZ1.out; have := HS.out; omega)).trans HQ2.out)); obtain ⟨s0, s1, s2, s3, s4, s5⟩ := six_cells HQ3.out; obtain ⟨r0, r1, r2, r3, r4, r5⟩ := six_cells HR3.out; have sf := Lib.frozen_of_heap HQ3.out 1; have f0 := Lib.frozen_of_heap HR3.out 0; have f1 := Lib.frozen_of_heap HR3.out 1; have f2 := Lib.frozen_of_heap HR3.out 2; have f3 := Lib.frozen_of_heap HR3.out 3; have f4 := Lib.frozen_of_heap HR3.out 4; have f5 := Lib.frozen_of_heap HR3.out 5; have l0 := (Array.getElem?_eq_some_iff.1 HQ3.out).1; have l1 := (Array.getElem?_eq_some_iff.1 HR3.out).1; have hne : w.heap.size ≠ w.heap.size + 1 := (by omega); clear q0 q1 q2 q3 q4 q5 q1f; obtain ⟨rb, hrb⟩ : ∃ rb, rb = w.heap.size + 1 := ⟨_, rfl⟩; have HRB := Lib.hid hrb; rw [← hrb] at r0 r1 r2 r3 r4 r5 f0 f1 f2 f3 f4 f5 l1 hne ⊢; clear hrb))
  have HWR := Lib.hid (show WRow w3 (some ⟨gg, 0, none⟩) (l ++ [(a, d)]) from by
    have e : wcells l ++ [Value.int .i64 (a : Int), .string (ofL d)] = wcells (l ++ [(a, d)]) := by rw [wcells_app]; rfl
    have h := HW.out
    rw [e, show l.length + 1 = (l ++ [(a, d)]).length by simp] at h
    obtain ⟨A2, c2, e2, -, hR, -⟩ := wrow_of h
    obtain ⟨rfl, -, -⟩ := Value.slice.inj e2
    exact hR)
  have HGG := Lib.hid (show w1.heap.size ≤ gg from (HW.out.lt gg rfl).1)
  have HB3 := Lib.hid ((HB2.out.alloc HB2.out.size (.cells #[.int .i64 (a : Int), .string (ofL d)] 70)).grown HG.out (by have := HB2.out.size; simp; omega) (fun k hk => by have := (HOW.out.lt k hk).1; have := HB.out.size; omega))
  refine bodyPost_ret (v := .tuple #[sixV L (some ⟨gg, 0, none⟩) (l.length + 1) cap on am sy ct, .int .i64 0]) (by simp [results, Try.results30, go_sem, r0, r1, r2, r3, r4, r5]) rfl ⟨gg, cap, rfl, ?_, ?_, ?_⟩
  · have := HGG.out; have := HB.out.size; omega
  · refine HWR.out.kp (F := fun k => k = w.heap.size ∨ k = rb) ?_ (fun a e hF => ?_)
    · exact kp_set (kp_set (kp_set (kp_set (kp_set (kp_set (kp_set (Kp.refl _ _) _ _ _ (.inl rfl)) _ _ _ (.inr rfl)) _ _ _ (.inr rfl)) _ _ _ (.inr rfl)) _ _ _ (.inr rfl)) _ _ _ (.inr rfl)) _ _ _ (.inr rfl)
    · obtain rfl := Option.some.inj e
      have h1 := HGG.out
      have h2 := HSZ1.out
      have h3 := HRB.out
      rcases hF with h4 | h4
      · have h4' : gg = w.heap.size := h4
        omega
      · have h4' : gg = rb := h4
        omega
  · have hge : w.heap.size ≤ rb := by have := HRB.out; omega
    exact ((((((HB3.out.setCell (Nat.le_refl _) _).setCell hge _).setCell hge _).setCell hge _).setCell hge _).setCell hge _).setCell hge _
/-- what the document reads of a block -/
theorem rblk_sl {L : List UInt8} {i : Nat} : (L.drop (64 * i)).take (64 * i + 64 - 64 * i) = Dk.blk L i := by
  unfold Dk.blk
  rw [show 64 * i + 64 - 64 * i = 64 by omega]
set_option maxHeartbeats 8000000 in
theorem r15Read_no (L : ByteArray) (A : Option Addr) (n c : Nat) (on am : Bool) (sy ct a cd : Int) (w : World) (hc : cd ≠ 0)
    (HC : ∀ W, Below w.heap.size w W → Calls Try.prog 35 #[sixV L A n c on am sy ct, .int .i64 a] W fun e w' => e = .returned (.int .i64 cd) ∧ Below W.heap.size W w') :
    Calls Try.prog 26 #[sixV L A n c on am sy ct, .int .i64 a] w fun e w' => e = .returned (.tuple #[.string ⟨#[]⟩, .int .i64 cd]) ∧ Below w.heap.size w w' := by
  replace HC := Lib.hid HC
  have k1 : (cd != 0) = true := by simpa using hc
  have HB0 := Lib.hid ((Below.refl w.heap.size w).alloc (Nat.le_refl _) (.cells #[.string L, .slice A n c, .bool on, .bool am, .int .i64 sy, .int .i64 ct] 31))
  clear hc
  go_enter Try.func26, Try.ntmps26
  go_wp2_with fail
  refine (HC.out _ HB0.out).mono ?_
  rintro x w1 ⟨rfl, b1⟩
  have HB := Lib.hid (Below.trans HB0.out (b1.mono HB0.out.size))
  clear b1
  go_wp2_with fail
  go_ret2
  exact ⟨rfl, HB.out⟩
set_option maxHeartbeats 8000000 in
theorem r15Read_ok (L : ByteArray) (D : List UInt8) (A : Option Addr) (n c : Nat) (on am : Bool) (sy ct wt : Int) (a : Nat) (w : World) (hD : 64 * a + 64 ≤ D.length) (hD2 : D.length ≤ 1000000)
    (HC : ∀ W, Below w.heap.size w W → Calls Try.prog 35 #[sixV L A n c on am sy ct, .int .i64 (a : Int)] W fun e w' => e = .returned (.int .i64 0) ∧ Below W.heap.size W w')
    (HW : ∀ W, Below w.heap.size w W → Calls Try.prog 16 #[sixV L A n c on am sy ct] W fun e w' => e = .returned (.int .i64 wt) ∧ Below W.heap.size W w')
    (HD : ∀ W, Below w.heap.size w W → Calls Try.prog 34 #[sixV L A n c on am sy ct, .int .i64 wt] W fun e w' => e = .returned (.string (ofL D)) ∧ Below W.heap.size W w') :
    Calls Try.prog 26 #[sixV L A n c on am sy ct, .int .i64 (a : Int)] w fun e w' => e = .returned (.tuple #[.string (ofL (Dk.blk D a)), .int .i64 0]) ∧ Below w.heap.size w w' := by
  replace HC := Lib.hid HC
  replace HW := Lib.hid HW
  replace HD := Lib.hid HD
  have HB0 := Lib.hid ((Below.refl w.heap.size w).alloc (Nat.le_refl _) (.cells #[.string L, .slice A n c, .bool on, .bool am, .int .i64 sy, .int .i64 ct] 31))
  have HN0 := Lib.hid (heap_alloc_new w (.cells #[.string L, .slice A n c, .bool on, .bool am, .int .i64 sy, .int .i64 ct] 31))
  have hw1 : IntKind.i64.wrap (64 * (a : Int)) = 64 * (a : Int) := by rw [IntKind.wrap_i64]; omega
  have hw2 : IntKind.i64.wrap (64 * (a : Int) + 64) = 64 * (a : Int) + 64 := by rw [IntKind.wrap_i64]; omega
  have hs1 := fun W' => slice_l (P := Try.prog) Try.underlying9 D .i64 .i64 (64 * (a : Int)) (64 * (a : Int) + 64) (64 * a) (64 * a + 64) (by omega) (by omega) (by omega) hD W'
  rw [rblk_sl] at hs1
  clear hD hD2
  go_enter Try.func26, Try.ntmps26
  go_wp2_with fail
  refine (HC.out _ HB0.out).mono ?_
  rintro x w1 ⟨rfl, b1⟩
  have HB := Lib.hid (Below.trans HB0.out (b1.mono HB0.out.size))
  have HQ := Lib.hid ((b1.block w.heap.size (by simp)).trans HN0.out)
  obtain ⟨q0, q1, q2, q3, q4, q5⟩ := six_cells HQ.out
  have hlt := (Array.getElem?_eq_some_iff.1 HQ.out).1
  clear b1
  go_upto_region 4 with fail
  generalize hbb : w.heap.size = bb at *
  have HBB := Lib.hid hbb
  clear hbb
  go_region_held3 (fun x => x.cell? ⟨bb, 0, none⟩ = some (.string L) ∧ x.cell? ⟨bb, 1, none⟩ = some (.slice A n c) ∧ x.cell? ⟨bb, 2, none⟩ = some (.bool on) ∧ x.cell? ⟨bb, 3, none⟩ = some (.bool am) ∧ x.cell? ⟨bb, 4, none⟩ = some (.int .i64 sy) ∧ x.cell? ⟨bb, 5, none⟩ = some (.int .i64 ct))
    (first | exact ⟨q0, q1, q2, q3, q4, q5⟩ | exact six_cells K2.out | exact six_cells K4.out)
    (first
      | ((go_at_call 16; refine (HW.out _ HB.out.drew).mono ?_; rintro x w2 ⟨rfl, b2⟩; have K2 := Lib.hid ((b2.block bb hlt).trans HQ.out); have KC := Lib.hid (Below.trans HB.out.drew (b2.mono (Nat.le_of_lt hlt))); have h2lt := (Array.getElem?_eq_some_iff.1 K2.out).1; clear b2))
      | ((go_at_call 34; refine (HD.out _ KC.out).mono ?_; rintro x w3 ⟨rfl, b3⟩; have K4 := Lib.hid ((b3.block bb h2lt).trans K2.out); have KD := Lib.hid (Below.trans KC.out (b3.mono (Nat.le_of_lt h2lt))); clear b3)))
  go_wp2_with fail
  go_ret2
  exact ⟨rfl, HBB.out ▸ KD.out⟩
end Go.Proofs.Ytpdgadohfhmcnaa
