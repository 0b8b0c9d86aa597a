/-
  A DEED READ, the program's, kind by kind.
-/
import Derived.Test.YtaikigponkjkgaaGreatDoorDs41

section
namespace Go.Proofs.YtaikigponkjkgaaGreatDoor
open Go.ChangeShapes Go.WideShapes Go.ChangeAt Go.RowKit
/-- the deed that was read lies there -/
def DeRd (R : LSt → World → Prop) (b : Nat) (w : World) (x : De) (s : LSt) (e : Ending) (w' : World) : Prop := ∃ A c B d, e = .returned (deV x A c B d) ∧ x.bind.want.length ≤ c ∧ x.mail.head.length ≤ d ∧ Prs w' A x.bind.want ∧ Prs w' B x.mail.head ∧ R s w' ∧ w.grownBy w' (some b) ∧ (∀ a, A = some a → w.heap.size ≤ a.block) ∧ (∀ a, B = some a → w.heap.size ≤ a.block)
set_option maxRecDepth 100000 in
set_option maxHeartbeats 16000000 in
theorem ddread_0 (b : Nat) (R : LSt → World → Prop) (hR : Rder b R) (s s1 s2 s3 : LSt) (t : Nat) (X : Sh) (w : World)
    (h1 : ∀ W, R s W → Calls Tryz.prog 57 #[.pointer (some ⟨b, 0, none⟩)] W (fun e w' => e = .returned (.int .u8 0) ∧ R s1 w' ∧ W.grownBy w' (some b)))
    (h2 : ∀ W, R s1 W → Calls Tryz.prog 26 #[.pointer (some ⟨b, 0, none⟩), .int .i64 8] W (fun e w' => e = .returned (.int .u64 (t : Int)) ∧ R s2 w' ∧ W.grownBy w' (some b)))
    (h3 : ∀ W, R s2 W → Calls Tryz.prog 58 #[.pointer (some ⟨b, 0, none⟩)] W (fun e w' => e = .returned (.agg #[.string (ofL X.name), .int .u8 (X.sort : Int), .string (ofL X.to)]) ∧ R s3 w' ∧ W.grownBy w' (some b)))
    (hi : R s w) : Calls Tryz.prog 27 #[.pointer (some ⟨b, 0, none⟩)] w (DeRd R b w ({ De.of 0 t with shop := X } : De) s3) := by
  unfold DeRd
  obtain ⟨ZS, hZS⟩ : ∃ ZS : List Value, ZS = [.int .u8 0, .int .u64 0, .string ⟨#[]⟩, .int .u8 0, .string ⟨#[]⟩, .string ⟨#[]⟩, .int .u64 0, .int .u64 0, .string ⟨#[]⟩, .string ⟨#[]⟩, .string ⟨#[]⟩, .bool false, .string ⟨#[]⟩, .slice none 0 0, .bool false, .string ⟨#[]⟩, .int .u64 0, .int .u8 0, .int .u8 0, .int .u8 0, .int .u64 0, .int .u64 0, .string ⟨#[]⟩, .string ⟨#[]⟩, .slice none 0 0, .string ⟨#[]⟩, .int .u64 0, .int .u8 0, .string ⟨#[]⟩] := ⟨_, rfl⟩
  have HS0 := Lib.hid (show RdX w R b (w.heap.size + 1) ZS ([.int .u8 0, .int .u64 0, .string ⟨#[]⟩, .int .u8 0, .string ⟨#[]⟩, .string ⟨#[]⟩, .int .u64 0, .int .u64 0, .string ⟨#[]⟩, .string ⟨#[]⟩, .string ⟨#[]⟩, .bool false, .string ⟨#[]⟩, .slice none 0 0, .bool false, .string ⟨#[]⟩, .int .u64 0, .int .u8 0, .int .u8 0, .int .u8 0, .int .u64 0, .int .u64 0, .string ⟨#[]⟩, .string ⟨#[]⟩, .slice none 0 0, .string ⟨#[]⟩, .int .u64 0, .int .u8 0, .string ⟨#[]⟩]) none [] s ((w.alloc (.cells #[.int .u8 0, .int .u64 0, .string ⟨#[]⟩, .int .u8 0, .string ⟨#[]⟩, .string ⟨#[]⟩, .int .u64 0, .int .u64 0, .string ⟨#[]⟩, .string ⟨#[]⟩, .string ⟨#[]⟩, .bool false, .string ⟨#[]⟩, .slice none 0 0, .bool false, .string ⟨#[]⟩, .int .u64 0, .int .u8 0, .int .u8 0, .int .u8 0, .int .u64 0, .int .u64 0, .string ⟨#[]⟩, .string ⟨#[]⟩, .slice none 0 0, .string ⟨#[]⟩, .int .u64 0, .int .u8 0, .string ⟨#[]⟩] 52)).alloc (.cells #[.int .u8 0, .int .u64 0, .string ⟨#[]⟩, .int .u8 0, .string ⟨#[]⟩, .string ⟨#[]⟩, .int .u64 0, .int .u64 0, .string ⟨#[]⟩, .string ⟨#[]⟩, .string ⟨#[]⟩, .bool false, .string ⟨#[]⟩, .slice none 0 0, .bool false, .string ⟨#[]⟩, .int .u64 0, .int .u8 0, .int .u8 0, .int .u8 0, .int .u64 0, .int .u64 0, .string ⟨#[]⟩, .string ⟨#[]⟩, .slice none 0 0, .string ⟨#[]⟩, .int .u64 0, .int .u8 0, .string ⟨#[]⟩] 52)) from hZS ▸ RdX.start hR hi #[.int .u8 0, .int .u64 0, .string ⟨#[]⟩, .int .u8 0, .string ⟨#[]⟩, .string ⟨#[]⟩, .int .u64 0, .int .u64 0, .string ⟨#[]⟩, .string ⟨#[]⟩, .string ⟨#[]⟩, .bool false, .string ⟨#[]⟩, .slice none 0 0, .bool false, .string ⟨#[]⟩, .int .u64 0, .int .u8 0, .int .u8 0, .int .u8 0, .int .u64 0, .int .u64 0, .string ⟨#[]⟩, .string ⟨#[]⟩, .slice none 0 0, .string ⟨#[]⟩, .int .u64 0, .int .u8 0, .string ⟨#[]⟩] 52)
  have H1 := Lib.hid h1
  have H2 := Lib.hid h2
  have H3 := Lib.hid h3
  have HRR := Lib.hid hR
  have HZS := Lib.hid hZS
  clear h1 h2 h3 hR hi hZS
  go_enter Tryz.func27, Tryz.ntmps27
  go_wp2_with fail
  generalize (w.alloc (.cells #[.int .u8 0, .int .u64 0, .string ⟨#[]⟩, .int .u8 0, .string ⟨#[]⟩, .string ⟨#[]⟩, .int .u64 0, .int .u64 0, .string ⟨#[]⟩, .string ⟨#[]⟩, .string ⟨#[]⟩, .bool false, .string ⟨#[]⟩, .slice none 0 0, .bool false, .string ⟨#[]⟩, .int .u64 0, .int .u8 0, .int .u8 0, .int .u8 0, .int .u64 0, .int .u64 0, .string ⟨#[]⟩, .string ⟨#[]⟩, .slice none 0 0, .string ⟨#[]⟩, .int .u64 0, .int .u8 0, .string ⟨#[]⟩] 52)).alloc (.cells #[.int .u8 0, .int .u64 0, .string ⟨#[]⟩, .int .u8 0, .string ⟨#[]⟩, .string ⟨#[]⟩, .int .u64 0, .int .u64 0, .string ⟨#[]⟩, .string ⟨#[]⟩, .string ⟨#[]⟩, .bool false, .string ⟨#[]⟩, .slice none 0 0, .bool false, .string ⟨#[]⟩, .int .u64 0, .int .u8 0, .int .u8 0, .int .u8 0, .int .u64 0, .int .u64 0, .string ⟨#[]⟩, .string ⟨#[]⟩, .slice none 0 0, .string ⟨#[]⟩, .int .u64 0, .int .u8 0, .string ⟨#[]⟩] 52) = v0 at *
  refine (H1.out _ HS0.out.ri).mono ?_
  rintro e u1 ⟨rfl, hi, hg⟩
  have HM1 := Lib.hid (HS0.out.moved hi hg)
  clear hi hg
  have HS1 := Lib.hid (show RdX w R b (w.heap.size + 1) ZS ([.int .u8 0, .int .u64 0, .string ⟨#[]⟩, .int .u8 0, .string ⟨#[]⟩, .string ⟨#[]⟩, .int .u64 0, .int .u64 0, .string ⟨#[]⟩, .string ⟨#[]⟩, .string ⟨#[]⟩, .bool false, .string ⟨#[]⟩, .slice none 0 0, .bool false, .string ⟨#[]⟩, .int .u64 0, .int .u8 0, .int .u8 0, .int .u8 0, .int .u64 0, .int .u64 0, .string ⟨#[]⟩, .string ⟨#[]⟩, .slice none 0 0, .string ⟨#[]⟩, .int .u64 0, .int .u8 0, .string ⟨#[]⟩]) none ([]) s1 (u1.setCell ⟨w.heap.size + 1, 0, none⟩ (.int .u8 0)) from (HM1.out.put 0 (.int .u8 0) (by show _ < 29; omega)))
  have c0 := HM1.out.m.cs 0 _ rfl
  have cl := HM1.out.m.lt
  have cf : ∀ j, u1.frozen? ⟨w.heap.size + 1, j, none⟩ = false := HM1.out.m.s
  go_wp2_with fail
  generalize (u1.setCell ⟨w.heap.size + 1, 0, none⟩ (.int .u8 0)) = v1 at *
  clear c0 cl cf HM1 HS0
  refine (H2.out _ HS1.out.ri).mono ?_
  rintro e u2 ⟨rfl, hi, hg⟩
  have HM2 := Lib.hid (HS1.out.moved hi hg)
  clear hi hg
  have HS2 := Lib.hid (show RdX w R b (w.heap.size + 1) ZS ([.int .u8 0, .int .u64 (t : Int), .string ⟨#[]⟩, .int .u8 0, .string ⟨#[]⟩, .string ⟨#[]⟩, .int .u64 0, .int .u64 0, .string ⟨#[]⟩, .string ⟨#[]⟩, .string ⟨#[]⟩, .bool false, .string ⟨#[]⟩, .slice none 0 0, .bool false, .string ⟨#[]⟩, .int .u64 0, .int .u8 0, .int .u8 0, .int .u8 0, .int .u64 0, .int .u64 0, .string ⟨#[]⟩, .string ⟨#[]⟩, .slice none 0 0, .string ⟨#[]⟩, .int .u64 0, .int .u8 0, .string ⟨#[]⟩]) none ([]) s2 (u2.setCell ⟨w.heap.size + 1, 1, none⟩ (.int .u64 (t : Int))) from (HM2.out.put 1 (.int .u64 (t : Int)) (by show _ < 29; omega)))
  have c0 := HM2.out.m.cs 0 _ rfl
  have c1 := HM2.out.m.cs 1 _ rfl
  have cl := HM2.out.m.lt
  have cf : ∀ j, u2.frozen? ⟨w.heap.size + 1, j, none⟩ = false := HM2.out.m.s
  go_wp2_with fail
  generalize (u2.setCell ⟨w.heap.size + 1, 1, none⟩ (.int .u64 (t : Int))) = v2 at *
  clear c0 c1 cl cf HM2 HS1
  refine (H3.out _ HS2.out.ri).mono ?_
  rintro e u3 ⟨rfl, hi, hg⟩
  have HM3 := Lib.hid (HS2.out.moved hi hg)
  clear hi hg
  have HS3 := Lib.hid (show RdX w R b (w.heap.size + 1) ZS (deL ({ De.of 0 t with shop := X } : De) none 0 none 0) none ([]) s3 (((u3.setCell ⟨w.heap.size + 1, 2, none⟩ (.string (ofL X.name))).setCell ⟨w.heap.size + 1, 3, none⟩ (.int .u8 (X.sort : Int))).setCell ⟨w.heap.size + 1, 4, none⟩ (.string (ofL X.to))) from (((HM3.out.put 2 (.string (ofL X.name)) (by show _ < 29; omega)).put 3 (.int .u8 (X.sort : Int)) (by show _ < 29; omega)).put 4 (.string (ofL X.to)) (by show _ < 29; omega)))
  have c2 := HM3.out.m.cs 2 _ rfl
  have c3 := HM3.out.m.cs 3 _ rfl
  have c4 := HM3.out.m.cs 4 _ rfl
  have cl := HM3.out.m.lt
  have cf : ∀ j, u3.frozen? ⟨w.heap.size + 1, j, none⟩ = false := HM3.out.m.s
  go_upto_region 29 with fail
  generalize (((u3.setCell ⟨w.heap.size + 1, 2, none⟩ (.string (ofL X.name))).setCell ⟨w.heap.size + 1, 3, none⟩ (.int .u8 (X.sort : Int))).setCell ⟨w.heap.size + 1, 4, none⟩ (.string (ofL X.to))) = v3 at *
  clear c2 c3 c4 cl cf HM3 HS2
  rw [HZS.out] at HS3
  go_wp2_with (first
    | (refine wpList_load_mid (by rfl) 52 _ (by rfl) (w.heap.size + 1) 0 (by rfl) (deL ({ De.of 0 t with shop := X } : De) none 0 none 0) _ HS3.out.m.cs.range Tryz.underlying52 rfl (by rw [de_size, deL_len]) ?_)
    | (refine wpList_store_mid (by rfl) 52 _ _ (by rfl) w.heap.size 0 (deL ({ De.of 0 t with shop := X } : De) none 0 none 0).toArray (by rfl) (by rfl) HS3.out.q.there (by rw [de_size]; rfl) (de_all _ _ _ _ _) ?_))
  obtain ⟨hF, hI, hG, hP⟩ := HS3.out.ends (deL ({ De.of 0 t with shop := X } : De) none 0 none 0) rfl
  generalize v3.setCells w.heap.size 0 (deL ({ De.of 0 t with shop := X } : De) none 0 none 0) = WW at *
  exact bodyPost_ret (v := deV ({ De.of 0 t with shop := X } : De) none 0 none 0) (by simp [results, Tryz.results27, asAddr]; exact de_res _ _ _ _ _ _ _ hF.cs) rfl ⟨none, 0, none, 0, rfl, Nat.le_refl _, Nat.le_refl _, Prs.nil _ _, Prs.nil _ _, hI, hG, (fun a ha => by cases ha), (fun a ha => by cases ha)⟩
set_option maxRecDepth 100000 in
set_option maxHeartbeats 16000000 in
theorem ddread_1 (b : Nat) (R : LSt → World → Prop) (hR : Rder b R) (s s1 s2 s3 : LSt) (t : Nat) (N : List UInt8) (w : World)
    (h1 : ∀ W, R s W → Calls Tryz.prog 57 #[.pointer (some ⟨b, 0, none⟩)] W (fun e w' => e = .returned (.int .u8 1) ∧ R s1 w' ∧ W.grownBy w' (some b)))
    (h2 : ∀ W, R s1 W → Calls Tryz.prog 26 #[.pointer (some ⟨b, 0, none⟩), .int .i64 8] W (fun e w' => e = .returned (.int .u64 (t : Int)) ∧ R s2 w' ∧ W.grownBy w' (some b)))
    (h3 : ∀ W, R s2 W → Calls Tryz.prog 61 #[.pointer (some ⟨b, 0, none⟩), .int .i64 16] W (fun e w' => e = .returned (.string (ofL N)) ∧ R s3 w' ∧ W.grownBy w' (some b)))
    (hi : R s w) : Calls Tryz.prog 27 #[.pointer (some ⟨b, 0, none⟩)] w (DeRd R b w ({ De.of 1 t with name := N } : De) s3) := by
  unfold DeRd
  obtain ⟨ZS, hZS⟩ : ∃ ZS : List Value, ZS = [.int .u8 0, .int .u64 0, .string ⟨#[]⟩, .int .u8 0, .string ⟨#[]⟩, .string ⟨#[]⟩, .int .u64 0, .int .u64 0, .string ⟨#[]⟩, .string ⟨#[]⟩, .string ⟨#[]⟩, .bool false, .string ⟨#[]⟩, .slice none 0 0, .bool false, .string ⟨#[]⟩, .int .u64 0, .int .u8 0, .int .u8 0, .int .u8 0, .int .u64 0, .int .u64 0, .string ⟨#[]⟩, .string ⟨#[]⟩, .slice none 0 0, .string ⟨#[]⟩, .int .u64 0, .int .u8 0, .string ⟨#[]⟩] := ⟨_, rfl⟩
  have HS0 := Lib.hid (show RdX w R b (w.heap.size + 1) ZS ([.int .u8 0, .int .u64 0, .string ⟨#[]⟩, .int .u8 0, .string ⟨#[]⟩, .string ⟨#[]⟩, .int .u64 0, .int .u64 0, .string ⟨#[]⟩, .string ⟨#[]⟩, .string ⟨#[]⟩, .bool false, .string ⟨#[]⟩, .slice none 0 0, .bool false, .string ⟨#[]⟩, .int .u64 0, .int .u8 0, .int .u8 0, .int .u8 0, .int .u64 0, .int .u64 0, .string ⟨#[]⟩, .string ⟨#[]⟩, .slice none 0 0, .string ⟨#[]⟩, .int .u64 0, .int .u8 0, .string ⟨#[]⟩]) none [] s ((w.alloc (.cells #[.int .u8 0, .int .u64 0, .string ⟨#[]⟩, .int .u8 0, .string ⟨#[]⟩, .string ⟨#[]⟩, .int .u64 0, .int .u64 0, .string ⟨#[]⟩, .string ⟨#[]⟩, .string ⟨#[]⟩, .bool false, .string ⟨#[]⟩, .slice none 0 0, .bool false, .string ⟨#[]⟩, .int .u64 0, .int .u8 0, .int .u8 0, .int .u8 0, .int .u64 0, .int .u64 0, .string ⟨#[]⟩, .string ⟨#[]⟩, .slice none 0 0, .string ⟨#[]⟩, .int .u64 0, .int .u8 0, .string ⟨#[]⟩] 52)).alloc (.cells #[.int .u8 0, .int .u64 0, .string ⟨#[]⟩, .int .u8 0, .string ⟨#[]⟩, .string ⟨#[]⟩, .int .u64 0, .int .u64 0, .string ⟨#[]⟩, .string ⟨#[]⟩, .string ⟨#[]⟩, .bool false, .string ⟨#[]⟩, .slice none 0 0, .bool false, .string ⟨#[]⟩, .int .u64 0, .int .u8 0, .int .u8 0, .int .u8 0, .int .u64 0, .int .u64 0, .string ⟨#[]⟩, .string ⟨#[]⟩, .slice none 0 0, .string ⟨#[]⟩, .int .u64 0, .int .u8 0, .string ⟨#[]⟩] 52)) from hZS ▸ RdX.start hR hi #[.int .u8 0, .int .u64 0, .string ⟨#[]⟩, .int .u8 0, .string ⟨#[]⟩, .string ⟨#[]⟩, .int .u64 0, .int .u64 0, .string ⟨#[]⟩, .string ⟨#[]⟩, .string ⟨#[]⟩, .bool false, .string ⟨#[]⟩, .slice none 0 0, .bool false, .string ⟨#[]⟩, .int .u64 0, .int .u8 0, .int .u8 0, .int .u8 0, .int .u64 0, .int .u64 0, .string ⟨#[]⟩, .string ⟨#[]⟩, .slice none 0 0, .string ⟨#[]⟩, .int .u64 0, .int .u8 0, .string ⟨#[]⟩] 52)
  have H1 := Lib.hid h1
  have H2 := Lib.hid h2
  have H3 := Lib.hid h3
  have HRR := Lib.hid hR
  have HZS := Lib.hid hZS
  clear h1 h2 h3 hR hi hZS
  go_enter Tryz.func27, Tryz.ntmps27
  go_wp2_with fail
  generalize (w.alloc (.cells #[.int .u8 0, .int .u64 0, .string ⟨#[]⟩, .int .u8 0, .string ⟨#[]⟩, .string ⟨#[]⟩, .int .u64 0, .int .u64 0, .string ⟨#[]⟩, .string ⟨#[]⟩, .string ⟨#[]⟩, .bool false, .string ⟨#[]⟩, .slice none 0 0, .bool false, .string ⟨#[]⟩, .int .u64 0, .int .u8 0, .int .u8 0, .int .u8 0, .int .u64 0, .int .u64 0, .string ⟨#[]⟩, .string ⟨#[]⟩, .slice none 0 0, .string ⟨#[]⟩, .int .u64 0, .int .u8 0, .string ⟨#[]⟩] 52)).alloc (.cells #[.int .u8 0, .int .u64 0, .string ⟨#[]⟩, .int .u8 0, .string ⟨#[]⟩, .string ⟨#[]⟩, .int .u64 0, .int .u64 0, .string ⟨#[]⟩, .string ⟨#[]⟩, .string ⟨#[]⟩, .bool false, .string ⟨#[]⟩, .slice none 0 0, .bool false, .string ⟨#[]⟩, .int .u64 0, .int .u8 0, .int .u8 0, .int .u8 0, .int .u64 0, .int .u64 0, .string ⟨#[]⟩, .string ⟨#[]⟩, .slice none 0 0, .string ⟨#[]⟩, .int .u64 0, .int .u8 0, .string ⟨#[]⟩] 52) = v0 at *
  refine (H1.out _ HS0.out.ri).mono ?_
  rintro e u1 ⟨rfl, hi, hg⟩
  have HM1 := Lib.hid (HS0.out.moved hi hg)
  clear hi hg
  have HS1 := Lib.hid (show RdX w R b (w.heap.size + 1) ZS ([.int .u8 1, .int .u64 0, .string ⟨#[]⟩, .int .u8 0, .string ⟨#[]⟩, .string ⟨#[]⟩, .int .u64 0, .int .u64 0, .string ⟨#[]⟩, .string ⟨#[]⟩, .string ⟨#[]⟩, .bool false, .string ⟨#[]⟩, .slice none 0 0, .bool false, .string ⟨#[]⟩, .int .u64 0, .int .u8 0, .int .u8 0, .int .u8 0, .int .u64 0, .int .u64 0, .string ⟨#[]⟩, .string ⟨#[]⟩, .slice none 0 0, .string ⟨#[]⟩, .int .u64 0, .int .u8 0, .string ⟨#[]⟩]) none ([]) s1 (u1.setCell ⟨w.heap.size + 1, 0, none⟩ (.int .u8 1)) from (HM1.out.put 0 (.int .u8 1) (by show _ < 29; omega)))
  have c0 := HM1.out.m.cs 0 _ rfl
  have cl := HM1.out.m.lt
  have cf : ∀ j, u1.frozen? ⟨w.heap.size + 1, j, none⟩ = false := HM1.out.m.s
  go_wp2_with fail
  generalize (u1.setCell ⟨w.heap.size + 1, 0, none⟩ (.int .u8 1)) = v1 at *
  clear c0 cl cf HM1 HS0
  refine (H2.out _ HS1.out.ri).mono ?_
  rintro e u2 ⟨rfl, hi, hg⟩
  have HM2 := Lib.hid (HS1.out.moved hi hg)
  clear hi hg
  have HS2 := Lib.hid (show RdX w R b (w.heap.size + 1) ZS ([.int .u8 1, .int .u64 (t : Int), .string ⟨#[]⟩, .int .u8 0, .string ⟨#[]⟩, .string ⟨#[]⟩, .int .u64 0, .int .u64 0, .string ⟨#[]⟩, .string ⟨#[]⟩, .string ⟨#[]⟩, .bool false, .string ⟨#[]⟩, .slice none 0 0, .bool false, .string ⟨#[]⟩, .int .u64 0, .int .u8 0, .int .u8 0, .int .u8 0, .int .u64 0, .int .u64 0, .string ⟨#[]⟩, .string ⟨#[]⟩, .slice none 0 0, .string ⟨#[]⟩, .int .u64 0, .int .u8 0, .string ⟨#[]⟩]) none ([]) s2 (u2.setCell ⟨w.heap.size + 1, 1, none⟩ (.int .u64 (t : Int))) from (HM2.out.put 1 (.int .u64 (t : Int)) (by show _ < 29; omega)))
  have c0 := HM2.out.m.cs 0 _ rfl
  have c1 := HM2.out.m.cs 1 _ rfl
  have cl := HM2.out.m.lt
  have cf : ∀ j, u2.frozen? ⟨w.heap.size + 1, j, none⟩ = false := HM2.out.m.s
  go_wp2_with fail
  generalize (u2.setCell ⟨w.heap.size + 1, 1, none⟩ (.int .u64 (t : Int))) = v2 at *
  clear c0 c1 cl cf HM2 HS1
  refine (H3.out _ HS2.out.ri).mono ?_
  rintro e u3 ⟨rfl, hi, hg⟩
  have HM3 := Lib.hid (HS2.out.moved hi hg)
  clear hi hg
  have HS3 := Lib.hid (show RdX w R b (w.heap.size + 1) ZS (deL ({ De.of 1 t with name := N } : De) none 0 none 0) none ([]) s3 (u3.setCell ⟨w.heap.size + 1, 15, none⟩ (.string (ofL N))) from (HM3.out.put 15 (.string (ofL N)) (by show _ < 29; omega)))
  have c15 := HM3.out.m.cs 15 _ rfl
  have cl := HM3.out.m.lt
  have cf : ∀ j, u3.frozen? ⟨w.heap.size + 1, j, none⟩ = false := HM3.out.m.s
  go_upto_region 29 with fail
  generalize (u3.setCell ⟨w.heap.size + 1, 15, none⟩ (.string (ofL N))) = v3 at *
  clear c15 cl cf HM3 HS2
  rw [HZS.out] at HS3
  go_wp2_with (first
    | (refine wpList_load_mid (by rfl) 52 _ (by rfl) (w.heap.size + 1) 0 (by rfl) (deL ({ De.of 1 t with name := N } : De) none 0 none 0) _ HS3.out.m.cs.range Tryz.underlying52 rfl (by rw [de_size, deL_len]) ?_)
    | (refine wpList_store_mid (by rfl) 52 _ _ (by rfl) w.heap.size 0 (deL ({ De.of 1 t with name := N } : De) none 0 none 0).toArray (by rfl) (by rfl) HS3.out.q.there (by rw [de_size]; rfl) (de_all _ _ _ _ _) ?_))
  obtain ⟨hF, hI, hG, hP⟩ := HS3.out.ends (deL ({ De.of 1 t with name := N } : De) none 0 none 0) rfl
  generalize v3.setCells w.heap.size 0 (deL ({ De.of 1 t with name := N } : De) none 0 none 0) = WW at *
  exact bodyPost_ret (v := deV ({ De.of 1 t with name := N } : De) none 0 none 0) (by simp [results, Tryz.results27, asAddr]; exact de_res _ _ _ _ _ _ _ hF.cs) rfl ⟨none, 0, none, 0, rfl, Nat.le_refl _, Nat.le_refl _, Prs.nil _ _, Prs.nil _ _, hI, hG, (fun a ha => by cases ha), (fun a ha => by cases ha)⟩
set_option maxRecDepth 100000 in
set_option maxHeartbeats 16000000 in
theorem ddread_2 (b : Nat) (R : LSt → World → Prop) (hR : Rder b R) (s s1 s2 s3 : LSt) (t : Nat) (X : Qu) (w : World)
    (h1 : ∀ W, R s W → Calls Tryz.prog 57 #[.pointer (some ⟨b, 0, none⟩)] W (fun e w' => e = .returned (.int .u8 2) ∧ R s1 w' ∧ W.grownBy w' (some b)))
    (h2 : ∀ W, R s1 W → Calls Tryz.prog 26 #[.pointer (some ⟨b, 0, none⟩), .int .i64 8] W (fun e w' => e = .returned (.int .u64 (t : Int)) ∧ R s2 w' ∧ W.grownBy w' (some b)))
    (h3 : ∀ W, R s2 W → Calls Tryz.prog 59 #[.pointer (some ⟨b, 0, none⟩)] W (fun e w' => e = .returned (.agg #[.string (ofL X.name), .int .u64 (X.most : Int), .int .u64 (X.life : Int), .string (ofL X.dead)]) ∧ R s3 w' ∧ W.grownBy w' (some b)))
    (hi : R s w) : Calls Tryz.prog 27 #[.pointer (some ⟨b, 0, none⟩)] w (DeRd R b w ({ De.of 2 t with q := X } : De) s3) := by
  unfold DeRd
  obtain ⟨ZS, hZS⟩ : ∃ ZS : List Value, ZS = [.int .u8 0, .int .u64 0, .string ⟨#[]⟩, .int .u8 0, .string ⟨#[]⟩, .string ⟨#[]⟩, .int .u64 0, .int .u64 0, .string ⟨#[]⟩, .string ⟨#[]⟩, .string ⟨#[]⟩, .bool false, .string ⟨#[]⟩, .slice none 0 0, .bool false, .string ⟨#[]⟩, .int .u64 0, .int .u8 0, .int .u8 0, .int .u8 0, .int .u64 0, .int .u64 0, .string ⟨#[]⟩, .string ⟨#[]⟩, .slice none 0 0, .string ⟨#[]⟩, .int .u64 0, .int .u8 0, .string ⟨#[]⟩] := ⟨_, rfl⟩
  have HS0 := Lib.hid (show RdX w R b (w.heap.size + 1) ZS ([.int .u8 0, .int .u64 0, .string ⟨#[]⟩, .int .u8 0, .string ⟨#[]⟩, .string ⟨#[]⟩, .int .u64 0, .int .u64 0, .string ⟨#[]⟩, .string ⟨#[]⟩, .string ⟨#[]⟩, .bool false, .string ⟨#[]⟩, .slice none 0 0, .bool false, .string ⟨#[]⟩, .int .u64 0, .int .u8 0, .int .u8 0, .int .u8 0, .int .u64 0, .int .u64 0, .string ⟨#[]⟩, .string ⟨#[]⟩, .slice none 0 0, .string ⟨#[]⟩, .int .u64 0, .int .u8 0, .string ⟨#[]⟩]) none [] s ((w.alloc (.cells #[.int .u8 0, .int .u64 0, .string ⟨#[]⟩, .int .u8 0, .string ⟨#[]⟩, .string ⟨#[]⟩, .int .u64 0, .int .u64 0, .string ⟨#[]⟩, .string ⟨#[]⟩, .string ⟨#[]⟩, .bool false, .string ⟨#[]⟩, .slice none 0 0, .bool false, .string ⟨#[]⟩, .int .u64 0, .int .u8 0, .int .u8 0, .int .u8 0, .int .u64 0, .int .u64 0, .string ⟨#[]⟩, .string ⟨#[]⟩, .slice none 0 0, .string ⟨#[]⟩, .int .u64 0, .int .u8 0, .string ⟨#[]⟩] 52)).alloc (.cells #[.int .u8 0, .int .u64 0, .string ⟨#[]⟩, .int .u8 0, .string ⟨#[]⟩, .string ⟨#[]⟩, .int .u64 0, .int .u64 0, .string ⟨#[]⟩, .string ⟨#[]⟩, .string ⟨#[]⟩, .bool false, .string ⟨#[]⟩, .slice none 0 0, .bool false, .string ⟨#[]⟩, .int .u64 0, .int .u8 0, .int .u8 0, .int .u8 0, .int .u64 0, .int .u64 0, .string ⟨#[]⟩, .string ⟨#[]⟩, .slice none 0 0, .string ⟨#[]⟩, .int .u64 0, .int .u8 0, .string ⟨#[]⟩] 52)) from hZS ▸ RdX.start hR hi #[.int .u8 0, .int .u64 0, .string ⟨#[]⟩, .int .u8 0, .string ⟨#[]⟩, .string ⟨#[]⟩, .int .u64 0, .int .u64 0, .string ⟨#[]⟩, .string ⟨#[]⟩, .string ⟨#[]⟩, .bool false, .string ⟨#[]⟩, .slice none 0 0, .bool false, .string ⟨#[]⟩, .int .u64 0, .int .u8 0, .int .u8 0, .int .u8 0, .int .u64 0, .int .u64 0, .string ⟨#[]⟩, .string ⟨#[]⟩, .slice none 0 0, .string ⟨#[]⟩, .int .u64 0, .int .u8 0, .string ⟨#[]⟩] 52)
  have H1 := Lib.hid h1
  have H2 := Lib.hid h2
  have H3 := Lib.hid h3
  have HRR := Lib.hid hR
  have HZS := Lib.hid hZS
  clear h1 h2 h3 hR hi hZS
  go_enter Tryz.func27, Tryz.ntmps27
  go_wp2_with fail
  generalize (w.alloc (.cells #[.int .u8 0, .int .u64 0, .string ⟨#[]⟩, .int .u8 0, .string ⟨#[]⟩, .string ⟨#[]⟩, .int .u64 0, .int .u64 0, .string ⟨#[]⟩, .string ⟨#[]⟩, .string ⟨#[]⟩, .bool false, .string ⟨#[]⟩, .slice none 0 0, .bool false, .string ⟨#[]⟩, .int .u64 0, .int .u8 0, .int .u8 0, .int .u8 0, .int .u64 0, .int .u64 0, .string ⟨#[]⟩, .string ⟨#[]⟩, .slice none 0 0, .string ⟨#[]⟩, .int .u64 0, .int .u8 0, .string ⟨#[]⟩] 52)).alloc (.cells #[.int .u8 0, .int .u64 0, .string ⟨#[]⟩, .int .u8 0, .string ⟨#[]⟩, .string ⟨#[]⟩, .int .u64 0, .int .u64 0, .string ⟨#[]⟩, .string ⟨#[]⟩, .string ⟨#[]⟩, .bool false, .string ⟨#[]⟩, .slice none 0 0, .bool false, .string ⟨#[]⟩, .int .u64 0, .int .u8 0, .int .u8 0, .int .u8 0, .int .u64 0, .int .u64 0, .string ⟨#[]⟩, .string ⟨#[]⟩, .slice none 0 0, .string ⟨#[]⟩, .int .u64 0, .int .u8 0, .string ⟨#[]⟩] 52) = v0 at *
  refine (H1.out _ HS0.out.ri).mono ?_
  rintro e u1 ⟨rfl, hi, hg⟩
  have HM1 := Lib.hid (HS0.out.moved hi hg)
  clear hi hg
  have HS1 := Lib.hid (show RdX w R b (w.heap.size + 1) ZS ([.int .u8 2, .int .u64 0, .string ⟨#[]⟩, .int .u8 0, .string ⟨#[]⟩, .string ⟨#[]⟩, .int .u64 0, .int .u64 0, .string ⟨#[]⟩, .string ⟨#[]⟩, .string ⟨#[]⟩, .bool false, .string ⟨#[]⟩, .slice none 0 0, .bool false, .string ⟨#[]⟩, .int .u64 0, .int .u8 0, .int .u8 0, .int .u8 0, .int .u64 0, .int .u64 0, .string ⟨#[]⟩, .string ⟨#[]⟩, .slice none 0 0, .string ⟨#[]⟩, .int .u64 0, .int .u8 0, .string ⟨#[]⟩]) none ([]) s1 (u1.setCell ⟨w.heap.size + 1, 0, none⟩ (.int .u8 2)) from (HM1.out.put 0 (.int .u8 2) (by show _ < 29; omega)))
  have c0 := HM1.out.m.cs 0 _ rfl
  have cl := HM1.out.m.lt
  have cf : ∀ j, u1.frozen? ⟨w.heap.size + 1, j, none⟩ = false := HM1.out.m.s
  go_wp2_with fail
  generalize (u1.setCell ⟨w.heap.size + 1, 0, none⟩ (.int .u8 2)) = v1 at *
  clear c0 cl cf HM1 HS0
  refine (H2.out _ HS1.out.ri).mono ?_
  rintro e u2 ⟨rfl, hi, hg⟩
  have HM2 := Lib.hid (HS1.out.moved hi hg)
  clear hi hg
  have HS2 := Lib.hid (show RdX w R b (w.heap.size + 1) ZS ([.int .u8 2, .int .u64 (t : Int), .string ⟨#[]⟩, .int .u8 0, .string ⟨#[]⟩, .string ⟨#[]⟩, .int .u64 0, .int .u64 0, .string ⟨#[]⟩, .string ⟨#[]⟩, .string ⟨#[]⟩, .bool false, .string ⟨#[]⟩, .slice none 0 0, .bool false, .string ⟨#[]⟩, .int .u64 0, .int .u8 0, .int .u8 0, .int .u8 0, .int .u64 0, .int .u64 0, .string ⟨#[]⟩, .string ⟨#[]⟩, .slice none 0 0, .string ⟨#[]⟩, .int .u64 0, .int .u8 0, .string ⟨#[]⟩]) none ([]) s2 (u2.setCell ⟨w.heap.size + 1, 1, none⟩ (.int .u64 (t : Int))) from (HM2.out.put 1 (.int .u64 (t : Int)) (by show _ < 29; omega)))
  have c0 := HM2.out.m.cs 0 _ rfl
  have c1 := HM2.out.m.cs 1 _ rfl
  have cl := HM2.out.m.lt
  have cf : ∀ j, u2.frozen? ⟨w.heap.size + 1, j, none⟩ = false := HM2.out.m.s
  go_wp2_with fail
  generalize (u2.setCell ⟨w.heap.size + 1, 1, none⟩ (.int .u64 (t : Int))) = v2 at *
  clear c0 c1 cl cf HM2 HS1
  refine (H3.out _ HS2.out.ri).mono ?_
  rintro e u3 ⟨rfl, hi, hg⟩
  have HM3 := Lib.hid (HS2.out.moved hi hg)
  clear hi hg
  have HS3 := Lib.hid (show RdX w R b (w.heap.size + 1) ZS (deL ({ De.of 2 t with q := X } : De) none 0 none 0) none ([]) s3 ((((u3.setCell ⟨w.heap.size + 1, 5, none⟩ (.string (ofL X.name))).setCell ⟨w.heap.size + 1, 6, none⟩ (.int .u64 (X.most : Int))).setCell ⟨w.heap.size + 1, 7, none⟩ (.int .u64 (X.life : Int))).setCell ⟨w.heap.size + 1, 8, none⟩ (.string (ofL X.dead))) from ((((HM3.out.put 5 (.string (ofL X.name)) (by show _ < 29; omega)).put 6 (.int .u64 (X.most : Int)) (by show _ < 29; omega)).put 7 (.int .u64 (X.life : Int)) (by show _ < 29; omega)).put 8 (.string (ofL X.dead)) (by show _ < 29; omega)))
  have c5 := HM3.out.m.cs 5 _ rfl
  have c6 := HM3.out.m.cs 6 _ rfl
  have c7 := HM3.out.m.cs 7 _ rfl
  have c8 := HM3.out.m.cs 8 _ rfl
  have cl := HM3.out.m.lt
  have cf : ∀ j, u3.frozen? ⟨w.heap.size + 1, j, none⟩ = false := HM3.out.m.s
  go_upto_region 29 with fail
  generalize ((((u3.setCell ⟨w.heap.size + 1, 5, none⟩ (.string (ofL X.name))).setCell ⟨w.heap.size + 1, 6, none⟩ (.int .u64 (X.most : Int))).setCell ⟨w.heap.size + 1, 7, none⟩ (.int .u64 (X.life : Int))).setCell ⟨w.heap.size + 1, 8, none⟩ (.string (ofL X.dead))) = v3 at *
  clear c5 c6 c7 c8 cl cf HM3 HS2
  rw [HZS.out] at HS3
  go_wp2_with (first
    | (refine wpList_load_mid (by rfl) 52 _ (by rfl) (w.heap.size + 1) 0 (by rfl) (deL ({ De.of 2 t with q := X } : De) none 0 none 0) _ HS3.out.m.cs.range Tryz.underlying52 rfl (by rw [de_size, deL_len]) ?_)
    | (refine wpList_store_mid (by rfl) 52 _ _ (by rfl) w.heap.size 0 (deL ({ De.of 2 t with q := X } : De) none 0 none 0).toArray (by rfl) (by rfl) HS3.out.q.there (by rw [de_size]; rfl) (de_all _ _ _ _ _) ?_))
  obtain ⟨hF, hI, hG, hP⟩ := HS3.out.ends (deL ({ De.of 2 t with q := X } : De) none 0 none 0) rfl
  generalize v3.setCells w.heap.size 0 (deL ({ De.of 2 t with q := X } : De) none 0 none 0) = WW at *
  exact bodyPost_ret (v := deV ({ De.of 2 t with q := X } : De) none 0 none 0) (by simp [results, Tryz.results27, asAddr]; exact de_res _ _ _ _ _ _ _ hF.cs) rfl ⟨none, 0, none, 0, rfl, Nat.le_refl _, Nat.le_refl _, Prs.nil _ _, Prs.nil _ _, hI, hG, (fun a ha => by cases ha), (fun a ha => by cases ha)⟩
set_option maxRecDepth 100000 in
set_option maxHeartbeats 16000000 in
theorem ddread_3 (b : Nat) (R : LSt → World → Prop) (hR : Rder b R) (s s1 s2 s3 : LSt) (t : Nat) (N : List UInt8) (w : World)
    (h1 : ∀ W, R s W → Calls Tryz.prog 57 #[.pointer (some ⟨b, 0, none⟩)] W (fun e w' => e = .returned (.int .u8 3) ∧ R s1 w' ∧ W.grownBy w' (some b)))
    (h2 : ∀ W, R s1 W → Calls Tryz.prog 26 #[.pointer (some ⟨b, 0, none⟩), .int .i64 8] W (fun e w' => e = .returned (.int .u64 (t : Int)) ∧ R s2 w' ∧ W.grownBy w' (some b)))
    (h3 : ∀ W, R s2 W → Calls Tryz.prog 61 #[.pointer (some ⟨b, 0, none⟩), .int .i64 16] W (fun e w' => e = .returned (.string (ofL N)) ∧ R s3 w' ∧ W.grownBy w' (some b)))
    (hi : R s w) : Calls Tryz.prog 27 #[.pointer (some ⟨b, 0, none⟩)] w (DeRd R b w ({ De.of 3 t with name := N } : De) s3) := by
  unfold DeRd
  obtain ⟨ZS, hZS⟩ : ∃ ZS : List Value, ZS = [.int .u8 0, .int .u64 0, .string ⟨#[]⟩, .int .u8 0, .string ⟨#[]⟩, .string ⟨#[]⟩, .int .u64 0, .int .u64 0, .string ⟨#[]⟩, .string ⟨#[]⟩, .string ⟨#[]⟩, .bool false, .string ⟨#[]⟩, .slice none 0 0, .bool false, .string ⟨#[]⟩, .int .u64 0, .int .u8 0, .int .u8 0, .int .u8 0, .int .u64 0, .int .u64 0, .string ⟨#[]⟩, .string ⟨#[]⟩, .slice none 0 0, .string ⟨#[]⟩, .int .u64 0, .int .u8 0, .string ⟨#[]⟩] := ⟨_, rfl⟩
  have HS0 := Lib.hid (show RdX w R b (w.heap.size + 1) ZS ([.int .u8 0, .int .u64 0, .string ⟨#[]⟩, .int .u8 0, .string ⟨#[]⟩, .string ⟨#[]⟩, .int .u64 0, .int .u64 0, .string ⟨#[]⟩, .string ⟨#[]⟩, .string ⟨#[]⟩, .bool false, .string ⟨#[]⟩, .slice none 0 0, .bool false, .string ⟨#[]⟩, .int .u64 0, .int .u8 0, .int .u8 0, .int .u8 0, .int .u64 0, .int .u64 0, .string ⟨#[]⟩, .string ⟨#[]⟩, .slice none 0 0, .string ⟨#[]⟩, .int .u64 0, .int .u8 0, .string ⟨#[]⟩]) none [] s ((w.alloc (.cells #[.int .u8 0, .int .u64 0, .string ⟨#[]⟩, .int .u8 0, .string ⟨#[]⟩, .string ⟨#[]⟩, .int .u64 0, .int .u64 0, .string ⟨#[]⟩, .string ⟨#[]⟩, .string ⟨#[]⟩, .bool false, .string ⟨#[]⟩, .slice none 0 0, .bool false, .string ⟨#[]⟩, .int .u64 0, .int .u8 0, .int .u8 0, .int .u8 0, .int .u64 0, .int .u64 0, .string ⟨#[]⟩, .string ⟨#[]⟩, .slice none 0 0, .string ⟨#[]⟩, .int .u64 0, .int .u8 0, .string ⟨#[]⟩] 52)).alloc (.cells #[.int .u8 0, .int .u64 0, .string ⟨#[]⟩, .int .u8 0, .string ⟨#[]⟩, .string ⟨#[]⟩, .int .u64 0, .int .u64 0, .string ⟨#[]⟩, .string ⟨#[]⟩, .string ⟨#[]⟩, .bool false, .string ⟨#[]⟩, .slice none 0 0, .bool false, .string ⟨#[]⟩, .int .u64 0, .int .u8 0, .int .u8 0, .int .u8 0, .int .u64 0, .int .u64 0, .string ⟨#[]⟩, .string ⟨#[]⟩, .slice none 0 0, .string ⟨#[]⟩, .int .u64 0, .int .u8 0, .string ⟨#[]⟩] 52)) from hZS ▸ RdX.start hR hi #[.int .u8 0, .int .u64 0, .string ⟨#[]⟩, .int .u8 0, .string ⟨#[]⟩, .string ⟨#[]⟩, .int .u64 0, .int .u64 0, .string ⟨#[]⟩, .string ⟨#[]⟩, .string ⟨#[]⟩, .bool false, .string ⟨#[]⟩, .slice none 0 0, .bool false, .string ⟨#[]⟩, .int .u64 0, .int .u8 0, .int .u8 0, .int .u8 0, .int .u64 0, .int .u64 0, .string ⟨#[]⟩, .string ⟨#[]⟩, .slice none 0 0, .string ⟨#[]⟩, .int .u64 0, .int .u8 0, .string ⟨#[]⟩] 52)
  have H1 := Lib.hid h1
  have H2 := Lib.hid h2
  have H3 := Lib.hid h3
  have HRR := Lib.hid hR
  have HZS := Lib.hid hZS
  clear h1 h2 h3 hR hi hZS
  go_enter Tryz.func27, Tryz.ntmps27
  go_wp2_with fail
  generalize (w.alloc (.cells #[.int .u8 0, .int .u64 0, .string ⟨#[]⟩, .int .u8 0, .string ⟨#[]⟩, .string ⟨#[]⟩, .int .u64 0, .int .u64 0, .string ⟨#[]⟩, .string ⟨#[]⟩, .string ⟨#[]⟩, .bool false, .string ⟨#[]⟩, .slice none 0 0, .bool false, .string ⟨#[]⟩, .int .u64 0, .int .u8 0, .int .u8 0, .int .u8 0, .int .u64 0, .int .u64 0, .string ⟨#[]⟩, .string ⟨#[]⟩, .slice none 0 0, .string ⟨#[]⟩, .int .u64 0, .int .u8 0, .string ⟨#[]⟩] 52)).alloc (.cells #[.int .u8 0, .int .u64 0, .string ⟨#[]⟩, .int .u8 0, .string ⟨#[]⟩, .string ⟨#[]⟩, .int .u64 0, .int .u64 0, .string ⟨#[]⟩, .string ⟨#[]⟩, .string ⟨#[]⟩, .bool false, .string ⟨#[]⟩, .slice none 0 0, .bool false, .string ⟨#[]⟩, .int .u64 0, .int .u8 0, .int .u8 0, .int .u8 0, .int .u64 0, .int .u64 0, .string ⟨#[]⟩, .string ⟨#[]⟩, .slice none 0 0, .string ⟨#[]⟩, .int .u64 0, .int .u8 0, .string ⟨#[]⟩] 52) = v0 at *
  refine (H1.out _ HS0.out.ri).mono ?_
  rintro e u1 ⟨rfl, hi, hg⟩
  have HM1 := Lib.hid (HS0.out.moved hi hg)
  clear hi hg
  have HS1 := Lib.hid (show RdX w R b (w.heap.size + 1) ZS ([.int .u8 3, .int .u64 0, .string ⟨#[]⟩, .int .u8 0, .string ⟨#[]⟩, .string ⟨#[]⟩, .int .u64 0, .int .u64 0, .string ⟨#[]⟩, .string ⟨#[]⟩, .string ⟨#[]⟩, .bool false, .string ⟨#[]⟩, .slice none 0 0, .bool false, .string ⟨#[]⟩, .int .u64 0, .int .u8 0, .int .u8 0, .int .u8 0, .int .u64 0, .int .u64 0, .string ⟨#[]⟩, .string ⟨#[]⟩, .slice none 0 0, .string ⟨#[]⟩, .int .u64 0, .int .u8 0, .string ⟨#[]⟩]) none ([]) s1 (u1.setCell ⟨w.heap.size + 1, 0, none⟩ (.int .u8 3)) from (HM1.out.put 0 (.int .u8 3) (by show _ < 29; omega)))
  have c0 := HM1.out.m.cs 0 _ rfl
  have cl := HM1.out.m.lt
  have cf : ∀ j, u1.frozen? ⟨w.heap.size + 1, j, none⟩ = false := HM1.out.m.s
  go_wp2_with fail
  generalize (u1.setCell ⟨w.heap.size + 1, 0, none⟩ (.int .u8 3)) = v1 at *
  clear c0 cl cf HM1 HS0
  refine (H2.out _ HS1.out.ri).mono ?_
  rintro e u2 ⟨rfl, hi, hg⟩
  have HM2 := Lib.hid (HS1.out.moved hi hg)
  clear hi hg
  have HS2 := Lib.hid (show RdX w R b (w.heap.size + 1) ZS ([.int .u8 3, .int .u64 (t : Int), .string ⟨#[]⟩, .int .u8 0, .string ⟨#[]⟩, .string ⟨#[]⟩, .int .u64 0, .int .u64 0, .string ⟨#[]⟩, .string ⟨#[]⟩, .string ⟨#[]⟩, .bool false, .string ⟨#[]⟩, .slice none 0 0, .bool false, .string ⟨#[]⟩, .int .u64 0, .int .u8 0, .int .u8 0, .int .u8 0, .int .u64 0, .int .u64 0, .string ⟨#[]⟩, .string ⟨#[]⟩, .slice none 0 0, .string ⟨#[]⟩, .int .u64 0, .int .u8 0, .string ⟨#[]⟩]) none ([]) s2 (u2.setCell ⟨w.heap.size + 1, 1, none⟩ (.int .u64 (t : Int))) from (HM2.out.put 1 (.int .u64 (t : Int)) (by show _ < 29; omega)))
  have c0 := HM2.out.m.cs 0 _ rfl
  have c1 := HM2.out.m.cs 1 _ rfl
  have cl := HM2.out.m.lt
  have cf : ∀ j, u2.frozen? ⟨w.heap.size + 1, j, none⟩ = false := HM2.out.m.s
  go_wp2_with fail
  generalize (u2.setCell ⟨w.heap.size + 1, 1, none⟩ (.int .u64 (t : Int))) = v2 at *
  clear c0 c1 cl cf HM2 HS1
  refine (H3.out _ HS2.out.ri).mono ?_
  rintro e u3 ⟨rfl, hi, hg⟩
  have HM3 := Lib.hid (HS2.out.moved hi hg)
  clear hi hg
  have HS3 := Lib.hid (show RdX w R b (w.heap.size + 1) ZS (deL ({ De.of 3 t with name := N } : De) none 0 none 0) none ([]) s3 (u3.setCell ⟨w.heap.size + 1, 15, none⟩ (.string (ofL N))) from (HM3.out.put 15 (.string (ofL N)) (by show _ < 29; omega)))
  have c15 := HM3.out.m.cs 15 _ rfl
  have cl := HM3.out.m.lt
  have cf : ∀ j, u3.frozen? ⟨w.heap.size + 1, j, none⟩ = false := HM3.out.m.s
  go_upto_region 29 with fail
  generalize (u3.setCell ⟨w.heap.size + 1, 15, none⟩ (.string (ofL N))) = v3 at *
  clear c15 cl cf HM3 HS2
  rw [HZS.out] at HS3
  go_wp2_with (first
    | (refine wpList_load_mid (by rfl) 52 _ (by rfl) (w.heap.size + 1) 0 (by rfl) (deL ({ De.of 3 t with name := N } : De) none 0 none 0) _ HS3.out.m.cs.range Tryz.underlying52 rfl (by rw [de_size, deL_len]) ?_)
    | (refine wpList_store_mid (by rfl) 52 _ _ (by rfl) w.heap.size 0 (deL ({ De.of 3 t with name := N } : De) none 0 none 0).toArray (by rfl) (by rfl) HS3.out.q.there (by rw [de_size]; rfl) (de_all _ _ _ _ _) ?_))
  obtain ⟨hF, hI, hG, hP⟩ := HS3.out.ends (deL ({ De.of 3 t with name := N } : De) none 0 none 0) rfl
  generalize v3.setCells w.heap.size 0 (deL ({ De.of 3 t with name := N } : De) none 0 none 0) = WW at *
  exact bodyPost_ret (v := deV ({ De.of 3 t with name := N } : De) none 0 none 0) (by simp [results, Tryz.results27, asAddr]; exact de_res _ _ _ _ _ _ _ hF.cs) rfl ⟨none, 0, none, 0, rfl, Nat.le_refl _, Nat.le_refl _, Prs.nil _ _, Prs.nil _ _, hI, hG, (fun a ha => by cases ha), (fun a ha => by cases ha)⟩
set_option maxRecDepth 100000 in
set_option maxHeartbeats 16000000 in
theorem ddread_4 (b : Nat) (R : LSt → World → Prop) (hR : Rder b R) (s s1 s2 s3 : LSt) (t : Nat) (X : Bd) (w : World)
    (h1 : ∀ W, R s W → Calls Tryz.prog 57 #[.pointer (some ⟨b, 0, none⟩)] W (fun e w' => e = .returned (.int .u8 4) ∧ R s1 w' ∧ W.grownBy w' (some b)))
    (h2 : ∀ W, R s1 W → Calls Tryz.prog 26 #[.pointer (some ⟨b, 0, none⟩), .int .i64 8] W (fun e w' => e = .returned (.int .u64 (t : Int)) ∧ R s2 w' ∧ W.grownBy w' (some b)))
    (h3 : ∀ W, R s2 W → Calls Tryz.prog 60 #[.pointer (some ⟨b, 0, none⟩)] W (fun e w' => ∃ A c, e = .returned (.agg #[.string (ofL X.shop), .string (ofL X.to), .bool X.up, .string (ofL X.key), .slice A X.want.length c, .bool X.all]) ∧ X.want.length ≤ c ∧ Prs w' A X.want ∧ R s3 w' ∧ W.grownBy w' (some b) ∧ ∀ a, A = some a → W.heap.size ≤ a.block))
    (hi : R s w) : Calls Tryz.prog 27 #[.pointer (some ⟨b, 0, none⟩)] w (DeRd R b w ({ De.of 4 t with bind := X } : De) s3) := by
  unfold DeRd
  obtain ⟨ZS, hZS⟩ : ∃ ZS : List Value, ZS = [.int .u8 0, .int .u64 0, .string ⟨#[]⟩, .int .u8 0, .string ⟨#[]⟩, .string ⟨#[]⟩, .int .u64 0, .int .u64 0, .string ⟨#[]⟩, .string ⟨#[]⟩, .string ⟨#[]⟩, .bool false, .string ⟨#[]⟩, .slice none 0 0, .bool false, .string ⟨#[]⟩, .int .u64 0, .int .u8 0, .int .u8 0, .int .u8 0, .int .u64 0, .int .u64 0, .string ⟨#[]⟩, .string ⟨#[]⟩, .slice none 0 0, .string ⟨#[]⟩, .int .u64 0, .int .u8 0, .string ⟨#[]⟩] := ⟨_, rfl⟩
  have HS0 := Lib.hid (show RdX w R b (w.heap.size + 1) ZS ([.int .u8 0, .int .u64 0, .string ⟨#[]⟩, .int .u8 0, .string ⟨#[]⟩, .string ⟨#[]⟩, .int .u64 0, .int .u64 0, .string ⟨#[]⟩, .string ⟨#[]⟩, .string ⟨#[]⟩, .bool false, .string ⟨#[]⟩, .slice none 0 0, .bool false, .string ⟨#[]⟩, .int .u64 0, .int .u8 0, .int .u8 0, .int .u8 0, .int .u64 0, .int .u64 0, .string ⟨#[]⟩, .string ⟨#[]⟩, .slice none 0 0, .string ⟨#[]⟩, .int .u64 0, .int .u8 0, .string ⟨#[]⟩]) none [] s ((w.alloc (.cells #[.int .u8 0, .int .u64 0, .string ⟨#[]⟩, .int .u8 0, .string ⟨#[]⟩, .string ⟨#[]⟩, .int .u64 0, .int .u64 0, .string ⟨#[]⟩, .string ⟨#[]⟩, .string ⟨#[]⟩, .bool false, .string ⟨#[]⟩, .slice none 0 0, .bool false, .string ⟨#[]⟩, .int .u64 0, .int .u8 0, .int .u8 0, .int .u8 0, .int .u64 0, .int .u64 0, .string ⟨#[]⟩, .string ⟨#[]⟩, .slice none 0 0, .string ⟨#[]⟩, .int .u64 0, .int .u8 0, .string ⟨#[]⟩] 52)).alloc (.cells #[.int .u8 0, .int .u64 0, .string ⟨#[]⟩, .int .u8 0, .string ⟨#[]⟩, .string ⟨#[]⟩, .int .u64 0, .int .u64 0, .string ⟨#[]⟩, .string ⟨#[]⟩, .string ⟨#[]⟩, .bool false, .string ⟨#[]⟩, .slice none 0 0, .bool false, .string ⟨#[]⟩, .int .u64 0, .int .u8 0, .int .u8 0, .int .u8 0, .int .u64 0, .int .u64 0, .string ⟨#[]⟩, .string ⟨#[]⟩, .slice none 0 0, .string ⟨#[]⟩, .int .u64 0, .int .u8 0, .string ⟨#[]⟩] 52)) from hZS ▸ RdX.start hR hi #[.int .u8 0, .int .u64 0, .string ⟨#[]⟩, .int .u8 0, .string ⟨#[]⟩, .string ⟨#[]⟩, .int .u64 0, .int .u64 0, .string ⟨#[]⟩, .string ⟨#[]⟩, .string ⟨#[]⟩, .bool false, .string ⟨#[]⟩, .slice none 0 0, .bool false, .string ⟨#[]⟩, .int .u64 0, .int .u8 0, .int .u8 0, .int .u8 0, .int .u64 0, .int .u64 0, .string ⟨#[]⟩, .string ⟨#[]⟩, .slice none 0 0, .string ⟨#[]⟩, .int .u64 0, .int .u8 0, .string ⟨#[]⟩] 52)
  have H1 := Lib.hid h1
  have H2 := Lib.hid h2
  have H3 := Lib.hid h3
  have HRR := Lib.hid hR
  have HZS := Lib.hid hZS
  clear h1 h2 h3 hR hi hZS
  go_enter Tryz.func27, Tryz.ntmps27
  go_wp2_with fail
  generalize (w.alloc (.cells #[.int .u8 0, .int .u64 0, .string ⟨#[]⟩, .int .u8 0, .string ⟨#[]⟩, .string ⟨#[]⟩, .int .u64 0, .int .u64 0, .string ⟨#[]⟩, .string ⟨#[]⟩, .string ⟨#[]⟩, .bool false, .string ⟨#[]⟩, .slice none 0 0, .bool false, .string ⟨#[]⟩, .int .u64 0, .int .u8 0, .int .u8 0, .int .u8 0, .int .u64 0, .int .u64 0, .string ⟨#[]⟩, .string ⟨#[]⟩, .slice none 0 0, .string ⟨#[]⟩, .int .u64 0, .int .u8 0, .string ⟨#[]⟩] 52)).alloc (.cells #[.int .u8 0, .int .u64 0, .string ⟨#[]⟩, .int .u8 0, .string ⟨#[]⟩, .string ⟨#[]⟩, .int .u64 0, .int .u64 0, .string ⟨#[]⟩, .string ⟨#[]⟩, .string ⟨#[]⟩, .bool false, .string ⟨#[]⟩, .slice none 0 0, .bool false, .string ⟨#[]⟩, .int .u64 0, .int .u8 0, .int .u8 0, .int .u8 0, .int .u64 0, .int .u64 0, .string ⟨#[]⟩, .string ⟨#[]⟩, .slice none 0 0, .string ⟨#[]⟩, .int .u64 0, .int .u8 0, .string ⟨#[]⟩] 52) = v0 at *
  refine (H1.out _ HS0.out.ri).mono ?_
  rintro e u1 ⟨rfl, hi, hg⟩
  have HM1 := Lib.hid (HS0.out.moved hi hg)
  clear hi hg
  have HS1 := Lib.hid (show RdX w R b (w.heap.size + 1) ZS ([.int .u8 4, .int .u64 0, .string ⟨#[]⟩, .int .u8 0, .string ⟨#[]⟩, .string ⟨#[]⟩, .int .u64 0, .int .u64 0, .string ⟨#[]⟩, .string ⟨#[]⟩, .string ⟨#[]⟩, .bool false, .string ⟨#[]⟩, .slice none 0 0, .bool false, .string ⟨#[]⟩, .int .u64 0, .int .u8 0, .int .u8 0, .int .u8 0, .int .u64 0, .int .u64 0, .string ⟨#[]⟩, .string ⟨#[]⟩, .slice none 0 0, .string ⟨#[]⟩, .int .u64 0, .int .u8 0, .string ⟨#[]⟩]) none ([]) s1 (u1.setCell ⟨w.heap.size + 1, 0, none⟩ (.int .u8 4)) from (HM1.out.put 0 (.int .u8 4) (by show _ < 29; omega)))
  have c0 := HM1.out.m.cs 0 _ rfl
  have cl := HM1.out.m.lt
  have cf : ∀ j, u1.frozen? ⟨w.heap.size + 1, j, none⟩ = false := HM1.out.m.s
  go_wp2_with fail
  generalize (u1.setCell ⟨w.heap.size + 1, 0, none⟩ (.int .u8 4)) = v1 at *
  clear c0 cl cf HM1 HS0
  refine (H2.out _ HS1.out.ri).mono ?_
  rintro e u2 ⟨rfl, hi, hg⟩
  have HM2 := Lib.hid (HS1.out.moved hi hg)
  clear hi hg
  have HS2 := Lib.hid (show RdX w R b (w.heap.size + 1) ZS ([.int .u8 4, .int .u64 (t : Int), .string ⟨#[]⟩, .int .u8 0, .string ⟨#[]⟩, .string ⟨#[]⟩, .int .u64 0, .int .u64 0, .string ⟨#[]⟩, .string ⟨#[]⟩, .string ⟨#[]⟩, .bool false, .string ⟨#[]⟩, .slice none 0 0, .bool false, .string ⟨#[]⟩, .int .u64 0, .int .u8 0, .int .u8 0, .int .u8 0, .int .u64 0, .int .u64 0, .string ⟨#[]⟩, .string ⟨#[]⟩, .slice none 0 0, .string ⟨#[]⟩, .int .u64 0, .int .u8 0, .string ⟨#[]⟩]) none ([]) s2 (u2.setCell ⟨w.heap.size + 1, 1, none⟩ (.int .u64 (t : Int))) from (HM2.out.put 1 (.int .u64 (t : Int)) (by show _ < 29; omega)))
  have c0 := HM2.out.m.cs 0 _ rfl
  have c1 := HM2.out.m.cs 1 _ rfl
  have cl := HM2.out.m.lt
  have cf : ∀ j, u2.frozen? ⟨w.heap.size + 1, j, none⟩ = false := HM2.out.m.s
  go_wp2_with fail
  generalize (u2.setCell ⟨w.heap.size + 1, 1, none⟩ (.int .u64 (t : Int))) = v2 at *
  clear c0 c1 cl cf HM2 HS1
  refine (H3.out _ HS2.out.ri).mono ?_
  rintro e u3 ⟨A, c, rfl, hc, hp, hi, hg, hA⟩
  have HM3 := Lib.hid (HS2.out.moved hi hg)
  have HR := Lib.hid (HS2.out.rowOk hg hp hA)
  have HC := Lib.hid hc
  clear hi hg hc hp hA
  have HS3 := Lib.hid (show RdX w R b (w.heap.size + 1) ZS (deL ({ De.of 4 t with bind := X } : De) A c none 0) A (X.want) s3 ((((((u3.setCell ⟨w.heap.size + 1, 9, none⟩ (.string (ofL X.shop))).setCell ⟨w.heap.size + 1, 10, none⟩ (.string (ofL X.to))).setCell ⟨w.heap.size + 1, 11, none⟩ (.bool X.up)).setCell ⟨w.heap.size + 1, 12, none⟩ (.string (ofL X.key))).setCell ⟨w.heap.size + 1, 13, none⟩ (.slice A X.want.length c)).setCell ⟨w.heap.size + 1, 14, none⟩ (.bool X.all)) from (((((((HM3.out.take HR.out.1 HR.out.2).put 9 (.string (ofL X.shop)) (by show _ < 29; omega)).put 10 (.string (ofL X.to)) (by show _ < 29; omega)).put 11 (.bool X.up) (by show _ < 29; omega)).put 12 (.string (ofL X.key)) (by show _ < 29; omega)).put 13 (.slice A X.want.length c) (by show _ < 29; omega)).put 14 (.bool X.all) (by show _ < 29; omega)))
  have c9 := HM3.out.m.cs 9 _ rfl
  have c10 := HM3.out.m.cs 10 _ rfl
  have c11 := HM3.out.m.cs 11 _ rfl
  have c12 := HM3.out.m.cs 12 _ rfl
  have c13 := HM3.out.m.cs 13 _ rfl
  have c14 := HM3.out.m.cs 14 _ rfl
  have cl := HM3.out.m.lt
  have cf : ∀ j, u3.frozen? ⟨w.heap.size + 1, j, none⟩ = false := HM3.out.m.s
  go_upto_region 29 with fail
  generalize ((((((u3.setCell ⟨w.heap.size + 1, 9, none⟩ (.string (ofL X.shop))).setCell ⟨w.heap.size + 1, 10, none⟩ (.string (ofL X.to))).setCell ⟨w.heap.size + 1, 11, none⟩ (.bool X.up)).setCell ⟨w.heap.size + 1, 12, none⟩ (.string (ofL X.key))).setCell ⟨w.heap.size + 1, 13, none⟩ (.slice A X.want.length c)).setCell ⟨w.heap.size + 1, 14, none⟩ (.bool X.all)) = v3 at *
  clear c9 c10 c11 c12 c13 c14 cl cf HM3 HS2
  rw [HZS.out] at HS3
  go_wp2_with (first
    | (refine wpList_load_mid (by rfl) 52 _ (by rfl) (w.heap.size + 1) 0 (by rfl) (deL ({ De.of 4 t with bind := X } : De) A c none 0) _ HS3.out.m.cs.range Tryz.underlying52 rfl (by rw [de_size, deL_len]) ?_)
    | (refine wpList_store_mid (by rfl) 52 _ _ (by rfl) w.heap.size 0 (deL ({ De.of 4 t with bind := X } : De) A c none 0).toArray (by rfl) (by rfl) HS3.out.q.there (by rw [de_size]; rfl) (de_all _ _ _ _ _) ?_))
  obtain ⟨hF, hI, hG, hP⟩ := HS3.out.ends (deL ({ De.of 4 t with bind := X } : De) A c none 0) rfl
  generalize v3.setCells w.heap.size 0 (deL ({ De.of 4 t with bind := X } : De) A c none 0) = WW at *
  exact bodyPost_ret (v := deV ({ De.of 4 t with bind := X } : De) A c none 0) (by simp [results, Tryz.results27, asAddr]; exact de_res _ _ _ _ _ _ _ hF.cs) rfl ⟨A, c, none, 0, rfl, HC.out, Nat.le_refl _, hP.1, Prs.nil _ _, hI, hG, hP.2, (fun a ha => by cases ha)⟩
set_option maxRecDepth 100000 in
set_option maxHeartbeats 16000000 in
theorem ddread_5 (b : Nat) (R : LSt → World → Prop) (hR : Rder b R) (s s1 s2 s3 : LSt) (t : Nat) (X : Bd) (w : World)
    (h1 : ∀ W, R s W → Calls Tryz.prog 57 #[.pointer (some ⟨b, 0, none⟩)] W (fun e w' => e = .returned (.int .u8 5) ∧ R s1 w' ∧ W.grownBy w' (some b)))
    (h2 : ∀ W, R s1 W → Calls Tryz.prog 26 #[.pointer (some ⟨b, 0, none⟩), .int .i64 8] W (fun e w' => e = .returned (.int .u64 (t : Int)) ∧ R s2 w' ∧ W.grownBy w' (some b)))
    (h3 : ∀ W, R s2 W → Calls Tryz.prog 60 #[.pointer (some ⟨b, 0, none⟩)] W (fun e w' => ∃ A c, e = .returned (.agg #[.string (ofL X.shop), .string (ofL X.to), .bool X.up, .string (ofL X.key), .slice A X.want.length c, .bool X.all]) ∧ X.want.length ≤ c ∧ Prs w' A X.want ∧ R s3 w' ∧ W.grownBy w' (some b) ∧ ∀ a, A = some a → W.heap.size ≤ a.block))
    (hi : R s w) : Calls Tryz.prog 27 #[.pointer (some ⟨b, 0, none⟩)] w (DeRd R b w ({ De.of 5 t with bind := X } : De) s3) := by
  unfold DeRd
  obtain ⟨ZS, hZS⟩ : ∃ ZS : List Value, ZS = [.int .u8 0, .int .u64 0, .string ⟨#[]⟩, .int .u8 0, .string ⟨#[]⟩, .string ⟨#[]⟩, .int .u64 0, .int .u64 0, .string ⟨#[]⟩, .string ⟨#[]⟩, .string ⟨#[]⟩, .bool false, .string ⟨#[]⟩, .slice none 0 0, .bool false, .string ⟨#[]⟩, .int .u64 0, .int .u8 0, .int .u8 0, .int .u8 0, .int .u64 0, .int .u64 0, .string ⟨#[]⟩, .string ⟨#[]⟩, .slice none 0 0, .string ⟨#[]⟩, .int .u64 0, .int .u8 0, .string ⟨#[]⟩] := ⟨_, rfl⟩
  have HS0 := Lib.hid (show RdX w R b (w.heap.size + 1) ZS ([.int .u8 0, .int .u64 0, .string ⟨#[]⟩, .int .u8 0, .string ⟨#[]⟩, .string ⟨#[]⟩, .int .u64 0, .int .u64 0, .string ⟨#[]⟩, .string ⟨#[]⟩, .string ⟨#[]⟩, .bool false, .string ⟨#[]⟩, .slice none 0 0, .bool false, .string ⟨#[]⟩, .int .u64 0, .int .u8 0, .int .u8 0, .int .u8 0, .int .u64 0, .int .u64 0, .string ⟨#[]⟩, .string ⟨#[]⟩, .slice none 0 0, .string ⟨#[]⟩, .int .u64 0, .int .u8 0, .string ⟨#[]⟩]) none [] s ((w.alloc (.cells #[.int .u8 0, .int .u64 0, .string ⟨#[]⟩, .int .u8 0, .string ⟨#[]⟩, .string ⟨#[]⟩, .int .u64 0, .int .u64 0, .string ⟨#[]⟩, .string ⟨#[]⟩, .string ⟨#[]⟩, .bool false, .string ⟨#[]⟩, .slice none 0 0, .bool false, .string ⟨#[]⟩, .int .u64 0, .int .u8 0, .int .u8 0, .int .u8 0, .int .u64 0, .int .u64 0, .string ⟨#[]⟩, .string ⟨#[]⟩, .slice none 0 0, .string ⟨#[]⟩, .int .u64 0, .int .u8 0, .string ⟨#[]⟩] 52)).alloc (.cells #[.int .u8 0, .int .u64 0, .string ⟨#[]⟩, .int .u8 0, .string ⟨#[]⟩, .string ⟨#[]⟩, .int .u64 0, .int .u64 0, .string ⟨#[]⟩, .string ⟨#[]⟩, .string ⟨#[]⟩, .bool false, .string ⟨#[]⟩, .slice none 0 0, .bool false, .string ⟨#[]⟩, .int .u64 0, .int .u8 0, .int .u8 0, .int .u8 0, .int .u64 0, .int .u64 0, .string ⟨#[]⟩, .string ⟨#[]⟩, .slice none 0 0, .string ⟨#[]⟩, .int .u64 0, .int .u8 0, .string ⟨#[]⟩] 52)) from hZS ▸ RdX.start hR hi #[.int .u8 0, .int .u64 0, .string ⟨#[]⟩, .int .u8 0, .string ⟨#[]⟩, .string ⟨#[]⟩, .int .u64 0, .int .u64 0, .string ⟨#[]⟩, .string ⟨#[]⟩, .string ⟨#[]⟩, .bool false, .string ⟨#[]⟩, .slice none 0 0, .bool false, .string ⟨#[]⟩, .int .u64 0, .int .u8 0, .int .u8 0, .int .u8 0, .int .u64 0, .int .u64 0, .string ⟨#[]⟩, .string ⟨#[]⟩, .slice none 0 0, .string ⟨#[]⟩, .int .u64 0, .int .u8 0, .string ⟨#[]⟩] 52)
  have H1 := Lib.hid h1
  have H2 := Lib.hid h2
  have H3 := Lib.hid h3
  have HRR := Lib.hid hR
  have HZS := Lib.hid hZS
  clear h1 h2 h3 hR hi hZS
  go_enter Tryz.func27, Tryz.ntmps27
  go_wp2_with fail
  generalize (w.alloc (.cells #[.int .u8 0, .int .u64 0, .string ⟨#[]⟩, .int .u8 0, .string ⟨#[]⟩, .string ⟨#[]⟩, .int .u64 0, .int .u64 0, .string ⟨#[]⟩, .string ⟨#[]⟩, .string ⟨#[]⟩, .bool false, .string ⟨#[]⟩, .slice none 0 0, .bool false, .string ⟨#[]⟩, .int .u64 0, .int .u8 0, .int .u8 0, .int .u8 0, .int .u64 0, .int .u64 0, .string ⟨#[]⟩, .string ⟨#[]⟩, .slice none 0 0, .string ⟨#[]⟩, .int .u64 0, .int .u8 0, .string ⟨#[]⟩] 52)).alloc (.cells #[.int .u8 0, .int .u64 0, .string ⟨#[]⟩, .int .u8 0, .string ⟨#[]⟩, .string ⟨#[]⟩, .int .u64 0, .int .u64 0, .string ⟨#[]⟩, .string ⟨#[]⟩, .string ⟨#[]⟩, .bool false, .string ⟨#[]⟩, .slice none 0 0, .bool false, .string ⟨#[]⟩, .int .u64 0, .int .u8 0, .int .u8 0, .int .u8 0, .int .u64 0, .int .u64 0, .string ⟨#[]⟩, .string ⟨#[]⟩, .slice none 0 0, .string ⟨#[]⟩, .int .u64 0, .int .u8 0, .string ⟨#[]⟩] 52) = v0 at *
  refine (H1.out _ HS0.out.ri).mono ?_
  rintro e u1 ⟨rfl, hi, hg⟩
  have HM1 := Lib.hid (HS0.out.moved hi hg)
  clear hi hg
  have HS1 := Lib.hid (show RdX w R b (w.heap.size + 1) ZS ([.int .u8 5, .int .u64 0, .string ⟨#[]⟩, .int .u8 0, .string ⟨#[]⟩, .string ⟨#[]⟩, .int .u64 0, .int .u64 0, .string ⟨#[]⟩, .string ⟨#[]⟩, .string ⟨#[]⟩, .bool false, .string ⟨#[]⟩, .slice none 0 0, .bool false, .string ⟨#[]⟩, .int .u64 0, .int .u8 0, .int .u8 0, .int .u8 0, .int .u64 0, .int .u64 0, .string ⟨#[]⟩, .string ⟨#[]⟩, .slice none 0 0, .string ⟨#[]⟩, .int .u64 0, .int .u8 0, .string ⟨#[]⟩]) none ([]) s1 (u1.setCell ⟨w.heap.size + 1, 0, none⟩ (.int .u8 5)) from (HM1.out.put 0 (.int .u8 5) (by show _ < 29; omega)))
  have c0 := HM1.out.m.cs 0 _ rfl
  have cl := HM1.out.m.lt
  have cf : ∀ j, u1.frozen? ⟨w.heap.size + 1, j, none⟩ = false := HM1.out.m.s
  go_wp2_with fail
  generalize (u1.setCell ⟨w.heap.size + 1, 0, none⟩ (.int .u8 5)) = v1 at *
  clear c0 cl cf HM1 HS0
  refine (H2.out _ HS1.out.ri).mono ?_
  rintro e u2 ⟨rfl, hi, hg⟩
  have HM2 := Lib.hid (HS1.out.moved hi hg)
  clear hi hg
  have HS2 := Lib.hid (show RdX w R b (w.heap.size + 1) ZS ([.int .u8 5, .int .u64 (t : Int), .string ⟨#[]⟩, .int .u8 0, .string ⟨#[]⟩, .string ⟨#[]⟩, .int .u64 0, .int .u64 0, .string ⟨#[]⟩, .string ⟨#[]⟩, .string ⟨#[]⟩, .bool false, .string ⟨#[]⟩, .slice none 0 0, .bool false, .string ⟨#[]⟩, .int .u64 0, .int .u8 0, .int .u8 0, .int .u8 0, .int .u64 0, .int .u64 0, .string ⟨#[]⟩, .string ⟨#[]⟩, .slice none 0 0, .string ⟨#[]⟩, .int .u64 0, .int .u8 0, .string ⟨#[]⟩]) none ([]) s2 (u2.setCell ⟨w.heap.size + 1, 1, none⟩ (.int .u64 (t : Int))) from (HM2.out.put 1 (.int .u64 (t : Int)) (by show _ < 29; omega)))
  have c0 := HM2.out.m.cs 0 _ rfl
  have c1 := HM2.out.m.cs 1 _ rfl
  have cl := HM2.out.m.lt
  have cf : ∀ j, u2.frozen? ⟨w.heap.size + 1, j, none⟩ = false := HM2.out.m.s
  go_wp2_with fail
  generalize (u2.setCell ⟨w.heap.size + 1, 1, none⟩ (.int .u64 (t : Int))) = v2 at *
  clear c0 c1 cl cf HM2 HS1
  refine (H3.out _ HS2.out.ri).mono ?_
  rintro e u3 ⟨A, c, rfl, hc, hp, hi, hg, hA⟩
  have HM3 := Lib.hid (HS2.out.moved hi hg)
  have HR := Lib.hid (HS2.out.rowOk hg hp hA)
  have HC := Lib.hid hc
  clear hi hg hc hp hA
  have HS3 := Lib.hid (show RdX w R b (w.heap.size + 1) ZS (deL ({ De.of 5 t with bind := X } : De) A c none 0) A (X.want) s3 ((((((u3.setCell ⟨w.heap.size + 1, 9, none⟩ (.string (ofL X.shop))).setCell ⟨w.heap.size + 1, 10, none⟩ (.string (ofL X.to))).setCell ⟨w.heap.size + 1, 11, none⟩ (.bool X.up)).setCell ⟨w.heap.size + 1, 12, none⟩ (.string (ofL X.key))).setCell ⟨w.heap.size + 1, 13, none⟩ (.slice A X.want.length c)).setCell ⟨w.heap.size + 1, 14, none⟩ (.bool X.all)) from (((((((HM3.out.take HR.out.1 HR.out.2).put 9 (.string (ofL X.shop)) (by show _ < 29; omega)).put 10 (.string (ofL X.to)) (by show _ < 29; omega)).put 11 (.bool X.up) (by show _ < 29; omega)).put 12 (.string (ofL X.key)) (by show _ < 29; omega)).put 13 (.slice A X.want.length c) (by show _ < 29; omega)).put 14 (.bool X.all) (by show _ < 29; omega)))
  have c9 := HM3.out.m.cs 9 _ rfl
  have c10 := HM3.out.m.cs 10 _ rfl
  have c11 := HM3.out.m.cs 11 _ rfl
  have c12 := HM3.out.m.cs 12 _ rfl
  have c13 := HM3.out.m.cs 13 _ rfl
  have c14 := HM3.out.m.cs 14 _ rfl
  have cl := HM3.out.m.lt
  have cf : ∀ j, u3.frozen? ⟨w.heap.size + 1, j, none⟩ = false := HM3.out.m.s
  go_upto_region 29 with fail
  generalize ((((((u3.setCell ⟨w.heap.size + 1, 9, none⟩ (.string (ofL X.shop))).setCell ⟨w.heap.size + 1, 10, none⟩ (.string (ofL X.to))).setCell ⟨w.heap.size + 1, 11, none⟩ (.bool X.up)).setCell ⟨w.heap.size + 1, 12, none⟩ (.string (ofL X.key))).setCell ⟨w.heap.size + 1, 13, none⟩ (.slice A X.want.length c)).setCell ⟨w.heap.size + 1, 14, none⟩ (.bool X.all)) = v3 at *
  clear c9 c10 c11 c12 c13 c14 cl cf HM3 HS2
  rw [HZS.out] at HS3
  go_wp2_with (first
    | (refine wpList_load_mid (by rfl) 52 _ (by rfl) (w.heap.size + 1) 0 (by rfl) (deL ({ De.of 5 t with bind := X } : De) A c none 0) _ HS3.out.m.cs.range Tryz.underlying52 rfl (by rw [de_size, deL_len]) ?_)
    | (refine wpList_store_mid (by rfl) 52 _ _ (by rfl) w.heap.size 0 (deL ({ De.of 5 t with bind := X } : De) A c none 0).toArray (by rfl) (by rfl) HS3.out.q.there (by rw [de_size]; rfl) (de_all _ _ _ _ _) ?_))
  obtain ⟨hF, hI, hG, hP⟩ := HS3.out.ends (deL ({ De.of 5 t with bind := X } : De) A c none 0) rfl
  generalize v3.setCells w.heap.size 0 (deL ({ De.of 5 t with bind := X } : De) A c none 0) = WW at *
  exact bodyPost_ret (v := deV ({ De.of 5 t with bind := X } : De) A c none 0) (by simp [results, Tryz.results27, asAddr]; exact de_res _ _ _ _ _ _ _ hF.cs) rfl ⟨A, c, none, 0, rfl, HC.out, Nat.le_refl _, hP.1, Prs.nil _ _, hI, hG, hP.2, (fun a ha => by cases ha)⟩
set_option maxRecDepth 100000 in
set_option maxHeartbeats 16000000 in
theorem ddread_6 (b : Nat) (R : LSt → World → Prop) (hR : Rder b R) (s s1 s2 s3 : LSt) (t : Nat) (M : Ml) (w : World)
    (h1 : ∀ W, R s W → Calls Tryz.prog 57 #[.pointer (some ⟨b, 0, none⟩)] W (fun e w' => e = .returned (.int .u8 6) ∧ R s1 w' ∧ W.grownBy w' (some b)))
    (h2 : ∀ W, R s1 W → Calls Tryz.prog 26 #[.pointer (some ⟨b, 0, none⟩), .int .i64 8] W (fun e w' => e = .returned (.int .u64 (t : Int)) ∧ R s2 w' ∧ W.grownBy w' (some b)))
    (h3 : ∀ W, w.grownBy W (some b) → R s2 W → Calls Tryz.prog 62 #[.pointer (some ⟨b, 0, none⟩)] W (fun e w' => ∃ A c, e = .returned (.agg #[.int .u64 (M.id : Int), .string (ofL M.shop), .string (ofL M.key), .slice A M.head.length c, .string (ofL M.body), .int .u64 (M.due : Int), .int .u8 (M.hops : Int)]) ∧ M.head.length ≤ c ∧ Prs w' A M.head ∧ R s3 w' ∧ W.grownBy w' (some b) ∧ ∀ a, A = some a → W.heap.size ≤ a.block))
    (hi : R s w) : Calls Tryz.prog 27 #[.pointer (some ⟨b, 0, none⟩)] w (DeRd R b w ({ De.of 6 t with mail := M } : De) s3) := by
  unfold DeRd
  obtain ⟨ZS, hZS⟩ : ∃ ZS : List Value, ZS = [.int .u8 0, .int .u64 0, .string ⟨#[]⟩, .int .u8 0, .string ⟨#[]⟩, .string ⟨#[]⟩, .int .u64 0, .int .u64 0, .string ⟨#[]⟩, .string ⟨#[]⟩, .string ⟨#[]⟩, .bool false, .string ⟨#[]⟩, .slice none 0 0, .bool false, .string ⟨#[]⟩, .int .u64 0, .int .u8 0, .int .u8 0, .int .u8 0, .int .u64 0, .int .u64 0, .string ⟨#[]⟩, .string ⟨#[]⟩, .slice none 0 0, .string ⟨#[]⟩, .int .u64 0, .int .u8 0, .string ⟨#[]⟩] := ⟨_, rfl⟩
  have HS0 := Lib.hid (show RdX w R b (w.heap.size + 1) ZS ([.int .u8 0, .int .u64 0, .string ⟨#[]⟩, .int .u8 0, .string ⟨#[]⟩, .string ⟨#[]⟩, .int .u64 0, .int .u64 0, .string ⟨#[]⟩, .string ⟨#[]⟩, .string ⟨#[]⟩, .bool false, .string ⟨#[]⟩, .slice none 0 0, .bool false, .string ⟨#[]⟩, .int .u64 0, .int .u8 0, .int .u8 0, .int .u8 0, .int .u64 0, .int .u64 0, .string ⟨#[]⟩, .string ⟨#[]⟩, .slice none 0 0, .string ⟨#[]⟩, .int .u64 0, .int .u8 0, .string ⟨#[]⟩]) none [] s ((w.alloc (.cells #[.int .u8 0, .int .u64 0, .string ⟨#[]⟩, .int .u8 0, .string ⟨#[]⟩, .string ⟨#[]⟩, .int .u64 0, .int .u64 0, .string ⟨#[]⟩, .string ⟨#[]⟩, .string ⟨#[]⟩, .bool false, .string ⟨#[]⟩, .slice none 0 0, .bool false, .string ⟨#[]⟩, .int .u64 0, .int .u8 0, .int .u8 0, .int .u8 0, .int .u64 0, .int .u64 0, .string ⟨#[]⟩, .string ⟨#[]⟩, .slice none 0 0, .string ⟨#[]⟩, .int .u64 0, .int .u8 0, .string ⟨#[]⟩] 52)).alloc (.cells #[.int .u8 0, .int .u64 0, .string ⟨#[]⟩, .int .u8 0, .string ⟨#[]⟩, .string ⟨#[]⟩, .int .u64 0, .int .u64 0, .string ⟨#[]⟩, .string ⟨#[]⟩, .string ⟨#[]⟩, .bool false, .string ⟨#[]⟩, .slice none 0 0, .bool false, .string ⟨#[]⟩, .int .u64 0, .int .u8 0, .int .u8 0, .int .u8 0, .int .u64 0, .int .u64 0, .string ⟨#[]⟩, .string ⟨#[]⟩, .slice none 0 0, .string ⟨#[]⟩, .int .u64 0, .int .u8 0, .string ⟨#[]⟩] 52)) from hZS ▸ RdX.start hR hi #[.int .u8 0, .int .u64 0, .string ⟨#[]⟩, .int .u8 0, .string ⟨#[]⟩, .string ⟨#[]⟩, .int .u64 0, .int .u64 0, .string ⟨#[]⟩, .string ⟨#[]⟩, .string ⟨#[]⟩, .bool false, .string ⟨#[]⟩, .slice none 0 0, .bool false, .string ⟨#[]⟩, .int .u64 0, .int .u8 0, .int .u8 0, .int .u8 0, .int .u64 0, .int .u64 0, .string ⟨#[]⟩, .string ⟨#[]⟩, .slice none 0 0, .string ⟨#[]⟩, .int .u64 0, .int .u8 0, .string ⟨#[]⟩] 52)
  have H1 := Lib.hid h1
  have H2 := Lib.hid h2
  have H3 := Lib.hid h3
  have HRR := Lib.hid hR
  have HZS := Lib.hid hZS
  clear h1 h2 h3 hR hi hZS
  go_enter Tryz.func27, Tryz.ntmps27
  go_wp2_with fail
  generalize (w.alloc (.cells #[.int .u8 0, .int .u64 0, .string ⟨#[]⟩, .int .u8 0, .string ⟨#[]⟩, .string ⟨#[]⟩, .int .u64 0, .int .u64 0, .string ⟨#[]⟩, .string ⟨#[]⟩, .string ⟨#[]⟩, .bool false, .string ⟨#[]⟩, .slice none 0 0, .bool false, .string ⟨#[]⟩, .int .u64 0, .int .u8 0, .int .u8 0, .int .u8 0, .int .u64 0, .int .u64 0, .string ⟨#[]⟩, .string ⟨#[]⟩, .slice none 0 0, .string ⟨#[]⟩, .int .u64 0, .int .u8 0, .string ⟨#[]⟩] 52)).alloc (.cells #[.int .u8 0, .int .u64 0, .string ⟨#[]⟩, .int .u8 0, .string ⟨#[]⟩, .string ⟨#[]⟩, .int .u64 0, .int .u64 0, .string ⟨#[]⟩, .string ⟨#[]⟩, .string ⟨#[]⟩, .bool false, .string ⟨#[]⟩, .slice none 0 0, .bool false, .string ⟨#[]⟩, .int .u64 0, .int .u8 0, .int .u8 0, .int .u8 0, .int .u64 0, .int .u64 0, .string ⟨#[]⟩, .string ⟨#[]⟩, .slice none 0 0, .string ⟨#[]⟩, .int .u64 0, .int .u8 0, .string ⟨#[]⟩] 52) = v0 at *
  refine (H1.out _ HS0.out.ri).mono ?_
  rintro e u1 ⟨rfl, hi, hg⟩
  have HM1 := Lib.hid (HS0.out.moved hi hg)
  clear hi hg
  have HS1 := Lib.hid (show RdX w R b (w.heap.size + 1) ZS ([.int .u8 6, .int .u64 0, .string ⟨#[]⟩, .int .u8 0, .string ⟨#[]⟩, .string ⟨#[]⟩, .int .u64 0, .int .u64 0, .string ⟨#[]⟩, .string ⟨#[]⟩, .string ⟨#[]⟩, .bool false, .string ⟨#[]⟩, .slice none 0 0, .bool false, .string ⟨#[]⟩, .int .u64 0, .int .u8 0, .int .u8 0, .int .u8 0, .int .u64 0, .int .u64 0, .string ⟨#[]⟩, .string ⟨#[]⟩, .slice none 0 0, .string ⟨#[]⟩, .int .u64 0, .int .u8 0, .string ⟨#[]⟩]) none ([]) s1 (u1.setCell ⟨w.heap.size + 1, 0, none⟩ (.int .u8 6)) from (HM1.out.put 0 (.int .u8 6) (by show _ < 29; omega)))
  have c0 := HM1.out.m.cs 0 _ rfl
  have cl := HM1.out.m.lt
  have cf : ∀ j, u1.frozen? ⟨w.heap.size + 1, j, none⟩ = false := HM1.out.m.s
  go_wp2_with fail
  generalize (u1.setCell ⟨w.heap.size + 1, 0, none⟩ (.int .u8 6)) = v1 at *
  clear c0 cl cf HM1 HS0
  refine (H2.out _ HS1.out.ri).mono ?_
  rintro e u2 ⟨rfl, hi, hg⟩
  have HM2 := Lib.hid (HS1.out.moved hi hg)
  clear hi hg
  have HS2 := Lib.hid (show RdX w R b (w.heap.size + 1) ZS ([.int .u8 6, .int .u64 (t : Int), .string ⟨#[]⟩, .int .u8 0, .string ⟨#[]⟩, .string ⟨#[]⟩, .int .u64 0, .int .u64 0, .string ⟨#[]⟩, .string ⟨#[]⟩, .string ⟨#[]⟩, .bool false, .string ⟨#[]⟩, .slice none 0 0, .bool false, .string ⟨#[]⟩, .int .u64 0, .int .u8 0, .int .u8 0, .int .u8 0, .int .u64 0, .int .u64 0, .string ⟨#[]⟩, .string ⟨#[]⟩, .slice none 0 0, .string ⟨#[]⟩, .int .u64 0, .int .u8 0, .string ⟨#[]⟩]) none ([]) s2 (u2.setCell ⟨w.heap.size + 1, 1, none⟩ (.int .u64 (t : Int))) from (HM2.out.put 1 (.int .u64 (t : Int)) (by show _ < 29; omega)))
  have c0 := HM2.out.m.cs 0 _ rfl
  have c1 := HM2.out.m.cs 1 _ rfl
  have cl := HM2.out.m.lt
  have cf : ∀ j, u2.frozen? ⟨w.heap.size + 1, j, none⟩ = false := HM2.out.m.s
  go_wp2_with fail
  generalize (u2.setCell ⟨w.heap.size + 1, 1, none⟩ (.int .u64 (t : Int))) = v2 at *
  clear c0 c1 cl cf HM2 HS1
  refine (H3.out _ HS2.out.G HS2.out.ri).mono ?_
  rintro e u3 ⟨A, c, rfl, hc, hp, hi, hg, hA⟩
  have HM3 := Lib.hid (HS2.out.moved hi hg)
  have HR := Lib.hid (HS2.out.rowOk hg hp hA)
  have HC := Lib.hid hc
  clear hi hg hc hp hA
  have HS3 := Lib.hid (show RdX w R b (w.heap.size + 1) ZS (deL ({ De.of 6 t with mail := M } : De) none 0 A c) A (M.head) s3 (((((((u3.setCell ⟨w.heap.size + 1, 21, none⟩ (.int .u64 (M.id : Int))).setCell ⟨w.heap.size + 1, 22, none⟩ (.string (ofL M.shop))).setCell ⟨w.heap.size + 1, 23, none⟩ (.string (ofL M.key))).setCell ⟨w.heap.size + 1, 24, none⟩ (.slice A M.head.length c)).setCell ⟨w.heap.size + 1, 25, none⟩ (.string (ofL M.body))).setCell ⟨w.heap.size + 1, 26, none⟩ (.int .u64 (M.due : Int))).setCell ⟨w.heap.size + 1, 27, none⟩ (.int .u8 (M.hops : Int))) from ((((((((HM3.out.take HR.out.1 HR.out.2).put 21 (.int .u64 (M.id : Int)) (by show _ < 29; omega)).put 22 (.string (ofL M.shop)) (by show _ < 29; omega)).put 23 (.string (ofL M.key)) (by show _ < 29; omega)).put 24 (.slice A M.head.length c) (by show _ < 29; omega)).put 25 (.string (ofL M.body)) (by show _ < 29; omega)).put 26 (.int .u64 (M.due : Int)) (by show _ < 29; omega)).put 27 (.int .u8 (M.hops : Int)) (by show _ < 29; omega)))
  have c21 := HM3.out.m.cs 21 _ rfl
  have c22 := HM3.out.m.cs 22 _ rfl
  have c23 := HM3.out.m.cs 23 _ rfl
  have c24 := HM3.out.m.cs 24 _ rfl
  have c25 := HM3.out.m.cs 25 _ rfl
  have c26 := HM3.out.m.cs 26 _ rfl
  have c27 := HM3.out.m.cs 27 _ rfl
  have cl := HM3.out.m.lt
  have cf : ∀ j, u3.frozen? ⟨w.heap.size + 1, j, none⟩ = false := HM3.out.m.s
  go_upto_region 29 with fail
  generalize (((((((u3.setCell ⟨w.heap.size + 1, 21, none⟩ (.int .u64 (M.id : Int))).setCell ⟨w.heap.size + 1, 22, none⟩ (.string (ofL M.shop))).setCell ⟨w.heap.size + 1, 23, none⟩ (.string (ofL M.key))).setCell ⟨w.heap.size + 1, 24, none⟩ (.slice A M.head.length c)).setCell ⟨w.heap.size + 1, 25, none⟩ (.string (ofL M.body))).setCell ⟨w.heap.size + 1, 26, none⟩ (.int .u64 (M.due : Int))).setCell ⟨w.heap.size + 1, 27, none⟩ (.int .u8 (M.hops : Int))) = v3 at *
  clear c21 c22 c23 c24 c25 c26 c27 cl cf HM3 HS2
  rw [HZS.out] at HS3
  go_wp2_with (first
    | (refine wpList_load_mid (by rfl) 52 _ (by rfl) (w.heap.size + 1) 0 (by rfl) (deL ({ De.of 6 t with mail := M } : De) none 0 A c) _ HS3.out.m.cs.range Tryz.underlying52 rfl (by rw [de_size, deL_len]) ?_)
    | (refine wpList_store_mid (by rfl) 52 _ _ (by rfl) w.heap.size 0 (deL ({ De.of 6 t with mail := M } : De) none 0 A c).toArray (by rfl) (by rfl) HS3.out.q.there (by rw [de_size]; rfl) (de_all _ _ _ _ _) ?_))
  obtain ⟨hF, hI, hG, hP⟩ := HS3.out.ends (deL ({ De.of 6 t with mail := M } : De) none 0 A c) rfl
  generalize v3.setCells w.heap.size 0 (deL ({ De.of 6 t with mail := M } : De) none 0 A c) = WW at *
  exact bodyPost_ret (v := deV ({ De.of 6 t with mail := M } : De) none 0 A c) (by simp [results, Tryz.results27, asAddr]; exact de_res _ _ _ _ _ _ _ hF.cs) rfl ⟨none, 0, A, c, rfl, Nat.le_refl _, HC.out, Prs.nil _ _, hP.1, hI, hG, (fun a ha => by cases ha), hP.2⟩
set_option maxRecDepth 100000 in
set_option maxHeartbeats 16000000 in
theorem ddread_7 (b : Nat) (R : LSt → World → Prop) (hR : Rder b R) (s s1 s2 s3 : LSt) (t : Nat) (N : List UInt8) (w : World)
    (h1 : ∀ W, R s W → Calls Tryz.prog 57 #[.pointer (some ⟨b, 0, none⟩)] W (fun e w' => e = .returned (.int .u8 7) ∧ R s1 w' ∧ W.grownBy w' (some b)))
    (h2 : ∀ W, R s1 W → Calls Tryz.prog 26 #[.pointer (some ⟨b, 0, none⟩), .int .i64 8] W (fun e w' => e = .returned (.int .u64 (t : Int)) ∧ R s2 w' ∧ W.grownBy w' (some b)))
    (h3 : ∀ W, R s2 W → Calls Tryz.prog 61 #[.pointer (some ⟨b, 0, none⟩), .int .i64 16] W (fun e w' => e = .returned (.string (ofL N)) ∧ R s3 w' ∧ W.grownBy w' (some b)))
    (hi : R s w) : Calls Tryz.prog 27 #[.pointer (some ⟨b, 0, none⟩)] w (DeRd R b w ({ De.of 7 t with name := N } : De) s3) := by
  unfold DeRd
  obtain ⟨ZS, hZS⟩ : ∃ ZS : List Value, ZS = [.int .u8 0, .int .u64 0, .string ⟨#[]⟩, .int .u8 0, .string ⟨#[]⟩, .string ⟨#[]⟩, .int .u64 0, .int .u64 0, .string ⟨#[]⟩, .string ⟨#[]⟩, .string ⟨#[]⟩, .bool false, .string ⟨#[]⟩, .slice none 0 0, .bool false, .string ⟨#[]⟩, .int .u64 0, .int .u8 0, .int .u8 0, .int .u8 0, .int .u64 0, .int .u64 0, .string ⟨#[]⟩, .string ⟨#[]⟩, .slice none 0 0, .string ⟨#[]⟩, .int .u64 0, .int .u8 0, .string ⟨#[]⟩] := ⟨_, rfl⟩
  have HS0 := Lib.hid (show RdX w R b (w.heap.size + 1) ZS ([.int .u8 0, .int .u64 0, .string ⟨#[]⟩, .int .u8 0, .string ⟨#[]⟩, .string ⟨#[]⟩, .int .u64 0, .int .u64 0, .string ⟨#[]⟩, .string ⟨#[]⟩, .string ⟨#[]⟩, .bool false, .string ⟨#[]⟩, .slice none 0 0, .bool false, .string ⟨#[]⟩, .int .u64 0, .int .u8 0, .int .u8 0, .int .u8 0, .int .u64 0, .int .u64 0, .string ⟨#[]⟩, .string ⟨#[]⟩, .slice none 0 0, .string ⟨#[]⟩, .int .u64 0, .int .u8 0, .string ⟨#[]⟩]) none [] s ((w.alloc (.cells #[.int .u8 0, .int .u64 0, .string ⟨#[]⟩, .int .u8 0, .string ⟨#[]⟩, .string ⟨#[]⟩, .int .u64 0, .int .u64 0, .string ⟨#[]⟩, .string ⟨#[]⟩, .string ⟨#[]⟩, .bool false, .string ⟨#[]⟩, .slice none 0 0, .bool false, .string ⟨#[]⟩, .int .u64 0, .int .u8 0, .int .u8 0, .int .u8 0, .int .u64 0, .int .u64 0, .string ⟨#[]⟩, .string ⟨#[]⟩, .slice none 0 0, .string ⟨#[]⟩, .int .u64 0, .int .u8 0, .string ⟨#[]⟩] 52)).alloc (.cells #[.int .u8 0, .int .u64 0, .string ⟨#[]⟩, .int .u8 0, .string ⟨#[]⟩, .string ⟨#[]⟩, .int .u64 0, .int .u64 0, .string ⟨#[]⟩, .string ⟨#[]⟩, .string ⟨#[]⟩, .bool false, .string ⟨#[]⟩, .slice none 0 0, .bool false, .string ⟨#[]⟩, .int .u64 0, .int .u8 0, .int .u8 0, .int .u8 0, .int .u64 0, .int .u64 0, .string ⟨#[]⟩, .string ⟨#[]⟩, .slice none 0 0, .string ⟨#[]⟩, .int .u64 0, .int .u8 0, .string ⟨#[]⟩] 52)) from hZS ▸ RdX.start hR hi #[.int .u8 0, .int .u64 0, .string ⟨#[]⟩, .int .u8 0, .string ⟨#[]⟩, .string ⟨#[]⟩, .int .u64 0, .int .u64 0, .string ⟨#[]⟩, .string ⟨#[]⟩, .string ⟨#[]⟩, .bool false, .string ⟨#[]⟩, .slice none 0 0, .bool false, .string ⟨#[]⟩, .int .u64 0, .int .u8 0, .int .u8 0, .int .u8 0, .int .u64 0, .int .u64 0, .string ⟨#[]⟩, .string ⟨#[]⟩, .slice none 0 0, .string ⟨#[]⟩, .int .u64 0, .int .u8 0, .string ⟨#[]⟩] 52)
  have H1 := Lib.hid h1
  have H2 := Lib.hid h2
  have H3 := Lib.hid h3
  have HRR := Lib.hid hR
  have HZS := Lib.hid hZS
  clear h1 h2 h3 hR hi hZS
  go_enter Tryz.func27, Tryz.ntmps27
  go_wp2_with fail
  generalize (w.alloc (.cells #[.int .u8 0, .int .u64 0, .string ⟨#[]⟩, .int .u8 0, .string ⟨#[]⟩, .string ⟨#[]⟩, .int .u64 0, .int .u64 0, .string ⟨#[]⟩, .string ⟨#[]⟩, .string ⟨#[]⟩, .bool false, .string ⟨#[]⟩, .slice none 0 0, .bool false, .string ⟨#[]⟩, .int .u64 0, .int .u8 0, .int .u8 0, .int .u8 0, .int .u64 0, .int .u64 0, .string ⟨#[]⟩, .string ⟨#[]⟩, .slice none 0 0, .string ⟨#[]⟩, .int .u64 0, .int .u8 0, .string ⟨#[]⟩] 52)).alloc (.cells #[.int .u8 0, .int .u64 0, .string ⟨#[]⟩, .int .u8 0, .string ⟨#[]⟩, .string ⟨#[]⟩, .int .u64 0, .int .u64 0, .string ⟨#[]⟩, .string ⟨#[]⟩, .string ⟨#[]⟩, .bool false, .string ⟨#[]⟩, .slice none 0 0, .bool false, .string ⟨#[]⟩, .int .u64 0, .int .u8 0, .int .u8 0, .int .u8 0, .int .u64 0, .int .u64 0, .string ⟨#[]⟩, .string ⟨#[]⟩, .slice none 0 0, .string ⟨#[]⟩, .int .u64 0, .int .u8 0, .string ⟨#[]⟩] 52) = v0 at *
  refine (H1.out _ HS0.out.ri).mono ?_
  rintro e u1 ⟨rfl, hi, hg⟩
  have HM1 := Lib.hid (HS0.out.moved hi hg)
  clear hi hg
  have HS1 := Lib.hid (show RdX w R b (w.heap.size + 1) ZS ([.int .u8 7, .int .u64 0, .string ⟨#[]⟩, .int .u8 0, .string ⟨#[]⟩, .string ⟨#[]⟩, .int .u64 0, .int .u64 0, .string ⟨#[]⟩, .string ⟨#[]⟩, .string ⟨#[]⟩, .bool false, .string ⟨#[]⟩, .slice none 0 0, .bool false, .string ⟨#[]⟩, .int .u64 0, .int .u8 0, .int .u8 0, .int .u8 0, .int .u64 0, .int .u64 0, .string ⟨#[]⟩, .string ⟨#[]⟩, .slice none 0 0, .string ⟨#[]⟩, .int .u64 0, .int .u8 0, .string ⟨#[]⟩]) none ([]) s1 (u1.setCell ⟨w.heap.size + 1, 0, none⟩ (.int .u8 7)) from (HM1.out.put 0 (.int .u8 7) (by show _ < 29; omega)))
  have c0 := HM1.out.m.cs 0 _ rfl
  have cl := HM1.out.m.lt
  have cf : ∀ j, u1.frozen? ⟨w.heap.size + 1, j, none⟩ = false := HM1.out.m.s
  go_wp2_with fail
  generalize (u1.setCell ⟨w.heap.size + 1, 0, none⟩ (.int .u8 7)) = v1 at *
  clear c0 cl cf HM1 HS0
  refine (H2.out _ HS1.out.ri).mono ?_
  rintro e u2 ⟨rfl, hi, hg⟩
  have HM2 := Lib.hid (HS1.out.moved hi hg)
  clear hi hg
  have HS2 := Lib.hid (show RdX w R b (w.heap.size + 1) ZS ([.int .u8 7, .int .u64 (t : Int), .string ⟨#[]⟩, .int .u8 0, .string ⟨#[]⟩, .string ⟨#[]⟩, .int .u64 0, .int .u64 0, .string ⟨#[]⟩, .string ⟨#[]⟩, .string ⟨#[]⟩, .bool false, .string ⟨#[]⟩, .slice none 0 0, .bool false, .string ⟨#[]⟩, .int .u64 0, .int .u8 0, .int .u8 0, .int .u8 0, .int .u64 0, .int .u64 0, .string ⟨#[]⟩, .string ⟨#[]⟩, .slice none 0 0, .string ⟨#[]⟩, .int .u64 0, .int .u8 0, .string ⟨#[]⟩]) none ([]) s2 (u2.setCell ⟨w.heap.size + 1, 1, none⟩ (.int .u64 (t : Int))) from (HM2.out.put 1 (.int .u64 (t : Int)) (by show _ < 29; omega)))
  have c0 := HM2.out.m.cs 0 _ rfl
  have c1 := HM2.out.m.cs 1 _ rfl
  have cl := HM2.out.m.lt
  have cf : ∀ j, u2.frozen? ⟨w.heap.size + 1, j, none⟩ = false := HM2.out.m.s
  go_wp2_with fail
  generalize (u2.setCell ⟨w.heap.size + 1, 1, none⟩ (.int .u64 (t : Int))) = v2 at *
  clear c0 c1 cl cf HM2 HS1
  refine (H3.out _ HS2.out.ri).mono ?_
  rintro e u3 ⟨rfl, hi, hg⟩
  have HM3 := Lib.hid (HS2.out.moved hi hg)
  clear hi hg
  have HS3 := Lib.hid (show RdX w R b (w.heap.size + 1) ZS (deL ({ De.of 7 t with name := N } : De) none 0 none 0) none ([]) s3 (u3.setCell ⟨w.heap.size + 1, 15, none⟩ (.string (ofL N))) from (HM3.out.put 15 (.string (ofL N)) (by show _ < 29; omega)))
  have c15 := HM3.out.m.cs 15 _ rfl
  have cl := HM3.out.m.lt
  have cf : ∀ j, u3.frozen? ⟨w.heap.size + 1, j, none⟩ = false := HM3.out.m.s
  go_upto_region 29 with fail
  generalize (u3.setCell ⟨w.heap.size + 1, 15, none⟩ (.string (ofL N))) = v3 at *
  clear c15 cl cf HM3 HS2
  rw [HZS.out] at HS3
  go_wp2_with (first
    | (refine wpList_load_mid (by rfl) 52 _ (by rfl) (w.heap.size + 1) 0 (by rfl) (deL ({ De.of 7 t with name := N } : De) none 0 none 0) _ HS3.out.m.cs.range Tryz.underlying52 rfl (by rw [de_size, deL_len]) ?_)
    | (refine wpList_store_mid (by rfl) 52 _ _ (by rfl) w.heap.size 0 (deL ({ De.of 7 t with name := N } : De) none 0 none 0).toArray (by rfl) (by rfl) HS3.out.q.there (by rw [de_size]; rfl) (de_all _ _ _ _ _) ?_))
  obtain ⟨hF, hI, hG, hP⟩ := HS3.out.ends (deL ({ De.of 7 t with name := N } : De) none 0 none 0) rfl
  generalize v3.setCells w.heap.size 0 (deL ({ De.of 7 t with name := N } : De) none 0 none 0) = WW at *
  exact bodyPost_ret (v := deV ({ De.of 7 t with name := N } : De) none 0 none 0) (by simp [results, Tryz.results27, asAddr]; exact de_res _ _ _ _ _ _ _ hF.cs) rfl ⟨none, 0, none, 0, rfl, Nat.le_refl _, Nat.le_refl _, Prs.nil _ _, Prs.nil _ _, hI, hG, (fun a ha => by cases ha), (fun a ha => by cases ha)⟩
set_option maxRecDepth 100000 in
set_option maxHeartbeats 16000000 in
theorem ddread_8 (b : Nat) (R : LSt → World → Prop) (hR : Rder b R) (s s1 s2 s3 s4 s5 : LSt) (t : Nat) (N : List UInt8) (I O : Nat) (w : World)
    (h1 : ∀ W, R s W → Calls Tryz.prog 57 #[.pointer (some ⟨b, 0, none⟩)] W (fun e w' => e = .returned (.int .u8 8) ∧ R s1 w' ∧ W.grownBy w' (some b)))
    (h2 : ∀ W, R s1 W → Calls Tryz.prog 26 #[.pointer (some ⟨b, 0, none⟩), .int .i64 8] W (fun e w' => e = .returned (.int .u64 (t : Int)) ∧ R s2 w' ∧ W.grownBy w' (some b)))
    (h3 : ∀ W, R s2 W → Calls Tryz.prog 61 #[.pointer (some ⟨b, 0, none⟩), .int .i64 16] W (fun e w' => e = .returned (.string (ofL N)) ∧ R s3 w' ∧ W.grownBy w' (some b)))
    (h4 : ∀ W, R s3 W → Calls Tryz.prog 26 #[.pointer (some ⟨b, 0, none⟩), .int .i64 8] W (fun e w' => e = .returned (.int .u64 (I : Int)) ∧ R s4 w' ∧ W.grownBy w' (some b)))
    (h5 : ∀ W, R s4 W → Calls Tryz.prog 57 #[.pointer (some ⟨b, 0, none⟩)] W (fun e w' => e = .returned (.int .u8 (O : Int)) ∧ R s5 w' ∧ W.grownBy w' (some b)))
    (hi : R s w) : Calls Tryz.prog 27 #[.pointer (some ⟨b, 0, none⟩)] w (DeRd R b w ({ De.of 8 t with name := N, id := I, how := O } : De) s5) := by
  unfold DeRd
  obtain ⟨ZS, hZS⟩ : ∃ ZS : List Value, ZS = [.int .u8 0, .int .u64 0, .string ⟨#[]⟩, .int .u8 0, .string ⟨#[]⟩, .string ⟨#[]⟩, .int .u64 0, .int .u64 0, .string ⟨#[]⟩, .string ⟨#[]⟩, .string ⟨#[]⟩, .bool false, .string ⟨#[]⟩, .slice none 0 0, .bool false, .string ⟨#[]⟩, .int .u64 0, .int .u8 0, .int .u8 0, .int .u8 0, .int .u64 0, .int .u64 0, .string ⟨#[]⟩, .string ⟨#[]⟩, .slice none 0 0, .string ⟨#[]⟩, .int .u64 0, .int .u8 0, .string ⟨#[]⟩] := ⟨_, rfl⟩
  have HS0 := Lib.hid (show RdX w R b (w.heap.size + 1) ZS ([.int .u8 0, .int .u64 0, .string ⟨#[]⟩, .int .u8 0, .string ⟨#[]⟩, .string ⟨#[]⟩, .int .u64 0, .int .u64 0, .string ⟨#[]⟩, .string ⟨#[]⟩, .string ⟨#[]⟩, .bool false, .string ⟨#[]⟩, .slice none 0 0, .bool false, .string ⟨#[]⟩, .int .u64 0, .int .u8 0, .int .u8 0, .int .u8 0, .int .u64 0, .int .u64 0, .string ⟨#[]⟩, .string ⟨#[]⟩, .slice none 0 0, .string ⟨#[]⟩, .int .u64 0, .int .u8 0, .string ⟨#[]⟩]) none [] s ((w.alloc (.cells #[.int .u8 0, .int .u64 0, .string ⟨#[]⟩, .int .u8 0, .string ⟨#[]⟩, .string ⟨#[]⟩, .int .u64 0, .int .u64 0, .string ⟨#[]⟩, .string ⟨#[]⟩, .string ⟨#[]⟩, .bool false, .string ⟨#[]⟩, .slice none 0 0, .bool false, .string ⟨#[]⟩, .int .u64 0, .int .u8 0, .int .u8 0, .int .u8 0, .int .u64 0, .int .u64 0, .string ⟨#[]⟩, .string ⟨#[]⟩, .slice none 0 0, .string ⟨#[]⟩, .int .u64 0, .int .u8 0, .string ⟨#[]⟩] 52)).alloc (.cells #[.int .u8 0, .int .u64 0, .string ⟨#[]⟩, .int .u8 0, .string ⟨#[]⟩, .string ⟨#[]⟩, .int .u64 0, .int .u64 0, .string ⟨#[]⟩, .string ⟨#[]⟩, .string ⟨#[]⟩, .bool false, .string ⟨#[]⟩, .slice none 0 0, .bool false, .string ⟨#[]⟩, .int .u64 0, .int .u8 0, .int .u8 0, .int .u8 0, .int .u64 0, .int .u64 0, .string ⟨#[]⟩, .string ⟨#[]⟩, .slice none 0 0, .string ⟨#[]⟩, .int .u64 0, .int .u8 0, .string ⟨#[]⟩] 52)) from hZS ▸ RdX.start hR hi #[.int .u8 0, .int .u64 0, .string ⟨#[]⟩, .int .u8 0, .string ⟨#[]⟩, .string ⟨#[]⟩, .int .u64 0, .int .u64 0, .string ⟨#[]⟩, .string ⟨#[]⟩, .string ⟨#[]⟩, .bool false, .string ⟨#[]⟩, .slice none 0 0, .bool false, .string ⟨#[]⟩, .int .u64 0, .int .u8 0, .int .u8 0, .int .u8 0, .int .u64 0, .int .u64 0, .string ⟨#[]⟩, .string ⟨#[]⟩, .slice none 0 0, .string ⟨#[]⟩, .int .u64 0, .int .u8 0, .string ⟨#[]⟩] 52)
  have H1 := Lib.hid h1
  have H2 := Lib.hid h2
  have H3 := Lib.hid h3
  have H4 := Lib.hid h4
  have H5 := Lib.hid h5
  have HRR := Lib.hid hR
  have HZS := Lib.hid hZS
  clear h1 h2 h3 h4 h5 hR hi hZS
  go_enter Tryz.func27, Tryz.ntmps27
  go_wp2_with fail
  generalize (w.alloc (.cells #[.int .u8 0, .int .u64 0, .string ⟨#[]⟩, .int .u8 0, .string ⟨#[]⟩, .string ⟨#[]⟩, .int .u64 0, .int .u64 0, .string ⟨#[]⟩, .string ⟨#[]⟩, .string ⟨#[]⟩, .bool false, .string ⟨#[]⟩, .slice none 0 0, .bool false, .string ⟨#[]⟩, .int .u64 0, .int .u8 0, .int .u8 0, .int .u8 0, .int .u64 0, .int .u64 0, .string ⟨#[]⟩, .string ⟨#[]⟩, .slice none 0 0, .string ⟨#[]⟩, .int .u64 0, .int .u8 0, .string ⟨#[]⟩] 52)).alloc (.cells #[.int .u8 0, .int .u64 0, .string ⟨#[]⟩, .int .u8 0, .string ⟨#[]⟩, .string ⟨#[]⟩, .int .u64 0, .int .u64 0, .string ⟨#[]⟩, .string ⟨#[]⟩, .string ⟨#[]⟩, .bool false, .string ⟨#[]⟩, .slice none 0 0, .bool false, .string ⟨#[]⟩, .int .u64 0, .int .u8 0, .int .u8 0, .int .u8 0, .int .u64 0, .int .u64 0, .string ⟨#[]⟩, .string ⟨#[]⟩, .slice none 0 0, .string ⟨#[]⟩, .int .u64 0, .int .u8 0, .string ⟨#[]⟩] 52) = v0 at *
  refine (H1.out _ HS0.out.ri).mono ?_
  rintro e u1 ⟨rfl, hi, hg⟩
  have HM1 := Lib.hid (HS0.out.moved hi hg)
  clear hi hg
  have HS1 := Lib.hid (show RdX w R b (w.heap.size + 1) ZS ([.int .u8 8, .int .u64 0, .string ⟨#[]⟩, .int .u8 0, .string ⟨#[]⟩, .string ⟨#[]⟩, .int .u64 0, .int .u64 0, .string ⟨#[]⟩, .string ⟨#[]⟩, .string ⟨#[]⟩, .bool false, .string ⟨#[]⟩, .slice none 0 0, .bool false, .string ⟨#[]⟩, .int .u64 0, .int .u8 0, .int .u8 0, .int .u8 0, .int .u64 0, .int .u64 0, .string ⟨#[]⟩, .string ⟨#[]⟩, .slice none 0 0, .string ⟨#[]⟩, .int .u64 0, .int .u8 0, .string ⟨#[]⟩]) none ([]) s1 (u1.setCell ⟨w.heap.size + 1, 0, none⟩ (.int .u8 8)) from (HM1.out.put 0 (.int .u8 8) (by show _ < 29; omega)))
  have c0 := HM1.out.m.cs 0 _ rfl
  have cl := HM1.out.m.lt
  have cf : ∀ j, u1.frozen? ⟨w.heap.size + 1, j, none⟩ = false := HM1.out.m.s
  go_wp2_with fail
  generalize (u1.setCell ⟨w.heap.size + 1, 0, none⟩ (.int .u8 8)) = v1 at *
  clear c0 cl cf HM1 HS0
  refine (H2.out _ HS1.out.ri).mono ?_
  rintro e u2 ⟨rfl, hi, hg⟩
  have HM2 := Lib.hid (HS1.out.moved hi hg)
  clear hi hg
  have HS2 := Lib.hid (show RdX w R b (w.heap.size + 1) ZS ([.int .u8 8, .int .u64 (t : Int), .string ⟨#[]⟩, .int .u8 0, .string ⟨#[]⟩, .string ⟨#[]⟩, .int .u64 0, .int .u64 0, .string ⟨#[]⟩, .string ⟨#[]⟩, .string ⟨#[]⟩, .bool false, .string ⟨#[]⟩, .slice none 0 0, .bool false, .string ⟨#[]⟩, .int .u64 0, .int .u8 0, .int .u8 0, .int .u8 0, .int .u64 0, .int .u64 0, .string ⟨#[]⟩, .string ⟨#[]⟩, .slice none 0 0, .string ⟨#[]⟩, .int .u64 0, .int .u8 0, .string ⟨#[]⟩]) none ([]) s2 (u2.setCell ⟨w.heap.size + 1, 1, none⟩ (.int .u64 (t : Int))) from (HM2.out.put 1 (.int .u64 (t : Int)) (by show _ < 29; omega)))
  have c0 := HM2.out.m.cs 0 _ rfl
  have c1 := HM2.out.m.cs 1 _ rfl
  have cl := HM2.out.m.lt
  have cf : ∀ j, u2.frozen? ⟨w.heap.size + 1, j, none⟩ = false := HM2.out.m.s
  go_wp2_with fail
  generalize (u2.setCell ⟨w.heap.size + 1, 1, none⟩ (.int .u64 (t : Int))) = v2 at *
  clear c0 c1 cl cf HM2 HS1
  refine (H3.out _ HS2.out.ri).mono ?_
  rintro e u3 ⟨rfl, hi, hg⟩
  have HM3 := Lib.hid (HS2.out.moved hi hg)
  clear hi hg
  have HS3 := Lib.hid (show RdX w R b (w.heap.size + 1) ZS ([.int .u8 8, .int .u64 (t : Int), .string ⟨#[]⟩, .int .u8 0, .string ⟨#[]⟩, .string ⟨#[]⟩, .int .u64 0, .int .u64 0, .string ⟨#[]⟩, .string ⟨#[]⟩, .string ⟨#[]⟩, .bool false, .string ⟨#[]⟩, .slice none 0 0, .bool false, .string (ofL N), .int .u64 0, .int .u8 0, .int .u8 0, .int .u8 0, .int .u64 0, .int .u64 0, .string ⟨#[]⟩, .string ⟨#[]⟩, .slice none 0 0, .string ⟨#[]⟩, .int .u64 0, .int .u8 0, .string ⟨#[]⟩]) none ([]) s3 (u3.setCell ⟨w.heap.size + 1, 15, none⟩ (.string (ofL N))) from (HM3.out.put 15 (.string (ofL N)) (by show _ < 29; omega)))
  have c15 := HM3.out.m.cs 15 _ rfl
  have cl := HM3.out.m.lt
  have cf : ∀ j, u3.frozen? ⟨w.heap.size + 1, j, none⟩ = false := HM3.out.m.s
  go_wp2_with fail
  generalize (u3.setCell ⟨w.heap.size + 1, 15, none⟩ (.string (ofL N))) = v3 at *
  clear c15 cl cf HM3 HS2
  refine (H4.out _ HS3.out.ri).mono ?_
  rintro e u4 ⟨rfl, hi, hg⟩
  have HM4 := Lib.hid (HS3.out.moved hi hg)
  clear hi hg
  have HS4 := Lib.hid (show RdX w R b (w.heap.size + 1) ZS ([.int .u8 8, .int .u64 (t : Int), .string ⟨#[]⟩, .int .u8 0, .string ⟨#[]⟩, .string ⟨#[]⟩, .int .u64 0, .int .u64 0, .string ⟨#[]⟩, .string ⟨#[]⟩, .string ⟨#[]⟩, .bool false, .string ⟨#[]⟩, .slice none 0 0, .bool false, .string (ofL N), .int .u64 (I : Int), .int .u8 0, .int .u8 0, .int .u8 0, .int .u64 0, .int .u64 0, .string ⟨#[]⟩, .string ⟨#[]⟩, .slice none 0 0, .string ⟨#[]⟩, .int .u64 0, .int .u8 0, .string ⟨#[]⟩]) none ([]) s4 (u4.setCell ⟨w.heap.size + 1, 16, none⟩ (.int .u64 (I : Int))) from (HM4.out.put 16 (.int .u64 (I : Int)) (by show _ < 29; omega)))
  have c16 := HM4.out.m.cs 16 _ rfl
  have cl := HM4.out.m.lt
  have cf : ∀ j, u4.frozen? ⟨w.heap.size + 1, j, none⟩ = false := HM4.out.m.s
  go_wp2_with fail
  generalize (u4.setCell ⟨w.heap.size + 1, 16, none⟩ (.int .u64 (I : Int))) = v4 at *
  clear c16 cl cf HM4 HS3
  refine (H5.out _ HS4.out.ri).mono ?_
  rintro e u5 ⟨rfl, hi, hg⟩
  have HM5 := Lib.hid (HS4.out.moved hi hg)
  clear hi hg
  have HS5 := Lib.hid (show RdX w R b (w.heap.size + 1) ZS (deL ({ De.of 8 t with name := N, id := I, how := O } : De) none 0 none 0) none ([]) s5 (u5.setCell ⟨w.heap.size + 1, 17, none⟩ (.int .u8 (O : Int))) from (HM5.out.put 17 (.int .u8 (O : Int)) (by show _ < 29; omega)))
  have c17 := HM5.out.m.cs 17 _ rfl
  have cl := HM5.out.m.lt
  have cf : ∀ j, u5.frozen? ⟨w.heap.size + 1, j, none⟩ = false := HM5.out.m.s
  go_upto_region 29 with fail
  generalize (u5.setCell ⟨w.heap.size + 1, 17, none⟩ (.int .u8 (O : Int))) = v5 at *
  clear c17 cl cf HM5 HS4
  rw [HZS.out] at HS5
  go_wp2_with (first
    | (refine wpList_load_mid (by rfl) 52 _ (by rfl) (w.heap.size + 1) 0 (by rfl) (deL ({ De.of 8 t with name := N, id := I, how := O } : De) none 0 none 0) _ HS5.out.m.cs.range Tryz.underlying52 rfl (by rw [de_size, deL_len]) ?_)
    | (refine wpList_store_mid (by rfl) 52 _ _ (by rfl) w.heap.size 0 (deL ({ De.of 8 t with name := N, id := I, how := O } : De) none 0 none 0).toArray (by rfl) (by rfl) HS5.out.q.there (by rw [de_size]; rfl) (de_all _ _ _ _ _) ?_))
  obtain ⟨hF, hI, hG, hP⟩ := HS5.out.ends (deL ({ De.of 8 t with name := N, id := I, how := O } : De) none 0 none 0) rfl
  generalize v5.setCells w.heap.size 0 (deL ({ De.of 8 t with name := N, id := I, how := O } : De) none 0 none 0) = WW at *
  exact bodyPost_ret (v := deV ({ De.of 8 t with name := N, id := I, how := O } : De) none 0 none 0) (by simp [results, Tryz.results27, asAddr]; exact de_res _ _ _ _ _ _ _ hF.cs) rfl ⟨none, 0, none, 0, rfl, Nat.le_refl _, Nat.le_refl _, Prs.nil _ _, Prs.nil _ _, hI, hG, (fun a ha => by cases ha), (fun a ha => by cases ha)⟩
set_option maxRecDepth 100000 in
set_option maxHeartbeats 16000000 in
theorem ddread_10 (b : Nat) (R : LSt → World → Prop) (hR : Rder b R) (s s1 s2 s3 s4 s5 : LSt) (t : Nat) (F I : Nat) (M : Ml) (w : World)
    (h1 : ∀ W, R s W → Calls Tryz.prog 57 #[.pointer (some ⟨b, 0, none⟩)] W (fun e w' => e = .returned (.int .u8 10) ∧ R s1 w' ∧ W.grownBy w' (some b)))
    (h2 : ∀ W, R s1 W → Calls Tryz.prog 26 #[.pointer (some ⟨b, 0, none⟩), .int .i64 8] W (fun e w' => e = .returned (.int .u64 (t : Int)) ∧ R s2 w' ∧ W.grownBy w' (some b)))
    (h3 : ∀ W, R s2 W → Calls Tryz.prog 57 #[.pointer (some ⟨b, 0, none⟩)] W (fun e w' => e = .returned (.int .u8 (F : Int)) ∧ R s3 w' ∧ W.grownBy w' (some b)))
    (h4 : ∀ W, R s3 W → Calls Tryz.prog 26 #[.pointer (some ⟨b, 0, none⟩), .int .i64 8] W (fun e w' => e = .returned (.int .u64 (I : Int)) ∧ R s4 w' ∧ W.grownBy w' (some b)))
    (h5 : ∀ W, w.grownBy W (some b) → R s4 W → Calls Tryz.prog 62 #[.pointer (some ⟨b, 0, none⟩)] W (fun e w' => ∃ A c, e = .returned (.agg #[.int .u64 (M.id : Int), .string (ofL M.shop), .string (ofL M.key), .slice A M.head.length c, .string (ofL M.body), .int .u64 (M.due : Int), .int .u8 (M.hops : Int)]) ∧ M.head.length ≤ c ∧ Prs w' A M.head ∧ R s5 w' ∧ W.grownBy w' (some b) ∧ ∀ a, A = some a → W.heap.size ≤ a.block))
    (hi : R s w) : Calls Tryz.prog 27 #[.pointer (some ⟨b, 0, none⟩)] w (DeRd R b w ({ De.of 10 t with frm := F, num := I, mail := M } : De) s5) := by
  unfold DeRd
  obtain ⟨ZS, hZS⟩ : ∃ ZS : List Value, ZS = [.int .u8 0, .int .u64 0, .string ⟨#[]⟩, .int .u8 0, .string ⟨#[]⟩, .string ⟨#[]⟩, .int .u64 0, .int .u64 0, .string ⟨#[]⟩, .string ⟨#[]⟩, .string ⟨#[]⟩, .bool false, .string ⟨#[]⟩, .slice none 0 0, .bool false, .string ⟨#[]⟩, .int .u64 0, .int .u8 0, .int .u8 0, .int .u8 0, .int .u64 0, .int .u64 0, .string ⟨#[]⟩, .string ⟨#[]⟩, .slice none 0 0, .string ⟨#[]⟩, .int .u64 0, .int .u8 0, .string ⟨#[]⟩] := ⟨_, rfl⟩
  have HS0 := Lib.hid (show RdX w R b (w.heap.size + 1) ZS ([.int .u8 0, .int .u64 0, .string ⟨#[]⟩, .int .u8 0, .string ⟨#[]⟩, .string ⟨#[]⟩, .int .u64 0, .int .u64 0, .string ⟨#[]⟩, .string ⟨#[]⟩, .string ⟨#[]⟩, .bool false, .string ⟨#[]⟩, .slice none 0 0, .bool false, .string ⟨#[]⟩, .int .u64 0, .int .u8 0, .int .u8 0, .int .u8 0, .int .u64 0, .int .u64 0, .string ⟨#[]⟩, .string ⟨#[]⟩, .slice none 0 0, .string ⟨#[]⟩, .int .u64 0, .int .u8 0, .string ⟨#[]⟩]) none [] s ((w.alloc (.cells #[.int .u8 0, .int .u64 0, .string ⟨#[]⟩, .int .u8 0, .string ⟨#[]⟩, .string ⟨#[]⟩, .int .u64 0, .int .u64 0, .string ⟨#[]⟩, .string ⟨#[]⟩, .string ⟨#[]⟩, .bool false, .string ⟨#[]⟩, .slice none 0 0, .bool false, .string ⟨#[]⟩, .int .u64 0, .int .u8 0, .int .u8 0, .int .u8 0, .int .u64 0, .int .u64 0, .string ⟨#[]⟩, .string ⟨#[]⟩, .slice none 0 0, .string ⟨#[]⟩, .int .u64 0, .int .u8 0, .string ⟨#[]⟩] 52)).alloc (.cells #[.int .u8 0, .int .u64 0, .string ⟨#[]⟩, .int .u8 0, .string ⟨#[]⟩, .string ⟨#[]⟩, .int .u64 0, .int .u64 0, .string ⟨#[]⟩, .string ⟨#[]⟩, .string ⟨#[]⟩, .bool false, .string ⟨#[]⟩, .slice none 0 0, .bool false, .string ⟨#[]⟩, .int .u64 0, .int .u8 0, .int .u8 0, .int .u8 0, .int .u64 0, .int .u64 0, .string ⟨#[]⟩, .string ⟨#[]⟩, .slice none 0 0, .string ⟨#[]⟩, .int .u64 0, .int .u8 0, .string ⟨#[]⟩] 52)) from hZS ▸ RdX.start hR hi #[.int .u8 0, .int .u64 0, .string ⟨#[]⟩, .int .u8 0, .string ⟨#[]⟩, .string ⟨#[]⟩, .int .u64 0, .int .u64 0, .string ⟨#[]⟩, .string ⟨#[]⟩, .string ⟨#[]⟩, .bool false, .string ⟨#[]⟩, .slice none 0 0, .bool false, .string ⟨#[]⟩, .int .u64 0, .int .u8 0, .int .u8 0, .int .u8 0, .int .u64 0, .int .u64 0, .string ⟨#[]⟩, .string ⟨#[]⟩, .slice none 0 0, .string ⟨#[]⟩, .int .u64 0, .int .u8 0, .string ⟨#[]⟩] 52)
  have H1 := Lib.hid h1
  have H2 := Lib.hid h2
  have H3 := Lib.hid h3
  have H4 := Lib.hid h4
  have H5 := Lib.hid h5
  have HRR := Lib.hid hR
  have HZS := Lib.hid hZS
  clear h1 h2 h3 h4 h5 hR hi hZS
  go_enter Tryz.func27, Tryz.ntmps27
  go_wp2_with fail
  generalize (w.alloc (.cells #[.int .u8 0, .int .u64 0, .string ⟨#[]⟩, .int .u8 0, .string ⟨#[]⟩, .string ⟨#[]⟩, .int .u64 0, .int .u64 0, .string ⟨#[]⟩, .string ⟨#[]⟩, .string ⟨#[]⟩, .bool false, .string ⟨#[]⟩, .slice none 0 0, .bool false, .string ⟨#[]⟩, .int .u64 0, .int .u8 0, .int .u8 0, .int .u8 0, .int .u64 0, .int .u64 0, .string ⟨#[]⟩, .string ⟨#[]⟩, .slice none 0 0, .string ⟨#[]⟩, .int .u64 0, .int .u8 0, .string ⟨#[]⟩] 52)).alloc (.cells #[.int .u8 0, .int .u64 0, .string ⟨#[]⟩, .int .u8 0, .string ⟨#[]⟩, .string ⟨#[]⟩, .int .u64 0, .int .u64 0, .string ⟨#[]⟩, .string ⟨#[]⟩, .string ⟨#[]⟩, .bool false, .string ⟨#[]⟩, .slice none 0 0, .bool false, .string ⟨#[]⟩, .int .u64 0, .int .u8 0, .int .u8 0, .int .u8 0, .int .u64 0, .int .u64 0, .string ⟨#[]⟩, .string ⟨#[]⟩, .slice none 0 0, .string ⟨#[]⟩, .int .u64 0, .int .u8 0, .string ⟨#[]⟩] 52) = v0 at *
  refine (H1.out _ HS0.out.ri).mono ?_
  rintro e u1 ⟨rfl, hi, hg⟩
  have HM1 := Lib.hid (HS0.out.moved hi hg)
  clear hi hg
  have HS1 := Lib.hid (show RdX w R b (w.heap.size + 1) ZS ([.int .u8 10, .int .u64 0, .string ⟨#[]⟩, .int .u8 0, .string ⟨#[]⟩, .string ⟨#[]⟩, .int .u64 0, .int .u64 0, .string ⟨#[]⟩, .string ⟨#[]⟩, .string ⟨#[]⟩, .bool false, .string ⟨#[]⟩, .slice none 0 0, .bool false, .string ⟨#[]⟩, .int .u64 0, .int .u8 0, .int .u8 0, .int .u8 0, .int .u64 0, .int .u64 0, .string ⟨#[]⟩, .string ⟨#[]⟩, .slice none 0 0, .string ⟨#[]⟩, .int .u64 0, .int .u8 0, .string ⟨#[]⟩]) none ([]) s1 (u1.setCell ⟨w.heap.size + 1, 0, none⟩ (.int .u8 10)) from (HM1.out.put 0 (.int .u8 10) (by show _ < 29; omega)))
  have c0 := HM1.out.m.cs 0 _ rfl
  have cl := HM1.out.m.lt
  have cf : ∀ j, u1.frozen? ⟨w.heap.size + 1, j, none⟩ = false := HM1.out.m.s
  go_wp2_with fail
  generalize (u1.setCell ⟨w.heap.size + 1, 0, none⟩ (.int .u8 10)) = v1 at *
  clear c0 cl cf HM1 HS0
  refine (H2.out _ HS1.out.ri).mono ?_
  rintro e u2 ⟨rfl, hi, hg⟩
  have HM2 := Lib.hid (HS1.out.moved hi hg)
  clear hi hg
  have HS2 := Lib.hid (show RdX w R b (w.heap.size + 1) ZS ([.int .u8 10, .int .u64 (t : Int), .string ⟨#[]⟩, .int .u8 0, .string ⟨#[]⟩, .string ⟨#[]⟩, .int .u64 0, .int .u64 0, .string ⟨#[]⟩, .string ⟨#[]⟩, .string ⟨#[]⟩, .bool false, .string ⟨#[]⟩, .slice none 0 0, .bool false, .string ⟨#[]⟩, .int .u64 0, .int .u8 0, .int .u8 0, .int .u8 0, .int .u64 0, .int .u64 0, .string ⟨#[]⟩, .string ⟨#[]⟩, .slice none 0 0, .string ⟨#[]⟩, .int .u64 0, .int .u8 0, .string ⟨#[]⟩]) none ([]) s2 (u2.setCell ⟨w.heap.size + 1, 1, none⟩ (.int .u64 (t : Int))) from (HM2.out.put 1 (.int .u64 (t : Int)) (by show _ < 29; omega)))
  have c0 := HM2.out.m.cs 0 _ rfl
  have c1 := HM2.out.m.cs 1 _ rfl
  have cl := HM2.out.m.lt
  have cf : ∀ j, u2.frozen? ⟨w.heap.size + 1, j, none⟩ = false := HM2.out.m.s
  go_wp2_with fail
  generalize (u2.setCell ⟨w.heap.size + 1, 1, none⟩ (.int .u64 (t : Int))) = v2 at *
  clear c0 c1 cl cf HM2 HS1
  refine (H3.out _ HS2.out.ri).mono ?_
  rintro e u3 ⟨rfl, hi, hg⟩
  have HM3 := Lib.hid (HS2.out.moved hi hg)
  clear hi hg
  have HS3 := Lib.hid (show RdX w R b (w.heap.size + 1) ZS ([.int .u8 10, .int .u64 (t : Int), .string ⟨#[]⟩, .int .u8 0, .string ⟨#[]⟩, .string ⟨#[]⟩, .int .u64 0, .int .u64 0, .string ⟨#[]⟩, .string ⟨#[]⟩, .string ⟨#[]⟩, .bool false, .string ⟨#[]⟩, .slice none 0 0, .bool false, .string ⟨#[]⟩, .int .u64 0, .int .u8 0, .int .u8 (F : Int), .int .u8 0, .int .u64 0, .int .u64 0, .string ⟨#[]⟩, .string ⟨#[]⟩, .slice none 0 0, .string ⟨#[]⟩, .int .u64 0, .int .u8 0, .string ⟨#[]⟩]) none ([]) s3 (u3.setCell ⟨w.heap.size + 1, 18, none⟩ (.int .u8 (F : Int))) from (HM3.out.put 18 (.int .u8 (F : Int)) (by show _ < 29; omega)))
  have c18 := HM3.out.m.cs 18 _ rfl
  have cl := HM3.out.m.lt
  have cf : ∀ j, u3.frozen? ⟨w.heap.size + 1, j, none⟩ = false := HM3.out.m.s
  go_wp2_with fail
  generalize (u3.setCell ⟨w.heap.size + 1, 18, none⟩ (.int .u8 (F : Int))) = v3 at *
  clear c18 cl cf HM3 HS2
  refine (H4.out _ HS3.out.ri).mono ?_
  rintro e u4 ⟨rfl, hi, hg⟩
  have HM4 := Lib.hid (HS3.out.moved hi hg)
  clear hi hg
  have HS4 := Lib.hid (show RdX w R b (w.heap.size + 1) ZS ([.int .u8 10, .int .u64 (t : Int), .string ⟨#[]⟩, .int .u8 0, .string ⟨#[]⟩, .string ⟨#[]⟩, .int .u64 0, .int .u64 0, .string ⟨#[]⟩, .string ⟨#[]⟩, .string ⟨#[]⟩, .bool false, .string ⟨#[]⟩, .slice none 0 0, .bool false, .string ⟨#[]⟩, .int .u64 0, .int .u8 0, .int .u8 (F : Int), .int .u8 0, .int .u64 (I : Int), .int .u64 0, .string ⟨#[]⟩, .string ⟨#[]⟩, .slice none 0 0, .string ⟨#[]⟩, .int .u64 0, .int .u8 0, .string ⟨#[]⟩]) none ([]) s4 (u4.setCell ⟨w.heap.size + 1, 20, none⟩ (.int .u64 (I : Int))) from (HM4.out.put 20 (.int .u64 (I : Int)) (by show _ < 29; omega)))
  have c20 := HM4.out.m.cs 20 _ rfl
  have cl := HM4.out.m.lt
  have cf : ∀ j, u4.frozen? ⟨w.heap.size + 1, j, none⟩ = false := HM4.out.m.s
  go_wp2_with fail
  generalize (u4.setCell ⟨w.heap.size + 1, 20, none⟩ (.int .u64 (I : Int))) = v4 at *
  clear c20 cl cf HM4 HS3
  refine (H5.out _ HS4.out.G HS4.out.ri).mono ?_
  rintro e u5 ⟨A, c, rfl, hc, hp, hi, hg, hA⟩
  have HM5 := Lib.hid (HS4.out.moved hi hg)
  have HR := Lib.hid (HS4.out.rowOk hg hp hA)
  have HC := Lib.hid hc
  clear hi hg hc hp hA
  have HS5 := Lib.hid (show RdX w R b (w.heap.size + 1) ZS (deL ({ De.of 10 t with frm := F, num := I, mail := M } : De) none 0 A c) A (M.head) s5 (((((((u5.setCell ⟨w.heap.size + 1, 21, none⟩ (.int .u64 (M.id : Int))).setCell ⟨w.heap.size + 1, 22, none⟩ (.string (ofL M.shop))).setCell ⟨w.heap.size + 1, 23, none⟩ (.string (ofL M.key))).setCell ⟨w.heap.size + 1, 24, none⟩ (.slice A M.head.length c)).setCell ⟨w.heap.size + 1, 25, none⟩ (.string (ofL M.body))).setCell ⟨w.heap.size + 1, 26, none⟩ (.int .u64 (M.due : Int))).setCell ⟨w.heap.size + 1, 27, none⟩ (.int .u8 (M.hops : Int))) from ((((((((HM5.out.take HR.out.1 HR.out.2).put 21 (.int .u64 (M.id : Int)) (by show _ < 29; omega)).put 22 (.string (ofL M.shop)) (by show _ < 29; omega)).put 23 (.string (ofL M.key)) (by show _ < 29; omega)).put 24 (.slice A M.head.length c) (by show _ < 29; omega)).put 25 (.string (ofL M.body)) (by show _ < 29; omega)).put 26 (.int .u64 (M.due : Int)) (by show _ < 29; omega)).put 27 (.int .u8 (M.hops : Int)) (by show _ < 29; omega)))
  have c21 := HM5.out.m.cs 21 _ rfl
  have c22 := HM5.out.m.cs 22 _ rfl
  have c23 := HM5.out.m.cs 23 _ rfl
  have c24 := HM5.out.m.cs 24 _ rfl
  have c25 := HM5.out.m.cs 25 _ rfl
  have c26 := HM5.out.m.cs 26 _ rfl
  have c27 := HM5.out.m.cs 27 _ rfl
  have cl := HM5.out.m.lt
  have cf : ∀ j, u5.frozen? ⟨w.heap.size + 1, j, none⟩ = false := HM5.out.m.s
  go_upto_region 29 with fail
  generalize (((((((u5.setCell ⟨w.heap.size + 1, 21, none⟩ (.int .u64 (M.id : Int))).setCell ⟨w.heap.size + 1, 22, none⟩ (.string (ofL M.shop))).setCell ⟨w.heap.size + 1, 23, none⟩ (.string (ofL M.key))).setCell ⟨w.heap.size + 1, 24, none⟩ (.slice A M.head.length c)).setCell ⟨w.heap.size + 1, 25, none⟩ (.string (ofL M.body))).setCell ⟨w.heap.size + 1, 26, none⟩ (.int .u64 (M.due : Int))).setCell ⟨w.heap.size + 1, 27, none⟩ (.int .u8 (M.hops : Int))) = v5 at *
  clear c21 c22 c23 c24 c25 c26 c27 cl cf HM5 HS4
  rw [HZS.out] at HS5
  go_wp2_with (first
    | (refine wpList_load_mid (by rfl) 52 _ (by rfl) (w.heap.size + 1) 0 (by rfl) (deL ({ De.of 10 t with frm := F, num := I, mail := M } : De) none 0 A c) _ HS5.out.m.cs.range Tryz.underlying52 rfl (by rw [de_size, deL_len]) ?_)
    | (refine wpList_store_mid (by rfl) 52 _ _ (by rfl) w.heap.size 0 (deL ({ De.of 10 t with frm := F, num := I, mail := M } : De) none 0 A c).toArray (by rfl) (by rfl) HS5.out.q.there (by rw [de_size]; rfl) (de_all _ _ _ _ _) ?_))
  obtain ⟨hF, hI, hG, hP⟩ := HS5.out.ends (deL ({ De.of 10 t with frm := F, num := I, mail := M } : De) none 0 A c) rfl
  generalize v5.setCells w.heap.size 0 (deL ({ De.of 10 t with frm := F, num := I, mail := M } : De) none 0 A c) = WW at *
  exact bodyPost_ret (v := deV ({ De.of 10 t with frm := F, num := I, mail := M } : De) none 0 A c) (by simp [results, Tryz.results27, asAddr]; exact de_res _ _ _ _ _ _ _ hF.cs) rfl ⟨none, 0, A, c, rfl, Nat.le_refl _, HC.out, Prs.nil _ _, hP.1, hI, hG, (fun a ha => by cases ha), hP.2⟩
set_option maxRecDepth 100000 in
set_option maxHeartbeats 16000000 in
theorem ddread_12 (b : Nat) (R : LSt → World → Prop) (hR : Rder b R) (s s1 s2 s3 s4 : LSt) (t : Nat) (F : Nat) (N : List UInt8) (w : World)
    (h1 : ∀ W, R s W → Calls Tryz.prog 57 #[.pointer (some ⟨b, 0, none⟩)] W (fun e w' => e = .returned (.int .u8 12) ∧ R s1 w' ∧ W.grownBy w' (some b)))
    (h2 : ∀ W, R s1 W → Calls Tryz.prog 26 #[.pointer (some ⟨b, 0, none⟩), .int .i64 8] W (fun e w' => e = .returned (.int .u64 (t : Int)) ∧ R s2 w' ∧ W.grownBy w' (some b)))
    (h3 : ∀ W, R s2 W → Calls Tryz.prog 57 #[.pointer (some ⟨b, 0, none⟩)] W (fun e w' => e = .returned (.int .u8 (F : Int)) ∧ R s3 w' ∧ W.grownBy w' (some b)))
    (h4 : ∀ W, R s3 W → Calls Tryz.prog 61 #[.pointer (some ⟨b, 0, none⟩), .int .i64 64] W (fun e w' => e = .returned (.string (ofL N)) ∧ R s4 w' ∧ W.grownBy w' (some b)))
    (hi : R s w) : Calls Tryz.prog 27 #[.pointer (some ⟨b, 0, none⟩)] w (DeRd R b w ({ De.of 12 t with cd := F, text := N } : De) s4) := by
  unfold DeRd
  obtain ⟨ZS, hZS⟩ : ∃ ZS : List Value, ZS = [.int .u8 0, .int .u64 0, .string ⟨#[]⟩, .int .u8 0, .string ⟨#[]⟩, .string ⟨#[]⟩, .int .u64 0, .int .u64 0, .string ⟨#[]⟩, .string ⟨#[]⟩, .string ⟨#[]⟩, .bool false, .string ⟨#[]⟩, .slice none 0 0, .bool false, .string ⟨#[]⟩, .int .u64 0, .int .u8 0, .int .u8 0, .int .u8 0, .int .u64 0, .int .u64 0, .string ⟨#[]⟩, .string ⟨#[]⟩, .slice none 0 0, .string ⟨#[]⟩, .int .u64 0, .int .u8 0, .string ⟨#[]⟩] := ⟨_, rfl⟩
  have HS0 := Lib.hid (show RdX w R b (w.heap.size + 1) ZS ([.int .u8 0, .int .u64 0, .string ⟨#[]⟩, .int .u8 0, .string ⟨#[]⟩, .string ⟨#[]⟩, .int .u64 0, .int .u64 0, .string ⟨#[]⟩, .string ⟨#[]⟩, .string ⟨#[]⟩, .bool false, .string ⟨#[]⟩, .slice none 0 0, .bool false, .string ⟨#[]⟩, .int .u64 0, .int .u8 0, .int .u8 0, .int .u8 0, .int .u64 0, .int .u64 0, .string ⟨#[]⟩, .string ⟨#[]⟩, .slice none 0 0, .string ⟨#[]⟩, .int .u64 0, .int .u8 0, .string ⟨#[]⟩]) none [] s ((w.alloc (.cells #[.int .u8 0, .int .u64 0, .string ⟨#[]⟩, .int .u8 0, .string ⟨#[]⟩, .string ⟨#[]⟩, .int .u64 0, .int .u64 0, .string ⟨#[]⟩, .string ⟨#[]⟩, .string ⟨#[]⟩, .bool false, .string ⟨#[]⟩, .slice none 0 0, .bool false, .string ⟨#[]⟩, .int .u64 0, .int .u8 0, .int .u8 0, .int .u8 0, .int .u64 0, .int .u64 0, .string ⟨#[]⟩, .string ⟨#[]⟩, .slice none 0 0, .string ⟨#[]⟩, .int .u64 0, .int .u8 0, .string ⟨#[]⟩] 52)).alloc (.cells #[.int .u8 0, .int .u64 0, .string ⟨#[]⟩, .int .u8 0, .string ⟨#[]⟩, .string ⟨#[]⟩, .int .u64 0, .int .u64 0, .string ⟨#[]⟩, .string ⟨#[]⟩, .string ⟨#[]⟩, .bool false, .string ⟨#[]⟩, .slice none 0 0, .bool false, .string ⟨#[]⟩, .int .u64 0, .int .u8 0, .int .u8 0, .int .u8 0, .int .u64 0, .int .u64 0, .string ⟨#[]⟩, .string ⟨#[]⟩, .slice none 0 0, .string ⟨#[]⟩, .int .u64 0, .int .u8 0, .string ⟨#[]⟩] 52)) from hZS ▸ RdX.start hR hi #[.int .u8 0, .int .u64 0, .string ⟨#[]⟩, .int .u8 0, .string ⟨#[]⟩, .string ⟨#[]⟩, .int .u64 0, .int .u64 0, .string ⟨#[]⟩, .string ⟨#[]⟩, .string ⟨#[]⟩, .bool false, .string ⟨#[]⟩, .slice none 0 0, .bool false, .string ⟨#[]⟩, .int .u64 0, .int .u8 0, .int .u8 0, .int .u8 0, .int .u64 0, .int .u64 0, .string ⟨#[]⟩, .string ⟨#[]⟩, .slice none 0 0, .string ⟨#[]⟩, .int .u64 0, .int .u8 0, .string ⟨#[]⟩] 52)
  have H1 := Lib.hid h1
  have H2 := Lib.hid h2
  have H3 := Lib.hid h3
  have H4 := Lib.hid h4
  have HRR := Lib.hid hR
  have HZS := Lib.hid hZS
  clear h1 h2 h3 h4 hR hi hZS
  go_enter Tryz.func27, Tryz.ntmps27
  go_wp2_with fail
  generalize (w.alloc (.cells #[.int .u8 0, .int .u64 0, .string ⟨#[]⟩, .int .u8 0, .string ⟨#[]⟩, .string ⟨#[]⟩, .int .u64 0, .int .u64 0, .string ⟨#[]⟩, .string ⟨#[]⟩, .string ⟨#[]⟩, .bool false, .string ⟨#[]⟩, .slice none 0 0, .bool false, .string ⟨#[]⟩, .int .u64 0, .int .u8 0, .int .u8 0, .int .u8 0, .int .u64 0, .int .u64 0, .string ⟨#[]⟩, .string ⟨#[]⟩, .slice none 0 0, .string ⟨#[]⟩, .int .u64 0, .int .u8 0, .string ⟨#[]⟩] 52)).alloc (.cells #[.int .u8 0, .int .u64 0, .string ⟨#[]⟩, .int .u8 0, .string ⟨#[]⟩, .string ⟨#[]⟩, .int .u64 0, .int .u64 0, .string ⟨#[]⟩, .string ⟨#[]⟩, .string ⟨#[]⟩, .bool false, .string ⟨#[]⟩, .slice none 0 0, .bool false, .string ⟨#[]⟩, .int .u64 0, .int .u8 0, .int .u8 0, .int .u8 0, .int .u64 0, .int .u64 0, .string ⟨#[]⟩, .string ⟨#[]⟩, .slice none 0 0, .string ⟨#[]⟩, .int .u64 0, .int .u8 0, .string ⟨#[]⟩] 52) = v0 at *
  refine (H1.out _ HS0.out.ri).mono ?_
  rintro e u1 ⟨rfl, hi, hg⟩
  have HM1 := Lib.hid (HS0.out.moved hi hg)
  clear hi hg
  have HS1 := Lib.hid (show RdX w R b (w.heap.size + 1) ZS ([.int .u8 12, .int .u64 0, .string ⟨#[]⟩, .int .u8 0, .string ⟨#[]⟩, .string ⟨#[]⟩, .int .u64 0, .int .u64 0, .string ⟨#[]⟩, .string ⟨#[]⟩, .string ⟨#[]⟩, .bool false, .string ⟨#[]⟩, .slice none 0 0, .bool false, .string ⟨#[]⟩, .int .u64 0, .int .u8 0, .int .u8 0, .int .u8 0, .int .u64 0, .int .u64 0, .string ⟨#[]⟩, .string ⟨#[]⟩, .slice none 0 0, .string ⟨#[]⟩, .int .u64 0, .int .u8 0, .string ⟨#[]⟩]) none ([]) s1 (u1.setCell ⟨w.heap.size + 1, 0, none⟩ (.int .u8 12)) from (HM1.out.put 0 (.int .u8 12) (by show _ < 29; omega)))
  have c0 := HM1.out.m.cs 0 _ rfl
  have cl := HM1.out.m.lt
  have cf : ∀ j, u1.frozen? ⟨w.heap.size + 1, j, none⟩ = false := HM1.out.m.s
  go_wp2_with fail
  generalize (u1.setCell ⟨w.heap.size + 1, 0, none⟩ (.int .u8 12)) = v1 at *
  clear c0 cl cf HM1 HS0
  refine (H2.out _ HS1.out.ri).mono ?_
  rintro e u2 ⟨rfl, hi, hg⟩
  have HM2 := Lib.hid (HS1.out.moved hi hg)
  clear hi hg
  have HS2 := Lib.hid (show RdX w R b (w.heap.size + 1) ZS ([.int .u8 12, .int .u64 (t : Int), .string ⟨#[]⟩, .int .u8 0, .string ⟨#[]⟩, .string ⟨#[]⟩, .int .u64 0, .int .u64 0, .string ⟨#[]⟩, .string ⟨#[]⟩, .string ⟨#[]⟩, .bool false, .string ⟨#[]⟩, .slice none 0 0, .bool false, .string ⟨#[]⟩, .int .u64 0, .int .u8 0, .int .u8 0, .int .u8 0, .int .u64 0, .int .u64 0, .string ⟨#[]⟩, .string ⟨#[]⟩, .slice none 0 0, .string ⟨#[]⟩, .int .u64 0, .int .u8 0, .string ⟨#[]⟩]) none ([]) s2 (u2.setCell ⟨w.heap.size + 1, 1, none⟩ (.int .u64 (t : Int))) from (HM2.out.put 1 (.int .u64 (t : Int)) (by show _ < 29; omega)))
  have c0 := HM2.out.m.cs 0 _ rfl
  have c1 := HM2.out.m.cs 1 _ rfl
  have cl := HM2.out.m.lt
  have cf : ∀ j, u2.frozen? ⟨w.heap.size + 1, j, none⟩ = false := HM2.out.m.s
  go_wp2_with fail
  generalize (u2.setCell ⟨w.heap.size + 1, 1, none⟩ (.int .u64 (t : Int))) = v2 at *
  clear c0 c1 cl cf HM2 HS1
  refine (H3.out _ HS2.out.ri).mono ?_
  rintro e u3 ⟨rfl, hi, hg⟩
  have HM3 := Lib.hid (HS2.out.moved hi hg)
  clear hi hg
  have HS3 := Lib.hid (show RdX w R b (w.heap.size + 1) ZS ([.int .u8 12, .int .u64 (t : Int), .string ⟨#[]⟩, .int .u8 0, .string ⟨#[]⟩, .string ⟨#[]⟩, .int .u64 0, .int .u64 0, .string ⟨#[]⟩, .string ⟨#[]⟩, .string ⟨#[]⟩, .bool false, .string ⟨#[]⟩, .slice none 0 0, .bool false, .string ⟨#[]⟩, .int .u64 0, .int .u8 0, .int .u8 0, .int .u8 (F : Int), .int .u64 0, .int .u64 0, .string ⟨#[]⟩, .string ⟨#[]⟩, .slice none 0 0, .string ⟨#[]⟩, .int .u64 0, .int .u8 0, .string ⟨#[]⟩]) none ([]) s3 (u3.setCell ⟨w.heap.size + 1, 19, none⟩ (.int .u8 (F : Int))) from (HM3.out.put 19 (.int .u8 (F : Int)) (by show _ < 29; omega)))
  have c19 := HM3.out.m.cs 19 _ rfl
  have cl := HM3.out.m.lt
  have cf : ∀ j, u3.frozen? ⟨w.heap.size + 1, j, none⟩ = false := HM3.out.m.s
  go_wp2_with fail
  generalize (u3.setCell ⟨w.heap.size + 1, 19, none⟩ (.int .u8 (F : Int))) = v3 at *
  clear c19 cl cf HM3 HS2
  refine (H4.out _ HS3.out.ri).mono ?_
  rintro e u4 ⟨rfl, hi, hg⟩
  have HM4 := Lib.hid (HS3.out.moved hi hg)
  clear hi hg
  have HS4 := Lib.hid (show RdX w R b (w.heap.size + 1) ZS (deL ({ De.of 12 t with cd := F, text := N } : De) none 0 none 0) none ([]) s4 (u4.setCell ⟨w.heap.size + 1, 28, none⟩ (.string (ofL N))) from (HM4.out.put 28 (.string (ofL N)) (by show _ < 29; omega)))
  have c28 := HM4.out.m.cs 28 _ rfl
  have cl := HM4.out.m.lt
  have cf : ∀ j, u4.frozen? ⟨w.heap.size + 1, j, none⟩ = false := HM4.out.m.s
  go_upto_region 29 with fail
  generalize (u4.setCell ⟨w.heap.size + 1, 28, none⟩ (.string (ofL N))) = v4 at *
  clear c28 cl cf HM4 HS3
  rw [HZS.out] at HS4
  go_wp2_with (first
    | (refine wpList_load_mid (by rfl) 52 _ (by rfl) (w.heap.size + 1) 0 (by rfl) (deL ({ De.of 12 t with cd := F, text := N } : De) none 0 none 0) _ HS4.out.m.cs.range Tryz.underlying52 rfl (by rw [de_size, deL_len]) ?_)
    | (refine wpList_store_mid (by rfl) 52 _ _ (by rfl) w.heap.size 0 (deL ({ De.of 12 t with cd := F, text := N } : De) none 0 none 0).toArray (by rfl) (by rfl) HS4.out.q.there (by rw [de_size]; rfl) (de_all _ _ _ _ _) ?_))
  obtain ⟨hF, hI, hG, hP⟩ := HS4.out.ends (deL ({ De.of 12 t with cd := F, text := N } : De) none 0 none 0) rfl
  generalize v4.setCells w.heap.size 0 (deL ({ De.of 12 t with cd := F, text := N } : De) none 0 none 0) = WW at *
  exact bodyPost_ret (v := deV ({ De.of 12 t with cd := F, text := N } : De) none 0 none 0) (by simp [results, Tryz.results27, asAddr]; exact de_res _ _ _ _ _ _ _ hF.cs) rfl ⟨none, 0, none, 0, rfl, Nat.le_refl _, Nat.le_refl _, Prs.nil _ _, Prs.nil _ _, hI, hG, (fun a ha => by cases ha), (fun a ha => by cases ha)⟩
set_option maxRecDepth 100000 in
set_option maxHeartbeats 16000000 in
theorem ddread_99 (b : Nat) (R : LSt → World → Prop) (hR : Rder b R) (s s1 s2 : LSt) (t : Nat) (n : Nat) (e0 : ((n : Int) == 0) = false) (e2 : ((n : Int) == 2) = false) (e4 : ((n : Int) == 4) = false) (e5 : ((n : Int) == 5) = false) (e1 : ((n : Int) == 1) = false) (e3 : ((n : Int) == 3) = false) (e7 : ((n : Int) == 7) = false) (e6 : ((n : Int) == 6) = false) (e8 : ((n : Int) == 8) = false) (e10 : ((n : Int) == 10) = false) (e12 : ((n : Int) == 12) = false) (w : World)
    (h1 : ∀ W, R s W → Calls Tryz.prog 57 #[.pointer (some ⟨b, 0, none⟩)] W (fun e w' => e = .returned (.int .u8 (n : Int)) ∧ R s1 w' ∧ W.grownBy w' (some b)))
    (h2 : ∀ W, R s1 W → Calls Tryz.prog 26 #[.pointer (some ⟨b, 0, none⟩), .int .i64 8] W (fun e w' => e = .returned (.int .u64 (t : Int)) ∧ R s2 w' ∧ W.grownBy w' (some b)))
    (hi : R s w) : Calls Tryz.prog 27 #[.pointer (some ⟨b, 0, none⟩)] w (DeRd R b w (De.of n t) s2) := by
  unfold DeRd
  obtain ⟨ZS, hZS⟩ : ∃ ZS : List Value, ZS = [.int .u8 0, .int .u64 0, .string ⟨#[]⟩, .int .u8 0, .string ⟨#[]⟩, .string ⟨#[]⟩, .int .u64 0, .int .u64 0, .string ⟨#[]⟩, .string ⟨#[]⟩, .string ⟨#[]⟩, .bool false, .string ⟨#[]⟩, .slice none 0 0, .bool false, .string ⟨#[]⟩, .int .u64 0, .int .u8 0, .int .u8 0, .int .u8 0, .int .u64 0, .int .u64 0, .string ⟨#[]⟩, .string ⟨#[]⟩, .slice none 0 0, .string ⟨#[]⟩, .int .u64 0, .int .u8 0, .string ⟨#[]⟩] := ⟨_, rfl⟩
  have HS0 := Lib.hid (show RdX w R b (w.heap.size + 1) ZS ([.int .u8 0, .int .u64 0, .string ⟨#[]⟩, .int .u8 0, .string ⟨#[]⟩, .string ⟨#[]⟩, .int .u64 0, .int .u64 0, .string ⟨#[]⟩, .string ⟨#[]⟩, .string ⟨#[]⟩, .bool false, .string ⟨#[]⟩, .slice none 0 0, .bool false, .string ⟨#[]⟩, .int .u64 0, .int .u8 0, .int .u8 0, .int .u8 0, .int .u64 0, .int .u64 0, .string ⟨#[]⟩, .string ⟨#[]⟩, .slice none 0 0, .string ⟨#[]⟩, .int .u64 0, .int .u8 0, .string ⟨#[]⟩]) none [] s ((w.alloc (.cells #[.int .u8 0, .int .u64 0, .string ⟨#[]⟩, .int .u8 0, .string ⟨#[]⟩, .string ⟨#[]⟩, .int .u64 0, .int .u64 0, .string ⟨#[]⟩, .string ⟨#[]⟩, .string ⟨#[]⟩, .bool false, .string ⟨#[]⟩, .slice none 0 0, .bool false, .string ⟨#[]⟩, .int .u64 0, .int .u8 0, .int .u8 0, .int .u8 0, .int .u64 0, .int .u64 0, .string ⟨#[]⟩, .string ⟨#[]⟩, .slice none 0 0, .string ⟨#[]⟩, .int .u64 0, .int .u8 0, .string ⟨#[]⟩] 52)).alloc (.cells #[.int .u8 0, .int .u64 0, .string ⟨#[]⟩, .int .u8 0, .string ⟨#[]⟩, .string ⟨#[]⟩, .int .u64 0, .int .u64 0, .string ⟨#[]⟩, .string ⟨#[]⟩, .string ⟨#[]⟩, .bool false, .string ⟨#[]⟩, .slice none 0 0, .bool false, .string ⟨#[]⟩, .int .u64 0, .int .u8 0, .int .u8 0, .int .u8 0, .int .u64 0, .int .u64 0, .string ⟨#[]⟩, .string ⟨#[]⟩, .slice none 0 0, .string ⟨#[]⟩, .int .u64 0, .int .u8 0, .string ⟨#[]⟩] 52)) from hZS ▸ RdX.start hR hi #[.int .u8 0, .int .u64 0, .string ⟨#[]⟩, .int .u8 0, .string ⟨#[]⟩, .string ⟨#[]⟩, .int .u64 0, .int .u64 0, .string ⟨#[]⟩, .string ⟨#[]⟩, .string ⟨#[]⟩, .bool false, .string ⟨#[]⟩, .slice none 0 0, .bool false, .string ⟨#[]⟩, .int .u64 0, .int .u8 0, .int .u8 0, .int .u8 0, .int .u64 0, .int .u64 0, .string ⟨#[]⟩, .string ⟨#[]⟩, .slice none 0 0, .string ⟨#[]⟩, .int .u64 0, .int .u8 0, .string ⟨#[]⟩] 52)
  have H1 := Lib.hid h1
  have H2 := Lib.hid h2
  have HRR := Lib.hid hR
  have HZS := Lib.hid hZS
  clear h1 h2 hR hi hZS
  go_enter Tryz.func27, Tryz.ntmps27
  go_wp2_with fail
  generalize (w.alloc (.cells #[.int .u8 0, .int .u64 0, .string ⟨#[]⟩, .int .u8 0, .string ⟨#[]⟩, .string ⟨#[]⟩, .int .u64 0, .int .u64 0, .string ⟨#[]⟩, .string ⟨#[]⟩, .string ⟨#[]⟩, .bool false, .string ⟨#[]⟩, .slice none 0 0, .bool false, .string ⟨#[]⟩, .int .u64 0, .int .u8 0, .int .u8 0, .int .u8 0, .int .u64 0, .int .u64 0, .string ⟨#[]⟩, .string ⟨#[]⟩, .slice none 0 0, .string ⟨#[]⟩, .int .u64 0, .int .u8 0, .string ⟨#[]⟩] 52)).alloc (.cells #[.int .u8 0, .int .u64 0, .string ⟨#[]⟩, .int .u8 0, .string ⟨#[]⟩, .string ⟨#[]⟩, .int .u64 0, .int .u64 0, .string ⟨#[]⟩, .string ⟨#[]⟩, .string ⟨#[]⟩, .bool false, .string ⟨#[]⟩, .slice none 0 0, .bool false, .string ⟨#[]⟩, .int .u64 0, .int .u8 0, .int .u8 0, .int .u8 0, .int .u64 0, .int .u64 0, .string ⟨#[]⟩, .string ⟨#[]⟩, .slice none 0 0, .string ⟨#[]⟩, .int .u64 0, .int .u8 0, .string ⟨#[]⟩] 52) = v0 at *
  refine (H1.out _ HS0.out.ri).mono ?_
  rintro e u1 ⟨rfl, hi, hg⟩
  have HM1 := Lib.hid (HS0.out.moved hi hg)
  clear hi hg
  have HS1 := Lib.hid (show RdX w R b (w.heap.size + 1) ZS ([.int .u8 (n : Int), .int .u64 0, .string ⟨#[]⟩, .int .u8 0, .string ⟨#[]⟩, .string ⟨#[]⟩, .int .u64 0, .int .u64 0, .string ⟨#[]⟩, .string ⟨#[]⟩, .string ⟨#[]⟩, .bool false, .string ⟨#[]⟩, .slice none 0 0, .bool false, .string ⟨#[]⟩, .int .u64 0, .int .u8 0, .int .u8 0, .int .u8 0, .int .u64 0, .int .u64 0, .string ⟨#[]⟩, .string ⟨#[]⟩, .slice none 0 0, .string ⟨#[]⟩, .int .u64 0, .int .u8 0, .string ⟨#[]⟩]) none ([]) s1 (u1.setCell ⟨w.heap.size + 1, 0, none⟩ (.int .u8 (n : Int))) from (HM1.out.put 0 (.int .u8 (n : Int)) (by show _ < 29; omega)))
  have c0 := HM1.out.m.cs 0 _ rfl
  have cl := HM1.out.m.lt
  have cf : ∀ j, u1.frozen? ⟨w.heap.size + 1, j, none⟩ = false := HM1.out.m.s
  go_wp2_with fail
  generalize (u1.setCell ⟨w.heap.size + 1, 0, none⟩ (.int .u8 (n : Int))) = v1 at *
  clear c0 cl cf HM1 HS0
  refine (H2.out _ HS1.out.ri).mono ?_
  rintro e u2 ⟨rfl, hi, hg⟩
  have HM2 := Lib.hid (HS1.out.moved hi hg)
  clear hi hg
  have HS2 := Lib.hid (show RdX w R b (w.heap.size + 1) ZS (deL (De.of n t) none 0 none 0) none ([]) s2 (u2.setCell ⟨w.heap.size + 1, 1, none⟩ (.int .u64 (t : Int))) from (HM2.out.put 1 (.int .u64 (t : Int)) (by show _ < 29; omega)))
  have c0 := HM2.out.m.cs 0 _ rfl
  have c1 := HM2.out.m.cs 1 _ rfl
  have cl := HM2.out.m.lt
  have cf : ∀ j, u2.frozen? ⟨w.heap.size + 1, j, none⟩ = false := HM2.out.m.s
  go_upto_region 29 with fail
  generalize (u2.setCell ⟨w.heap.size + 1, 1, none⟩ (.int .u64 (t : Int))) = v2 at *
  clear c0 c1 cl cf HM2 HS1
  rw [HZS.out] at HS2
  go_wp2_with (first
    | (refine wpList_load_mid (by rfl) 52 _ (by rfl) (w.heap.size + 1) 0 (by rfl) (deL (De.of n t) none 0 none 0) _ HS2.out.m.cs.range Tryz.underlying52 rfl (by rw [de_size, deL_len]) ?_)
    | (refine wpList_store_mid (by rfl) 52 _ _ (by rfl) w.heap.size 0 (deL (De.of n t) none 0 none 0).toArray (by rfl) (by rfl) HS2.out.q.there (by rw [de_size]; rfl) (de_all _ _ _ _ _) ?_))
  obtain ⟨hF, hI, hG, hP⟩ := HS2.out.ends (deL (De.of n t) none 0 none 0) rfl
  generalize v2.setCells w.heap.size 0 (deL (De.of n t) none 0 none 0) = WW at *
  exact bodyPost_ret (v := deV (De.of n t) none 0 none 0) (by simp [results, Tryz.results27, asAddr]; exact de_res _ _ _ _ _ _ _ hF.cs) rfl ⟨none, 0, none, 0, rfl, Nat.le_refl _, Nat.le_refl _, Prs.nil _ _, Prs.nil _ _, hI, hG, (fun a ha => by cases ha), (fun a ha => by cases ha)⟩
theorem ddread_any0 (b : Nat) (s : LSt) (w : World) (h : InL b s w) (hok : lOk s) (_hL : ∀ W, w.grownBy W (some b) → Len W) (hk : De.rk s = 0) : Calls Tryz.prog 27 #[.pointer (some ⟨b, 0, none⟩)] w (DeRd (InL b) b w (De.rd s).1 (De.rd s).2) := by
  have o0 := De.ok_r0 hok
  have e : De.rd s = (({ De.of 0 (De.rt s) with shop := De.shA (De.r0 s) } : De), De.shE (De.r0 s)) := by
    unfold De.rd
    rw [hk]; exact De.rdK_0 (by omega)
  have g := ddread_0 b (InL b) (rdr_in b) s (De.r1 s) (De.r0 s) (De.shE (De.r0 s)) (De.rt s) (De.shA (De.r0 s)) w (fun W h => by have g := ddreadSmall_any b s W h hok; rw [show De.n1 s = 0 from hk] at g; exact g) (fun W h => inum_l b _ 8 8 W (by omega) rfl h (De.ok_r1 hok)) (fun W h => ddreadShop_any b (De.r0 s) W h o0) h
  rw [e]
  dsimp only
  exact g
theorem ddread_any1 (b : Nat) (s : LSt) (w : World) (h : InL b s w) (hok : lOk s) (_hL : ∀ W, w.grownBy W (some b) → Len W) (hk : De.rk s = 1) : Calls Tryz.prog 27 #[.pointer (some ⟨b, 0, none⟩)] w (DeRd (InL b) b w (De.rd s).1 (De.rd s).2) := by
  have o0 := De.ok_r0 hok
  have e : De.rd s = (({ De.of 1 (De.rt s) with name := lTextOut (De.r0 s) 16 } : De), lText (De.r0 s) 16) := by
    unfold De.rd
    rw [hk]; exact De.rdK_3 (by omega) (by omega) (by omega) (by omega)
  have g := ddread_1 b (InL b) (rdr_in b) s (De.r1 s) (De.r0 s) (lText (De.r0 s) 16) (De.rt s) (lTextOut (De.r0 s) 16) w (fun W h => by have g := ddreadSmall_any b s W h hok; rw [show De.n1 s = 1 from hk] at g; exact g) (fun W h => inum_l b _ 8 8 W (by omega) rfl h (De.ok_r1 hok)) (fun W h => itext_l b _ 16 W h o0) h
  rw [e]
  dsimp only
  exact g
theorem ddread_any2 (b : Nat) (s : LSt) (w : World) (h : InL b s w) (hok : lOk s) (_hL : ∀ W, w.grownBy W (some b) → Len W) (hk : De.rk s = 2) : Calls Tryz.prog 27 #[.pointer (some ⟨b, 0, none⟩)] w (DeRd (InL b) b w (De.rd s).1 (De.rd s).2) := by
  have o0 := De.ok_r0 hok
  have e : De.rd s = (({ De.of 2 (De.rt s) with q := De.quA (De.r0 s) } : De), De.quE (De.r0 s)) := by
    unfold De.rd
    rw [hk]; exact De.rdK_1 (by omega) (by omega)
  have g := ddread_2 b (InL b) (rdr_in b) s (De.r1 s) (De.r0 s) (De.quE (De.r0 s)) (De.rt s) (De.quA (De.r0 s)) w (fun W h => by have g := ddreadSmall_any b s W h hok; rw [show De.n1 s = 2 from hk] at g; exact g) (fun W h => inum_l b _ 8 8 W (by omega) rfl h (De.ok_r1 hok)) (fun W h => ddreadQueue_any b (De.r0 s) W h o0) h
  rw [e]
  dsimp only
  exact g
theorem ddread_any3 (b : Nat) (s : LSt) (w : World) (h : InL b s w) (hok : lOk s) (_hL : ∀ W, w.grownBy W (some b) → Len W) (hk : De.rk s = 3) : Calls Tryz.prog 27 #[.pointer (some ⟨b, 0, none⟩)] w (DeRd (InL b) b w (De.rd s).1 (De.rd s).2) := by
  have o0 := De.ok_r0 hok
  have e : De.rd s = (({ De.of 3 (De.rt s) with name := lTextOut (De.r0 s) 16 } : De), lText (De.r0 s) 16) := by
    unfold De.rd
    rw [hk]; exact De.rdK_3 (by omega) (by omega) (by omega) (by omega)
  have g := ddread_3 b (InL b) (rdr_in b) s (De.r1 s) (De.r0 s) (lText (De.r0 s) 16) (De.rt s) (lTextOut (De.r0 s) 16) w (fun W h => by have g := ddreadSmall_any b s W h hok; rw [show De.n1 s = 3 from hk] at g; exact g) (fun W h => inum_l b _ 8 8 W (by omega) rfl h (De.ok_r1 hok)) (fun W h => itext_l b _ 16 W h o0) h
  rw [e]
  dsimp only
  exact g
theorem ddread_any4 (b : Nat) (s : LSt) (w : World) (h : InL b s w) (hok : lOk s) (_hL : ∀ W, w.grownBy W (some b) → Len W) (hk : De.rk s = 4) : Calls Tryz.prog 27 #[.pointer (some ⟨b, 0, none⟩)] w (DeRd (InL b) b w (De.rd s).1 (De.rd s).2) := by
  have o0 := De.ok_r0 hok
  have e : De.rd s = (({ De.of 4 (De.rt s) with bind := De.bdA (De.r0 s) } : De), De.bdR (De.r0 s)) := by
    unfold De.rd
    rw [hk]; exact De.rdK_2 (by omega) (by omega) (by omega)
  have g := ddread_4 b (InL b) (rdr_in b) s (De.r1 s) (De.r0 s) (De.bdR (De.r0 s)) (De.rt s) (De.bdA (De.r0 s)) w (fun W h => by have g := ddreadSmall_any b s W h hok; rw [show De.n1 s = 4 from hk] at g; exact g) (fun W h => inum_l b _ 8 8 W (by omega) rfl h (De.ok_r1 hok)) (fun W h => ddreadBind_any b (De.r0 s) W h o0) h
  rw [e]
  dsimp only
  exact g
theorem ddread_any5 (b : Nat) (s : LSt) (w : World) (h : InL b s w) (hok : lOk s) (_hL : ∀ W, w.grownBy W (some b) → Len W) (hk : De.rk s = 5) : Calls Tryz.prog 27 #[.pointer (some ⟨b, 0, none⟩)] w (DeRd (InL b) b w (De.rd s).1 (De.rd s).2) := by
  have o0 := De.ok_r0 hok
  have e : De.rd s = (({ De.of 5 (De.rt s) with bind := De.bdA (De.r0 s) } : De), De.bdR (De.r0 s)) := by
    unfold De.rd
    rw [hk]; exact De.rdK_2 (by omega) (by omega) (by omega)
  have g := ddread_5 b (InL b) (rdr_in b) s (De.r1 s) (De.r0 s) (De.bdR (De.r0 s)) (De.rt s) (De.bdA (De.r0 s)) w (fun W h => by have g := ddreadSmall_any b s W h hok; rw [show De.n1 s = 5 from hk] at g; exact g) (fun W h => inum_l b _ 8 8 W (by omega) rfl h (De.ok_r1 hok)) (fun W h => ddreadBind_any b (De.r0 s) W h o0) h
  rw [e]
  dsimp only
  exact g
theorem ddread_any6 (b : Nat) (s : LSt) (w : World) (h : InL b s w) (hok : lOk s) (hL : ∀ W, w.grownBy W (some b) → Len W) (hk : De.rk s = 6) : Calls Tryz.prog 27 #[.pointer (some ⟨b, 0, none⟩)] w (DeRd (InL b) b w (De.rd s).1 (De.rd s).2) := by
  have o0 := De.ok_r0 hok
  have e : De.rd s = (({ De.of 6 (De.rt s) with mail := (Ml.rd (De.r0 s)).1 } : De), (Ml.rd (De.r0 s)).2) := by
    unfold De.rd
    rw [hk]; exact De.rdK_4 (by omega) (by omega) (by omega) (by omega) (by omega)
  have g := ddread_6 b (InL b) (rdr_in b) s (De.r1 s) (De.r0 s) ((Ml.rd (De.r0 s)).2) (De.rt s) (Ml.rd (De.r0 s)).1 w (fun W h => by have g := ddreadSmall_any b s W h hok; rw [show De.n1 s = 6 from hk] at g; exact g) (fun W h => inum_l b _ 8 8 W (by omega) rfl h (De.ok_r1 hok)) (fun W hg h => maRead_any b _ W o0 (fun W2 hg2 => hL W2 (hg.trans hg2)) h) h
  rw [e]
  dsimp only
  exact g
theorem ddread_any7 (b : Nat) (s : LSt) (w : World) (h : InL b s w) (hok : lOk s) (_hL : ∀ W, w.grownBy W (some b) → Len W) (hk : De.rk s = 7) : Calls Tryz.prog 27 #[.pointer (some ⟨b, 0, none⟩)] w (DeRd (InL b) b w (De.rd s).1 (De.rd s).2) := by
  have o0 := De.ok_r0 hok
  have e : De.rd s = (({ De.of 7 (De.rt s) with name := lTextOut (De.r0 s) 16 } : De), lText (De.r0 s) 16) := by
    unfold De.rd
    rw [hk]; exact De.rdK_3 (by omega) (by omega) (by omega) (by omega)
  have g := ddread_7 b (InL b) (rdr_in b) s (De.r1 s) (De.r0 s) (lText (De.r0 s) 16) (De.rt s) (lTextOut (De.r0 s) 16) w (fun W h => by have g := ddreadSmall_any b s W h hok; rw [show De.n1 s = 7 from hk] at g; exact g) (fun W h => inum_l b _ 8 8 W (by omega) rfl h (De.ok_r1 hok)) (fun W h => itext_l b _ 16 W h o0) h
  rw [e]
  dsimp only
  exact g
theorem ddread_any8 (b : Nat) (s : LSt) (w : World) (h : InL b s w) (hok : lOk s) (_hL : ∀ W, w.grownBy W (some b) → Len W) (hk : De.rk s = 8) : Calls Tryz.prog 27 #[.pointer (some ⟨b, 0, none⟩)] w (DeRd (InL b) b w (De.rd s).1 (De.rd s).2) := by
  have o0 := De.ok_r0 hok
  have e : De.rd s = (({ De.of 8 (De.rt s) with name := lTextOut (De.r0 s) 16, id := De.n8 (lText (De.r0 s) 16), how := De.n1 (De.r8 (lText (De.r0 s) 16)) } : De), De.r1 (De.r8 (lText (De.r0 s) 16))) := by
    unfold De.rd
    rw [hk]; exact De.rdK_5 (by omega) (by omega) (by omega) (by omega) (by omega) (by omega)
  have g := ddread_8 b (InL b) (rdr_in b) s (De.r1 s) (De.r0 s) (lText (De.r0 s) 16) (De.r8 (lText (De.r0 s) 16)) (De.r1 (De.r8 (lText (De.r0 s) 16))) (De.rt s) (lTextOut (De.r0 s) 16) (De.n8 (lText (De.r0 s) 16)) (De.n1 (De.r8 (lText (De.r0 s) 16))) w (fun W h => by have g := ddreadSmall_any b s W h hok; rw [show De.n1 s = 8 from hk] at g; exact g) (fun W h => inum_l b _ 8 8 W (by omega) rfl h (De.ok_r1 hok)) (fun W h => itext_l b _ 16 W h o0) (fun W h => inum_l b _ 8 8 W (by omega) rfl h (lOk_text o0 _)) (fun W h => ddreadSmall_any b _ W h (De.ok_r8 (lOk_text o0 _))) h
  rw [e]
  dsimp only
  exact g
theorem ddread_any10 (b : Nat) (s : LSt) (w : World) (h : InL b s w) (hok : lOk s) (hL : ∀ W, w.grownBy W (some b) → Len W) (hk : De.rk s = 10) : Calls Tryz.prog 27 #[.pointer (some ⟨b, 0, none⟩)] w (DeRd (InL b) b w (De.rd s).1 (De.rd s).2) := by
  have o0 := De.ok_r0 hok
  have e : De.rd s = (({ De.of 10 (De.rt s) with frm := De.n1 (De.r0 s), num := De.n8 (De.r1 (De.r0 s)), mail := (Ml.rd (De.r8 (De.r1 (De.r0 s)))).1 } : De), (Ml.rd (De.r8 (De.r1 (De.r0 s)))).2) := by
    unfold De.rd
    rw [hk]; exact De.rdK_6 (by omega) (by omega) (by omega) (by omega) (by omega) (by omega) (by omega)
  have g := ddread_10 b (InL b) (rdr_in b) s (De.r1 s) (De.r0 s) (De.r1 (De.r0 s)) (De.r8 (De.r1 (De.r0 s))) ((Ml.rd (De.r8 (De.r1 (De.r0 s)))).2) (De.rt s) (De.n1 (De.r0 s)) (De.n8 (De.r1 (De.r0 s))) (Ml.rd (De.r8 (De.r1 (De.r0 s)))).1 w (fun W h => by have g := ddreadSmall_any b s W h hok; rw [show De.n1 s = 10 from hk] at g; exact g) (fun W h => inum_l b _ 8 8 W (by omega) rfl h (De.ok_r1 hok)) (fun W h => ddreadSmall_any b _ W h o0) (fun W h => inum_l b _ 8 8 W (by omega) rfl h (De.ok_r1 o0)) (fun W hg h => maRead_any b _ W (De.ok_r8 (De.ok_r1 o0)) (fun W2 hg2 => hL W2 (hg.trans hg2)) h) h
  rw [e]
  dsimp only
  exact g
theorem ddread_any12 (b : Nat) (s : LSt) (w : World) (h : InL b s w) (hok : lOk s) (_hL : ∀ W, w.grownBy W (some b) → Len W) (hk : De.rk s = 12) : Calls Tryz.prog 27 #[.pointer (some ⟨b, 0, none⟩)] w (DeRd (InL b) b w (De.rd s).1 (De.rd s).2) := by
  have o0 := De.ok_r0 hok
  have e : De.rd s = (({ De.of 12 (De.rt s) with cd := De.n1 (De.r0 s), text := lTextOut (De.r1 (De.r0 s)) 64 } : De), lText (De.r1 (De.r0 s)) 64) := by
    unfold De.rd
    rw [hk]; exact De.rdK_7 (by omega) (by omega) (by omega) (by omega) (by omega) (by omega) (by omega) (by omega)
  have g := ddread_12 b (InL b) (rdr_in b) s (De.r1 s) (De.r0 s) (De.r1 (De.r0 s)) (lText (De.r1 (De.r0 s)) 64) (De.rt s) (De.n1 (De.r0 s)) (lTextOut (De.r1 (De.r0 s)) 64) w (fun W h => by have g := ddreadSmall_any b s W h hok; rw [show De.n1 s = 12 from hk] at g; exact g) (fun W h => inum_l b _ 8 8 W (by omega) rfl h (De.ok_r1 hok)) (fun W h => ddreadSmall_any b _ W h o0) (fun W h => itext_l b _ 64 W h (De.ok_r1 o0)) h
  rw [e]
  dsimp only
  exact g
theorem ne_dec {n m : Nat} (h : n ≠ m) : ((n : Int) == (m : Int)) = false := by rw [beq_eq_false_iff_ne]; omega
theorem ddread_any99 (b : Nat) (s : LSt) (w : World) (h : InL b s w) (hok : lOk s) (_hL : ∀ W, w.grownBy W (some b) → Len W) (e0 : De.rk s ≠ 0) (e2 : De.rk s ≠ 2) (e4 : De.rk s ≠ 4) (e5 : De.rk s ≠ 5) (e1 : De.rk s ≠ 1) (e3 : De.rk s ≠ 3) (e7 : De.rk s ≠ 7) (e6 : De.rk s ≠ 6) (e8 : De.rk s ≠ 8) (e10 : De.rk s ≠ 10) (e12 : De.rk s ≠ 12) : Calls Tryz.prog 27 #[.pointer (some ⟨b, 0, none⟩)] w (DeRd (InL b) b w (De.rd s).1 (De.rd s).2) := by
  have o0 := De.ok_r0 hok
  have e : De.rd s = ((De.of (De.rk s) (De.rt s)), (De.r0 s)) := by
    unfold De.rd
    exact De.rdK_8 (by omega) (by omega) (by omega) (by omega) (by omega) (by omega) (by omega) (by omega)
  have g := ddread_99 b (InL b) (rdr_in b) s (De.r1 s) (De.r0 s)  (De.rt s) (De.rk s) (ne_dec e0) (ne_dec e2) (ne_dec e4) (ne_dec e5) (ne_dec e1) (ne_dec e3) (ne_dec e7) (ne_dec e6) (ne_dec e8) (ne_dec e10) (ne_dec e12) w (fun W h => ddreadSmall_any b s W h hok) (fun W h => inum_l b _ 8 8 W (by omega) rfl h (De.ok_r1 hok))  h
  rw [e]
  dsimp only
  exact g
theorem ddread_any (b : Nat) (s : LSt) (w : World) (h : InL b s w) (hok : lOk s) (hL : ∀ W, w.grownBy W (some b) → Len W) : Calls Tryz.prog 27 #[.pointer (some ⟨b, 0, none⟩)] w (DeRd (InL b) b w (De.rd s).1 (De.rd s).2) := by
  by_cases e0 : De.rk s = 0
  · exact ddread_any0 b s w h hok hL e0
  by_cases e1 : De.rk s = 1
  · exact ddread_any1 b s w h hok hL e1
  by_cases e2 : De.rk s = 2
  · exact ddread_any2 b s w h hok hL e2
  by_cases e3 : De.rk s = 3
  · exact ddread_any3 b s w h hok hL e3
  by_cases e4 : De.rk s = 4
  · exact ddread_any4 b s w h hok hL e4
  by_cases e5 : De.rk s = 5
  · exact ddread_any5 b s w h hok hL e5
  by_cases e6 : De.rk s = 6
  · exact ddread_any6 b s w h hok hL e6
  by_cases e7 : De.rk s = 7
  · exact ddread_any7 b s w h hok hL e7
  by_cases e8 : De.rk s = 8
  · exact ddread_any8 b s w h hok hL e8
  by_cases e10 : De.rk s = 10
  · exact ddread_any10 b s w h hok hL e10
  by_cases e12 : De.rk s = 12
  · exact ddread_any12 b s w h hok hL e12
  exact ddread_any99 b s w h hok hL e0 e2 e4 e5 e1 e3 e7 e6 e8 e10 e12
end Go.Proofs.YtaikigponkjkgaaGreatDoor
end
