/-
 A part of the proof.
-/
import Derived.Test.YtaikigponkjkgaaGreatDoorXq39

section
namespace Go.Proofs.YtaikigponkjkgaaGreatDoor
open Go.ChangeShapes Go.WideShapes Go.ChangeAt Go.RowKit
open Go.Lib (hid)
def DeRd (R : LSt → World → Prop) (b : Nat) (w : World) (x : De) (s : LSt) (e : Ending) (w' : World) : Prop := ∃ A c B d, e = .returned (deV x A c B d) ∧ x.bind.want.length ≤ c ∧ x.mail.head.length ≤ d ∧ Prs w' A x.bind.want ∧ Prs w' B x.mail.head ∧ R s w' ∧ w.grownBy w' (some b) ∧ (∀ a, A = some a → w.heap.size ≤ a.block) ∧ (∀ a, B = some a → w.heap.size ≤ a.block)
theorem RdX.deed {w : World} {R : LSt → World → Prop} {b : Nat} {s : LSt} (hR : Rder b R) (hi : R s w) (t : TypeId) : ∃ ZS, ZS = deL (De.of 0 0) none 0 none 0 ∧ RdX w R b (w.heap.size + 1) ZS (deL (De.of 0 0) none 0 none 0) none [] s ((w.alloc (.cells #[.int .u8 0, .int .u64 0, .string ⟨#[]⟩, .int .u8 0, .string ⟨#[]⟩, .string ⟨#[]⟩, .int .u64 0, .int .u64 0, .string ⟨#[]⟩, .string ⟨#[]⟩, .string ⟨#[]⟩, .bool false, .string ⟨#[]⟩, .slice none 0 0, .bool false, .string ⟨#[]⟩, .int .u64 0, .int .u8 0, .int .u8 0, .int .u8 0, .int .u64 0, .int .u64 0, .string ⟨#[]⟩, .string ⟨#[]⟩, .slice none 0 0, .string ⟨#[]⟩, .int .u64 0, .int .u8 0, .string ⟨#[]⟩] t)).alloc (.cells #[.int .u8 0, .int .u64 0, .string ⟨#[]⟩, .int .u8 0, .string ⟨#[]⟩, .string ⟨#[]⟩, .int .u64 0, .int .u64 0, .string ⟨#[]⟩, .string ⟨#[]⟩, .string ⟨#[]⟩, .bool false, .string ⟨#[]⟩, .slice none 0 0, .bool false, .string ⟨#[]⟩, .int .u64 0, .int .u8 0, .int .u8 0, .int .u8 0, .int .u64 0, .int .u64 0, .string ⟨#[]⟩, .string ⟨#[]⟩, .slice none 0 0, .string ⟨#[]⟩, .int .u64 0, .int .u8 0, .string ⟨#[]⟩] t)) :=
 ⟨_, rfl, RdX.start hR hi #[.int .u8 0, .int .u64 0, .string ⟨#[]⟩, .int .u8 0, .string ⟨#[]⟩, .string ⟨#[]⟩, .int .u64 0, .int .u64 0, .string ⟨#[]⟩, .string ⟨#[]⟩, .string ⟨#[]⟩, .bool false, .string ⟨#[]⟩, .slice none 0 0, .bool false, .string ⟨#[]⟩, .int .u64 0, .int .u8 0, .int .u8 0, .int .u8 0, .int .u64 0, .int .u64 0, .string ⟨#[]⟩, .string ⟨#[]⟩, .slice none 0 0, .string ⟨#[]⟩, .int .u64 0, .int .u8 0, .string ⟨#[]⟩] t⟩
theorem ne_dec {n m : Nat} (h : n ≠ m) : ((n : Int) == (m : Int)) = false := by rw [beq_eq_false_iff_ne]; omega
theorem eq_dec {n m : Nat} (h : n = m) : ((n : Int) == (m : Int)) = true := by rw [h]; simp
section
variable {w W : World} {R : LSt → World → Prop} {b g : Nat} {zs : List Value} {A' : Option Addr} {l : List Hd.Pr} {s : LSt} {D : De} {A : Option Addr} {c : Nat} {B : Option Addr} {d : Nat} {os : Array Oper} {rs : List Oper} {o : Oper} {a : Act} {Q : Exit → Act → World → Prop}
theorem RdX.ld (h : RdX w R b g zs (deL D A c B d) A' l s W) (hg : o.guard = none) (x : Operand) (ho : o.op = .load 52 x) (hx : a.eval x = .pointer (some ⟨g, 0, none⟩)) (k : wpList Tryz.prog os Q rs (a.put o.dst (deV D A c B d)) W) : wpList Tryz.prog os Q (o :: rs) a W :=
 wpList_load_mid hg 52 x ho g 0 hx (deL D A c B d) _ h.m.cs.range Tryz.underlying52 rfl (by rw [de_size, deL_len]) k
theorem RdX.st (h : RdX w R b g (deL (De.of 0 0) none 0 none 0) (deL D A c B d) A' l s W) (hg : o.guard = none) (x y : Operand) (ho : o.op = .store 52 x y) (hx : a.eval x = .pointer (some ⟨w.heap.size, 0, none⟩)) (hy : a.eval y = deV D A c B d) (k : wpList Tryz.prog os Q rs (a.put o.dst undef) (W.setCells w.heap.size 0 (deL D A c B d))) : wpList Tryz.prog os Q (o :: rs) a W :=
 wpList_store_mid hg 52 x y ho w.heap.size 0 (deL D A c B d).toArray hx hy h.q.there (by rw [de_size]; rfl) (de_all _ _ _ _ _) k
end
set_option maxRecDepth 100000 in
set_option maxHeartbeats 16000000 in
theorem ddread_core (b : Nat) (R : LSt → World → Prop) (hR : Rder b R) (s s1 s2 sf : LSt) (t n : Nat) (D : De) (w : World) (h1 : RxC R b 57 #[.pointer (some ⟨b, 0, none⟩)] (.int .u8 (n : Int)) s s1) (h2 : RxC R b 26 #[.pointer (some ⟨b, 0, none⟩), .int .i64 8] (.int .u64 (t : Int)) s1 s2)
  (hc : (∃ (X : Sh), ((n : Int) == 0) = true ∧ RxC R b 58 #[.pointer (some ⟨b, 0, none⟩)] (.agg #[.string (ofL X.name), .int .u8 (X.sort : Int), .string (ofL X.to)]) s2 sf ∧ D = ({ De.of n t with shop := X } : De)) ∨
   (∃ (N : List UInt8), ((n : Int) == 0) = false ∧ ((n : Int) == 2) = false ∧ ((n : Int) == 4) = false ∧ ((n : Int) == 5) = false ∧ (((n : Int) == 1) = true ∨ ((n : Int) == 1) = false ∧ ((n : Int) == 3) = true ∨ ((n : Int) == 1) = false ∧ ((n : Int) == 3) = false ∧ ((n : Int) == 7) = true) ∧ RxC R b 61 #[.pointer (some ⟨b, 0, none⟩), .int .i64 16] (.string (ofL N)) s2 sf ∧ D = ({ De.of n t with name := N } : De)) ∨
   (∃ (X : Qu), ((n : Int) == 0) = false ∧ ((n : Int) == 2) = true ∧ RxC R b 59 #[.pointer (some ⟨b, 0, none⟩)] (.agg #[.string (ofL X.name), .int .u64 (X.most : Int), .int .u64 (X.life : Int), .string (ofL X.dead)]) s2 sf ∧ D = ({ De.of n t with q := X } : De)) ∨
   (∃ (X : Bd), ((n : Int) == 0) = false ∧ ((n : Int) == 2) = false ∧ (((n : Int) == 4) = true ∨ ((n : Int) == 4) = false ∧ ((n : Int) == 5) = true) ∧ RxR R b 60 #[.pointer (some ⟨b, 0, none⟩)] (fun A c => .agg #[.string (ofL X.shop), .string (ofL X.to), .bool X.up, .string (ofL X.key), .slice A X.want.length c, .bool X.all]) X.want s2 sf ∧ D = ({ De.of n t with bind := X } : De)) ∨
   (∃ (M : Ml), ((n : Int) == 0) = false ∧ ((n : Int) == 2) = false ∧ ((n : Int) == 4) = false ∧ ((n : Int) == 5) = false ∧ ((n : Int) == 1) = false ∧ ((n : Int) == 3) = false ∧ ((n : Int) == 7) = false ∧ ((n : Int) == 6) = true ∧ RxG w R b 62 #[.pointer (some ⟨b, 0, none⟩)] (fun A c => .agg #[.int .u64 (M.id : Int), .string (ofL M.shop), .string (ofL M.key), .slice A M.head.length c, .string (ofL M.body), .int .u64 (M.due : Int), .int .u8 (M.hops : Int)]) M.head s2 sf ∧ D = ({ De.of n t with mail := M } : De)) ∨
   (∃ (N : List UInt8) (I O : Nat) (s3 s4 : LSt), ((n : Int) == 0) = false ∧ ((n : Int) == 2) = false ∧ ((n : Int) == 4) = false ∧ ((n : Int) == 5) = false ∧ ((n : Int) == 1) = false ∧ ((n : Int) == 3) = false ∧ ((n : Int) == 7) = false ∧ ((n : Int) == 6) = false ∧ ((n : Int) == 8) = true ∧ RxC R b 61 #[.pointer (some ⟨b, 0, none⟩), .int .i64 16] (.string (ofL N)) s2 s3 ∧ RxC R b 26 #[.pointer (some ⟨b, 0, none⟩), .int .i64 8] (.int .u64 (I : Int)) s3 s4 ∧ RxC R b 57 #[.pointer (some ⟨b, 0, none⟩)] (.int .u8 (O : Int)) s4 sf ∧ D = ({ De.of n t with name := N, id := I, how := O } : De)) ∨
   (∃ (F I : Nat) (M : Ml) (s3 s4 : LSt), ((n : Int) == 0) = false ∧ ((n : Int) == 2) = false ∧ ((n : Int) == 4) = false ∧ ((n : Int) == 5) = false ∧ ((n : Int) == 1) = false ∧ ((n : Int) == 3) = false ∧ ((n : Int) == 7) = false ∧ ((n : Int) == 6) = false ∧ ((n : Int) == 8) = false ∧ ((n : Int) == 10) = true ∧ RxC R b 57 #[.pointer (some ⟨b, 0, none⟩)] (.int .u8 (F : Int)) s2 s3 ∧ RxC R b 26 #[.pointer (some ⟨b, 0, none⟩), .int .i64 8] (.int .u64 (I : Int)) s3 s4 ∧ RxG w R b 62 #[.pointer (some ⟨b, 0, none⟩)] (fun A c => .agg #[.int .u64 (M.id : Int), .string (ofL M.shop), .string (ofL M.key), .slice A M.head.length c, .string (ofL M.body), .int .u64 (M.due : Int), .int .u8 (M.hops : Int)]) M.head s4 sf ∧ D = ({ De.of n t with frm := F, num := I, mail := M } : De)) ∨
   (∃ (F : Nat) (N : List UInt8) (s3 : LSt), ((n : Int) == 0) = false ∧ ((n : Int) == 2) = false ∧ ((n : Int) == 4) = false ∧ ((n : Int) == 5) = false ∧ ((n : Int) == 1) = false ∧ ((n : Int) == 3) = false ∧ ((n : Int) == 7) = false ∧ ((n : Int) == 6) = false ∧ ((n : Int) == 8) = false ∧ ((n : Int) == 10) = false ∧ ((n : Int) == 12) = true ∧ RxC R b 57 #[.pointer (some ⟨b, 0, none⟩)] (.int .u8 (F : Int)) s2 s3 ∧ RxC R b 61 #[.pointer (some ⟨b, 0, none⟩), .int .i64 64] (.string (ofL N)) s3 sf ∧ D = ({ De.of n t with cd := F, text := N } : De)) ∨
   (((n : Int) == 0) = false ∧ ((n : Int) == 2) = false ∧ ((n : Int) == 4) = false ∧ ((n : Int) == 5) = false ∧ ((n : Int) == 1) = false ∧ ((n : Int) == 3) = false ∧ ((n : Int) == 7) = false ∧ ((n : Int) == 6) = false ∧ ((n : Int) == 8) = false ∧ ((n : Int) == 10) = false ∧ ((n : Int) == 12) = false ∧ D = (De.of n t) ∧ sf = s2))
  (hi : R s w) : Calls Tryz.prog 27 #[.pointer (some ⟨b, 0, none⟩)] w (DeRd R b w D sf) := by
 unfold DeRd
 have H1 := hid h1
 have H2 := hid h2
 have HCL := hid hc
 clear h1 h2 hc
 obtain ⟨ZS, hZS, hs0⟩ := RdX.deed hR hi 52
 have HS0 := hid hs0
 have HZS := hid hZS
 clear hR hi hZS hs0
 go_enter Tryz.func27, Tryz.ntmps27
 go_wp2_with fail
 refine (H1.out _ HS0.out.ri).mono ?_
 rintro e u1 ⟨rfl, hi, hg⟩
 have HM1 := hid (HS0.out.moved hi hg)
 clear hi hg
 have HS1 := hid (show RdX w R b (w.heap.size + 1) ZS (deL (De.of n 0) none 0 none 0) none ([]) s1 (u1.setCell ⟨w.heap.size + 1, 0, none⟩ (.int .u8 (n : Int))) from (HM1.out.put 0 (.int .u8 (n : Int)) (by show _ < 29; omega)))
 have c0 := HM1.out.m.cs 0 _ rfl
 have cl := HM1.out.m.lt
 have cf : ∀ j, u1.frozen? ⟨w.heap.size + 1, j, none⟩ = false := HM1.out.m.s
 go_wp2_with fail
 generalize (u1.setCell ⟨w.heap.size + 1, 0, none⟩ (.int .u8 (n : Int))) = v1 at *
 clear c0 cl cf HM1 HS0
 refine (H2.out _ HS1.out.ri).mono ?_
 rintro e u2 ⟨rfl, hi, hg⟩
 have HM2 := hid (HS1.out.moved hi hg)
 clear hi hg
 have HS2 := hid (show RdX w R b (w.heap.size + 1) ZS (deL (De.of n t) none 0 none 0) none [] s2 (u2.setCell ⟨w.heap.size + 1, 1, none⟩ (.int .u64 (t : Int))) from (HM2.out.put 1 (.int .u64 (t : Int)) (by show _ < 29; omega)))
 have c1 := HM2.out.m.cs 1 _ rfl
 have c0 : u2.cell? ⟨w.heap.size + 1, 0, none⟩ = some (.int .u8 (n : Int)) := HM2.out.m.cs 0 _ rfl
 have cl := HM2.out.m.lt
 have cf : ∀ j, u2.frozen? ⟨w.heap.size + 1, j, none⟩ = false := HM2.out.m.s
 rcases HCL.out with ⟨X, e0, h3, rfl⟩ | ⟨N, e0, e2, e4, e5, hg, h3, rfl⟩ | ⟨X, e0, e2, h3, rfl⟩ | ⟨X, e0, e2, hg, h3, rfl⟩ | ⟨M, e0, e2, e4, e5, e1, e3, e7, e6, h3, rfl⟩ | ⟨N, I, O, s3, s4, e0, e2, e4, e5, e1, e3, e7, e6, e8, h3, h4, h5, rfl⟩ | ⟨F, I, M, s3, s4, e0, e2, e4, e5, e1, e3, e7, e6, e8, e10, h3, h4, h5, rfl⟩ | ⟨F, N, s3, e0, e2, e4, e5, e1, e3, e7, e6, e8, e10, e12, h3, h4, rfl⟩ | ⟨e0, e2, e4, e5, e1, e3, e7, e6, e8, e10, e12, rfl, rfl⟩
 ·have H3 := hid h3
  clear h3
  clear HCL
  go_wp2_with fail
  generalize u2.setCell ⟨w.heap.size + 1, 1, none⟩ (.int .u64 (t : Int)) = v2 at *
  clear c0 c1 cl cf HM2 HS1
  refine (H3.out _ HS2.out.ri).mono ?_
  rintro e u3 ⟨rfl, hi, hg⟩
  have HM3 := hid (HS2.out.moved hi hg)
  clear hi hg
  have HS3 := hid (show RdX w R b (w.heap.size + 1) ZS (deL ({ De.of n t with shop := X } : De) none 0 none 0) none ([]) sf (((u3.setCell ⟨w.heap.size + 1, 2, none⟩ (.string (ofL X.name))).setCell ⟨w.heap.size + 1, 3, none⟩ (.int .u8 (X.sort : Int))).setCell ⟨w.heap.size + 1, 4, none⟩ (.string (ofL X.to))) from (((HM3.out.put 2 (.string (ofL X.name)) (by show _ < 29; omega)).put 3 (.int .u8 (X.sort : Int)) (by show _ < 29; omega)).put 4 (.string (ofL X.to)) (by show _ < 29; omega)))
  have c2 := HM3.out.m.cs 2 _ rfl
  have c3 := HM3.out.m.cs 3 _ rfl
  have c4 := HM3.out.m.cs 4 _ rfl
  have cl := HM3.out.m.lt
  have cf : ∀ j, u3.frozen? ⟨w.heap.size + 1, j, none⟩ = false := HM3.out.m.s
  go_upto_region 29 with fail
  generalize (((u3.setCell ⟨w.heap.size + 1, 2, none⟩ (.string (ofL X.name))).setCell ⟨w.heap.size + 1, 3, none⟩ (.int .u8 (X.sort : Int))).setCell ⟨w.heap.size + 1, 4, none⟩ (.string (ofL X.to))) = v3 at *
  clear c2 c3 c4 cl cf HM3 HS2
  rw [HZS.out] at HS3
  go_wp2_with (first | (refine HS3.out.ld (by rfl) _ (by rfl) (by rfl) ?_) | (refine HS3.out.st (by rfl) _ _ (by rfl) (by rfl) (by rfl) ?_))
  obtain ⟨hF, hI, hG, hP⟩ := HS3.out.ends (deL ({ De.of n t with shop := X } : De) none 0 none 0) rfl
  generalize v3.setCells w.heap.size 0 (deL ({ De.of n t with shop := X } : De) none 0 none 0) = WW at *
  exact bodyPost_ret (by simp [results, Tryz.results27, asAddr]; exact de_res _ _ _ _ _ _ _ hF.cs) rfl ⟨none, 0, none, 0, rfl, Nat.le_refl _, Nat.le_refl _, Prs.nil _ _, Prs.nil _ _, hI, hG, (fun a ha => by cases ha), (fun a ha => by cases ha)⟩
 ·have H3 := hid h3
  clear h3
  clear HCL
  rcases hg with e1 | ⟨e1, e3⟩ | ⟨e1, e3, e7⟩
  all_goals
   go_wp2_with fail
   generalize u2.setCell ⟨w.heap.size + 1, 1, none⟩ (.int .u64 (t : Int)) = v2 at *
   clear c0 c1 cl cf HM2 HS1
   refine (H3.out _ HS2.out.ri).mono ?_
   rintro e u3 ⟨rfl, hi, hg⟩
   have HM3 := hid (HS2.out.moved hi hg)
   clear hi hg
   have HS3 := hid (show RdX w R b (w.heap.size + 1) ZS (deL ({ De.of n t with name := N } : De) none 0 none 0) none ([]) sf (u3.setCell ⟨w.heap.size + 1, 15, none⟩ (.string (ofL N))) from (HM3.out.put 15 (.string (ofL N)) (by show _ < 29; omega)))
   have c15 := HM3.out.m.cs 15 _ rfl
   have cl := HM3.out.m.lt
   have cf : ∀ j, u3.frozen? ⟨w.heap.size + 1, j, none⟩ = false := HM3.out.m.s
   go_upto_region 29 with fail
   generalize (u3.setCell ⟨w.heap.size + 1, 15, none⟩ (.string (ofL N))) = v3 at *
   clear c15 cl cf HM3 HS2
   rw [HZS.out] at HS3
   go_wp2_with (first | (refine HS3.out.ld (by rfl) _ (by rfl) (by rfl) ?_) | (refine HS3.out.st (by rfl) _ _ (by rfl) (by rfl) (by rfl) ?_))
   obtain ⟨hF, hI, hG, hP⟩ := HS3.out.ends (deL ({ De.of n t with name := N } : De) none 0 none 0) rfl
   generalize v3.setCells w.heap.size 0 (deL ({ De.of n t with name := N } : De) none 0 none 0) = WW at *
   exact bodyPost_ret (by simp [results, Tryz.results27, asAddr]; exact de_res _ _ _ _ _ _ _ hF.cs) rfl ⟨none, 0, none, 0, rfl, Nat.le_refl _, Nat.le_refl _, Prs.nil _ _, Prs.nil _ _, hI, hG, (fun a ha => by cases ha), (fun a ha => by cases ha)⟩
 ·have H3 := hid h3
  clear h3
  clear HCL
  go_wp2_with fail
  generalize u2.setCell ⟨w.heap.size + 1, 1, none⟩ (.int .u64 (t : Int)) = v2 at *
  clear c0 c1 cl cf HM2 HS1
  refine (H3.out _ HS2.out.ri).mono ?_
  rintro e u3 ⟨rfl, hi, hg⟩
  have HM3 := hid (HS2.out.moved hi hg)
  clear hi hg
  have HS3 := hid (show RdX w R b (w.heap.size + 1) ZS (deL ({ De.of n t with q := X } : De) none 0 none 0) none ([]) sf ((((u3.setCell ⟨w.heap.size + 1, 5, none⟩ (.string (ofL X.name))).setCell ⟨w.heap.size + 1, 6, none⟩ (.int .u64 (X.most : Int))).setCell ⟨w.heap.size + 1, 7, none⟩ (.int .u64 (X.life : Int))).setCell ⟨w.heap.size + 1, 8, none⟩ (.string (ofL X.dead))) from ((((HM3.out.put 5 (.string (ofL X.name)) (by show _ < 29; omega)).put 6 (.int .u64 (X.most : Int)) (by show _ < 29; omega)).put 7 (.int .u64 (X.life : Int)) (by show _ < 29; omega)).put 8 (.string (ofL X.dead)) (by show _ < 29; omega)))
  have c5 := HM3.out.m.cs 5 _ rfl
  have c6 := HM3.out.m.cs 6 _ rfl
  have c7 := HM3.out.m.cs 7 _ rfl
  have c8 := HM3.out.m.cs 8 _ rfl
  have cl := HM3.out.m.lt
  have cf : ∀ j, u3.frozen? ⟨w.heap.size + 1, j, none⟩ = false := HM3.out.m.s
  go_upto_region 29 with fail
  generalize ((((u3.setCell ⟨w.heap.size + 1, 5, none⟩ (.string (ofL X.name))).setCell ⟨w.heap.size + 1, 6, none⟩ (.int .u64 (X.most : Int))).setCell ⟨w.heap.size + 1, 7, none⟩ (.int .u64 (X.life : Int))).setCell ⟨w.heap.size + 1, 8, none⟩ (.string (ofL X.dead))) = v3 at *
  clear c5 c6 c7 c8 cl cf HM3 HS2
  rw [HZS.out] at HS3
  go_wp2_with (first | (refine HS3.out.ld (by rfl) _ (by rfl) (by rfl) ?_) | (refine HS3.out.st (by rfl) _ _ (by rfl) (by rfl) (by rfl) ?_))
  obtain ⟨hF, hI, hG, hP⟩ := HS3.out.ends (deL ({ De.of n t with q := X } : De) none 0 none 0) rfl
  generalize v3.setCells w.heap.size 0 (deL ({ De.of n t with q := X } : De) none 0 none 0) = WW at *
  exact bodyPost_ret (by simp [results, Tryz.results27, asAddr]; exact de_res _ _ _ _ _ _ _ hF.cs) rfl ⟨none, 0, none, 0, rfl, Nat.le_refl _, Nat.le_refl _, Prs.nil _ _, Prs.nil _ _, hI, hG, (fun a ha => by cases ha), (fun a ha => by cases ha)⟩
 ·have H3 := hid h3
  clear h3
  clear HCL
  rcases hg with e4 | ⟨e4, e5⟩
  all_goals
   go_wp2_with fail
   generalize u2.setCell ⟨w.heap.size + 1, 1, none⟩ (.int .u64 (t : Int)) = v2 at *
   clear c0 c1 cl cf HM2 HS1
   refine (H3.out _ HS2.out.ri).mono ?_
   rintro e u3 ⟨A, c, rfl, hc, hp, hi, hg, hA⟩
   have HM3 := hid (HS2.out.moved hi hg)
   have HR := hid (HS2.out.rowOk hg hp hA)
   have HC := hid hc
   clear hi hg hc hp hA
   have HS3 := hid (show RdX w R b (w.heap.size + 1) ZS (deL ({ De.of n t with bind := X } : De) A c none 0) A (X.want) sf ((((((u3.setCell ⟨w.heap.size + 1, 9, none⟩ (.string (ofL X.shop))).setCell ⟨w.heap.size + 1, 10, none⟩ (.string (ofL X.to))).setCell ⟨w.heap.size + 1, 11, none⟩ (.bool X.up)).setCell ⟨w.heap.size + 1, 12, none⟩ (.string (ofL X.key))).setCell ⟨w.heap.size + 1, 13, none⟩ (.slice A X.want.length c)).setCell ⟨w.heap.size + 1, 14, none⟩ (.bool X.all)) from (((((((HM3.out.take HR.out.1 HR.out.2).put 9 (.string (ofL X.shop)) (by show _ < 29; omega)).put 10 (.string (ofL X.to)) (by show _ < 29; omega)).put 11 (.bool X.up) (by show _ < 29; omega)).put 12 (.string (ofL X.key)) (by show _ < 29; omega)).put 13 (.slice A X.want.length c) (by show _ < 29; omega)).put 14 (.bool X.all) (by show _ < 29; omega)))
   have c9 := HM3.out.m.cs 9 _ rfl
   have c10 := HM3.out.m.cs 10 _ rfl
   have c11 := HM3.out.m.cs 11 _ rfl
   have c12 := HM3.out.m.cs 12 _ rfl
   have c13 := HM3.out.m.cs 13 _ rfl
   have c14 := HM3.out.m.cs 14 _ rfl
   have cl := HM3.out.m.lt
   have cf : ∀ j, u3.frozen? ⟨w.heap.size + 1, j, none⟩ = false := HM3.out.m.s
   go_upto_region 29 with fail
   generalize ((((((u3.setCell ⟨w.heap.size + 1, 9, none⟩ (.string (ofL X.shop))).setCell ⟨w.heap.size + 1, 10, none⟩ (.string (ofL X.to))).setCell ⟨w.heap.size + 1, 11, none⟩ (.bool X.up)).setCell ⟨w.heap.size + 1, 12, none⟩ (.string (ofL X.key))).setCell ⟨w.heap.size + 1, 13, none⟩ (.slice A X.want.length c)).setCell ⟨w.heap.size + 1, 14, none⟩ (.bool X.all)) = v3 at *
   clear c9 c10 c11 c12 c13 c14 cl cf HM3 HS2
   rw [HZS.out] at HS3
   go_wp2_with (first | (refine HS3.out.ld (by rfl) _ (by rfl) (by rfl) ?_) | (refine HS3.out.st (by rfl) _ _ (by rfl) (by rfl) (by rfl) ?_))
   obtain ⟨hF, hI, hG, hP⟩ := HS3.out.ends (deL ({ De.of n t with bind := X } : De) A c none 0) rfl
   generalize v3.setCells w.heap.size 0 (deL ({ De.of n t with bind := X } : De) A c none 0) = WW at *
   exact bodyPost_ret (by simp [results, Tryz.results27, asAddr]; exact de_res _ _ _ _ _ _ _ hF.cs) rfl ⟨A, c, none, 0, rfl, HC.out, Nat.le_refl _, hP.1, Prs.nil _ _, hI, hG, hP.2, (fun a ha => by cases ha)⟩
 ·have H3 := hid h3
  clear h3
  clear HCL
  go_wp2_with fail
  generalize u2.setCell ⟨w.heap.size + 1, 1, none⟩ (.int .u64 (t : Int)) = v2 at *
  clear c0 c1 cl cf HM2 HS1
  refine (H3.out _ HS2.out.G HS2.out.ri).mono ?_
  rintro e u3 ⟨A, c, rfl, hc, hp, hi, hg, hA⟩
  have HM3 := hid (HS2.out.moved hi hg)
  have HR := hid (HS2.out.rowOk hg hp hA)
  have HC := hid hc
  clear hi hg hc hp hA
  have HS3 := hid (show RdX w R b (w.heap.size + 1) ZS (deL ({ De.of n t with mail := M } : De) none 0 A c) A (M.head) sf (((((((u3.setCell ⟨w.heap.size + 1, 21, none⟩ (.int .u64 (M.id : Int))).setCell ⟨w.heap.size + 1, 22, none⟩ (.string (ofL M.shop))).setCell ⟨w.heap.size + 1, 23, none⟩ (.string (ofL M.key))).setCell ⟨w.heap.size + 1, 24, none⟩ (.slice A M.head.length c)).setCell ⟨w.heap.size + 1, 25, none⟩ (.string (ofL M.body))).setCell ⟨w.heap.size + 1, 26, none⟩ (.int .u64 (M.due : Int))).setCell ⟨w.heap.size + 1, 27, none⟩ (.int .u8 (M.hops : Int))) from ((((((((HM3.out.take HR.out.1 HR.out.2).put 21 (.int .u64 (M.id : Int)) (by show _ < 29; omega)).put 22 (.string (ofL M.shop)) (by show _ < 29; omega)).put 23 (.string (ofL M.key)) (by show _ < 29; omega)).put 24 (.slice A M.head.length c) (by show _ < 29; omega)).put 25 (.string (ofL M.body)) (by show _ < 29; omega)).put 26 (.int .u64 (M.due : Int)) (by show _ < 29; omega)).put 27 (.int .u8 (M.hops : Int)) (by show _ < 29; omega)))
  have c21 := HM3.out.m.cs 21 _ rfl
  have c22 := HM3.out.m.cs 22 _ rfl
  have c23 := HM3.out.m.cs 23 _ rfl
  have c24 := HM3.out.m.cs 24 _ rfl
  have c25 := HM3.out.m.cs 25 _ rfl
  have c26 := HM3.out.m.cs 26 _ rfl
  have c27 := HM3.out.m.cs 27 _ rfl
  have cl := HM3.out.m.lt
  have cf : ∀ j, u3.frozen? ⟨w.heap.size + 1, j, none⟩ = false := HM3.out.m.s
  go_upto_region 29 with fail
  generalize (((((((u3.setCell ⟨w.heap.size + 1, 21, none⟩ (.int .u64 (M.id : Int))).setCell ⟨w.heap.size + 1, 22, none⟩ (.string (ofL M.shop))).setCell ⟨w.heap.size + 1, 23, none⟩ (.string (ofL M.key))).setCell ⟨w.heap.size + 1, 24, none⟩ (.slice A M.head.length c)).setCell ⟨w.heap.size + 1, 25, none⟩ (.string (ofL M.body))).setCell ⟨w.heap.size + 1, 26, none⟩ (.int .u64 (M.due : Int))).setCell ⟨w.heap.size + 1, 27, none⟩ (.int .u8 (M.hops : Int))) = v3 at *
  clear c21 c22 c23 c24 c25 c26 c27 cl cf HM3 HS2
  rw [HZS.out] at HS3
  go_wp2_with (first | (refine HS3.out.ld (by rfl) _ (by rfl) (by rfl) ?_) | (refine HS3.out.st (by rfl) _ _ (by rfl) (by rfl) (by rfl) ?_))
  obtain ⟨hF, hI, hG, hP⟩ := HS3.out.ends (deL ({ De.of n t with mail := M } : De) none 0 A c) rfl
  generalize v3.setCells w.heap.size 0 (deL ({ De.of n t with mail := M } : De) none 0 A c) = WW at *
  exact bodyPost_ret (by simp [results, Tryz.results27, asAddr]; exact de_res _ _ _ _ _ _ _ hF.cs) rfl ⟨none, 0, A, c, rfl, Nat.le_refl _, HC.out, Prs.nil _ _, hP.1, hI, hG, (fun a ha => by cases ha), hP.2⟩
 ·have H3 := hid h3
  have H4 := hid h4
  have H5 := hid h5
  clear h3 h4 h5
  clear HCL
  go_wp2_with fail
  generalize u2.setCell ⟨w.heap.size + 1, 1, none⟩ (.int .u64 (t : Int)) = v2 at *
  clear c0 c1 cl cf HM2 HS1
  refine (H3.out _ HS2.out.ri).mono ?_
  rintro e u3 ⟨rfl, hi, hg⟩
  have HM3 := hid (HS2.out.moved hi hg)
  clear hi hg
  have HS3 := hid (show RdX w R b (w.heap.size + 1) ZS (deL ({ De.of n t with name := N } : De) none 0 none 0) none ([]) s3 (u3.setCell ⟨w.heap.size + 1, 15, none⟩ (.string (ofL N))) from (HM3.out.put 15 (.string (ofL N)) (by show _ < 29; omega)))
  have c15 := HM3.out.m.cs 15 _ rfl
  have cl := HM3.out.m.lt
  have cf : ∀ j, u3.frozen? ⟨w.heap.size + 1, j, none⟩ = false := HM3.out.m.s
  go_wp2_with fail
  generalize (u3.setCell ⟨w.heap.size + 1, 15, none⟩ (.string (ofL N))) = v3 at *
  clear c15 cl cf HM3 HS2
  refine (H4.out _ HS3.out.ri).mono ?_
  rintro e u4 ⟨rfl, hi, hg⟩
  have HM4 := hid (HS3.out.moved hi hg)
  clear hi hg
  have HS4 := hid (show RdX w R b (w.heap.size + 1) ZS (deL ({ De.of n t with name := N, id := I } : De) none 0 none 0) none ([]) s4 (u4.setCell ⟨w.heap.size + 1, 16, none⟩ (.int .u64 (I : Int))) from (HM4.out.put 16 (.int .u64 (I : Int)) (by show _ < 29; omega)))
  have c16 := HM4.out.m.cs 16 _ rfl
  have cl := HM4.out.m.lt
  have cf : ∀ j, u4.frozen? ⟨w.heap.size + 1, j, none⟩ = false := HM4.out.m.s
  go_wp2_with fail
  generalize (u4.setCell ⟨w.heap.size + 1, 16, none⟩ (.int .u64 (I : Int))) = v4 at *
  clear c16 cl cf HM4 HS3
  refine (H5.out _ HS4.out.ri).mono ?_
  rintro e u5 ⟨rfl, hi, hg⟩
  have HM5 := hid (HS4.out.moved hi hg)
  clear hi hg
  have HS5 := hid (show RdX w R b (w.heap.size + 1) ZS (deL ({ De.of n t with name := N, id := I, how := O } : De) none 0 none 0) none ([]) sf (u5.setCell ⟨w.heap.size + 1, 17, none⟩ (.int .u8 (O : Int))) from (HM5.out.put 17 (.int .u8 (O : Int)) (by show _ < 29; omega)))
  have c17 := HM5.out.m.cs 17 _ rfl
  have cl := HM5.out.m.lt
  have cf : ∀ j, u5.frozen? ⟨w.heap.size + 1, j, none⟩ = false := HM5.out.m.s
  go_upto_region 29 with fail
  generalize (u5.setCell ⟨w.heap.size + 1, 17, none⟩ (.int .u8 (O : Int))) = v5 at *
  clear c17 cl cf HM5 HS4
  rw [HZS.out] at HS5
  go_wp2_with (first | (refine HS5.out.ld (by rfl) _ (by rfl) (by rfl) ?_) | (refine HS5.out.st (by rfl) _ _ (by rfl) (by rfl) (by rfl) ?_))
  obtain ⟨hF, hI, hG, hP⟩ := HS5.out.ends (deL ({ De.of n t with name := N, id := I, how := O } : De) none 0 none 0) rfl
  generalize v5.setCells w.heap.size 0 (deL ({ De.of n t with name := N, id := I, how := O } : De) none 0 none 0) = WW at *
  exact bodyPost_ret (by simp [results, Tryz.results27, asAddr]; exact de_res _ _ _ _ _ _ _ hF.cs) rfl ⟨none, 0, none, 0, rfl, Nat.le_refl _, Nat.le_refl _, Prs.nil _ _, Prs.nil _ _, hI, hG, (fun a ha => by cases ha), (fun a ha => by cases ha)⟩
 ·have H3 := hid h3
  have H4 := hid h4
  have H5 := hid h5
  clear h3 h4 h5
  clear HCL
  go_wp2_with fail
  generalize u2.setCell ⟨w.heap.size + 1, 1, none⟩ (.int .u64 (t : Int)) = v2 at *
  clear c0 c1 cl cf HM2 HS1
  refine (H3.out _ HS2.out.ri).mono ?_
  rintro e u3 ⟨rfl, hi, hg⟩
  have HM3 := hid (HS2.out.moved hi hg)
  clear hi hg
  have HS3 := hid (show RdX w R b (w.heap.size + 1) ZS (deL ({ De.of n t with frm := F } : De) none 0 none 0) none ([]) s3 (u3.setCell ⟨w.heap.size + 1, 18, none⟩ (.int .u8 (F : Int))) from (HM3.out.put 18 (.int .u8 (F : Int)) (by show _ < 29; omega)))
  have c18 := HM3.out.m.cs 18 _ rfl
  have cl := HM3.out.m.lt
  have cf : ∀ j, u3.frozen? ⟨w.heap.size + 1, j, none⟩ = false := HM3.out.m.s
  go_wp2_with fail
  generalize (u3.setCell ⟨w.heap.size + 1, 18, none⟩ (.int .u8 (F : Int))) = v3 at *
  clear c18 cl cf HM3 HS2
  refine (H4.out _ HS3.out.ri).mono ?_
  rintro e u4 ⟨rfl, hi, hg⟩
  have HM4 := hid (HS3.out.moved hi hg)
  clear hi hg
  have HS4 := hid (show RdX w R b (w.heap.size + 1) ZS (deL ({ De.of n t with frm := F, num := I } : De) none 0 none 0) none ([]) s4 (u4.setCell ⟨w.heap.size + 1, 20, none⟩ (.int .u64 (I : Int))) from (HM4.out.put 20 (.int .u64 (I : Int)) (by show _ < 29; omega)))
  have c20 := HM4.out.m.cs 20 _ rfl
  have cl := HM4.out.m.lt
  have cf : ∀ j, u4.frozen? ⟨w.heap.size + 1, j, none⟩ = false := HM4.out.m.s
  go_wp2_with fail
  generalize (u4.setCell ⟨w.heap.size + 1, 20, none⟩ (.int .u64 (I : Int))) = v4 at *
  clear c20 cl cf HM4 HS3
  refine (H5.out _ HS4.out.G HS4.out.ri).mono ?_
  rintro e u5 ⟨A, c, rfl, hc, hp, hi, hg, hA⟩
  have HM5 := hid (HS4.out.moved hi hg)
  have HR := hid (HS4.out.rowOk hg hp hA)
  have HC := hid hc
  clear hi hg hc hp hA
  have HS5 := hid (show RdX w R b (w.heap.size + 1) ZS (deL ({ De.of n t with frm := F, num := I, mail := M } : De) none 0 A c) A (M.head) sf (((((((u5.setCell ⟨w.heap.size + 1, 21, none⟩ (.int .u64 (M.id : Int))).setCell ⟨w.heap.size + 1, 22, none⟩ (.string (ofL M.shop))).setCell ⟨w.heap.size + 1, 23, none⟩ (.string (ofL M.key))).setCell ⟨w.heap.size + 1, 24, none⟩ (.slice A M.head.length c)).setCell ⟨w.heap.size + 1, 25, none⟩ (.string (ofL M.body))).setCell ⟨w.heap.size + 1, 26, none⟩ (.int .u64 (M.due : Int))).setCell ⟨w.heap.size + 1, 27, none⟩ (.int .u8 (M.hops : Int))) from ((((((((HM5.out.take HR.out.1 HR.out.2).put 21 (.int .u64 (M.id : Int)) (by show _ < 29; omega)).put 22 (.string (ofL M.shop)) (by show _ < 29; omega)).put 23 (.string (ofL M.key)) (by show _ < 29; omega)).put 24 (.slice A M.head.length c) (by show _ < 29; omega)).put 25 (.string (ofL M.body)) (by show _ < 29; omega)).put 26 (.int .u64 (M.due : Int)) (by show _ < 29; omega)).put 27 (.int .u8 (M.hops : Int)) (by show _ < 29; omega)))
  have c21 := HM5.out.m.cs 21 _ rfl
  have c22 := HM5.out.m.cs 22 _ rfl
  have c23 := HM5.out.m.cs 23 _ rfl
  have c24 := HM5.out.m.cs 24 _ rfl
  have c25 := HM5.out.m.cs 25 _ rfl
  have c26 := HM5.out.m.cs 26 _ rfl
  have c27 := HM5.out.m.cs 27 _ rfl
  have cl := HM5.out.m.lt
  have cf : ∀ j, u5.frozen? ⟨w.heap.size + 1, j, none⟩ = false := HM5.out.m.s
  go_upto_region 29 with fail
  generalize (((((((u5.setCell ⟨w.heap.size + 1, 21, none⟩ (.int .u64 (M.id : Int))).setCell ⟨w.heap.size + 1, 22, none⟩ (.string (ofL M.shop))).setCell ⟨w.heap.size + 1, 23, none⟩ (.string (ofL M.key))).setCell ⟨w.heap.size + 1, 24, none⟩ (.slice A M.head.length c)).setCell ⟨w.heap.size + 1, 25, none⟩ (.string (ofL M.body))).setCell ⟨w.heap.size + 1, 26, none⟩ (.int .u64 (M.due : Int))).setCell ⟨w.heap.size + 1, 27, none⟩ (.int .u8 (M.hops : Int))) = v5 at *
  clear c21 c22 c23 c24 c25 c26 c27 cl cf HM5 HS4
  rw [HZS.out] at HS5
  go_wp2_with (first | (refine HS5.out.ld (by rfl) _ (by rfl) (by rfl) ?_) | (refine HS5.out.st (by rfl) _ _ (by rfl) (by rfl) (by rfl) ?_))
  obtain ⟨hF, hI, hG, hP⟩ := HS5.out.ends (deL ({ De.of n t with frm := F, num := I, mail := M } : De) none 0 A c) rfl
  generalize v5.setCells w.heap.size 0 (deL ({ De.of n t with frm := F, num := I, mail := M } : De) none 0 A c) = WW at *
  exact bodyPost_ret (by simp [results, Tryz.results27, asAddr]; exact de_res _ _ _ _ _ _ _ hF.cs) rfl ⟨none, 0, A, c, rfl, Nat.le_refl _, HC.out, Prs.nil _ _, hP.1, hI, hG, (fun a ha => by cases ha), hP.2⟩
 ·have H3 := hid h3
  have H4 := hid h4
  clear h3 h4
  clear HCL
  go_wp2_with fail
  generalize u2.setCell ⟨w.heap.size + 1, 1, none⟩ (.int .u64 (t : Int)) = v2 at *
  clear c0 c1 cl cf HM2 HS1
  refine (H3.out _ HS2.out.ri).mono ?_
  rintro e u3 ⟨rfl, hi, hg⟩
  have HM3 := hid (HS2.out.moved hi hg)
  clear hi hg
  have HS3 := hid (show RdX w R b (w.heap.size + 1) ZS (deL ({ De.of n t with cd := F } : De) none 0 none 0) none ([]) s3 (u3.setCell ⟨w.heap.size + 1, 19, none⟩ (.int .u8 (F : Int))) from (HM3.out.put 19 (.int .u8 (F : Int)) (by show _ < 29; omega)))
  have c19 := HM3.out.m.cs 19 _ rfl
  have cl := HM3.out.m.lt
  have cf : ∀ j, u3.frozen? ⟨w.heap.size + 1, j, none⟩ = false := HM3.out.m.s
  go_wp2_with fail
  generalize (u3.setCell ⟨w.heap.size + 1, 19, none⟩ (.int .u8 (F : Int))) = v3 at *
  clear c19 cl cf HM3 HS2
  refine (H4.out _ HS3.out.ri).mono ?_
  rintro e u4 ⟨rfl, hi, hg⟩
  have HM4 := hid (HS3.out.moved hi hg)
  clear hi hg
  have HS4 := hid (show RdX w R b (w.heap.size + 1) ZS (deL ({ De.of n t with cd := F, text := N } : De) none 0 none 0) none ([]) sf (u4.setCell ⟨w.heap.size + 1, 28, none⟩ (.string (ofL N))) from (HM4.out.put 28 (.string (ofL N)) (by show _ < 29; omega)))
  have c28 := HM4.out.m.cs 28 _ rfl
  have cl := HM4.out.m.lt
  have cf : ∀ j, u4.frozen? ⟨w.heap.size + 1, j, none⟩ = false := HM4.out.m.s
  go_upto_region 29 with fail
  generalize (u4.setCell ⟨w.heap.size + 1, 28, none⟩ (.string (ofL N))) = v4 at *
  clear c28 cl cf HM4 HS3
  rw [HZS.out] at HS4
  go_wp2_with (first | (refine HS4.out.ld (by rfl) _ (by rfl) (by rfl) ?_) | (refine HS4.out.st (by rfl) _ _ (by rfl) (by rfl) (by rfl) ?_))
  obtain ⟨hF, hI, hG, hP⟩ := HS4.out.ends (deL ({ De.of n t with cd := F, text := N } : De) none 0 none 0) rfl
  generalize v4.setCells w.heap.size 0 (deL ({ De.of n t with cd := F, text := N } : De) none 0 none 0) = WW at *
  exact bodyPost_ret (by simp [results, Tryz.results27, asAddr]; exact de_res _ _ _ _ _ _ _ hF.cs) rfl ⟨none, 0, none, 0, rfl, Nat.le_refl _, Nat.le_refl _, Prs.nil _ _, Prs.nil _ _, hI, hG, (fun a ha => by cases ha), (fun a ha => by cases ha)⟩
 ·clear HCL
  go_upto_region 29 with fail
  generalize u2.setCell ⟨w.heap.size + 1, 1, none⟩ (.int .u64 (t : Int)) = v2 at *
  clear c0 c1 cl cf HM2 HS1
  rw [HZS.out] at HS2
  go_wp2_with (first | (refine HS2.out.ld (by rfl) _ (by rfl) (by rfl) ?_) | (refine HS2.out.st (by rfl) _ _ (by rfl) (by rfl) (by rfl) ?_))
  obtain ⟨hF, hI, hG, hP⟩ := HS2.out.ends (deL (De.of n t) none 0 none 0) rfl
  generalize v2.setCells w.heap.size 0 (deL (De.of n t) none 0 none 0) = WW at *
  exact bodyPost_ret (by simp [results, Tryz.results27, asAddr]; exact de_res _ _ _ _ _ _ _ hF.cs) rfl ⟨none, 0, none, 0, rfl, Nat.le_refl _, Nat.le_refl _, Prs.nil _ _, Prs.nil _ _, hI, hG, (fun a ha => by cases ha), (fun a ha => by cases ha)⟩
theorem ddread_any (b : Nat) (s : LSt) (w : World) (h : InL b s w) (hok : lOk s) (hL : ∀ W, w.grownBy W (some b) → Len W) : Calls Tryz.prog 27 #[.pointer (some ⟨b, 0, none⟩)] w (DeRd (InL b) b w (De.rd s).1 (De.rd s).2) := by
 have o0 := De.ok_r0 hok
 have g := fun sf D hc => ddread_core b (InL b) (rdr_in b) s (De.r1 s) (De.r0 s) sf (De.rt s) (De.rk s) D w (fun W h => ddreadSmall_any b s W h hok) (fun W h => inum_l b _ 8 8 W (by omega) rfl h (De.ok_r1 hok)) hc h
 by_cases hk : De.rk s = 0
 ·have e : De.rd s = (({ De.of (De.rk s) (De.rt s) with shop := De.shA (De.r0 s) } : De), De.shE (De.r0 s)) := De.rdK_0 hk
  rw [e]
  dsimp only
  exact g _ _ (.inl ⟨De.shA (De.r0 s), eq_dec hk, (fun W h => ddreadShop_any b (De.r0 s) W h o0), rfl⟩)
 have k0 := hk
 clear hk
 by_cases hk : De.rk s = 1 ∨ De.rk s = 3 ∨ De.rk s = 7
 ·have e : De.rd s = (({ De.of (De.rk s) (De.rt s) with name := lTextOut (De.r0 s) 16 } : De), lText (De.r0 s) 16) := De.rdK_3 (by omega) (by omega) (by omega) hk
  rw [e]
  dsimp only
  exact g _ _ (.inr (.inl ⟨lTextOut (De.r0 s) 16, ne_dec (m := 0) (by omega), ne_dec (m := 2) (by omega), ne_dec (m := 4) (by omega), ne_dec (m := 5) (by omega), by rcases hk with h | h | h; exact .inl (eq_dec h); exact .inr (.inl ⟨ne_dec (m := 1) (by omega), eq_dec h⟩); exact .inr (.inr ⟨ne_dec (m := 1) (by omega), ne_dec (m := 3) (by omega), eq_dec h⟩), (fun W h => itext_l b _ 16 W h o0), rfl⟩))
 have k1 := hk
 clear hk
 by_cases hk : De.rk s = 2
 ·have e : De.rd s = (({ De.of (De.rk s) (De.rt s) with q := De.quA (De.r0 s) } : De), De.quE (De.r0 s)) := De.rdK_1 (by omega) hk
  rw [e]
  dsimp only
  exact g _ _ (.inr (.inr (.inl ⟨De.quA (De.r0 s), ne_dec (m := 0) (by omega), eq_dec hk, (fun W h => ddreadQueue_any b (De.r0 s) W h o0), rfl⟩)))
 have k2 := hk
 clear hk
 by_cases hk : De.rk s = 4 ∨ De.rk s = 5
 ·have e : De.rd s = (({ De.of (De.rk s) (De.rt s) with bind := De.bdA (De.r0 s) } : De), De.bdR (De.r0 s)) := De.rdK_2 (by omega) (by omega) hk
  rw [e]
  dsimp only
  exact g _ _ (.inr (.inr (.inr (.inl ⟨De.bdA (De.r0 s), ne_dec (m := 0) (by omega), ne_dec (m := 2) (by omega), by rcases hk with h | h; exact .inl (eq_dec h); exact .inr ⟨ne_dec (m := 4) (by omega), eq_dec h⟩, (fun W h => ddreadBind_any b (De.r0 s) W h o0), rfl⟩))))
 have k4 := hk
 clear hk
 by_cases hk : De.rk s = 6
 ·have e : De.rd s = (({ De.of (De.rk s) (De.rt s) with mail := (Ml.rd (De.r0 s)).1 } : De), (Ml.rd (De.r0 s)).2) := De.rdK_4 (by omega) (by omega) (by omega) (by omega) hk
  rw [e]
  dsimp only
  exact g _ _ (.inr (.inr (.inr (.inr (.inl ⟨(Ml.rd (De.r0 s)).1, ne_dec (m := 0) (by omega), ne_dec (m := 2) (by omega), ne_dec (m := 4) (by omega), ne_dec (m := 5) (by omega), ne_dec (m := 1) (by omega), ne_dec (m := 3) (by omega), ne_dec (m := 7) (by omega), eq_dec hk, (fun W hg h => maRead_any b _ W o0 (fun W2 hg2 => hL W2 (hg.trans hg2)) h), rfl⟩)))))
 have k6 := hk
 clear hk
 by_cases hk : De.rk s = 8
 ·have e : De.rd s = (({ De.of (De.rk s) (De.rt s) with name := lTextOut (De.r0 s) 16, id := De.n8 (lText (De.r0 s) 16), how := De.n1 (De.r8 (lText (De.r0 s) 16)) } : De), De.r1 (De.r8 (lText (De.r0 s) 16))) := De.rdK_5 (by omega) (by omega) (by omega) (by omega) (by omega) hk
  rw [e]
  dsimp only
  exact g _ _ (.inr (.inr (.inr (.inr (.inr (.inl ⟨lTextOut (De.r0 s) 16, De.n8 (lText (De.r0 s) 16), De.n1 (De.r8 (lText (De.r0 s) 16)), lText (De.r0 s) 16, De.r8 (lText (De.r0 s) 16), ne_dec (m := 0) (by omega), ne_dec (m := 2) (by omega), ne_dec (m := 4) (by omega), ne_dec (m := 5) (by omega), ne_dec (m := 1) (by omega), ne_dec (m := 3) (by omega), ne_dec (m := 7) (by omega), ne_dec (m := 6) (by omega), eq_dec hk, (fun W h => itext_l b _ 16 W h o0), (fun W h => inum_l b _ 8 8 W (by omega) rfl h (lOk_text o0 _)), (fun W h => ddreadSmall_any b _ W h (De.ok_r8 (lOk_text o0 _))), rfl⟩))))))
 have k8 := hk
 clear hk
 by_cases hk : De.rk s = 10
 ·have e : De.rd s = (({ De.of (De.rk s) (De.rt s) with frm := De.n1 (De.r0 s), num := De.n8 (De.r1 (De.r0 s)), mail := (Ml.rd (De.r8 (De.r1 (De.r0 s)))).1 } : De), (Ml.rd (De.r8 (De.r1 (De.r0 s)))).2) := De.rdK_6 (by omega) (by omega) (by omega) (by omega) (by omega) (by omega) hk
  rw [e]
  dsimp only
  exact g _ _ (.inr (.inr (.inr (.inr (.inr (.inr (.inl ⟨De.n1 (De.r0 s), De.n8 (De.r1 (De.r0 s)), (Ml.rd (De.r8 (De.r1 (De.r0 s)))).1, De.r1 (De.r0 s), De.r8 (De.r1 (De.r0 s)), ne_dec (m := 0) (by omega), ne_dec (m := 2) (by omega), ne_dec (m := 4) (by omega), ne_dec (m := 5) (by omega), ne_dec (m := 1) (by omega), ne_dec (m := 3) (by omega), ne_dec (m := 7) (by omega), ne_dec (m := 6) (by omega), ne_dec (m := 8) (by omega), eq_dec hk, (fun W h => ddreadSmall_any b _ W h o0), (fun W h => inum_l b _ 8 8 W (by omega) rfl h (De.ok_r1 o0)), (fun W hg h => maRead_any b _ W (De.ok_r8 (De.ok_r1 o0)) (fun W2 hg2 => hL W2 (hg.trans hg2)) h), rfl⟩)))))))
 have k10 := hk
 clear hk
 by_cases hk : De.rk s = 12
 ·have e : De.rd s = (({ De.of (De.rk s) (De.rt s) with cd := De.n1 (De.r0 s), text := lTextOut (De.r1 (De.r0 s)) 64 } : De), lText (De.r1 (De.r0 s)) 64) := De.rdK_7 (by omega) (by omega) (by omega) (by omega) (by omega) (by omega) (by omega) hk
  rw [e]
  dsimp only
  exact g _ _ (.inr (.inr (.inr (.inr (.inr (.inr (.inr (.inl ⟨De.n1 (De.r0 s), lTextOut (De.r1 (De.r0 s)) 64, De.r1 (De.r0 s), ne_dec (m := 0) (by omega), ne_dec (m := 2) (by omega), ne_dec (m := 4) (by omega), ne_dec (m := 5) (by omega), ne_dec (m := 1) (by omega), ne_dec (m := 3) (by omega), ne_dec (m := 7) (by omega), ne_dec (m := 6) (by omega), ne_dec (m := 8) (by omega), ne_dec (m := 10) (by omega), eq_dec hk, (fun W h => ddreadSmall_any b _ W h o0), (fun W h => itext_l b _ 64 W h (De.ok_r1 o0)), rfl⟩))))))))
 have k12 := hk
 clear hk
 have e : De.rd s = ((De.of (De.rk s) (De.rt s)), (De.r0 s)) := De.rdK_8 (by omega) (by omega) (by omega) (by omega) (by omega) (by omega) (by omega) (by omega)
 rw [e]
 dsimp only
 exact g _ _ (.inr (.inr (.inr (.inr (.inr (.inr (.inr (.inr ⟨ne_dec (m := 0) (by omega), ne_dec (m := 2) (by omega), ne_dec (m := 4) (by omega), ne_dec (m := 5) (by omega), ne_dec (m := 1) (by omega), ne_dec (m := 3) (by omega), ne_dec (m := 7) (by omega), ne_dec (m := 6) (by omega), ne_dec (m := 8) (by omega), ne_dec (m := 10) (by omega), ne_dec (m := 12) (by omega), rfl, rfl⟩))))))))
end Go.Proofs.YtaikigponkjkgaaGreatDoor
end
