/-
  WHAT IS READ INTO A BOX: kept; the program's readers of an exchange, a queue, a binding.
-/
import Derived.Test.YtaikigponkjkgaaGreatDoorDs40

section
namespace Go.Proofs.YtaikigponkjkgaaGreatDoor
open Go.ChangeShapes Go.WideShapes Go.ChangeAt Go.RowKit
/-- while something is read: the reader b, the box g, the answer's box, a row A of pairs that was read -/
structure RdX (w : World) (R : LSt → World → Prop) (b g : Nat) (zs xs : List Value) (A : Option Addr) (l : List Hd.Pr) (s : LSt) (W : World) : Prop where
  rd : Rder b R
  ri : R s W
  m : BoxC w g xs W
  q : BoxC w w.heap.size zs W
  hp : Prs W A l
  hA : ∀ a, A = some a → a.block ≠ b ∧ a.block ≠ g ∧ a.block ≠ w.heap.size ∧ w.heap.size ≤ a.block
  bl : b < w.heap.size
  gq : w.heap.size < g
  G : w.grownBy W (some b)
section
variable {w W W' : World} {R : LSt → World → Prop} {b g : Nat} {zs xs : List Value} {A : Option Addr} {l : List Hd.Pr} {s s' : LSt}
theorem RdX.moved (h : RdX w R b g zs xs A l s W) (hi : R s' W') (hg : W.grownBy W' (some b)) : RdX w R b g zs xs A l s' W' :=
  have hbl := h.bl
  have hgq := h.gq
  ⟨h.rd, hi, h.m.grown hg (by omega), h.q.grown hg (by omega), h.hp.grown hg (fun a ha e => (h.hA a ha).1 (Option.some.inj e)), h.hA, h.bl, h.gq, h.G.trans hg⟩
theorem RdX.on (h : RdX w R b g zs xs A l s W) (hb : Below W.heap.size W W') : RdX w R b g zs xs A l s W' :=
  ⟨h.rd, h.rd.on h.ri hb, h.m.on hb, h.q.on hb, h.hp.on hb, h.hA, h.bl, h.gq, grown_below h.G hb⟩
theorem RdX.put (h : RdX w R b g zs xs A l s W) (j : Nat) (v : Value) (hj : j < xs.length) : RdX w R b g zs (xs.set j v) A l s (W.setCell ⟨g, j, none⟩ v) :=
  have hbl := h.bl
  have hgq := h.gq
  ⟨h.rd, h.rd.put h.ri (by omega) j v, h.m.put j v hj, h.q.aside (by omega) j v, h.hp.aside (fun a ha e => (h.hA a ha).2.1 e.symm) j v, h.hA, h.bl, h.gq, grown_far h.G (by omega) j v⟩
theorem RdX.rowOk (h : RdX w R b g zs xs A l s W) (_hg : W.grownBy W' (some b)) {A' : Option Addr} {l' : List Hd.Pr} (hp : Prs W' A' l') (hA : ∀ a, A' = some a → W.heap.size ≤ a.block) : Prs W' A' l' ∧ ∀ a, A' = some a → a.block ≠ b ∧ a.block ≠ g ∧ a.block ≠ w.heap.size ∧ w.heap.size ≤ a.block :=
  ⟨hp, fun a ha => by
    have h1 := hA a ha
    have h2 := h.bl
    have h3 := h.gq
    have h4 := h.m.lt
    omega⟩
theorem RdX.take (h : RdX w R b g zs xs A l s W) {A' : Option Addr} {l' : List Hd.Pr} (hp : Prs W A' l') (hA : ∀ a, A' = some a → a.block ≠ b ∧ a.block ≠ g ∧ a.block ≠ w.heap.size ∧ w.heap.size ≤ a.block) : RdX w R b g zs xs A' l' s W :=
  ⟨h.rd, h.ri, h.m, h.q, hp, hA, h.bl, h.gq, h.G⟩
theorem RdX.ends (h : RdX w R b g zs xs A l s W) (ys : List Value) (hy : ys.length = zs.length) : BoxC w w.heap.size ys (W.setCells w.heap.size 0 ys) ∧ R s (W.setCells w.heap.size 0 ys) ∧ w.grownBy (W.setCells w.heap.size 0 ys) (some b) ∧ Prs (W.setCells w.heap.size 0 ys) A l ∧ ∀ a, A = some a → w.heap.size ≤ a.block :=
  have hbl := h.bl
  ⟨h.q.over ys hy, by rw [setCells_pa]; exact rdr_putAll h.rd (by omega) _ 0 h.ri, by rw [setCells_pa]; exact grown_putAll (Nat.le_refl _) _ 0 h.G, by rw [setCells_pa]; exact Prs.putAll (fun a ha e => (h.hA a ha).2.2.1 e.symm) _ 0 h.hp, fun a ha => (h.hA a ha).2.2.2⟩
theorem RdX.endp (h : RdX w R b g zs xs A l s W) (ys : List Value) (hy : ys.length = zs.length) : BoxC w w.heap.size ys (putAll w.heap.size 0 ys W) ∧ R s (putAll w.heap.size 0 ys W) ∧ w.grownBy (putAll w.heap.size 0 ys W) (some b) ∧ Prs (putAll w.heap.size 0 ys W) A l ∧ ∀ a, A = some a → w.heap.size ≤ a.block :=
  have hbl := h.bl
  ⟨h.q.fill ys hy, rdr_putAll h.rd (by omega) _ 0 h.ri, grown_putAll (Nat.le_refl _) _ 0 h.G, Prs.putAll (fun a ha e => (h.hA a ha).2.2.1 e.symm) _ 0 h.hp, fun a ha => (h.hA a ha).2.2.2⟩
end
theorem RdX.start {w : World} {R : LSt → World → Prop} {b : Nat} {s : LSt} (hR : Rder b R) (hi : R s w) (Z : Array Value) (t : TypeId) : RdX w R b (w.heap.size + 1) Z.toList Z.toList none [] s ((w.alloc (.cells Z t)).alloc (.cells Z t)) :=
  ⟨hR, hR.on hi (rtTwo w _ _), rtAt1 w _ Z t, rtNext (rtAt0 w Z t) _, Prs.nil _ _, (fun a ha => by cases ha), hR.lt hi, Nat.lt_succ_self _, Rw.gb (rtTwo w _ _) (some b)⟩
theorem ddreadSmall_any (b : Nat) (s : LSt) (w : World) (h : InL b s w) (hok : lOk s) : Calls Tryz.prog 57 #[.pointer (some ⟨b, 0, none⟩)] w (fun e w' => e = .returned (.int .u8 (De.n1 s : Int)) ∧ InL b (De.r1 s) w' ∧ w.grownBy w' (some b)) := by
  have H1 := Lib.hid (show Calls Tryz.prog 26 #[.pointer (some ⟨b, 0, none⟩), .int .i64 1] w (PostL b w (.int .u64 ((De.n1 s : Nat) : Int)) (De.r1 s)) from inum_l b s 1 1 w (by omega) rfl h hok)
  have hlt := De.n1_lt s
  have h8 : IntKind.u8.wrap (De.n1 s : Int) = (De.n1 s : Int) := by rw [show IntKind.u8.wrap (De.n1 s : Int) = (De.n1 s : Int) % 256 from rfl]; omega
  clear h hok hlt
  generalize De.n1 s = n at *
  generalize De.r1 s = s1 at *
  go_enter Tryz.func57, Tryz.ntmps57
  go_wp2_with fail
  refine H1.out.mono ?_
  rintro e w1 ⟨rfl, hi, hg⟩
  have HI := Lib.hid hi
  have HG := Lib.hid hg
  clear hi hg
  go_wp2_with fail
  (try simp only [h8])
  go_ret
  exact ⟨rfl, HI.out, HG.out⟩
set_option maxRecDepth 100000 in
set_option maxHeartbeats 16000000 in
theorem ddreadShop_core (b : Nat) (R : LSt → World → Prop) (hR : Rder b R) (s s1 s2 s3 : LSt) (N T : List UInt8) (K : Nat) (w : World)
    (h1 : ∀ W, R s W → Calls Tryz.prog 61 #[.pointer (some ⟨b, 0, none⟩), .int .i64 16] W (fun e w' => e = .returned (.string (ofL N)) ∧ R s1 w' ∧ W.grownBy w' (some b)))
    (h2 : ∀ W, R s1 W → Calls Tryz.prog 57 #[.pointer (some ⟨b, 0, none⟩)] W (fun e w' => e = .returned (.int .u8 (K : Int)) ∧ R s2 w' ∧ W.grownBy w' (some b)))
    (h3 : ∀ W, R s2 W → Calls Tryz.prog 61 #[.pointer (some ⟨b, 0, none⟩), .int .i64 16] W (fun e w' => e = .returned (.string (ofL T)) ∧ R s3 w' ∧ W.grownBy w' (some b)))
    (hi : R s w) : Calls Tryz.prog 58 #[.pointer (some ⟨b, 0, none⟩)] w (fun e w' => e = .returned (.agg #[.string (ofL N), .int .u8 (K : Int), .string (ofL T)]) ∧ R s3 w' ∧ w.grownBy w' (some b)) := by
  obtain ⟨ZS, hZS⟩ : ∃ ZS : List Value, ZS = [.string ⟨#[]⟩, .int .u8 0, .string ⟨#[]⟩] := ⟨_, rfl⟩
  have HS0 := Lib.hid (show RdX w R b (w.heap.size + 1) ZS ([.string ⟨#[]⟩, .int .u8 0, .string ⟨#[]⟩]) none [] s ((w.alloc (.cells #[.string ⟨#[]⟩, .int .u8 0, .string ⟨#[]⟩] 43)).alloc (.cells #[.string ⟨#[]⟩, .int .u8 0, .string ⟨#[]⟩] 43)) from hZS ▸ RdX.start hR hi #[.string ⟨#[]⟩, .int .u8 0, .string ⟨#[]⟩] 43)
  have H1 := Lib.hid h1
  have H2 := Lib.hid h2
  have H3 := Lib.hid h3
  have HRR := Lib.hid hR
  have HZS := Lib.hid hZS
  clear h1 h2 h3 hR hi hZS
  go_enter Tryz.func58, Tryz.ntmps58
  go_wp2_with fail
  generalize (w.alloc (.cells #[.string ⟨#[]⟩, .int .u8 0, .string ⟨#[]⟩] 43)).alloc (.cells #[.string ⟨#[]⟩, .int .u8 0, .string ⟨#[]⟩] 43) = v0 at *
  refine (H1.out _ HS0.out.ri).mono ?_
  rintro e u1 ⟨rfl, hi, hg⟩
  have HM1 := Lib.hid (HS0.out.moved hi hg)
  clear hi hg
  have HS1 := Lib.hid (show RdX w R b (w.heap.size + 1) ZS ([.string (ofL N), .int .u8 0, .string ⟨#[]⟩]) none ([]) s1 (u1.setCell ⟨w.heap.size + 1, 0, none⟩ (.string (ofL N))) from (HM1.out.put 0 (.string (ofL N)) (by show _ < 3; omega)))
  have c0 := HM1.out.m.cs 0 _ rfl
  have cl := HM1.out.m.lt
  have cf : ∀ j, u1.frozen? ⟨w.heap.size + 1, j, none⟩ = false := HM1.out.m.s
  go_wp2_with fail
  generalize (u1.setCell ⟨w.heap.size + 1, 0, none⟩ (.string (ofL N))) = v1 at *
  clear c0 cl cf HM1 HS0
  refine (H2.out _ HS1.out.ri).mono ?_
  rintro e u2 ⟨rfl, hi, hg⟩
  have HM2 := Lib.hid (HS1.out.moved hi hg)
  clear hi hg
  have HS2 := Lib.hid (show RdX w R b (w.heap.size + 1) ZS ([.string (ofL N), .int .u8 (K : Int), .string ⟨#[]⟩]) none ([]) s2 (u2.setCell ⟨w.heap.size + 1, 1, none⟩ (.int .u8 (K : Int))) from (HM2.out.put 1 (.int .u8 (K : Int)) (by show _ < 3; omega)))
  have c1 := HM2.out.m.cs 1 _ rfl
  have cl := HM2.out.m.lt
  have cf : ∀ j, u2.frozen? ⟨w.heap.size + 1, j, none⟩ = false := HM2.out.m.s
  go_wp2_with fail
  generalize (u2.setCell ⟨w.heap.size + 1, 1, none⟩ (.int .u8 (K : Int))) = v2 at *
  clear c1 cl cf HM2 HS1
  refine (H3.out _ HS2.out.ri).mono ?_
  rintro e u3 ⟨rfl, hi, hg⟩
  have HM3 := Lib.hid (HS2.out.moved hi hg)
  clear hi hg
  have HS3 := Lib.hid (show RdX w R b (w.heap.size + 1) ZS ([.string (ofL N), .int .u8 (K : Int), .string (ofL T)]) none ([]) s3 (u3.setCell ⟨w.heap.size + 1, 2, none⟩ (.string (ofL T))) from (HM3.out.put 2 (.string (ofL T)) (by show _ < 3; omega)))
  have c2 := HM3.out.m.cs 2 _ rfl
  have cl := HM3.out.m.lt
  have cf : ∀ j, u3.frozen? ⟨w.heap.size + 1, j, none⟩ = false := HM3.out.m.s
  go_upto_region 5 with fail
  generalize (u3.setCell ⟨w.heap.size + 1, 2, none⟩ (.string (ofL T))) = v3 at *
  clear c2 cl cf HM3 HS2
  rw [HZS.out] at HS3
  have c0 := HS3.out.m.cs 0 _ rfl
  have z0 := HS3.out.q.cs 0 _ rfl
  have c1 := HS3.out.m.cs 1 _ rfl
  have z1 := HS3.out.q.cs 1 _ rfl
  have c2 := HS3.out.m.cs 2 _ rfl
  have z2 := HS3.out.q.cs 2 _ rfl
  have cl := HS3.out.m.lt
  have zl := HS3.out.q.lt
  have cf := HS3.out.m.s
  unfold Soft at cf
  have zf := HS3.out.q.s
  unfold Soft at zf
  go_wp2_with fail
  obtain ⟨hF, hI, hG, hP⟩ := HS3.out.endp ([.string (ofL N), .int .u8 (K : Int), .string (ofL T)]) rfl
  simp only [putAll] at hF hI hG hP
  have g0 := hF.cs 0 _ rfl
  have g1 := hF.cs 1 _ rfl
  have g2 := hF.cs 2 _ rfl
  exact bodyPost_ret (v := .agg #[.string (ofL N), .int .u8 (K : Int), .string (ofL T)]) (by simp [results, Tryz.results58, go_sem, g0, g1, g2]) rfl ⟨rfl, hI, hG⟩
theorem ddreadShop_any (b : Nat) (s : LSt) (w : World) (h : InL b s w) (hok : lOk s) : Calls Tryz.prog 58 #[.pointer (some ⟨b, 0, none⟩)] w (fun e w' => e = .returned (.agg #[.string (ofL (De.shA s).name), .int .u8 ((De.shA s).sort : Int), .string (ofL (De.shA s).to)]) ∧ InL b (De.shE s) w' ∧ w.grownBy w' (some b)) := by
  have g := ddreadShop_core b (InL b) (rdr_in b) s (lText s 16) (De.r1 (lText s 16)) (lText (De.r1 (lText s 16)) 16) (lTextOut s 16) (lTextOut (De.r1 (lText s 16)) 16) (De.n1 (lText s 16)) w
    (fun W h => itext_l b s 16 W h hok) (fun W h => ddreadSmall_any b (lText s 16) W h (lOk_text hok _)) (fun W h => itext_l b (De.r1 (lText s 16)) 16 W h (De.ok_r1 (lOk_text hok _))) h
  unfold De.shA De.shE
  dsimp only
  exact g
set_option maxRecDepth 100000 in
set_option maxHeartbeats 16000000 in
theorem ddreadQueue_core (b : Nat) (R : LSt → World → Prop) (hR : Rder b R) (s s1 s2 s3 s4 : LSt) (N T : List UInt8) (K L : Nat) (w : World)
    (h1 : ∀ W, R s W → Calls Tryz.prog 61 #[.pointer (some ⟨b, 0, none⟩), .int .i64 16] W (fun e w' => e = .returned (.string (ofL N)) ∧ R s1 w' ∧ W.grownBy w' (some b)))
    (h2 : ∀ W, R s1 W → Calls Tryz.prog 26 #[.pointer (some ⟨b, 0, none⟩), .int .i64 8] W (fun e w' => e = .returned (.int .u64 (K : Int)) ∧ R s2 w' ∧ W.grownBy w' (some b)))
    (h3 : ∀ W, R s2 W → Calls Tryz.prog 26 #[.pointer (some ⟨b, 0, none⟩), .int .i64 8] W (fun e w' => e = .returned (.int .u64 (L : Int)) ∧ R s3 w' ∧ W.grownBy w' (some b)))
    (h4 : ∀ W, R s3 W → Calls Tryz.prog 61 #[.pointer (some ⟨b, 0, none⟩), .int .i64 16] W (fun e w' => e = .returned (.string (ofL T)) ∧ R s4 w' ∧ W.grownBy w' (some b)))
    (hi : R s w) : Calls Tryz.prog 59 #[.pointer (some ⟨b, 0, none⟩)] w (fun e w' => e = .returned (.agg #[.string (ofL N), .int .u64 (K : Int), .int .u64 (L : Int), .string (ofL T)]) ∧ R s4 w' ∧ w.grownBy w' (some b)) := by
  obtain ⟨ZS, hZS⟩ : ∃ ZS : List Value, ZS = [.string ⟨#[]⟩, .int .u64 0, .int .u64 0, .string ⟨#[]⟩] := ⟨_, rfl⟩
  have HS0 := Lib.hid (show RdX w R b (w.heap.size + 1) ZS ([.string ⟨#[]⟩, .int .u64 0, .int .u64 0, .string ⟨#[]⟩]) none [] s ((w.alloc (.cells #[.string ⟨#[]⟩, .int .u64 0, .int .u64 0, .string ⟨#[]⟩] 45)).alloc (.cells #[.string ⟨#[]⟩, .int .u64 0, .int .u64 0, .string ⟨#[]⟩] 45)) from hZS ▸ RdX.start hR hi #[.string ⟨#[]⟩, .int .u64 0, .int .u64 0, .string ⟨#[]⟩] 45)
  have H1 := Lib.hid h1
  have H2 := Lib.hid h2
  have H3 := Lib.hid h3
  have H4 := Lib.hid h4
  have HRR := Lib.hid hR
  have HZS := Lib.hid hZS
  clear h1 h2 h3 h4 hR hi hZS
  go_enter Tryz.func59, Tryz.ntmps59
  go_wp2_with fail
  generalize (w.alloc (.cells #[.string ⟨#[]⟩, .int .u64 0, .int .u64 0, .string ⟨#[]⟩] 45)).alloc (.cells #[.string ⟨#[]⟩, .int .u64 0, .int .u64 0, .string ⟨#[]⟩] 45) = v0 at *
  refine (H1.out _ HS0.out.ri).mono ?_
  rintro e u1 ⟨rfl, hi, hg⟩
  have HM1 := Lib.hid (HS0.out.moved hi hg)
  clear hi hg
  have HS1 := Lib.hid (show RdX w R b (w.heap.size + 1) ZS ([.string (ofL N), .int .u64 0, .int .u64 0, .string ⟨#[]⟩]) none ([]) s1 (u1.setCell ⟨w.heap.size + 1, 0, none⟩ (.string (ofL N))) from (HM1.out.put 0 (.string (ofL N)) (by show _ < 4; omega)))
  have c0 := HM1.out.m.cs 0 _ rfl
  have cl := HM1.out.m.lt
  have cf : ∀ j, u1.frozen? ⟨w.heap.size + 1, j, none⟩ = false := HM1.out.m.s
  go_wp2_with fail
  generalize (u1.setCell ⟨w.heap.size + 1, 0, none⟩ (.string (ofL N))) = v1 at *
  clear c0 cl cf HM1 HS0
  refine (H2.out _ HS1.out.ri).mono ?_
  rintro e u2 ⟨rfl, hi, hg⟩
  have HM2 := Lib.hid (HS1.out.moved hi hg)
  clear hi hg
  have HS2 := Lib.hid (show RdX w R b (w.heap.size + 1) ZS ([.string (ofL N), .int .u64 (K : Int), .int .u64 0, .string ⟨#[]⟩]) none ([]) s2 (u2.setCell ⟨w.heap.size + 1, 1, none⟩ (.int .u64 (K : Int))) from (HM2.out.put 1 (.int .u64 (K : Int)) (by show _ < 4; omega)))
  have c1 := HM2.out.m.cs 1 _ rfl
  have cl := HM2.out.m.lt
  have cf : ∀ j, u2.frozen? ⟨w.heap.size + 1, j, none⟩ = false := HM2.out.m.s
  go_wp2_with fail
  generalize (u2.setCell ⟨w.heap.size + 1, 1, none⟩ (.int .u64 (K : Int))) = v2 at *
  clear c1 cl cf HM2 HS1
  refine (H3.out _ HS2.out.ri).mono ?_
  rintro e u3 ⟨rfl, hi, hg⟩
  have HM3 := Lib.hid (HS2.out.moved hi hg)
  clear hi hg
  have HS3 := Lib.hid (show RdX w R b (w.heap.size + 1) ZS ([.string (ofL N), .int .u64 (K : Int), .int .u64 (L : Int), .string ⟨#[]⟩]) none ([]) s3 (u3.setCell ⟨w.heap.size + 1, 2, none⟩ (.int .u64 (L : Int))) from (HM3.out.put 2 (.int .u64 (L : Int)) (by show _ < 4; omega)))
  have c2 := HM3.out.m.cs 2 _ rfl
  have cl := HM3.out.m.lt
  have cf : ∀ j, u3.frozen? ⟨w.heap.size + 1, j, none⟩ = false := HM3.out.m.s
  go_wp2_with fail
  generalize (u3.setCell ⟨w.heap.size + 1, 2, none⟩ (.int .u64 (L : Int))) = v3 at *
  clear c2 cl cf HM3 HS2
  refine (H4.out _ HS3.out.ri).mono ?_
  rintro e u4 ⟨rfl, hi, hg⟩
  have HM4 := Lib.hid (HS3.out.moved hi hg)
  clear hi hg
  have HS4 := Lib.hid (show RdX w R b (w.heap.size + 1) ZS ([.string (ofL N), .int .u64 (K : Int), .int .u64 (L : Int), .string (ofL T)]) none ([]) s4 (u4.setCell ⟨w.heap.size + 1, 3, none⟩ (.string (ofL T))) from (HM4.out.put 3 (.string (ofL T)) (by show _ < 4; omega)))
  have c3 := HM4.out.m.cs 3 _ rfl
  have cl := HM4.out.m.lt
  have cf : ∀ j, u4.frozen? ⟨w.heap.size + 1, j, none⟩ = false := HM4.out.m.s
  go_upto_region 6 with fail
  generalize (u4.setCell ⟨w.heap.size + 1, 3, none⟩ (.string (ofL T))) = v4 at *
  clear c3 cl cf HM4 HS3
  rw [HZS.out] at HS4
  have c0 := HS4.out.m.cs 0 _ rfl
  have z0 := HS4.out.q.cs 0 _ rfl
  have c1 := HS4.out.m.cs 1 _ rfl
  have z1 := HS4.out.q.cs 1 _ rfl
  have c2 := HS4.out.m.cs 2 _ rfl
  have z2 := HS4.out.q.cs 2 _ rfl
  have c3 := HS4.out.m.cs 3 _ rfl
  have z3 := HS4.out.q.cs 3 _ rfl
  have cl := HS4.out.m.lt
  have zl := HS4.out.q.lt
  have cf := HS4.out.m.s
  unfold Soft at cf
  have zf := HS4.out.q.s
  unfold Soft at zf
  go_wp2_with fail
  obtain ⟨hF, hI, hG, hP⟩ := HS4.out.endp ([.string (ofL N), .int .u64 (K : Int), .int .u64 (L : Int), .string (ofL T)]) rfl
  simp only [putAll] at hF hI hG hP
  have g0 := hF.cs 0 _ rfl
  have g1 := hF.cs 1 _ rfl
  have g2 := hF.cs 2 _ rfl
  have g3 := hF.cs 3 _ rfl
  exact bodyPost_ret (v := .agg #[.string (ofL N), .int .u64 (K : Int), .int .u64 (L : Int), .string (ofL T)]) (by simp [results, Tryz.results59, go_sem, g0, g1, g2, g3]) rfl ⟨rfl, hI, hG⟩
theorem ddreadQueue_any (b : Nat) (s : LSt) (w : World) (h : InL b s w) (hok : lOk s) : Calls Tryz.prog 59 #[.pointer (some ⟨b, 0, none⟩)] w (fun e w' => e = .returned (.agg #[.string (ofL (De.quA s).name), .int .u64 ((De.quA s).most : Int), .int .u64 ((De.quA s).life : Int), .string (ofL (De.quA s).dead)]) ∧ InL b (De.quE s) w' ∧ w.grownBy w' (some b)) := by
  have g := ddreadQueue_core b (InL b) (rdr_in b) s (lText s 16) (De.r8 (lText s 16)) (De.r8 (De.r8 (lText s 16))) (lText (De.r8 (De.r8 (lText s 16))) 16) (lTextOut s 16) (lTextOut (De.r8 (De.r8 (lText s 16))) 16) (De.n8 (lText s 16)) (De.n8 (De.r8 (lText s 16))) w
    (fun W h => itext_l b s 16 W h hok) (fun W h => inum_l b (lText s 16) 8 8 W (by omega) rfl h (lOk_text hok _)) (fun W h => inum_l b (De.r8 (lText s 16)) 8 8 W (by omega) rfl h (De.ok_r8 (lOk_text hok _))) (fun W h => itext_l b (De.r8 (De.r8 (lText s 16))) 16 W h (De.ok_r8 (De.ok_r8 (lOk_text hok _)))) h
  unfold De.quA De.quE
  dsimp only
  exact g
set_option maxRecDepth 100000 in
set_option maxHeartbeats 16000000 in
theorem ddreadBind_core (b : Nat) (R : LSt → World → Prop) (hR : Rder b R) (s s1 s2 s3 s4 s5 s6 : LSt) (N T K : List UInt8) (I J : Nat) (U Y : Bool) (hU : ((I : Int) == 1) = U) (hY : ((J : Int) == 1) = Y) (H : List Hd.Pr) (w : World)
    (h1 : ∀ W, R s W → Calls Tryz.prog 61 #[.pointer (some ⟨b, 0, none⟩), .int .i64 16] W (fun e w' => e = .returned (.string (ofL N)) ∧ R s1 w' ∧ W.grownBy w' (some b)))
    (h2 : ∀ W, R s1 W → Calls Tryz.prog 61 #[.pointer (some ⟨b, 0, none⟩), .int .i64 16] W (fun e w' => e = .returned (.string (ofL T)) ∧ R s2 w' ∧ W.grownBy w' (some b)))
    (h3 : ∀ W, R s2 W → Calls Tryz.prog 57 #[.pointer (some ⟨b, 0, none⟩)] W (fun e w' => e = .returned (.int .u8 (I : Int)) ∧ R s3 w' ∧ W.grownBy w' (some b)))
    (h4 : ∀ W, R s3 W → Calls Tryz.prog 61 #[.pointer (some ⟨b, 0, none⟩), .int .i64 64] W (fun e w' => e = .returned (.string (ofL K)) ∧ R s4 w' ∧ W.grownBy w' (some b)))
    (h5 : ∀ W, R s4 W → Calls Tryz.prog 95 #[.pointer (some ⟨b, 0, none⟩)] W (fun e w' => ∃ A c, e = .returned (.slice A H.length c) ∧ H.length ≤ c ∧ Prs w' A H ∧ R s5 w' ∧ W.grownBy w' (some b) ∧ ∀ a, A = some a → W.heap.size ≤ a.block))
    (h6 : ∀ W, R s5 W → Calls Tryz.prog 57 #[.pointer (some ⟨b, 0, none⟩)] W (fun e w' => e = .returned (.int .u8 (J : Int)) ∧ R s6 w' ∧ W.grownBy w' (some b)))
    (hi : R s w) : Calls Tryz.prog 60 #[.pointer (some ⟨b, 0, none⟩)] w (fun e w' => ∃ A c, e = .returned (.agg #[.string (ofL N), .string (ofL T), .bool U, .string (ofL K), .slice A H.length c, .bool Y]) ∧ H.length ≤ c ∧ Prs w' A H ∧ R s6 w' ∧ w.grownBy w' (some b) ∧ ∀ a, A = some a → w.heap.size ≤ a.block) := by
  obtain ⟨ZS, hZS⟩ : ∃ ZS : List Value, ZS = [.string ⟨#[]⟩, .string ⟨#[]⟩, .bool false, .string ⟨#[]⟩, .slice none 0 0, .bool false] := ⟨_, rfl⟩
  have HS0 := Lib.hid (show RdX w R b (w.heap.size + 1) ZS ([.string ⟨#[]⟩, .string ⟨#[]⟩, .bool false, .string ⟨#[]⟩, .slice none 0 0, .bool false]) none [] s ((w.alloc (.cells #[.string ⟨#[]⟩, .string ⟨#[]⟩, .bool false, .string ⟨#[]⟩, .slice none 0 0, .bool false] 48)).alloc (.cells #[.string ⟨#[]⟩, .string ⟨#[]⟩, .bool false, .string ⟨#[]⟩, .slice none 0 0, .bool false] 48)) from hZS ▸ RdX.start hR hi #[.string ⟨#[]⟩, .string ⟨#[]⟩, .bool false, .string ⟨#[]⟩, .slice none 0 0, .bool false] 48)
  have H1 := Lib.hid h1
  have H2 := Lib.hid h2
  have H3 := Lib.hid h3
  have H4 := Lib.hid h4
  have H5 := Lib.hid h5
  have H6 := Lib.hid h6
  have HRR := Lib.hid hR
  have HZS := Lib.hid hZS
  clear h1 h2 h3 h4 h5 h6 hR hi hZS
  go_enter Tryz.func60, Tryz.ntmps60
  go_wp2_with fail
  generalize (w.alloc (.cells #[.string ⟨#[]⟩, .string ⟨#[]⟩, .bool false, .string ⟨#[]⟩, .slice none 0 0, .bool false] 48)).alloc (.cells #[.string ⟨#[]⟩, .string ⟨#[]⟩, .bool false, .string ⟨#[]⟩, .slice none 0 0, .bool false] 48) = v0 at *
  refine (H1.out _ HS0.out.ri).mono ?_
  rintro e u1 ⟨rfl, hi, hg⟩
  have HM1 := Lib.hid (HS0.out.moved hi hg)
  clear hi hg
  have HS1 := Lib.hid (show RdX w R b (w.heap.size + 1) ZS ([.string (ofL N), .string ⟨#[]⟩, .bool false, .string ⟨#[]⟩, .slice none 0 0, .bool false]) none ([]) s1 (u1.setCell ⟨w.heap.size + 1, 0, none⟩ (.string (ofL N))) from (HM1.out.put 0 (.string (ofL N)) (by show _ < 6; omega)))
  have c0 := HM1.out.m.cs 0 _ rfl
  have cl := HM1.out.m.lt
  have cf : ∀ j, u1.frozen? ⟨w.heap.size + 1, j, none⟩ = false := HM1.out.m.s
  go_wp2_with fail
  generalize (u1.setCell ⟨w.heap.size + 1, 0, none⟩ (.string (ofL N))) = v1 at *
  clear c0 cl cf HM1 HS0
  refine (H2.out _ HS1.out.ri).mono ?_
  rintro e u2 ⟨rfl, hi, hg⟩
  have HM2 := Lib.hid (HS1.out.moved hi hg)
  clear hi hg
  have HS2 := Lib.hid (show RdX w R b (w.heap.size + 1) ZS ([.string (ofL N), .string (ofL T), .bool false, .string ⟨#[]⟩, .slice none 0 0, .bool false]) none ([]) s2 (u2.setCell ⟨w.heap.size + 1, 1, none⟩ (.string (ofL T))) from (HM2.out.put 1 (.string (ofL T)) (by show _ < 6; omega)))
  have c1 := HM2.out.m.cs 1 _ rfl
  have cl := HM2.out.m.lt
  have cf : ∀ j, u2.frozen? ⟨w.heap.size + 1, j, none⟩ = false := HM2.out.m.s
  go_wp2_with fail
  generalize (u2.setCell ⟨w.heap.size + 1, 1, none⟩ (.string (ofL T))) = v2 at *
  clear c1 cl cf HM2 HS1
  refine (H3.out _ HS2.out.ri).mono ?_
  rintro e u3 ⟨rfl, hi, hg⟩
  have HM3 := Lib.hid (HS2.out.moved hi hg)
  clear hi hg
  have HS3 := Lib.hid (show RdX w R b (w.heap.size + 1) ZS ([.string (ofL N), .string (ofL T), .bool U, .string ⟨#[]⟩, .slice none 0 0, .bool false]) none ([]) s3 (u3.setCell ⟨w.heap.size + 1, 2, none⟩ (.bool U)) from (HM3.out.put 2 (.bool U) (by show _ < 6; omega)))
  have c2 := HM3.out.m.cs 2 _ rfl
  have cl := HM3.out.m.lt
  have cf : ∀ j, u3.frozen? ⟨w.heap.size + 1, j, none⟩ = false := HM3.out.m.s
  go_wp2_with fail
  generalize (u3.setCell ⟨w.heap.size + 1, 2, none⟩ (.bool U)) = v3 at *
  clear c2 cl cf HM3 HS2
  refine (H4.out _ HS3.out.ri).mono ?_
  rintro e u4 ⟨rfl, hi, hg⟩
  have HM4 := Lib.hid (HS3.out.moved hi hg)
  clear hi hg
  have HS4 := Lib.hid (show RdX w R b (w.heap.size + 1) ZS ([.string (ofL N), .string (ofL T), .bool U, .string (ofL K), .slice none 0 0, .bool false]) none ([]) s4 (u4.setCell ⟨w.heap.size + 1, 3, none⟩ (.string (ofL K))) from (HM4.out.put 3 (.string (ofL K)) (by show _ < 6; omega)))
  have c3 := HM4.out.m.cs 3 _ rfl
  have cl := HM4.out.m.lt
  have cf : ∀ j, u4.frozen? ⟨w.heap.size + 1, j, none⟩ = false := HM4.out.m.s
  go_wp2_with fail
  generalize (u4.setCell ⟨w.heap.size + 1, 3, none⟩ (.string (ofL K))) = v4 at *
  clear c3 cl cf HM4 HS3
  refine (H5.out _ HS4.out.ri).mono ?_
  rintro e u5 ⟨A, c, rfl, hc, hp, hi, hg, hA⟩
  have HM5 := Lib.hid (HS4.out.moved hi hg)
  have HR := Lib.hid (HS4.out.rowOk hg hp hA)
  have HC := Lib.hid hc
  clear hi hg hc hp hA
  have HS5 := Lib.hid (show RdX w R b (w.heap.size + 1) ZS ([.string (ofL N), .string (ofL T), .bool U, .string (ofL K), .slice A H.length c, .bool false]) A (H) s5 (u5.setCell ⟨w.heap.size + 1, 4, none⟩ (.slice A H.length c)) from ((HM5.out.take HR.out.1 HR.out.2).put 4 (.slice A H.length c) (by show _ < 6; omega)))
  have c4 := HM5.out.m.cs 4 _ rfl
  have cl := HM5.out.m.lt
  have cf : ∀ j, u5.frozen? ⟨w.heap.size + 1, j, none⟩ = false := HM5.out.m.s
  go_wp2_with fail
  generalize (u5.setCell ⟨w.heap.size + 1, 4, none⟩ (.slice A H.length c)) = v5 at *
  clear c4 cl cf HM5 HS4
  refine (H6.out _ HS5.out.ri).mono ?_
  rintro e u6 ⟨rfl, hi, hg⟩
  have HM6 := Lib.hid (HS5.out.moved hi hg)
  clear hi hg
  have HS6 := Lib.hid (show RdX w R b (w.heap.size + 1) ZS ([.string (ofL N), .string (ofL T), .bool U, .string (ofL K), .slice A H.length c, .bool Y]) A (H) s6 (u6.setCell ⟨w.heap.size + 1, 5, none⟩ (.bool Y)) from (HM6.out.put 5 (.bool Y) (by show _ < 6; omega)))
  have c5 := HM6.out.m.cs 5 _ rfl
  have cl := HM6.out.m.lt
  have cf : ∀ j, u6.frozen? ⟨w.heap.size + 1, j, none⟩ = false := HM6.out.m.s
  go_upto_region 8 with fail
  generalize (u6.setCell ⟨w.heap.size + 1, 5, none⟩ (.bool Y)) = v6 at *
  clear c5 cl cf HM6 HS5
  rw [HZS.out] at HS6
  have c0 := HS6.out.m.cs 0 _ rfl
  have z0 := HS6.out.q.cs 0 _ rfl
  have c1 := HS6.out.m.cs 1 _ rfl
  have z1 := HS6.out.q.cs 1 _ rfl
  have c2 := HS6.out.m.cs 2 _ rfl
  have z2 := HS6.out.q.cs 2 _ rfl
  have c3 := HS6.out.m.cs 3 _ rfl
  have z3 := HS6.out.q.cs 3 _ rfl
  have c4 := HS6.out.m.cs 4 _ rfl
  have z4 := HS6.out.q.cs 4 _ rfl
  have c5 := HS6.out.m.cs 5 _ rfl
  have z5 := HS6.out.q.cs 5 _ rfl
  have cl := HS6.out.m.lt
  have zl := HS6.out.q.lt
  have cf := HS6.out.m.s
  unfold Soft at cf
  have zf := HS6.out.q.s
  unfold Soft at zf
  go_wp2_with fail
  obtain ⟨hF, hI, hG, hP⟩ := HS6.out.endp ([.string (ofL N), .string (ofL T), .bool U, .string (ofL K), .slice A H.length c, .bool Y]) rfl
  simp only [putAll] at hF hI hG hP
  have g0 := hF.cs 0 _ rfl
  have g1 := hF.cs 1 _ rfl
  have g2 := hF.cs 2 _ rfl
  have g3 := hF.cs 3 _ rfl
  have g4 := hF.cs 4 _ rfl
  have g5 := hF.cs 5 _ rfl
  exact bodyPost_ret (v := .agg #[.string (ofL N), .string (ofL T), .bool U, .string (ofL K), .slice A H.length c, .bool Y]) (by simp [results, Tryz.results60, go_sem, g0, g1, g2, g3, g4, g5]) rfl ⟨A, c, rfl, HC.out, hP.1, hI, hG, hP.2⟩
theorem one_dec (n : Nat) : ((n : Int) == 1) = decide (n = 1) := by rw [Bool.eq_iff_iff]; simp; omega
theorem ddreadBind_any (b : Nat) (s : LSt) (w : World) (h : InL b s w) (hok : lOk s) : Calls Tryz.prog 60 #[.pointer (some ⟨b, 0, none⟩)] w (fun e w' => ∃ A c, e = .returned (.agg #[.string (ofL (De.bdA s).shop), .string (ofL (De.bdA s).to), .bool (De.bdA s).up, .string (ofL (De.bdA s).key), .slice A (De.bdA s).want.length c, .bool (De.bdA s).all]) ∧ (De.bdA s).want.length ≤ c ∧ Prs w' A (De.bdA s).want ∧ InL b (De.bdR s) w' ∧ w.grownBy w' (some b) ∧ ∀ a, A = some a → w.heap.size ≤ a.block) := by
  have o2 := lOk_text (lOk_text hok 16) 16
  have g := ddreadBind_core b (InL b) (rdr_in b) s (lText s 16) (lText (lText s 16) 16) (De.r1 (lText (lText s 16) 16)) (lText (De.r1 (lText (lText s 16) 16)) 64) (Hd.hread (lText (De.r1 (lText (lText s 16) 16)) 64)).2 (De.r1 (Hd.hread (lText (De.r1 (lText (lText s 16) 16)) 64)).2) (lTextOut s 16) (lTextOut (lText s 16) 16) (lTextOut (De.r1 (lText (lText s 16) 16)) 64) (De.n1 (lText (lText s 16) 16)) (De.n1 (Hd.hread (lText (De.r1 (lText (lText s 16) 16)) 64)).2) _ _ (one_dec _) (one_dec _) (Hd.hread (lText (De.r1 (lText (lText s 16) 16)) 64)).1 w
    (fun W h => itext_l b s 16 W h hok) (fun W h => itext_l b (lText s 16) 16 W h (lOk_text hok _)) (fun W h => ddreadSmall_any b (lText (lText s 16) 16) W h o2) (fun W h => itext_l b (De.r1 (lText (lText s 16) 16)) 64 W h (De.ok_r1 o2)) (fun W h => hread_any b (lText (De.r1 (lText (lText s 16) 16)) 64) W h (lOk_text (De.ok_r1 o2) _)) (fun W h => ddreadSmall_any b (Hd.hread (lText (De.r1 (lText (lText s 16) 16)) 64)).2 W h (Hd.lOk_hread (lOk_text (De.ok_r1 o2) _))) h
  unfold De.bdA De.bdR De.b5 De.b4 De.b2
  dsimp only
  exact g
end Go.Proofs.YtaikigponkjkgaaGreatDoor
end
