/-
 A part of the proof.
-/
import Derived.Test.YtaikigponkjkgaaGreatDoorXq19
import Derived.Test.YtaikigponkjkgaaGreatDoorXq36

section
namespace Go.Proofs.YtaikigponkjkgaaGreatDoor
open Go.ChangeShapes Go.WideShapes Go.ChangeAt Go.RowKit
open Go.Lib (hid)
set_option maxRecDepth 100000
def MaRdPost (b : Nat) (R : LSt → World → Prop) (w : World) (y : Ml) (s : LSt) (e : Ending) (w' : World) : Prop :=
 ∃ A c, e = .returned (maV y A c) ∧ y.head.length ≤ c ∧ Prs w' A y.head ∧ R s w' ∧ w.grownBy w' (some b) ∧ ∀ a, A = some a → w.heap.size ≤ a.block
structure MaR (w : World) (R : LSt → World → Prop) (b g : Nat) (y : Ml) (s : LSt) (A : Option Addr) (c : Nat) (W : World) : Prop where
 ri : R s W
 m : BoxC w g (maL y A c) W
 q : BoxC w w.heap.size [.int .u64 0, .string ⟨#[]⟩, .string ⟨#[]⟩, .slice none 0 0, .string ⟨#[]⟩, .int .u64 0, .int .u8 0] W
 hc : y.head.length ≤ c
 hp : Prs W A y.head
 hA : ∀ a, A = some a → a.block ≠ b ∧ a.block ≠ g ∧ a.block ≠ w.heap.size ∧ w.heap.size ≤ a.block
 bl : b < w.heap.size
 gq : w.heap.size < g
 G : w.grownBy W (some b)
theorem MaR.moved {w : World} {R : LSt → World → Prop} {b g : Nat} {y : Ml} {s s' : LSt} {A : Option Addr} {c : Nat} {W W' : World} (h : MaR w R b g y s A c W) (hi : R s' W') (hg : W.grownBy W' (some b)) : MaR w R b g y s' A c W' :=
 have hbl := h.bl
 have hgq := h.gq
 ⟨hi, h.m.grown hg (by omega), h.q.grown hg (by omega), h.hc, h.hp.grown hg (fun a ha e => (h.hA a ha).1 (Option.some.inj e)), h.hA, h.bl, h.gq, h.G.trans hg⟩
theorem MaR.on {w : World} {R : LSt → World → Prop} {b g : Nat} (hR : Rder b R) {y : Ml} {s : LSt} {A : Option Addr} {c : Nat} {W W' : World} (h : MaR w R b g y s A c W) (hb : Below W.heap.size W W') : MaR w R b g y s A c W' :=
 ⟨hR.on h.ri hb, h.m.on hb, h.q.on hb, h.hc, h.hp.on hb, h.hA, h.bl, h.gq, grown_below h.G hb⟩
theorem MaR.put {w : World} {R : LSt → World → Prop} {b g : Nat} (hR : Rder b R) {y : Ml} {s : LSt} {A : Option Addr} {c : Nat} {W : World} (h : MaR w R b g y s A c W) (y' : Ml) (j : Nat) (v : Value) (hj : j < 7) (he : (maL y A c).set j v = maL y' A c) (hh : y'.head = y.head) : MaR w R b g y' s A c (W.setCell ⟨g, j, none⟩ v) :=
 have hbl := h.bl
 have hgq := h.gq
 ⟨hR.put h.ri (by omega) j v, by rw [← he]; exact h.m.put j v hj, h.q.aside (by omega) j v, by rw [hh]; exact h.hc, by rw [hh]; exact h.hp.aside (fun a ha e => (h.hA a ha).2.1 e.symm) j v, h.hA, h.bl, h.gq, grown_far h.G (by omega) j v⟩
theorem MaR.putH {w : World} {R : LSt → World → Prop} {b g : Nat} (hR : Rder b R) {y : Ml} {s : LSt} {A : Option Addr} {c : Nat} {W : World} (h : MaR w R b g y s A c W) (l : List Hd.Pr) (A' : Option Addr) (c' : Nat) (hc : l.length ≤ c') (hp : Prs W A' l) (hA : ∀ a, A' = some a → g < a.block) : MaR w R b g {y with head := l} s A' c' (W.setCell ⟨g, 3, none⟩ (.slice A' l.length c')) :=
 have hbl := h.bl
 have hgq := h.gq
 have hA2 : ∀ a, A' = some a → a.block ≠ b ∧ a.block ≠ g ∧ a.block ≠ w.heap.size ∧ w.heap.size ≤ a.block := fun a ha => by have := hA a ha; omega
 ⟨hR.put h.ri (by omega) 3 _, h.m.put 3 (.slice A' l.length c') (by simp [maL]), h.q.aside (by omega) 3 _, hc, hp.aside (fun a ha e => (hA2 a ha).2.1 e.symm) 3 _, hA2, h.bl, h.gq, grown_far h.G (by omega) 3 _⟩
theorem MaR.start {w W : World} {R : LSt → World → Prop} {b : Nat} (hR : Rder b R) {s : LSt} (hi : R s W) (hbl : b < w.heap.size) (hq : BoxC w w.heap.size [.int .u64 0, .string ⟨#[]⟩, .string ⟨#[]⟩, .slice none 0 0, .string ⟨#[]⟩, .int .u64 0, .int .u8 0] W) (hG : w.grownBy W (some b)) (n : Nat) :
  MaR w R b W.heap.size {Ml.zero with id := n} s none 0 (W.alloc (.cells #[.int .u64 (n : Int), .string ⟨#[]⟩, .string ⟨#[]⟩, .slice none 0 0, .string ⟨#[]⟩, .int .u64 0, .int .u8 0] 50)) := by
 have hb : Below W.heap.size W (W.alloc (.cells #[.int .u64 (n : Int), .string ⟨#[]⟩, .string ⟨#[]⟩, .slice none 0 0, .string ⟨#[]⟩, .int .u64 0, .int .u8 0] 50)) := (Below.refl _ _).alloc (Nat.le_refl _) _
 have hl := hq.lt
 exact ⟨hR.on hi hb, BoxC.new hG.size #[.int .u64 (n : Int), .string ⟨#[]⟩, .string ⟨#[]⟩, .slice none 0 0, .string ⟨#[]⟩, .int .u64 0, .int .u8 0] 50, hq.on hb, Nat.zero_le _, Prs.nil _ _, (fun a ha => by cases ha), hbl, hl, grown_below hG hb⟩
theorem MaR.ends {w : World} {R : LSt → World → Prop} {b g : Nat} (hR : Rder b R) {y : Ml} {s : LSt} {A : Option Addr} {c : Nat} {W : World} (h : MaR w R b g y s A c W) : BoxC w w.heap.size (maL y A c) (putAll w.heap.size 0 (maL y A c) W) ∧ MaRdPost b R w y s (.returned (maV y A c)) (putAll w.heap.size 0 (maL y A c) W) :=
 have hbl := h.bl
 ⟨h.q.fill _ rfl, A, c, rfl, h.hc, Prs.putAll (fun a ha e => (h.hA a ha).2.2.1 e.symm) _ 0 h.hp, rdr_putAll hR (by omega) _ 0 h.ri, grown_putAll (Nat.le_refl _) _ 0 h.G, fun a ha => (h.hA a ha).2.2.2⟩
theorem MaR.endz {w : World} {R : LSt → World → Prop} {b g : Nat} (hR : Rder b R) {y : Ml} {s : LSt} {A : Option Addr} {c : Nat} {W : World} (h : MaR w R b g y s A c W) : BoxC w w.heap.size [.int .u64 0, .string ⟨#[]⟩, .string ⟨#[]⟩, .slice none 0 0, .string ⟨#[]⟩, .int .u64 0, .int .u8 0] (putAll w.heap.size 0 [.int .u64 0, .string ⟨#[]⟩, .string ⟨#[]⟩, .slice none 0 0, .string ⟨#[]⟩, .int .u64 0, .int .u8 0] W) ∧ MaRdPost b R w Ml.zero s (.returned (.agg #[.int .u64 0, .string ⟨#[]⟩, .string ⟨#[]⟩, .slice none 0 0, .string ⟨#[]⟩, .int .u64 0, .int .u8 0])) (putAll w.heap.size 0 [.int .u64 0, .string ⟨#[]⟩, .string ⟨#[]⟩, .slice none 0 0, .string ⟨#[]⟩, .int .u64 0, .int .u8 0] W) :=
 have hbl := h.bl
 ⟨h.q.fill _ rfl, none, 0, rfl, Nat.zero_le _, Prs.nil _ _, rdr_putAll hR (by omega) _ 0 h.ri, grown_putAll (Nat.le_refl _) _ 0 h.G, fun a ha => by cases ha⟩
set_option maxHeartbeats 8000000 in
theorem maRead_core (b : Nat) (R : LSt → World → Prop) (hR : Rder b R) (s s1 s2 s3 s4 s5 s6 s7 s8 : LSt) (I : Nat) (S K : List UInt8) (H : List Hd.Pr) (T : List UInt8) (D O : Nat) (C : Int) (w : World) (hO : O < 256)
  (h1 : ∀ W, R s W → Calls Tryz.prog 26 #[.pointer (some ⟨b, 0, none⟩), .int .i64 8] W (fun e w' => e = .returned (.int .u64 (I : Int)) ∧ R s1 w' ∧ W.grownBy w' (some b)))
  (h2 : ∀ W, R s1 W → Calls Tryz.prog 61 #[.pointer (some ⟨b, 0, none⟩), .int .i64 16] W (fun e w' => e = .returned (.string (ofL S)) ∧ R s2 w' ∧ W.grownBy w' (some b)))
  (h3 : ∀ W, R s2 W → Calls Tryz.prog 61 #[.pointer (some ⟨b, 0, none⟩), .int .i64 64] W (fun e w' => e = .returned (.string (ofL K)) ∧ R s3 w' ∧ W.grownBy w' (some b)))
  (h4 : ∀ W, R s3 W → Calls Tryz.prog 95 #[.pointer (some ⟨b, 0, none⟩)] W (fun e w' => ∃ A c, e = .returned (.slice A H.length c) ∧ H.length ≤ c ∧ Prs w' A H ∧ R s4 w' ∧ W.grownBy w' (some b) ∧ ∀ a, A = some a → W.heap.size ≤ a.block))
  (h5 : ∀ W, R s4 W → Calls Tryz.prog 61 #[.pointer (some ⟨b, 0, none⟩), .int .i64 256] W (fun e w' => e = .returned (.string (ofL T)) ∧ R s5 w' ∧ W.grownBy w' (some b)))
  (h6 : ∀ W, R s5 W → Calls Tryz.prog 26 #[.pointer (some ⟨b, 0, none⟩), .int .i64 8] W (fun e w' => e = .returned (.int .u64 (D : Int)) ∧ R s6 w' ∧ W.grownBy w' (some b)))
  (h7 : ∀ W, R s6 W → Calls Tryz.prog 26 #[.pointer (some ⟨b, 0, none⟩), .int .i64 1] W (fun e w' => e = .returned (.int .u64 (O : Int)) ∧ R s7 w' ∧ W.grownBy w' (some b)))
  (hck : ∀ A c W, w.grownBy W (some b) → H.length ≤ c → Prs W A H → Calls Tryz.prog 77 #[maV ⟨I, S, K, H, T, D, O⟩ A c] W (fun e w' => e = .returned (.int .i64 C) ∧ Below W.heap.size W w'))
  (hfl : ∀ W, R s7 W → Calls Tryz.prog 94 #[.pointer (some ⟨b, 0, none⟩), .int .i64 C] W (fun e w' => e = .returned (.tuple #[]) ∧ R s8 w' ∧ W.grownBy w' (some b)))
  (her : ∀ W, R s8 W → Calls Tryz.prog 64 #[.pointer (some ⟨b, 0, none⟩)] W (fun e w' => e = .returned (.int .i64 s8.2) ∧ W = w'))
  (hi : R s w) : Calls Tryz.prog 62 #[.pointer (some ⟨b, 0, none⟩)] w (MaRdPost b R w (if s8.2 ≠ 0 then Ml.zero else ⟨I, S, K, H, T, D, O⟩) s8) := by
 obtain ⟨Y, hY⟩ : ∃ Y, (if s8.2 ≠ 0 then Ml.zero else ⟨I, S, K, H, T, D, O⟩) = Y := ⟨_, rfl⟩
 rw [hY]
 have HY := hid hY
 have HRR := hid hR
 have hbl := hR.lt hi
 have hO8 : IntKind.u8.wrap (O : Int) = (O : Int) := by rw [show IntKind.u8.wrap (O : Int) = (O : Int) % 256 from rfl]; omega
 have H1 := hid h1
 have H2 := hid h2
 have H3 := hid h3
 have H4 := hid h4
 have H5 := hid h5
 have H6 := hid h6
 have H7 := hid h7
 have HCK := hid hck
 have HFL := hid hfl
 have HER := hid her
 have HI0 := hid (hR.on hi ((Below.refl w.heap.size w).alloc (Nat.le_refl _) (.cells #[.int .u64 0, .string ⟨#[]⟩, .string ⟨#[]⟩, .slice none 0 0, .string ⟨#[]⟩, .int .u64 0, .int .u8 0] 50)))
 have HQ0 : Hid (BoxC w w.heap.size [.int .u64 0, .string ⟨#[]⟩, .string ⟨#[]⟩, .slice none 0 0, .string ⟨#[]⟩, .int .u64 0, .int .u8 0] (w.alloc (.cells #[.int .u64 0, .string ⟨#[]⟩, .string ⟨#[]⟩, .slice none 0 0, .string ⟨#[]⟩, .int .u64 0, .int .u8 0] 50))) := hid (BoxC.new (Nat.le_refl _) #[.int .u64 0, .string ⟨#[]⟩, .string ⟨#[]⟩, .slice none 0 0, .string ⟨#[]⟩, .int .u64 0, .int .u8 0] 50)
 have HG0 : Hid (w.grownBy (w.alloc (.cells #[.int .u64 0, .string ⟨#[]⟩, .string ⟨#[]⟩, .slice none 0 0, .string ⟨#[]⟩, .int .u64 0, .int .u8 0] 50)) (some b)) := hid (grown_below (World.grownBy.refl w (some b)) ((Below.refl w.heap.size w).alloc (Nat.le_refl _) _))
 clear h1 h2 h3 h4 h5 h6 h7 hck hfl her hi hR hO hY
 have HS0 := hid (MaR.start HRR.out HI0.out hbl HQ0.out HG0.out 0)
 rw [show (w.alloc (.cells #[.int .u64 0, .string ⟨#[]⟩, .string ⟨#[]⟩, .slice none 0 0, .string ⟨#[]⟩, .int .u64 0, .int .u8 0] 50)).heap.size = w.heap.size + 1 by simp] at HS0
 clear HI0 HQ0 HG0
 obtain ⟨g, hg⟩ : ∃ g, g = w.heap.size + 1 := ⟨_, rfl⟩
 rw [← hg] at HS0
 go_enter Tryz.func62, Tryz.ntmps62
 go_wp2_with fail
 rw [show ((0 : Nat) : Int) = 0 from rfl] at HS0
 (try rw [← hg])
 clear hg
 generalize (w.alloc (.cells #[.int .u64 0, .string ⟨#[]⟩, .string ⟨#[]⟩, .slice none 0 0, .string ⟨#[]⟩, .int .u64 0, .int .u8 0] 50)).alloc (.cells #[.int .u64 0, .string ⟨#[]⟩, .string ⟨#[]⟩, .slice none 0 0, .string ⟨#[]⟩, .int .u64 0, .int .u8 0] 50) = v0 at *
 refine (H1.out _ HS0.out.ri).mono ?_
 have c0 := HS0.out.m.cs 0 _ rfl
 have c1 := HS0.out.m.cs 1 _ rfl
 have c2 := HS0.out.m.cs 2 _ rfl
 have c3 := HS0.out.m.cs 3 _ rfl
 have c4 := HS0.out.m.cs 4 _ rfl
 have c5 := HS0.out.m.cs 5 _ rfl
 have c6 := HS0.out.m.cs 6 _ rfl
 have cl := HS0.out.m.lt
 have cf : ∀ j, v0.frozen? ⟨g, j, none⟩ = false := HS0.out.m.s
 rintro e u1 ⟨rfl, hi, hg⟩
 have HS1 := hid (HS0.out.moved hi hg)
 have HP1 := hid (HS1.out.put HRR.out ⟨I, [], [], [], [], 0, 0⟩ 0 (.int .u64 (I : Int)) (by decide) rfl rfl)
 clear hi hg c0 c1 c2 c3 c4 c5 c6 cl cf
 have c0 := HS1.out.m.cs 0 _ rfl
 have cl := HS1.out.m.lt
 have cf : ∀ j, u1.frozen? ⟨g, j, none⟩ = false := HS1.out.m.s
 go_wp2_with fail
 generalize u1.setCell ⟨g, 0, none⟩ (.int .u64 (I : Int)) = v1 at *
 clear c0 cl cf
 have c0 := HP1.out.m.cs 0 _ rfl
 have c1 := HP1.out.m.cs 1 _ rfl
 have c2 := HP1.out.m.cs 2 _ rfl
 have c3 := HP1.out.m.cs 3 _ rfl
 have c4 := HP1.out.m.cs 4 _ rfl
 have c5 := HP1.out.m.cs 5 _ rfl
 have c6 := HP1.out.m.cs 6 _ rfl
 have cl := HP1.out.m.lt
 have cf : ∀ j, v1.frozen? ⟨g, j, none⟩ = false := HP1.out.m.s
 refine (H2.out _ HP1.out.ri).mono ?_
 rintro e u2 ⟨rfl, hi, hg⟩
 have HS2 := hid (HP1.out.moved hi hg)
 have HP2 := hid (HS2.out.put HRR.out ⟨I, S, [], [], [], 0, 0⟩ 1 (.string (ofL S)) (by decide) rfl rfl)
 clear hi hg c0 c1 c2 c3 c4 c5 c6 cl cf
 have c1 := HS2.out.m.cs 1 _ rfl
 have cl := HS2.out.m.lt
 have cf : ∀ j, u2.frozen? ⟨g, j, none⟩ = false := HS2.out.m.s
 go_wp2_with fail
 generalize u2.setCell ⟨g, 1, none⟩ (.string (ofL S)) = v2 at *
 clear c1 cl cf
 have c0 := HP2.out.m.cs 0 _ rfl
 have c1 := HP2.out.m.cs 1 _ rfl
 have c2 := HP2.out.m.cs 2 _ rfl
 have c3 := HP2.out.m.cs 3 _ rfl
 have c4 := HP2.out.m.cs 4 _ rfl
 have c5 := HP2.out.m.cs 5 _ rfl
 have c6 := HP2.out.m.cs 6 _ rfl
 have cl := HP2.out.m.lt
 have cf : ∀ j, v2.frozen? ⟨g, j, none⟩ = false := HP2.out.m.s
 refine (H3.out _ HP2.out.ri).mono ?_
 rintro e u3 ⟨rfl, hi, hg⟩
 have HS3 := hid (HP2.out.moved hi hg)
 have HP3 := hid (HS3.out.put HRR.out ⟨I, S, K, [], [], 0, 0⟩ 2 (.string (ofL K)) (by decide) rfl rfl)
 clear hi hg c0 c1 c2 c3 c4 c5 c6 cl cf
 have c2 := HS3.out.m.cs 2 _ rfl
 have cl := HS3.out.m.lt
 have cf : ∀ j, u3.frozen? ⟨g, j, none⟩ = false := HS3.out.m.s
 go_wp2_with fail
 generalize u3.setCell ⟨g, 2, none⟩ (.string (ofL K)) = v3 at *
 clear c2 cl cf
 have c0 := HP3.out.m.cs 0 _ rfl
 have c1 := HP3.out.m.cs 1 _ rfl
 have c2 := HP3.out.m.cs 2 _ rfl
 have c3 := HP3.out.m.cs 3 _ rfl
 have c4 := HP3.out.m.cs 4 _ rfl
 have c5 := HP3.out.m.cs 5 _ rfl
 have c6 := HP3.out.m.cs 6 _ rfl
 have cl := HP3.out.m.lt
 have cf : ∀ j, v3.frozen? ⟨g, j, none⟩ = false := HP3.out.m.s
 refine (H4.out _ HP3.out.ri).mono ?_
 rintro e u4 ⟨A, c, rfl, hc, hp, hi, hg, hA⟩
 have HA1 := hid (show ∀ a, A = some a → g < a.block from fun a ha => by have := hA a ha; omega)
 have HS4 := hid (HP3.out.moved hi hg)
 have HP4 := hid (HS4.out.putH HRR.out H A c hc hp HA1.out)
 clear hc hp hA HA1 hi hg c0 c1 c2 c3 c4 c5 c6 cl cf
 have c3 := HS4.out.m.cs 3 _ rfl
 have cl := HS4.out.m.lt
 have cf : ∀ j, u4.frozen? ⟨g, j, none⟩ = false := HS4.out.m.s
 go_wp2_with fail
 generalize u4.setCell ⟨g, 3, none⟩ (.slice A H.length c) = v4 at *
 clear c3 cl cf
 have c0 := HP4.out.m.cs 0 _ rfl
 have c1 := HP4.out.m.cs 1 _ rfl
 have c2 := HP4.out.m.cs 2 _ rfl
 have c3 := HP4.out.m.cs 3 _ rfl
 have c4 := HP4.out.m.cs 4 _ rfl
 have c5 := HP4.out.m.cs 5 _ rfl
 have c6 := HP4.out.m.cs 6 _ rfl
 have cl := HP4.out.m.lt
 have cf : ∀ j, v4.frozen? ⟨g, j, none⟩ = false := HP4.out.m.s
 refine (H5.out _ HP4.out.ri).mono ?_
 rintro e u5 ⟨rfl, hi, hg⟩
 have HS5 := hid (HP4.out.moved hi hg)
 have HP5 := hid (HS5.out.put HRR.out ⟨I, S, K, H, T, 0, 0⟩ 4 (.string (ofL T)) (by decide) rfl rfl)
 clear hi hg c0 c1 c2 c3 c4 c5 c6 cl cf
 have c4 := HS5.out.m.cs 4 _ rfl
 have cl := HS5.out.m.lt
 have cf : ∀ j, u5.frozen? ⟨g, j, none⟩ = false := HS5.out.m.s
 go_wp2_with fail
 generalize u5.setCell ⟨g, 4, none⟩ (.string (ofL T)) = v5 at *
 clear c4 cl cf
 have c0 := HP5.out.m.cs 0 _ rfl
 have c1 := HP5.out.m.cs 1 _ rfl
 have c2 := HP5.out.m.cs 2 _ rfl
 have c3 := HP5.out.m.cs 3 _ rfl
 have c4 := HP5.out.m.cs 4 _ rfl
 have c5 := HP5.out.m.cs 5 _ rfl
 have c6 := HP5.out.m.cs 6 _ rfl
 have cl := HP5.out.m.lt
 have cf : ∀ j, v5.frozen? ⟨g, j, none⟩ = false := HP5.out.m.s
 refine (H6.out _ HP5.out.ri).mono ?_
 rintro e u6 ⟨rfl, hi, hg⟩
 have HS6 := hid (HP5.out.moved hi hg)
 have HP6 := hid (HS6.out.put HRR.out ⟨I, S, K, H, T, D, 0⟩ 5 (.int .u64 (D : Int)) (by decide) rfl rfl)
 clear hi hg c0 c1 c2 c3 c4 c5 c6 cl cf
 have c5 := HS6.out.m.cs 5 _ rfl
 have cl := HS6.out.m.lt
 have cf : ∀ j, u6.frozen? ⟨g, j, none⟩ = false := HS6.out.m.s
 go_wp2_with fail
 generalize u6.setCell ⟨g, 5, none⟩ (.int .u64 (D : Int)) = v6 at *
 clear c5 cl cf
 have c0 := HP6.out.m.cs 0 _ rfl
 have c1 := HP6.out.m.cs 1 _ rfl
 have c2 := HP6.out.m.cs 2 _ rfl
 have c3 := HP6.out.m.cs 3 _ rfl
 have c4 := HP6.out.m.cs 4 _ rfl
 have c5 := HP6.out.m.cs 5 _ rfl
 have c6 := HP6.out.m.cs 6 _ rfl
 have cl := HP6.out.m.lt
 have cf : ∀ j, v6.frozen? ⟨g, j, none⟩ = false := HP6.out.m.s
 refine (H7.out _ HP6.out.ri).mono ?_
 rintro e u7 ⟨rfl, hi, hg⟩
 have HS7 := hid (HP6.out.moved hi hg)
 have HP7 := hid (HS7.out.put HRR.out ⟨I, S, K, H, T, D, O⟩ 6 (.int .u8 (O : Int)) (by decide) rfl rfl)
 clear hi hg c0 c1 c2 c3 c4 c5 c6 cl cf
 have c0 := HS7.out.m.cs 0 _ rfl
 have c1 := HS7.out.m.cs 1 _ rfl
 have c2 := HS7.out.m.cs 2 _ rfl
 have c3 := HS7.out.m.cs 3 _ rfl
 have c4 := HS7.out.m.cs 4 _ rfl
 have c5 := HS7.out.m.cs 5 _ rfl
 have c6 := HS7.out.m.cs 6 _ rfl
 have cl := HS7.out.m.lt
 have cf : ∀ j, u7.frozen? ⟨g, j, none⟩ = false := HS7.out.m.s
 go_wp2_with fail
 generalize u7.setCell ⟨g, 6, none⟩ (.int .u8 (O : Int)) = v7 at *
 clear c0 c1 c2 c3 c4 c5 c6 cl cf
 have c0 := HP7.out.m.cs 0 _ rfl
 have c1 := HP7.out.m.cs 1 _ rfl
 have c2 := HP7.out.m.cs 2 _ rfl
 have c3 := HP7.out.m.cs 3 _ rfl
 have c4 := HP7.out.m.cs 4 _ rfl
 have c5 := HP7.out.m.cs 5 _ rfl
 have c6 := HP7.out.m.cs 6 _ rfl
 have cl := HP7.out.m.lt
 have cf : ∀ j, v7.frozen? ⟨g, j, none⟩ = false := HP7.out.m.s
 have HK := hid (HCK.out A c v7 HP7.out.G HP7.out.hc HP7.out.hp)
 simp only [maV] at HK
 refine HK.out.mono ?_
 rintro e u8 ⟨rfl, b8⟩
 have HS8 := hid (HP7.out.on HRR.out b8)
 clear b8 HK c0 c1 c2 c3 c4 c5 c6 cl cf
 go_wp2_with fail
 refine (HFL.out _ HS8.out.ri).mono ?_
 rintro e u9 ⟨rfl, hi, hg⟩
 have HS9 := hid (HS8.out.moved hi hg)
 clear hi hg
 go_wp2_with fail
 refine (HER.out _ HS9.out.ri).mono ?_
 rintro e u10 ⟨rfl, rfl⟩
 by_cases k : s8.2 = 0
 ·have hk : (s8.2 != 0) = false := by rw [k]; rfl
  have hy : Y = ⟨I, S, K, H, T, D, O⟩ := by rw [← HY.out, if_neg (by omega)]
  clear k
  have c0 := HS9.out.m.cs 0 _ rfl
  have c1 := HS9.out.m.cs 1 _ rfl
  have c2 := HS9.out.m.cs 2 _ rfl
  have c3 := HS9.out.m.cs 3 _ rfl
  have c4 := HS9.out.m.cs 4 _ rfl
  have c5 := HS9.out.m.cs 5 _ rfl
  have c6 := HS9.out.m.cs 6 _ rfl
  have cl := HS9.out.m.lt
  have cf : ∀ j, u9.frozen? ⟨g, j, none⟩ = false := HS9.out.m.s
  have z0 := HS9.out.q.lt
  have z0 := HS9.out.q.cs 0 _ rfl
  have z1 := HS9.out.q.cs 1 _ rfl
  have z2 := HS9.out.q.cs 2 _ rfl
  have z3 := HS9.out.q.cs 3 _ rfl
  have z4 := HS9.out.q.cs 4 _ rfl
  have z5 := HS9.out.q.cs 5 _ rfl
  have z6 := HS9.out.q.cs 6 _ rfl
  have zf : ∀ j, u9.frozen? ⟨w.heap.size, j, none⟩ = false := HS9.out.q.s
  have zl := HS9.out.q.lt
  go_wp2_with fail
  obtain ⟨hF, hP⟩ := MaR.ends HRR.out HS9.out
  simp only [putAll, maL] at hF hP
  have g0 := hF.cs 0 _ rfl
  have g1 := hF.cs 1 _ rfl
  have g2 := hF.cs 2 _ rfl
  have g3 := hF.cs 3 _ rfl
  have g4 := hF.cs 4 _ rfl
  have g5 := hF.cs 5 _ rfl
  have g6 := hF.cs 6 _ rfl
  exact bodyPost_ret (v := .agg #[.int .u64 (I : Int), .string (ofL S), .string (ofL K), .slice A H.length c, .string (ofL T), .int .u64 (D : Int), .int .u8 (O : Int)]) (by simp [results, Tryz.results62, go_sem, g0, g1, g2, g3, g4, g5, g6]) rfl (by rw [hy]; exact hP)
 ·have hk : (s8.2 != 0) = true := by rw [bne_iff_ne]; exact k
  have hy : Y = Ml.zero := by rw [← HY.out, if_pos k]
  clear k
  have z0 := HS9.out.q.lt
  have z0 := HS9.out.q.cs 0 _ rfl
  have z1 := HS9.out.q.cs 1 _ rfl
  have z2 := HS9.out.q.cs 2 _ rfl
  have z3 := HS9.out.q.cs 3 _ rfl
  have z4 := HS9.out.q.cs 4 _ rfl
  have z5 := HS9.out.q.cs 5 _ rfl
  have z6 := HS9.out.q.cs 6 _ rfl
  have zf : ∀ j, u9.frozen? ⟨w.heap.size, j, none⟩ = false := HS9.out.q.s
  have zl := HS9.out.q.lt
  go_wp2_with fail
  obtain ⟨hF, hP⟩ := MaR.endz HRR.out HS9.out
  simp only [putAll] at hF hP
  have g0 := hF.cs 0 _ rfl
  have g1 := hF.cs 1 _ rfl
  have g2 := hF.cs 2 _ rfl
  have g3 := hF.cs 3 _ rfl
  have g4 := hF.cs 4 _ rfl
  have g5 := hF.cs 5 _ rfl
  have g6 := hF.cs 6 _ rfl
  exact bodyPost_ret (v := .agg #[.int .u64 0, .string ⟨#[]⟩, .string ⟨#[]⟩, .slice none 0 0, .string ⟨#[]⟩, .int .u64 0, .int .u8 0]) (by simp [results, Tryz.results62, go_sem, g0, g1, g2, g3, g4, g5, g6]) rfl (by rw [hy]; exact hP)
set_option maxHeartbeats 8000000 in
theorem r13Read_core (b : Nat) (R : LSt → World → Prop) (hR : Rder b R) (s s1 s2 s3 s4 s5 s6 s7 s8 : LSt) (I : Nat) (S K : List UInt8) (H : List Hd.Pr) (T : List UInt8) (D O : Nat) (C : Int) (w : World) (hO : O < 256)
  (h1 : ∀ W, R s W → Calls Tryz.prog 30 #[.pointer (some ⟨b, 0, none⟩), .int .i64 8] W (fun e w' => e = .returned (.int .u64 (I : Int)) ∧ R s1 w' ∧ W.grownBy w' (some b)))
  (h2 : ∀ W, R s1 W → Calls Tryz.prog 68 #[.pointer (some ⟨b, 0, none⟩), .int .i64 16] W (fun e w' => e = .returned (.string (ofL S)) ∧ R s2 w' ∧ W.grownBy w' (some b)))
  (h3 : ∀ W, R s2 W → Calls Tryz.prog 68 #[.pointer (some ⟨b, 0, none⟩), .int .i64 64] W (fun e w' => e = .returned (.string (ofL K)) ∧ R s3 w' ∧ W.grownBy w' (some b)))
  (h4 : ∀ W, R s3 W → Calls Tryz.prog 98 #[.pointer (some ⟨b, 0, none⟩)] W (fun e w' => ∃ A c, e = .returned (.slice A H.length c) ∧ H.length ≤ c ∧ Prs w' A H ∧ R s4 w' ∧ W.grownBy w' (some b) ∧ ∀ a, A = some a → W.heap.size ≤ a.block))
  (h5 : ∀ W, R s4 W → Calls Tryz.prog 68 #[.pointer (some ⟨b, 0, none⟩), .int .i64 256] W (fun e w' => e = .returned (.string (ofL T)) ∧ R s5 w' ∧ W.grownBy w' (some b)))
  (h6 : ∀ W, R s5 W → Calls Tryz.prog 30 #[.pointer (some ⟨b, 0, none⟩), .int .i64 8] W (fun e w' => e = .returned (.int .u64 (D : Int)) ∧ R s6 w' ∧ W.grownBy w' (some b)))
  (h7 : ∀ W, R s6 W → Calls Tryz.prog 30 #[.pointer (some ⟨b, 0, none⟩), .int .i64 1] W (fun e w' => e = .returned (.int .u64 (O : Int)) ∧ R s7 w' ∧ W.grownBy w' (some b)))
  (hck : ∀ A c W, w.grownBy W (some b) → H.length ≤ c → Prs W A H → Calls Tryz.prog 50 #[maV ⟨I, S, K, H, T, D, O⟩ A c] W (fun e w' => e = .returned (.int .i64 C) ∧ Below W.heap.size W w'))
  (hfl : ∀ W, R s7 W → Calls Tryz.prog 97 #[.pointer (some ⟨b, 0, none⟩), .int .i64 C] W (fun e w' => e = .returned (.tuple #[]) ∧ R s8 w' ∧ W.grownBy w' (some b)))
  (hcd : ∀ s W, R s W → W.cell? ⟨b, 2, none⟩ = some (.int .i64 s.2)) (h78 : s7.2 ≠ 0 → s8 = s7)
  (hi : R s w) : Calls Tryz.prog 70 #[.pointer (some ⟨b, 0, none⟩)] w (MaRdPost b R w (if s8.2 ≠ 0 then Ml.zero else ⟨I, S, K, H, T, D, O⟩) s8) := by
 obtain ⟨Y, hY⟩ : ∃ Y, (if s8.2 ≠ 0 then Ml.zero else ⟨I, S, K, H, T, D, O⟩) = Y := ⟨_, rfl⟩
 rw [hY]
 have HY := hid hY
 have HRR := hid hR
 have hbl := hR.lt hi
 have hO8 : IntKind.u8.wrap (O : Int) = (O : Int) := by rw [show IntKind.u8.wrap (O : Int) = (O : Int) % 256 from rfl]; omega
 have H1 := hid h1
 have H2 := hid h2
 have H3 := hid h3
 have H4 := hid h4
 have H5 := hid h5
 have H6 := hid h6
 have H7 := hid h7
 have HCK := hid hck
 have HFL := hid hfl
 have HCD := hid hcd
 have H78 := hid h78
 have HI0 := hid (hR.on hi ((Below.refl w.heap.size w).alloc (Nat.le_refl _) (.cells #[.int .u64 0, .string ⟨#[]⟩, .string ⟨#[]⟩, .slice none 0 0, .string ⟨#[]⟩, .int .u64 0, .int .u8 0] 50)))
 have HQ0 : Hid (BoxC w w.heap.size [.int .u64 0, .string ⟨#[]⟩, .string ⟨#[]⟩, .slice none 0 0, .string ⟨#[]⟩, .int .u64 0, .int .u8 0] (w.alloc (.cells #[.int .u64 0, .string ⟨#[]⟩, .string ⟨#[]⟩, .slice none 0 0, .string ⟨#[]⟩, .int .u64 0, .int .u8 0] 50))) := hid (BoxC.new (Nat.le_refl _) #[.int .u64 0, .string ⟨#[]⟩, .string ⟨#[]⟩, .slice none 0 0, .string ⟨#[]⟩, .int .u64 0, .int .u8 0] 50)
 have HG0 : Hid (w.grownBy (w.alloc (.cells #[.int .u64 0, .string ⟨#[]⟩, .string ⟨#[]⟩, .slice none 0 0, .string ⟨#[]⟩, .int .u64 0, .int .u8 0] 50)) (some b)) := hid (grown_below (World.grownBy.refl w (some b)) ((Below.refl w.heap.size w).alloc (Nat.le_refl _) _))
 clear h1 h2 h3 h4 h5 h6 h7 hck hfl hcd h78 hi hR hO hY
 go_enter Tryz.func70, Tryz.ntmps70
 go_wp2_with fail
 generalize (w.alloc (.cells #[.int .u64 0, .string ⟨#[]⟩, .string ⟨#[]⟩, .slice none 0 0, .string ⟨#[]⟩, .int .u64 0, .int .u8 0] 50)) = u0 at *
 refine (H1.out _ HI0.out).mono ?_
 rintro e u1 ⟨rfl, hi, hg⟩
 have HQ1 := hid (HQ0.out.grown hg (by omega))
 have HP1 := hid (MaR.start HRR.out hi hbl HQ1.out (HG0.out.trans hg) I)
 clear hi hg HI0 HQ0 HG0 HQ1
 go_wp2_with fail
 generalize u1.alloc (.cells #[.int .u64 (I : Int), .string ⟨#[]⟩, .string ⟨#[]⟩, .slice none 0 0, .string ⟨#[]⟩, .int .u64 0, .int .u8 0] 50) = v1 at *
 generalize u1.heap.size = g at *
 have c0 := HP1.out.m.cs 0 _ rfl
 have c1 := HP1.out.m.cs 1 _ rfl
 have c2 := HP1.out.m.cs 2 _ rfl
 have c3 := HP1.out.m.cs 3 _ rfl
 have c4 := HP1.out.m.cs 4 _ rfl
 have c5 := HP1.out.m.cs 5 _ rfl
 have c6 := HP1.out.m.cs 6 _ rfl
 have cl := HP1.out.m.lt
 have cf : ∀ j, v1.frozen? ⟨g, j, none⟩ = false := HP1.out.m.s
 refine (H2.out _ HP1.out.ri).mono ?_
 rintro e u2 ⟨rfl, hi, hg⟩
 have HS2 := hid (HP1.out.moved hi hg)
 have HP2 := hid (HS2.out.put HRR.out ⟨I, S, [], [], [], 0, 0⟩ 1 (.string (ofL S)) (by decide) rfl rfl)
 clear hi hg c0 c1 c2 c3 c4 c5 c6 cl cf
 have c1 := HS2.out.m.cs 1 _ rfl
 have cl := HS2.out.m.lt
 have cf : ∀ j, u2.frozen? ⟨g, j, none⟩ = false := HS2.out.m.s
 go_wp2_with fail
 generalize u2.setCell ⟨g, 1, none⟩ (.string (ofL S)) = v2 at *
 clear c1 cl cf
 have c0 := HP2.out.m.cs 0 _ rfl
 have c1 := HP2.out.m.cs 1 _ rfl
 have c2 := HP2.out.m.cs 2 _ rfl
 have c3 := HP2.out.m.cs 3 _ rfl
 have c4 := HP2.out.m.cs 4 _ rfl
 have c5 := HP2.out.m.cs 5 _ rfl
 have c6 := HP2.out.m.cs 6 _ rfl
 have cl := HP2.out.m.lt
 have cf : ∀ j, v2.frozen? ⟨g, j, none⟩ = false := HP2.out.m.s
 refine (H3.out _ HP2.out.ri).mono ?_
 rintro e u3 ⟨rfl, hi, hg⟩
 have HS3 := hid (HP2.out.moved hi hg)
 have HP3 := hid (HS3.out.put HRR.out ⟨I, S, K, [], [], 0, 0⟩ 2 (.string (ofL K)) (by decide) rfl rfl)
 clear hi hg c0 c1 c2 c3 c4 c5 c6 cl cf
 have c2 := HS3.out.m.cs 2 _ rfl
 have cl := HS3.out.m.lt
 have cf : ∀ j, u3.frozen? ⟨g, j, none⟩ = false := HS3.out.m.s
 go_wp2_with fail
 generalize u3.setCell ⟨g, 2, none⟩ (.string (ofL K)) = v3 at *
 clear c2 cl cf
 have c0 := HP3.out.m.cs 0 _ rfl
 have c1 := HP3.out.m.cs 1 _ rfl
 have c2 := HP3.out.m.cs 2 _ rfl
 have c3 := HP3.out.m.cs 3 _ rfl
 have c4 := HP3.out.m.cs 4 _ rfl
 have c5 := HP3.out.m.cs 5 _ rfl
 have c6 := HP3.out.m.cs 6 _ rfl
 have cl := HP3.out.m.lt
 have cf : ∀ j, v3.frozen? ⟨g, j, none⟩ = false := HP3.out.m.s
 refine (H4.out _ HP3.out.ri).mono ?_
 rintro e u4 ⟨A, c, rfl, hc, hp, hi, hg, hA⟩
 have HA1 := hid (show ∀ a, A = some a → g < a.block from fun a ha => by have := hA a ha; omega)
 have HS4 := hid (HP3.out.moved hi hg)
 have HP4 := hid (HS4.out.putH HRR.out H A c hc hp HA1.out)
 clear hc hp hA HA1 hi hg c0 c1 c2 c3 c4 c5 c6 cl cf
 have c3 := HS4.out.m.cs 3 _ rfl
 have cl := HS4.out.m.lt
 have cf : ∀ j, u4.frozen? ⟨g, j, none⟩ = false := HS4.out.m.s
 go_wp2_with fail
 generalize u4.setCell ⟨g, 3, none⟩ (.slice A H.length c) = v4 at *
 clear c3 cl cf
 have c0 := HP4.out.m.cs 0 _ rfl
 have c1 := HP4.out.m.cs 1 _ rfl
 have c2 := HP4.out.m.cs 2 _ rfl
 have c3 := HP4.out.m.cs 3 _ rfl
 have c4 := HP4.out.m.cs 4 _ rfl
 have c5 := HP4.out.m.cs 5 _ rfl
 have c6 := HP4.out.m.cs 6 _ rfl
 have cl := HP4.out.m.lt
 have cf : ∀ j, v4.frozen? ⟨g, j, none⟩ = false := HP4.out.m.s
 refine (H5.out _ HP4.out.ri).mono ?_
 rintro e u5 ⟨rfl, hi, hg⟩
 have HS5 := hid (HP4.out.moved hi hg)
 have HP5 := hid (HS5.out.put HRR.out ⟨I, S, K, H, T, 0, 0⟩ 4 (.string (ofL T)) (by decide) rfl rfl)
 clear hi hg c0 c1 c2 c3 c4 c5 c6 cl cf
 have c4 := HS5.out.m.cs 4 _ rfl
 have cl := HS5.out.m.lt
 have cf : ∀ j, u5.frozen? ⟨g, j, none⟩ = false := HS5.out.m.s
 go_wp2_with fail
 generalize u5.setCell ⟨g, 4, none⟩ (.string (ofL T)) = v5 at *
 clear c4 cl cf
 have c0 := HP5.out.m.cs 0 _ rfl
 have c1 := HP5.out.m.cs 1 _ rfl
 have c2 := HP5.out.m.cs 2 _ rfl
 have c3 := HP5.out.m.cs 3 _ rfl
 have c4 := HP5.out.m.cs 4 _ rfl
 have c5 := HP5.out.m.cs 5 _ rfl
 have c6 := HP5.out.m.cs 6 _ rfl
 have cl := HP5.out.m.lt
 have cf : ∀ j, v5.frozen? ⟨g, j, none⟩ = false := HP5.out.m.s
 refine (H6.out _ HP5.out.ri).mono ?_
 rintro e u6 ⟨rfl, hi, hg⟩
 have HS6 := hid (HP5.out.moved hi hg)
 have HP6 := hid (HS6.out.put HRR.out ⟨I, S, K, H, T, D, 0⟩ 5 (.int .u64 (D : Int)) (by decide) rfl rfl)
 clear hi hg c0 c1 c2 c3 c4 c5 c6 cl cf
 have c5 := HS6.out.m.cs 5 _ rfl
 have cl := HS6.out.m.lt
 have cf : ∀ j, u6.frozen? ⟨g, j, none⟩ = false := HS6.out.m.s
 go_wp2_with fail
 generalize u6.setCell ⟨g, 5, none⟩ (.int .u64 (D : Int)) = v6 at *
 clear c5 cl cf
 have c0 := HP6.out.m.cs 0 _ rfl
 have c1 := HP6.out.m.cs 1 _ rfl
 have c2 := HP6.out.m.cs 2 _ rfl
 have c3 := HP6.out.m.cs 3 _ rfl
 have c4 := HP6.out.m.cs 4 _ rfl
 have c5 := HP6.out.m.cs 5 _ rfl
 have c6 := HP6.out.m.cs 6 _ rfl
 have cl := HP6.out.m.lt
 have cf : ∀ j, v6.frozen? ⟨g, j, none⟩ = false := HP6.out.m.s
 refine (H7.out _ HP6.out.ri).mono ?_
 rintro e u7 ⟨rfl, hi, hg⟩
 have HS7 := hid (HP6.out.moved hi hg)
 have HP7 := hid (HS7.out.put HRR.out ⟨I, S, K, H, T, D, O⟩ 6 (.int .u8 (O : Int)) (by decide) rfl rfl)
 clear hi hg c0 c1 c2 c3 c4 c5 c6 cl cf
 have c0 := HS7.out.m.cs 0 _ rfl
 have c1 := HS7.out.m.cs 1 _ rfl
 have c2 := HS7.out.m.cs 2 _ rfl
 have c3 := HS7.out.m.cs 3 _ rfl
 have c4 := HS7.out.m.cs 4 _ rfl
 have c5 := HS7.out.m.cs 5 _ rfl
 have c6 := HS7.out.m.cs 6 _ rfl
 have cl := HS7.out.m.lt
 have cf : ∀ j, u7.frozen? ⟨g, j, none⟩ = false := HS7.out.m.s
 have cd : u7.cell? ⟨b, 2, none⟩ = some (.int .i64 s7.2) := HCD.out _ _ HS7.out.ri
 have bl7 : b < u7.heap.size := HRR.out.lt HS7.out.ri
 have hgb : g ≠ b := by have := HS7.out.gq; omega
 by_cases k : s7.2 = 0
 ·have hk : (s7.2 == 0) = true := by rw [k]; rfl
  clear k
  go_wp2_with fail
  generalize u7.setCell ⟨g, 6, none⟩ (.int .u8 (O : Int)) = v7 at *
  clear c0 c1 c2 c3 c4 c5 c6 cl cf
  have HK := hid (HCK.out A c v7 HP7.out.G HP7.out.hc HP7.out.hp)
  simp only [maV] at HK
  refine HK.out.mono ?_
  rintro e u8 ⟨rfl, b8⟩
  have HS8 := hid (HP7.out.on HRR.out b8)
  clear b8 HK
  go_wp2_with fail
  refine (HFL.out _ HS8.out.ri).mono ?_
  rintro e u9 ⟨rfl, hi, hg⟩
  have HS9 := hid (HS8.out.moved hi hg)
  clear hi hg
  have cd9 := HCD.out _ _ HS9.out.ri
  have bl9 : b < u9.heap.size := HRR.out.lt HS9.out.ri
  by_cases k : s8.2 = 0
  ·have hk2 : (s8.2 != 0) = false := by rw [k]; rfl
   have hy : Y = ⟨I, S, K, H, T, D, O⟩ := by rw [← HY.out, if_neg (by omega)]
   clear k
   have c0 := HS9.out.m.cs 0 _ rfl
   have c1 := HS9.out.m.cs 1 _ rfl
   have c2 := HS9.out.m.cs 2 _ rfl
   have c3 := HS9.out.m.cs 3 _ rfl
   have c4 := HS9.out.m.cs 4 _ rfl
   have c5 := HS9.out.m.cs 5 _ rfl
   have c6 := HS9.out.m.cs 6 _ rfl
   have cl := HS9.out.m.lt
   have cf : ∀ j, u9.frozen? ⟨g, j, none⟩ = false := HS9.out.m.s
   have z0 := HS9.out.q.lt
   have z0 := HS9.out.q.cs 0 _ rfl
   have z1 := HS9.out.q.cs 1 _ rfl
   have z2 := HS9.out.q.cs 2 _ rfl
   have z3 := HS9.out.q.cs 3 _ rfl
   have z4 := HS9.out.q.cs 4 _ rfl
   have z5 := HS9.out.q.cs 5 _ rfl
   have z6 := HS9.out.q.cs 6 _ rfl
   have zf : ∀ j, u9.frozen? ⟨w.heap.size, j, none⟩ = false := HS9.out.q.s
   have zl := HS9.out.q.lt
   go_wp2_with fail
   obtain ⟨hF, hP⟩ := MaR.ends HRR.out HS9.out
   simp only [putAll, maL] at hF hP
   have g0 := hF.cs 0 _ rfl
   have g1 := hF.cs 1 _ rfl
   have g2 := hF.cs 2 _ rfl
   have g3 := hF.cs 3 _ rfl
   have g4 := hF.cs 4 _ rfl
   have g5 := hF.cs 5 _ rfl
   have g6 := hF.cs 6 _ rfl
   exact bodyPost_ret (v := .agg #[.int .u64 (I : Int), .string (ofL S), .string (ofL K), .slice A H.length c, .string (ofL T), .int .u64 (D : Int), .int .u8 (O : Int)]) (by simp [results, Tryz.results70, go_sem, g0, g1, g2, g3, g4, g5, g6]) rfl (by rw [hy]; exact hP)
  ·have hk2 : (s8.2 != 0) = true := by rw [bne_iff_ne]; exact k
   have hy : Y = Ml.zero := by rw [← HY.out, if_pos k]
   clear k
   have z0 := HS9.out.q.lt
   have z0 := HS9.out.q.cs 0 _ rfl
   have z1 := HS9.out.q.cs 1 _ rfl
   have z2 := HS9.out.q.cs 2 _ rfl
   have z3 := HS9.out.q.cs 3 _ rfl
   have z4 := HS9.out.q.cs 4 _ rfl
   have z5 := HS9.out.q.cs 5 _ rfl
   have z6 := HS9.out.q.cs 6 _ rfl
   have zf : ∀ j, u9.frozen? ⟨w.heap.size, j, none⟩ = false := HS9.out.q.s
   have zl := HS9.out.q.lt
   go_wp2_with fail
   obtain ⟨hF, hP⟩ := MaR.endz HRR.out HS9.out
   simp only [putAll] at hF hP
   have g0 := hF.cs 0 _ rfl
   have g1 := hF.cs 1 _ rfl
   have g2 := hF.cs 2 _ rfl
   have g3 := hF.cs 3 _ rfl
   have g4 := hF.cs 4 _ rfl
   have g5 := hF.cs 5 _ rfl
   have g6 := hF.cs 6 _ rfl
   exact bodyPost_ret (v := .agg #[.int .u64 0, .string ⟨#[]⟩, .string ⟨#[]⟩, .slice none 0 0, .string ⟨#[]⟩, .int .u64 0, .int .u8 0]) (by simp [results, Tryz.results70, go_sem, g0, g1, g2, g3, g4, g5, g6]) rfl (by rw [hy]; exact hP)
 ·have hk : (s7.2 == 0) = false := beq_eq_false_iff_ne.2 k
  have hk2 : (s7.2 != 0) = true := by rw [bne_iff_ne]; exact k
  have h8 := H78.out k
  subst h8
  have hy : Y = Ml.zero := by rw [← HY.out, if_pos k]
  have hgq := HS7.out.gq
  clear k
  have z0 := HS7.out.q.lt
  have z0 := HS7.out.q.cs 0 _ rfl
  have z1 := HS7.out.q.cs 1 _ rfl
  have z2 := HS7.out.q.cs 2 _ rfl
  have z3 := HS7.out.q.cs 3 _ rfl
  have z4 := HS7.out.q.cs 4 _ rfl
  have z5 := HS7.out.q.cs 5 _ rfl
  have z6 := HS7.out.q.cs 6 _ rfl
  have zf : ∀ j, u7.frozen? ⟨w.heap.size, j, none⟩ = false := HS7.out.q.s
  have zl := HS7.out.q.lt
  go_wp2_with fail
  generalize u7.setCell ⟨g, 6, none⟩ (.int .u8 (O : Int)) = v7 at *
  obtain ⟨hF, hP⟩ := MaR.endz HRR.out HP7.out
  simp only [putAll] at hF hP
  have g0 := hF.cs 0 _ rfl
  have g1 := hF.cs 1 _ rfl
  have g2 := hF.cs 2 _ rfl
  have g3 := hF.cs 3 _ rfl
  have g4 := hF.cs 4 _ rfl
  have g5 := hF.cs 5 _ rfl
  have g6 := hF.cs 6 _ rfl
  exact bodyPost_ret (v := .agg #[.int .u64 0, .string ⟨#[]⟩, .string ⟨#[]⟩, .slice none 0 0, .string ⟨#[]⟩, .int .u64 0, .int .u8 0]) (by simp [results, Tryz.results70, go_sem, g0, g1, g2, g3, g4, g5, g6]) rfl (by rw [hy]; exact hP)
theorem ml_low (s : LSt) (y : Ml) (e : Ml.got s = y) : y.shop.length ≤ 65536 ∧ y.key.length ≤ 65536 ∧ y.body.length ≤ 65536 ∧ y.head.length ≤ 8 ∧ ∀ p ∈ y.head, p.key.length ≤ 65536 ∧ p.txt.length ≤ 65536 := by
 have h1 := lText_len (Ml.s1 s) 16
 have h2 := lText_len (Ml.s2 s) 64
 have h3 := lText_len (Ml.s4 s) 256
 have h4 := Hd.hread_len (Ml.s3 s)
 have h5 := hread_low (Ml.s3 s)
 rw [← e]
 unfold Ml.got
 dsimp only
 exact ⟨h1, h2, h3, h4, h5⟩
theorem ml_got_ok {w : World} {y : Ml} {A : Option Addr} {c : Nat} (h : y.shop.length ≤ 65536 ∧ y.key.length ≤ 65536 ∧ y.body.length ≤ 65536 ∧ y.head.length ≤ 8 ∧ ∀ p ∈ y.head, p.key.length ≤ 65536 ∧ p.txt.length ≤ 65536) (hc : y.head.length ≤ c) (hp : Prs w A y.head) : MaOk w y A c := by
 obtain ⟨h1, h2, h3, h4, h5⟩ := h
 exact ⟨by omega, by omega, by omega, by omega, hc, lite_of h5, hp⟩
theorem ml_got_eqs (s : LSt) (y : Ml) (e : Ml.got s = y) : Oct.val (lOut s.1 8) = y.id ∧ lTextOut (Ml.s1 s) 16 = y.shop ∧ lTextOut (Ml.s2 s) 64 = y.key ∧ (Hd.hread (Ml.s3 s)).1 = y.head ∧ lTextOut (Ml.s4 s) 256 = y.body ∧ Oct.val (lOut (Ml.s5 s).1 8) = y.due ∧ Oct.val (lOut (Ml.s6 s).1 1) = y.hops := by
 rw [← e]
 unfold Ml.got
 refine ⟨?_, ?_, ?_, ?_, ?_, ?_, ?_⟩ <;> dsimp only
theorem maRead_any (b : Nat) (s : LSt) (w : World) (hok : lOk s) (hL : ∀ W, w.grownBy W (some b) → Len W) (hi : InL b s w) :
  Calls Tryz.prog 62 #[.pointer (some ⟨b, 0, none⟩)] w (MaRdPost b (InL b) w (Ml.rd s).1 (Ml.rd s).2) := by
 have n1 := fun W h => inum_l b s 8 8 W (by omega) rfl h hok
 have n2 := fun W h => itext_l b (Ml.s1 s) 16 W h (Ml.ok1 hok)
 have n3 := fun W h => itext_l b (Ml.s2 s) 64 W h (Ml.ok2 hok)
 have n4 := fun W h => hread_any b (Ml.s3 s) W h (Ml.ok3 hok)
 have n5 := fun W h => itext_l b (Ml.s4 s) 256 W h (Ml.ok4 hok)
 have n6 := fun W h => inum_l b (Ml.s5 s) 8 8 W (by omega) rfl h (Ml.ok5 hok)
 have n7 := fun W h => inum_l b (Ml.s6 s) 1 1 W (by omega) rfl h (Ml.ok6 hok)
 have n8 := fun W h => ifail_l b (Ml.s7 s) ((Ml.got s).code : Int) W h
 rw [show lFail (Ml.s7 s) ((Ml.got s).code : Int) = Ml.fin s by unfold Ml.fin; rfl] at n8
 have n9 := fun W h => ierr_l b (Ml.fin s) W h
 have hf := (Ml.got_fits s).hops
 obtain ⟨y, hy⟩ : ∃ y, Ml.got s = y := ⟨_, rfl⟩
 have hlow := ml_low s y hy
 obtain ⟨e1, e2, e3, e4, e5, e6, e7⟩ := ml_got_eqs s y hy
 have hrd : Ml.rd s = (if (Ml.fin s).2 ≠ 0 then Ml.zero else y, Ml.fin s) := by rw [← hy]; unfold Ml.rd; rfl
 rw [hrd]
 rw [hy] at n8 hf
 unfold HReadPost at n4
 rw [e1, show lRaw s 8 = Ml.s1 s from rfl] at n1
 rw [e2, show lText (Ml.s1 s) 16 = Ml.s2 s from rfl] at n2
 rw [e3, show lText (Ml.s2 s) 64 = Ml.s3 s from rfl] at n3
 rw [e4, show (Hd.hread (Ml.s3 s)).2 = Ml.s4 s by unfold Ml.s4; rfl] at n4
 rw [e5, show lText (Ml.s4 s) 256 = Ml.s5 s from rfl] at n5
 rw [e6, show lRaw (Ml.s5 s) 8 = Ml.s6 s from rfl] at n6
 rw [e7, show lRaw (Ml.s6 s) 1 = Ml.s7 s from rfl] at n7
 clear e1 e2 e3 e4 e5 e6 e7 hrd hy
 have hck := fun A c W (hg : w.grownBy W (some b)) hc hp => ml_Check_any y A c W (ml_got_ok hlow hc hp) (hL W hg)
 generalize Ml.s1 s = t1 at *
 generalize Ml.s2 s = t2 at *
 generalize Ml.s3 s = t3 at *
 generalize Ml.s4 s = t4 at *
 generalize Ml.s5 s = t5 at *
 generalize Ml.s6 s = t6 at *
 generalize Ml.s7 s = t7 at *
 generalize Ml.fin s = t8 at *
 obtain ⟨I, S, K, H, T, D, O⟩ := y
 exact maRead_core b (InL b) (rdr_in b) s t1 t2 t3 t4 t5 t6 t7 t8 I S K H T D O _ w hf n1 n2 n3 n4 n5 n6 n7 hck n8 n9 hi
theorem r13Read_any (b : Nat) (Q : ByteArray) (s : LSt) (w : World) (hok : lOk s) (hQ : Q.size ≤ 1000000) (hi : RefL b Q s w) :
  Calls Tryz.prog 70 #[.pointer (some ⟨b, 0, none⟩)] w (MaRdPost b (RefL b Q) w (Ml.rd s).1 (Ml.rd s).2) := by
 have n1 := fun W h => rinum_l b Q s 8 8 W (by omega) rfl h hQ
 have n2 := fun W h => ritext_l b Q (Ml.s1 s) 16 W h hQ
 have n3 := fun W h => ritext_l b Q (Ml.s2 s) 64 W h hQ
 have n4 := fun W h => rread9_any b Q (Ml.s3 s) W h (Ml.ok3 hok) hQ
 have n5 := fun W h => ritext_l b Q (Ml.s4 s) 256 W h hQ
 have n6 := fun W h => rinum_l b Q (Ml.s5 s) 8 8 W (by omega) rfl h hQ
 have n7 := fun W h => rinum_l b Q (Ml.s6 s) 1 1 W (by omega) rfl h hQ
 have n8 := fun W h => rifail_l b Q (Ml.s7 s) ((Ml.got s).code : Int) W h
 rw [show lFail (Ml.s7 s) ((Ml.got s).code : Int) = Ml.fin s by unfold Ml.fin; rfl] at n8
 have n9 : (Ml.s7 s).2 ≠ 0 → Ml.fin s = Ml.s7 s := fun h => by unfold Ml.fin lFail; rw [if_pos (Or.inr h)]
 have hf := (Ml.got_fits s).hops
 obtain ⟨y, hy⟩ : ∃ y, Ml.got s = y := ⟨_, rfl⟩
 have hlow := ml_low s y hy
 obtain ⟨e1, e2, e3, e4, e5, e6, e7⟩ := ml_got_eqs s y hy
 have hrd : Ml.rd s = (if (Ml.fin s).2 ≠ 0 then Ml.zero else y, Ml.fin s) := by rw [← hy]; unfold Ml.rd; rfl
 rw [hrd]
 rw [hy] at n8 hf
 unfold HReadPost at n4
 rw [e1, show lRaw s 8 = Ml.s1 s from rfl] at n1
 rw [e2, show lText (Ml.s1 s) 16 = Ml.s2 s from rfl] at n2
 rw [e3, show lText (Ml.s2 s) 64 = Ml.s3 s from rfl] at n3
 rw [e4, show (Hd.hread (Ml.s3 s)).2 = Ml.s4 s by unfold Ml.s4; rfl] at n4
 rw [e5, show lText (Ml.s4 s) 256 = Ml.s5 s from rfl] at n5
 rw [e6, show lRaw (Ml.s5 s) 8 = Ml.s6 s from rfl] at n6
 rw [e7, show lRaw (Ml.s6 s) 1 = Ml.s7 s from rfl] at n7
 clear e1 e2 e3 e4 e5 e6 e7 hrd hy
 have hck := fun A c W (_ : w.grownBy W (some b)) hc hp => r13Check_any y A c W (ml_got_ok hlow hc hp)
 generalize Ml.s1 s = t1 at *
 generalize Ml.s2 s = t2 at *
 generalize Ml.s3 s = t3 at *
 generalize Ml.s4 s = t4 at *
 generalize Ml.s5 s = t5 at *
 generalize Ml.s6 s = t6 at *
 generalize Ml.s7 s = t7 at *
 generalize Ml.fin s = t8 at *
 obtain ⟨I, S, K, H, T, D, O⟩ := y
 exact r13Read_core b (RefL b Q) (rdr_ref b Q) s t1 t2 t3 t4 t5 t6 t7 t8 I S K H T D O _ w hf n1 n2 n3 n4 n5 n6 n7 hck n8 (fun _ _ h => h.code) n9 hi
end Go.Proofs.YtaikigponkjkgaaGreatDoor
end
