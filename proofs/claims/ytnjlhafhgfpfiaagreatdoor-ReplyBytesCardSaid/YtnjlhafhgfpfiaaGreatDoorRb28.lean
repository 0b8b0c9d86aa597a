/-
  WHAT IS READ OF A FRAME (REPLY), part by part: walked.
-/
import Derived.Test.YtnjlhafhgfpfiaaGreatDoorRb17
import Derived.Test.YtnjlhafhgfpfiaaGreatDoorRb25

section
namespace Go.Proofs.YtnjlhafhgfpfiaaGreatDoor
open Go.ChangeShapes Go.WideShapes Go.ChangeAt Go.RowKit
/-- what read leaves -/
def ReRdPost (b : Nat) (R : LSt → World → Prop) (w : World) (y : Re) (A : Option Addr) (s : LSt) (p : Nat) (e : Ending) (w' : World) : Prop :=
  ∃ A' c', e = .returned (reV (Re.rd1 y s p).1 A' c') ∧ (Re.rd1 y s p).1.head.length ≤ c' ∧ Prs w' A' (Re.rd1 y s p).1.head ∧ R (Re.rd1 y s p).2 w' ∧ w.grownBy w' (some b) ∧ ∀ a, A' = some a → A = some a ∨ w.heap.size ≤ a.block
def ReRyPost (b : Nat) (R : LSt → World → Prop) (w : World) (s : LSt) (e : Ending) (w' : World) : Prop := e = .returned (.bool (Pt.yesOut s)) ∧ R (Pt.yesIn s) w' ∧ w.grownBy w' (some b)
set_option maxHeartbeats 1000000 in
theorem re_ryes_any (b : Nat) (s : LSt) (w : World) (h : InL b s w) (hok : lOk s) : Calls Tryz.prog 56 #[.pointer (some ⟨b, 0, none⟩)] w (ReRyPost b (InL b) w s) := by
  have HN := Lib.hid (inum_l b s 1 1 w (by omega) rfl h hok)
  have HF := Lib.hid (fun W h => ifail_l b (lRaw s 1) 4 W h)
  have HY : Hid (Pt.yesOut s = (Oct.val (lOut s.1 1) == 1)) := rfl
  have HI : Hid (Pt.yesIn s = if 1 < Oct.val (lOut s.1 1) then lFail (lRaw s 1) 4 else lRaw s 1) := rfl
  clear h hok
  unfold ReRyPost
  generalize Pt.yesOut s = YO at *
  generalize Pt.yesIn s = YI at *
  generalize Oct.val (lOut s.1 1) = n at *
  have hc : ((n : Int) == 1) = (n == 1) := cast_beq n 1
  by_cases h1 : 1 < n
  · have hz : decide ((1 : Int) < (n : Int)) = true := decide_eq_true (by omega)
    have HI := Lib.hid (show YI = lFail (lRaw s 1) 4 by rw [HI.out, if_pos h1])
    clear h1
    go_enter Tryz.func56, Tryz.ntmps56
    go_wp2_with fail
    refine HN.out.mono ?_
    rintro e w1 ⟨rfl, hi1, hg1⟩
    have HI1 := Lib.hid hi1
    have HG1 := Lib.hid hg1
    clear hi1 hg1
    go_wp2_with fail
    refine (HF.out _ HI1.out).mono ?_
    rintro e w2 ⟨rfl, hi2, hg2⟩
    have HI2 := Lib.hid hi2
    have HG2 := Lib.hid (HG1.out.trans hg2)
    clear hi2 hg2
    go_wp2_with fail
    go_ret
    exact ⟨ret_bool (by rw [HY.out]), by rw [HI.out]; exact HI2.out, HG2.out⟩
  · have hz : decide ((1 : Int) < (n : Int)) = false := decide_eq_false (by omega)
    have HI := Lib.hid (show YI = lRaw s 1 by rw [HI.out, if_neg h1])
    clear h1
    go_enter Tryz.func56, Tryz.ntmps56
    go_wp2_with fail
    refine HN.out.mono ?_
    rintro e w1 ⟨rfl, hi1, hg1⟩
    have HI1 := Lib.hid hi1
    have HG1 := Lib.hid hg1
    clear hi1 hg1
    go_wp2_with fail
    go_ret
    exact ⟨ret_bool (by rw [HY.out]), by rw [HI.out]; exact HI1.out, HG1.out⟩
/-- while a part is read: the reader, the method's box, the answer's -/
structure ReRd (w : World) (b : Nat) (R : LSt → World → Prop) (s : LSt) (xs ys : List Value) (W : World) : Prop where
  ri : R s W
  rp : BoxC w w.heap.size xs W
  rq : BoxC w (w.heap.size + 1) ys W
  bl : b < w.heap.size
  G : w.grownBy W (some b)
theorem ReRd.step {w : World} {b : Nat} {R : LSt → World → Prop} {s s' : LSt} {xs ys : List Value} {W W' : World} (h : ReRd w b R s xs ys W) (hi : R s' W') (hg : W.grownBy W' (some b)) : ReRd w b R s' xs ys W' :=
  ⟨hi, h.rp.grown hg (by have := h.bl; omega), h.rq.grown hg (by have := h.bl; omega), h.bl, h.G.trans hg⟩
theorem ReRd.putp {w : World} {b : Nat} {R : LSt → World → Prop} (hR : Rder b R) {s : LSt} {xs ys : List Value} {W : World} (h : ReRd w b R s xs ys W) (j : Nat) (u : Value) (hj : j < xs.length) : ReRd w b R s (xs.set j u) ys (W.setCell ⟨w.heap.size, j, none⟩ u) :=
  ⟨hR.put h.ri (by have := h.bl; omega) j u, h.rp.put j u hj, h.rq.aside (by omega) j u, h.bl, grown_far h.G (Nat.le_refl _) j u⟩
theorem ReRd.fill {w : World} {b : Nat} {R : LSt → World → Prop} (hR : Rder b R) {s : LSt} {xs ys : List Value} {W : World} (h : ReRd w b R s xs ys W) (vs : List Value) (hv : vs.length = ys.length) : ReRd w b R s xs vs (putAll (w.heap.size + 1) 0 vs W) :=
  ⟨rdr_putAll hR (by have := h.bl; omega) vs 0 h.ri, BoxC.putAll_aside (by omega) vs 0 h.rp, h.rq.fill vs hv, h.bl, grown_putAll (by omega) vs 0 h.G⟩
theorem ReRd.start {w : World} {b : Nat} {R : LSt → World → Prop} (hR : Rder b R) {s : LSt} (h : R s w) (y : Re) (A : Option Addr) (c : Nat) : ReRd w b R s (reL y A c) [.int .u8 0, .int .u8 0, .int .u64 0, .int .u64 0, .bool false, .string ⟨#[]⟩, .int .u64 0, .string ⟨#[]⟩, .string ⟨#[]⟩, .slice none 0 0, .string ⟨#[]⟩, .int .u64 0, .int .u8 0] ((w.alloc (.cells #[.int .u8 (y.ch.toNat : Int), .int .u8 (y.kd.toNat : Int), .int .u64 (y.n : Int), .int .u64 (y.m : Int), .bool y.yes, .string (ofL y.name), .int .u64 (y.id : Int), .string (ofL y.shop), .string (ofL y.key), .slice A y.head.length c, .string (ofL y.body), .int .u64 (y.due : Int), .int .u8 (y.hops : Int)] 30)).alloc (.cells #[.int .u8 0, .int .u8 0, .int .u64 0, .int .u64 0, .bool false, .string ⟨#[]⟩, .int .u64 0, .string ⟨#[]⟩, .string ⟨#[]⟩, .slice none 0 0, .string ⟨#[]⟩, .int .u64 0, .int .u8 0] 30)) := by
  have h1 : BoxC w w.heap.size (reL y A c) (w.alloc (.cells #[.int .u8 (y.ch.toNat : Int), .int .u8 (y.kd.toNat : Int), .int .u64 (y.n : Int), .int .u64 (y.m : Int), .bool y.yes, .string (ofL y.name), .int .u64 (y.id : Int), .string (ofL y.shop), .string (ofL y.key), .slice A y.head.length c, .string (ofL y.body), .int .u64 (y.due : Int), .int .u8 (y.hops : Int)] 30)) := BoxC.new (Nat.le_refl _) #[.int .u8 (y.ch.toNat : Int), .int .u8 (y.kd.toNat : Int), .int .u64 (y.n : Int), .int .u64 (y.m : Int), .bool y.yes, .string (ofL y.name), .int .u64 (y.id : Int), .string (ofL y.shop), .string (ofL y.key), .slice A y.head.length c, .string (ofL y.body), .int .u64 (y.due : Int), .int .u8 (y.hops : Int)] 30
  have h2 : BoxC w (w.heap.size + 1) [.int .u8 0, .int .u8 0, .int .u64 0, .int .u64 0, .bool false, .string ⟨#[]⟩, .int .u64 0, .string ⟨#[]⟩, .string ⟨#[]⟩, .slice none 0 0, .string ⟨#[]⟩, .int .u64 0, .int .u8 0] ((w.alloc (.cells #[.int .u8 (y.ch.toNat : Int), .int .u8 (y.kd.toNat : Int), .int .u64 (y.n : Int), .int .u64 (y.m : Int), .bool y.yes, .string (ofL y.name), .int .u64 (y.id : Int), .string (ofL y.shop), .string (ofL y.key), .slice A y.head.length c, .string (ofL y.body), .int .u64 (y.due : Int), .int .u8 (y.hops : Int)] 30)).alloc (.cells #[.int .u8 0, .int .u8 0, .int .u64 0, .int .u64 0, .bool false, .string ⟨#[]⟩, .int .u64 0, .string ⟨#[]⟩, .string ⟨#[]⟩, .slice none 0 0, .string ⟨#[]⟩, .int .u64 0, .int .u8 0] 30)) := by
    have := BoxC.new (w := w) (W := (w.alloc (.cells #[.int .u8 (y.ch.toNat : Int), .int .u8 (y.kd.toNat : Int), .int .u64 (y.n : Int), .int .u64 (y.m : Int), .bool y.yes, .string (ofL y.name), .int .u64 (y.id : Int), .string (ofL y.shop), .string (ofL y.key), .slice A y.head.length c, .string (ofL y.body), .int .u64 (y.due : Int), .int .u8 (y.hops : Int)] 30))) (by simp) #[.int .u8 0, .int .u8 0, .int .u64 0, .int .u64 0, .bool false, .string ⟨#[]⟩, .int .u64 0, .string ⟨#[]⟩, .string ⟨#[]⟩, .slice none 0 0, .string ⟨#[]⟩, .int .u64 0, .int .u8 0] 30
    simpa using this
  exact ⟨hR.on (hR.on h ((Below.refl _ _).alloc (Nat.le_refl _) _)) ((Below.refl _ _).alloc (Nat.le_refl _) _), h1.on ((Below.refl _ _).alloc (Nat.le_refl _) _), h2, hR.lt h, (alloc_grown w _ _).trans (alloc_grown _ _ _)⟩
set_option maxHeartbeats 2000000 in
theorem re_read_0 (b : Nat) (y : Re) (A : Option Addr) (c : Nat) (s : LSt) (w : World) (h : InL b s w) (hok : lOk s) (hc : y.head.length ≤ c) (hp : Prs w A y.head) (hA : ∀ a, A = some a → a.block ≠ b) :
    Calls Tryz.prog 33 #[reV y A c, .pointer (some ⟨b, 0, none⟩), .int .i64 0] w (ReRdPost b (InL b) w y A s 0) := by
  have HD0 := Lib.hid (ReRd.start (rdr_in b) h y A c)
  have HT := Lib.hid (fun W h => inum_l b s 8 8 W (by omega) rfl h hok)
  have HCP := Lib.hid (And.intro hc (And.intro hp hA))
  have HE : Hid (Re.rd1 y s 0 = ({y with n := Oct.val (lOut s.1 8)}, lRaw s 8)) := rfl
  generalize Oct.val (lOut s.1 8) = o1 at *
  generalize lRaw s 8 = s1 at *
  unfold ReRdPost
  rw [HE.out]
  clear h hok hc hp hA HE
  simp only [reV]
  go_enter Tryz.func33, Tryz.ntmps33
  go_wp2_with fail
  generalize ((w.alloc (.cells #[.int .u8 (y.ch.toNat : Int), .int .u8 (y.kd.toNat : Int), .int .u64 (y.n : Int), .int .u64 (y.m : Int), .bool y.yes, .string (ofL y.name), .int .u64 (y.id : Int), .string (ofL y.shop), .string (ofL y.key), .slice A y.head.length c, .string (ofL y.body), .int .u64 (y.due : Int), .int .u8 (y.hops : Int)] 30)).alloc (.cells #[.int .u8 0, .int .u8 0, .int .u64 0, .int .u64 0, .bool false, .string ⟨#[]⟩, .int .u64 0, .string ⟨#[]⟩, .string ⟨#[]⟩, .slice none 0 0, .string ⟨#[]⟩, .int .u64 0, .int .u8 0] 30)) = w2 at *
  refine (HT.out _ HD0.out.ri).mono ?_
  rintro e w3 ⟨rfl, hi3, hg3⟩
  have hD3 := HD0.out.step hi3 hg3
  have HS := Lib.hid (hD3.putp (rdr_in b) 2 (.int .u64 (o1 : Int)) (by simp [reL]))
  clear hi3 hg3 HT HD0
  have c2 := hD3.rp.cs 2 _ rfl
  have cf : ∀ j, w3.frozen? ⟨w.heap.size, j, none⟩ = false := hD3.rp.s
  have cl := hD3.rp.lt
  clear hD3
  have d0 := HS.out.rp.cs 0 _ rfl
  have d1 := HS.out.rp.cs 1 _ rfl
  have d2 := HS.out.rp.cs 2 _ rfl
  have d3 := HS.out.rp.cs 3 _ rfl
  have d4 := HS.out.rp.cs 4 _ rfl
  have d5 := HS.out.rp.cs 5 _ rfl
  have d6 := HS.out.rp.cs 6 _ rfl
  have d7 := HS.out.rp.cs 7 _ rfl
  have d8 := HS.out.rp.cs 8 _ rfl
  have d9 := HS.out.rp.cs 9 _ rfl
  have d10 := HS.out.rp.cs 10 _ rfl
  have d11 := HS.out.rp.cs 11 _ rfl
  have d12 := HS.out.rp.cs 12 _ rfl
  have e0 := HS.out.rq.cs 0 _ rfl
  have e1 := HS.out.rq.cs 1 _ rfl
  have e2 := HS.out.rq.cs 2 _ rfl
  have e3 := HS.out.rq.cs 3 _ rfl
  have e4 := HS.out.rq.cs 4 _ rfl
  have e5 := HS.out.rq.cs 5 _ rfl
  have e6 := HS.out.rq.cs 6 _ rfl
  have e7 := HS.out.rq.cs 7 _ rfl
  have e8 := HS.out.rq.cs 8 _ rfl
  have e9 := HS.out.rq.cs 9 _ rfl
  have e10 := HS.out.rq.cs 10 _ rfl
  have e11 := HS.out.rq.cs 11 _ rfl
  have e12 := HS.out.rq.cs 12 _ rfl
  have ef : ∀ j, (w3.setCell ⟨w.heap.size, 2, none⟩ (.int .u64 (o1 : Int))).frozen? ⟨w.heap.size + 1, j, none⟩ = false := HS.out.rq.s
  have el := HS.out.rq.lt
  go_wp2_with fail
  have hF := HS.out.fill (rdr_in b) [.int .u8 (y.ch.toNat : Int), .int .u8 (y.kd.toNat : Int), .int .u64 (o1 : Int), .int .u64 (y.m : Int), .bool y.yes, .string (ofL y.name), .int .u64 (y.id : Int), .string (ofL y.shop), .string (ofL y.key), .slice A y.head.length c, .string (ofL y.body), .int .u64 (y.due : Int), .int .u8 (y.hops : Int)] rfl
  obtain ⟨W', hW'⟩ : ∃ W', W' = putAll (w.heap.size + 1) 0 [.int .u8 (y.ch.toNat : Int), .int .u8 (y.kd.toNat : Int), .int .u64 (o1 : Int), .int .u64 (y.m : Int), .bool y.yes, .string (ofL y.name), .int .u64 (y.id : Int), .string (ofL y.shop), .string (ofL y.key), .slice A y.head.length c, .string (ofL y.body), .int .u64 (y.due : Int), .int .u8 (y.hops : Int)] (w3.setCell ⟨w.heap.size, 2, none⟩ (.int .u64 (o1 : Int))) := ⟨_, rfl⟩
  rw [← hW'] at hF
  simp only [putAll] at hW'
  have g0 := hF.rq.cs 0 _ rfl
  have g1 := hF.rq.cs 1 _ rfl
  have g2 := hF.rq.cs 2 _ rfl
  have g3 := hF.rq.cs 3 _ rfl
  have g4 := hF.rq.cs 4 _ rfl
  have g5 := hF.rq.cs 5 _ rfl
  have g6 := hF.rq.cs 6 _ rfl
  have g7 := hF.rq.cs 7 _ rfl
  have g8 := hF.rq.cs 8 _ rfl
  have g9 := hF.rq.cs 9 _ rfl
  have g10 := hF.rq.cs 10 _ rfl
  have g11 := hF.rq.cs 11 _ rfl
  have g12 := hF.rq.cs 12 _ rfl
  exact bodyPost_ret (v := .agg #[.int .u8 (y.ch.toNat : Int), .int .u8 (y.kd.toNat : Int), .int .u64 (o1 : Int), .int .u64 (y.m : Int), .bool y.yes, .string (ofL y.name), .int .u64 (y.id : Int), .string (ofL y.shop), .string (ofL y.key), .slice A y.head.length c, .string (ofL y.body), .int .u64 (y.due : Int), .int .u8 (y.hops : Int)]) (by rw [← hW']; simp [results, Tryz.results33, go_sem, g0, g1, g2, g3, g4, g5, g6, g7, g8, g9, g10, g11, g12]) rfl ⟨A, c, rfl, HCP.out.1, by rw [← hW']; exact HCP.out.2.1.grown hF.G (fun a ha => by have := HCP.out.2.2 a ha; intro e; exact this (Option.some.inj e)), by rw [← hW']; exact hF.ri, by rw [← hW']; exact hF.G, fun a ha => Or.inl ha⟩
set_option maxHeartbeats 2000000 in
theorem re_read_1 (b : Nat) (y : Re) (A : Option Addr) (c : Nat) (s : LSt) (w : World) (h : InL b s w) (hok : lOk s) (hc : y.head.length ≤ c) (hp : Prs w A y.head) (hA : ∀ a, A = some a → a.block ≠ b) :
    Calls Tryz.prog 33 #[reV y A c, .pointer (some ⟨b, 0, none⟩), .int .i64 1] w (ReRdPost b (InL b) w y A s 1) := by
  have HD0 := Lib.hid (ReRd.start (rdr_in b) h y A c)
  have HT := Lib.hid (fun W h => inum_l b s 8 8 W (by omega) rfl h hok)
  have HCP := Lib.hid (And.intro hc (And.intro hp hA))
  have HE : Hid (Re.rd1 y s 1 = ({y with m := Oct.val (lOut s.1 8)}, lRaw s 8)) := rfl
  generalize Oct.val (lOut s.1 8) = o1 at *
  generalize lRaw s 8 = s1 at *
  unfold ReRdPost
  rw [HE.out]
  clear h hok hc hp hA HE
  simp only [reV]
  go_enter Tryz.func33, Tryz.ntmps33
  go_wp2_with fail
  generalize ((w.alloc (.cells #[.int .u8 (y.ch.toNat : Int), .int .u8 (y.kd.toNat : Int), .int .u64 (y.n : Int), .int .u64 (y.m : Int), .bool y.yes, .string (ofL y.name), .int .u64 (y.id : Int), .string (ofL y.shop), .string (ofL y.key), .slice A y.head.length c, .string (ofL y.body), .int .u64 (y.due : Int), .int .u8 (y.hops : Int)] 30)).alloc (.cells #[.int .u8 0, .int .u8 0, .int .u64 0, .int .u64 0, .bool false, .string ⟨#[]⟩, .int .u64 0, .string ⟨#[]⟩, .string ⟨#[]⟩, .slice none 0 0, .string ⟨#[]⟩, .int .u64 0, .int .u8 0] 30)) = w2 at *
  refine (HT.out _ HD0.out.ri).mono ?_
  rintro e w3 ⟨rfl, hi3, hg3⟩
  have hD3 := HD0.out.step hi3 hg3
  have HS := Lib.hid (hD3.putp (rdr_in b) 3 (.int .u64 (o1 : Int)) (by simp [reL]))
  clear hi3 hg3 HT HD0
  have c3 := hD3.rp.cs 3 _ rfl
  have cf : ∀ j, w3.frozen? ⟨w.heap.size, j, none⟩ = false := hD3.rp.s
  have cl := hD3.rp.lt
  clear hD3
  have d0 := HS.out.rp.cs 0 _ rfl
  have d1 := HS.out.rp.cs 1 _ rfl
  have d2 := HS.out.rp.cs 2 _ rfl
  have d3 := HS.out.rp.cs 3 _ rfl
  have d4 := HS.out.rp.cs 4 _ rfl
  have d5 := HS.out.rp.cs 5 _ rfl
  have d6 := HS.out.rp.cs 6 _ rfl
  have d7 := HS.out.rp.cs 7 _ rfl
  have d8 := HS.out.rp.cs 8 _ rfl
  have d9 := HS.out.rp.cs 9 _ rfl
  have d10 := HS.out.rp.cs 10 _ rfl
  have d11 := HS.out.rp.cs 11 _ rfl
  have d12 := HS.out.rp.cs 12 _ rfl
  have e0 := HS.out.rq.cs 0 _ rfl
  have e1 := HS.out.rq.cs 1 _ rfl
  have e2 := HS.out.rq.cs 2 _ rfl
  have e3 := HS.out.rq.cs 3 _ rfl
  have e4 := HS.out.rq.cs 4 _ rfl
  have e5 := HS.out.rq.cs 5 _ rfl
  have e6 := HS.out.rq.cs 6 _ rfl
  have e7 := HS.out.rq.cs 7 _ rfl
  have e8 := HS.out.rq.cs 8 _ rfl
  have e9 := HS.out.rq.cs 9 _ rfl
  have e10 := HS.out.rq.cs 10 _ rfl
  have e11 := HS.out.rq.cs 11 _ rfl
  have e12 := HS.out.rq.cs 12 _ rfl
  have ef : ∀ j, (w3.setCell ⟨w.heap.size, 3, none⟩ (.int .u64 (o1 : Int))).frozen? ⟨w.heap.size + 1, j, none⟩ = false := HS.out.rq.s
  have el := HS.out.rq.lt
  go_wp2_with fail
  have hF := HS.out.fill (rdr_in b) [.int .u8 (y.ch.toNat : Int), .int .u8 (y.kd.toNat : Int), .int .u64 (y.n : Int), .int .u64 (o1 : Int), .bool y.yes, .string (ofL y.name), .int .u64 (y.id : Int), .string (ofL y.shop), .string (ofL y.key), .slice A y.head.length c, .string (ofL y.body), .int .u64 (y.due : Int), .int .u8 (y.hops : Int)] rfl
  obtain ⟨W', hW'⟩ : ∃ W', W' = putAll (w.heap.size + 1) 0 [.int .u8 (y.ch.toNat : Int), .int .u8 (y.kd.toNat : Int), .int .u64 (y.n : Int), .int .u64 (o1 : Int), .bool y.yes, .string (ofL y.name), .int .u64 (y.id : Int), .string (ofL y.shop), .string (ofL y.key), .slice A y.head.length c, .string (ofL y.body), .int .u64 (y.due : Int), .int .u8 (y.hops : Int)] (w3.setCell ⟨w.heap.size, 3, none⟩ (.int .u64 (o1 : Int))) := ⟨_, rfl⟩
  rw [← hW'] at hF
  simp only [putAll] at hW'
  have g0 := hF.rq.cs 0 _ rfl
  have g1 := hF.rq.cs 1 _ rfl
  have g2 := hF.rq.cs 2 _ rfl
  have g3 := hF.rq.cs 3 _ rfl
  have g4 := hF.rq.cs 4 _ rfl
  have g5 := hF.rq.cs 5 _ rfl
  have g6 := hF.rq.cs 6 _ rfl
  have g7 := hF.rq.cs 7 _ rfl
  have g8 := hF.rq.cs 8 _ rfl
  have g9 := hF.rq.cs 9 _ rfl
  have g10 := hF.rq.cs 10 _ rfl
  have g11 := hF.rq.cs 11 _ rfl
  have g12 := hF.rq.cs 12 _ rfl
  exact bodyPost_ret (v := .agg #[.int .u8 (y.ch.toNat : Int), .int .u8 (y.kd.toNat : Int), .int .u64 (y.n : Int), .int .u64 (o1 : Int), .bool y.yes, .string (ofL y.name), .int .u64 (y.id : Int), .string (ofL y.shop), .string (ofL y.key), .slice A y.head.length c, .string (ofL y.body), .int .u64 (y.due : Int), .int .u8 (y.hops : Int)]) (by rw [← hW']; simp [results, Tryz.results33, go_sem, g0, g1, g2, g3, g4, g5, g6, g7, g8, g9, g10, g11, g12]) rfl ⟨A, c, rfl, HCP.out.1, by rw [← hW']; exact HCP.out.2.1.grown hF.G (fun a ha => by have := HCP.out.2.2 a ha; intro e; exact this (Option.some.inj e)), by rw [← hW']; exact hF.ri, by rw [← hW']; exact hF.G, fun a ha => Or.inl ha⟩
set_option maxHeartbeats 2000000 in
theorem re_read_2 (b : Nat) (y : Re) (A : Option Addr) (c : Nat) (s : LSt) (w : World) (h : InL b s w) (hok : lOk s) (hc : y.head.length ≤ c) (hp : Prs w A y.head) (hA : ∀ a, A = some a → a.block ≠ b) :
    Calls Tryz.prog 33 #[reV y A c, .pointer (some ⟨b, 0, none⟩), .int .i64 2] w (ReRdPost b (InL b) w y A s 2) := by
  have HD0 := Lib.hid (ReRd.start (rdr_in b) h y A c)
  have HT := Lib.hid (fun W h => re_ryes_any b s W h hok)
  have HCP := Lib.hid (And.intro hc (And.intro hp hA))
  have HE : Hid (Re.rd1 y s 2 = ({y with yes := Pt.yesOut s}, Pt.yesIn s)) := rfl
  unfold ReRyPost at HT
  generalize Pt.yesOut s = o1 at *
  generalize Pt.yesIn s = s1 at *
  unfold ReRdPost
  rw [HE.out]
  clear h hok hc hp hA HE
  simp only [reV]
  go_enter Tryz.func33, Tryz.ntmps33
  go_wp2_with fail
  generalize ((w.alloc (.cells #[.int .u8 (y.ch.toNat : Int), .int .u8 (y.kd.toNat : Int), .int .u64 (y.n : Int), .int .u64 (y.m : Int), .bool y.yes, .string (ofL y.name), .int .u64 (y.id : Int), .string (ofL y.shop), .string (ofL y.key), .slice A y.head.length c, .string (ofL y.body), .int .u64 (y.due : Int), .int .u8 (y.hops : Int)] 30)).alloc (.cells #[.int .u8 0, .int .u8 0, .int .u64 0, .int .u64 0, .bool false, .string ⟨#[]⟩, .int .u64 0, .string ⟨#[]⟩, .string ⟨#[]⟩, .slice none 0 0, .string ⟨#[]⟩, .int .u64 0, .int .u8 0] 30)) = w2 at *
  refine (HT.out _ HD0.out.ri).mono ?_
  rintro e w3 ⟨rfl, hi3, hg3⟩
  have hD3 := HD0.out.step hi3 hg3
  have HS := Lib.hid (hD3.putp (rdr_in b) 4 (.bool o1) (by simp [reL]))
  clear hi3 hg3 HT HD0
  have c4 := hD3.rp.cs 4 _ rfl
  have cf : ∀ j, w3.frozen? ⟨w.heap.size, j, none⟩ = false := hD3.rp.s
  have cl := hD3.rp.lt
  clear hD3
  have d0 := HS.out.rp.cs 0 _ rfl
  have d1 := HS.out.rp.cs 1 _ rfl
  have d2 := HS.out.rp.cs 2 _ rfl
  have d3 := HS.out.rp.cs 3 _ rfl
  have d4 := HS.out.rp.cs 4 _ rfl
  have d5 := HS.out.rp.cs 5 _ rfl
  have d6 := HS.out.rp.cs 6 _ rfl
  have d7 := HS.out.rp.cs 7 _ rfl
  have d8 := HS.out.rp.cs 8 _ rfl
  have d9 := HS.out.rp.cs 9 _ rfl
  have d10 := HS.out.rp.cs 10 _ rfl
  have d11 := HS.out.rp.cs 11 _ rfl
  have d12 := HS.out.rp.cs 12 _ rfl
  have e0 := HS.out.rq.cs 0 _ rfl
  have e1 := HS.out.rq.cs 1 _ rfl
  have e2 := HS.out.rq.cs 2 _ rfl
  have e3 := HS.out.rq.cs 3 _ rfl
  have e4 := HS.out.rq.cs 4 _ rfl
  have e5 := HS.out.rq.cs 5 _ rfl
  have e6 := HS.out.rq.cs 6 _ rfl
  have e7 := HS.out.rq.cs 7 _ rfl
  have e8 := HS.out.rq.cs 8 _ rfl
  have e9 := HS.out.rq.cs 9 _ rfl
  have e10 := HS.out.rq.cs 10 _ rfl
  have e11 := HS.out.rq.cs 11 _ rfl
  have e12 := HS.out.rq.cs 12 _ rfl
  have ef : ∀ j, (w3.setCell ⟨w.heap.size, 4, none⟩ (.bool o1)).frozen? ⟨w.heap.size + 1, j, none⟩ = false := HS.out.rq.s
  have el := HS.out.rq.lt
  go_wp2_with fail
  have hF := HS.out.fill (rdr_in b) [.int .u8 (y.ch.toNat : Int), .int .u8 (y.kd.toNat : Int), .int .u64 (y.n : Int), .int .u64 (y.m : Int), .bool o1, .string (ofL y.name), .int .u64 (y.id : Int), .string (ofL y.shop), .string (ofL y.key), .slice A y.head.length c, .string (ofL y.body), .int .u64 (y.due : Int), .int .u8 (y.hops : Int)] rfl
  obtain ⟨W', hW'⟩ : ∃ W', W' = putAll (w.heap.size + 1) 0 [.int .u8 (y.ch.toNat : Int), .int .u8 (y.kd.toNat : Int), .int .u64 (y.n : Int), .int .u64 (y.m : Int), .bool o1, .string (ofL y.name), .int .u64 (y.id : Int), .string (ofL y.shop), .string (ofL y.key), .slice A y.head.length c, .string (ofL y.body), .int .u64 (y.due : Int), .int .u8 (y.hops : Int)] (w3.setCell ⟨w.heap.size, 4, none⟩ (.bool o1)) := ⟨_, rfl⟩
  rw [← hW'] at hF
  simp only [putAll] at hW'
  have g0 := hF.rq.cs 0 _ rfl
  have g1 := hF.rq.cs 1 _ rfl
  have g2 := hF.rq.cs 2 _ rfl
  have g3 := hF.rq.cs 3 _ rfl
  have g4 := hF.rq.cs 4 _ rfl
  have g5 := hF.rq.cs 5 _ rfl
  have g6 := hF.rq.cs 6 _ rfl
  have g7 := hF.rq.cs 7 _ rfl
  have g8 := hF.rq.cs 8 _ rfl
  have g9 := hF.rq.cs 9 _ rfl
  have g10 := hF.rq.cs 10 _ rfl
  have g11 := hF.rq.cs 11 _ rfl
  have g12 := hF.rq.cs 12 _ rfl
  exact bodyPost_ret (v := .agg #[.int .u8 (y.ch.toNat : Int), .int .u8 (y.kd.toNat : Int), .int .u64 (y.n : Int), .int .u64 (y.m : Int), .bool o1, .string (ofL y.name), .int .u64 (y.id : Int), .string (ofL y.shop), .string (ofL y.key), .slice A y.head.length c, .string (ofL y.body), .int .u64 (y.due : Int), .int .u8 (y.hops : Int)]) (by rw [← hW']; simp [results, Tryz.results33, go_sem, g0, g1, g2, g3, g4, g5, g6, g7, g8, g9, g10, g11, g12]) rfl ⟨A, c, rfl, HCP.out.1, by rw [← hW']; exact HCP.out.2.1.grown hF.G (fun a ha => by have := HCP.out.2.2 a ha; intro e; exact this (Option.some.inj e)), by rw [← hW']; exact hF.ri, by rw [← hW']; exact hF.G, fun a ha => Or.inl ha⟩
set_option maxHeartbeats 2000000 in
theorem re_read_3 (b : Nat) (y : Re) (A : Option Addr) (c : Nat) (s : LSt) (w : World) (h : InL b s w) (hok : lOk s) (hc : y.head.length ≤ c) (hp : Prs w A y.head) (hA : ∀ a, A = some a → a.block ≠ b) :
    Calls Tryz.prog 33 #[reV y A c, .pointer (some ⟨b, 0, none⟩), .int .i64 3] w (ReRdPost b (InL b) w y A s 3) := by
  have HD0 := Lib.hid (ReRd.start (rdr_in b) h y A c)
  have HT := Lib.hid (fun W h => itext_l b s 16 W h hok)
  have HCP := Lib.hid (And.intro hc (And.intro hp hA))
  have HE : Hid (Re.rd1 y s 3 = ({y with name := lTextOut s 16}, lText s 16)) := rfl
  generalize lTextOut s 16 = o1 at *
  generalize lText s 16 = s1 at *
  unfold ReRdPost
  rw [HE.out]
  clear h hok hc hp hA HE
  simp only [reV]
  go_enter Tryz.func33, Tryz.ntmps33
  go_wp2_with fail
  generalize ((w.alloc (.cells #[.int .u8 (y.ch.toNat : Int), .int .u8 (y.kd.toNat : Int), .int .u64 (y.n : Int), .int .u64 (y.m : Int), .bool y.yes, .string (ofL y.name), .int .u64 (y.id : Int), .string (ofL y.shop), .string (ofL y.key), .slice A y.head.length c, .string (ofL y.body), .int .u64 (y.due : Int), .int .u8 (y.hops : Int)] 30)).alloc (.cells #[.int .u8 0, .int .u8 0, .int .u64 0, .int .u64 0, .bool false, .string ⟨#[]⟩, .int .u64 0, .string ⟨#[]⟩, .string ⟨#[]⟩, .slice none 0 0, .string ⟨#[]⟩, .int .u64 0, .int .u8 0] 30)) = w2 at *
  refine (HT.out _ HD0.out.ri).mono ?_
  rintro e w3 ⟨rfl, hi3, hg3⟩
  have hD3 := HD0.out.step hi3 hg3
  have HS := Lib.hid (hD3.putp (rdr_in b) 5 (.string (ofL o1)) (by simp [reL]))
  clear hi3 hg3 HT HD0
  have c5 := hD3.rp.cs 5 _ rfl
  have cf : ∀ j, w3.frozen? ⟨w.heap.size, j, none⟩ = false := hD3.rp.s
  have cl := hD3.rp.lt
  clear hD3
  have d0 := HS.out.rp.cs 0 _ rfl
  have d1 := HS.out.rp.cs 1 _ rfl
  have d2 := HS.out.rp.cs 2 _ rfl
  have d3 := HS.out.rp.cs 3 _ rfl
  have d4 := HS.out.rp.cs 4 _ rfl
  have d5 := HS.out.rp.cs 5 _ rfl
  have d6 := HS.out.rp.cs 6 _ rfl
  have d7 := HS.out.rp.cs 7 _ rfl
  have d8 := HS.out.rp.cs 8 _ rfl
  have d9 := HS.out.rp.cs 9 _ rfl
  have d10 := HS.out.rp.cs 10 _ rfl
  have d11 := HS.out.rp.cs 11 _ rfl
  have d12 := HS.out.rp.cs 12 _ rfl
  have e0 := HS.out.rq.cs 0 _ rfl
  have e1 := HS.out.rq.cs 1 _ rfl
  have e2 := HS.out.rq.cs 2 _ rfl
  have e3 := HS.out.rq.cs 3 _ rfl
  have e4 := HS.out.rq.cs 4 _ rfl
  have e5 := HS.out.rq.cs 5 _ rfl
  have e6 := HS.out.rq.cs 6 _ rfl
  have e7 := HS.out.rq.cs 7 _ rfl
  have e8 := HS.out.rq.cs 8 _ rfl
  have e9 := HS.out.rq.cs 9 _ rfl
  have e10 := HS.out.rq.cs 10 _ rfl
  have e11 := HS.out.rq.cs 11 _ rfl
  have e12 := HS.out.rq.cs 12 _ rfl
  have ef : ∀ j, (w3.setCell ⟨w.heap.size, 5, none⟩ (.string (ofL o1))).frozen? ⟨w.heap.size + 1, j, none⟩ = false := HS.out.rq.s
  have el := HS.out.rq.lt
  go_wp2_with fail
  have hF := HS.out.fill (rdr_in b) [.int .u8 (y.ch.toNat : Int), .int .u8 (y.kd.toNat : Int), .int .u64 (y.n : Int), .int .u64 (y.m : Int), .bool y.yes, .string (ofL o1), .int .u64 (y.id : Int), .string (ofL y.shop), .string (ofL y.key), .slice A y.head.length c, .string (ofL y.body), .int .u64 (y.due : Int), .int .u8 (y.hops : Int)] rfl
  obtain ⟨W', hW'⟩ : ∃ W', W' = putAll (w.heap.size + 1) 0 [.int .u8 (y.ch.toNat : Int), .int .u8 (y.kd.toNat : Int), .int .u64 (y.n : Int), .int .u64 (y.m : Int), .bool y.yes, .string (ofL o1), .int .u64 (y.id : Int), .string (ofL y.shop), .string (ofL y.key), .slice A y.head.length c, .string (ofL y.body), .int .u64 (y.due : Int), .int .u8 (y.hops : Int)] (w3.setCell ⟨w.heap.size, 5, none⟩ (.string (ofL o1))) := ⟨_, rfl⟩
  rw [← hW'] at hF
  simp only [putAll] at hW'
  have g0 := hF.rq.cs 0 _ rfl
  have g1 := hF.rq.cs 1 _ rfl
  have g2 := hF.rq.cs 2 _ rfl
  have g3 := hF.rq.cs 3 _ rfl
  have g4 := hF.rq.cs 4 _ rfl
  have g5 := hF.rq.cs 5 _ rfl
  have g6 := hF.rq.cs 6 _ rfl
  have g7 := hF.rq.cs 7 _ rfl
  have g8 := hF.rq.cs 8 _ rfl
  have g9 := hF.rq.cs 9 _ rfl
  have g10 := hF.rq.cs 10 _ rfl
  have g11 := hF.rq.cs 11 _ rfl
  have g12 := hF.rq.cs 12 _ rfl
  exact bodyPost_ret (v := .agg #[.int .u8 (y.ch.toNat : Int), .int .u8 (y.kd.toNat : Int), .int .u64 (y.n : Int), .int .u64 (y.m : Int), .bool y.yes, .string (ofL o1), .int .u64 (y.id : Int), .string (ofL y.shop), .string (ofL y.key), .slice A y.head.length c, .string (ofL y.body), .int .u64 (y.due : Int), .int .u8 (y.hops : Int)]) (by rw [← hW']; simp [results, Tryz.results33, go_sem, g0, g1, g2, g3, g4, g5, g6, g7, g8, g9, g10, g11, g12]) rfl ⟨A, c, rfl, HCP.out.1, by rw [← hW']; exact HCP.out.2.1.grown hF.G (fun a ha => by have := HCP.out.2.2 a ha; intro e; exact this (Option.some.inj e)), by rw [← hW']; exact hF.ri, by rw [← hW']; exact hF.G, fun a ha => Or.inl ha⟩
set_option maxHeartbeats 2000000 in
theorem re_read_4 (b : Nat) (y : Re) (A : Option Addr) (c : Nat) (s : LSt) (w : World) (h : InL b s w) (hok : lOk s) (hc : y.head.length ≤ c) (hp : Prs w A y.head) (hA : ∀ a, A = some a → a.block ≠ b) :
    Calls Tryz.prog 33 #[reV y A c, .pointer (some ⟨b, 0, none⟩), .int .i64 4] w (ReRdPost b (InL b) w y A s 4) := by
  have HD0 := Lib.hid (ReRd.start (rdr_in b) h y A c)
  have HT := Lib.hid (fun W h => itext_l b s 16 W h hok)
  have HCP := Lib.hid (And.intro hc (And.intro hp hA))
  have HE : Hid (Re.rd1 y s 4 = ({y with shop := lTextOut s 16}, lText s 16)) := rfl
  generalize lTextOut s 16 = o1 at *
  generalize lText s 16 = s1 at *
  unfold ReRdPost
  rw [HE.out]
  clear h hok hc hp hA HE
  simp only [reV]
  go_enter Tryz.func33, Tryz.ntmps33
  go_wp2_with fail
  generalize ((w.alloc (.cells #[.int .u8 (y.ch.toNat : Int), .int .u8 (y.kd.toNat : Int), .int .u64 (y.n : Int), .int .u64 (y.m : Int), .bool y.yes, .string (ofL y.name), .int .u64 (y.id : Int), .string (ofL y.shop), .string (ofL y.key), .slice A y.head.length c, .string (ofL y.body), .int .u64 (y.due : Int), .int .u8 (y.hops : Int)] 30)).alloc (.cells #[.int .u8 0, .int .u8 0, .int .u64 0, .int .u64 0, .bool false, .string ⟨#[]⟩, .int .u64 0, .string ⟨#[]⟩, .string ⟨#[]⟩, .slice none 0 0, .string ⟨#[]⟩, .int .u64 0, .int .u8 0] 30)) = w2 at *
  refine (HT.out _ HD0.out.ri).mono ?_
  rintro e w3 ⟨rfl, hi3, hg3⟩
  have hD3 := HD0.out.step hi3 hg3
  have HS := Lib.hid (hD3.putp (rdr_in b) 7 (.string (ofL o1)) (by simp [reL]))
  clear hi3 hg3 HT HD0
  have c7 := hD3.rp.cs 7 _ rfl
  have cf : ∀ j, w3.frozen? ⟨w.heap.size, j, none⟩ = false := hD3.rp.s
  have cl := hD3.rp.lt
  clear hD3
  have d0 := HS.out.rp.cs 0 _ rfl
  have d1 := HS.out.rp.cs 1 _ rfl
  have d2 := HS.out.rp.cs 2 _ rfl
  have d3 := HS.out.rp.cs 3 _ rfl
  have d4 := HS.out.rp.cs 4 _ rfl
  have d5 := HS.out.rp.cs 5 _ rfl
  have d6 := HS.out.rp.cs 6 _ rfl
  have d7 := HS.out.rp.cs 7 _ rfl
  have d8 := HS.out.rp.cs 8 _ rfl
  have d9 := HS.out.rp.cs 9 _ rfl
  have d10 := HS.out.rp.cs 10 _ rfl
  have d11 := HS.out.rp.cs 11 _ rfl
  have d12 := HS.out.rp.cs 12 _ rfl
  have e0 := HS.out.rq.cs 0 _ rfl
  have e1 := HS.out.rq.cs 1 _ rfl
  have e2 := HS.out.rq.cs 2 _ rfl
  have e3 := HS.out.rq.cs 3 _ rfl
  have e4 := HS.out.rq.cs 4 _ rfl
  have e5 := HS.out.rq.cs 5 _ rfl
  have e6 := HS.out.rq.cs 6 _ rfl
  have e7 := HS.out.rq.cs 7 _ rfl
  have e8 := HS.out.rq.cs 8 _ rfl
  have e9 := HS.out.rq.cs 9 _ rfl
  have e10 := HS.out.rq.cs 10 _ rfl
  have e11 := HS.out.rq.cs 11 _ rfl
  have e12 := HS.out.rq.cs 12 _ rfl
  have ef : ∀ j, (w3.setCell ⟨w.heap.size, 7, none⟩ (.string (ofL o1))).frozen? ⟨w.heap.size + 1, j, none⟩ = false := HS.out.rq.s
  have el := HS.out.rq.lt
  go_wp2_with fail
  have hF := HS.out.fill (rdr_in b) [.int .u8 (y.ch.toNat : Int), .int .u8 (y.kd.toNat : Int), .int .u64 (y.n : Int), .int .u64 (y.m : Int), .bool y.yes, .string (ofL y.name), .int .u64 (y.id : Int), .string (ofL o1), .string (ofL y.key), .slice A y.head.length c, .string (ofL y.body), .int .u64 (y.due : Int), .int .u8 (y.hops : Int)] rfl
  obtain ⟨W', hW'⟩ : ∃ W', W' = putAll (w.heap.size + 1) 0 [.int .u8 (y.ch.toNat : Int), .int .u8 (y.kd.toNat : Int), .int .u64 (y.n : Int), .int .u64 (y.m : Int), .bool y.yes, .string (ofL y.name), .int .u64 (y.id : Int), .string (ofL o1), .string (ofL y.key), .slice A y.head.length c, .string (ofL y.body), .int .u64 (y.due : Int), .int .u8 (y.hops : Int)] (w3.setCell ⟨w.heap.size, 7, none⟩ (.string (ofL o1))) := ⟨_, rfl⟩
  rw [← hW'] at hF
  simp only [putAll] at hW'
  have g0 := hF.rq.cs 0 _ rfl
  have g1 := hF.rq.cs 1 _ rfl
  have g2 := hF.rq.cs 2 _ rfl
  have g3 := hF.rq.cs 3 _ rfl
  have g4 := hF.rq.cs 4 _ rfl
  have g5 := hF.rq.cs 5 _ rfl
  have g6 := hF.rq.cs 6 _ rfl
  have g7 := hF.rq.cs 7 _ rfl
  have g8 := hF.rq.cs 8 _ rfl
  have g9 := hF.rq.cs 9 _ rfl
  have g10 := hF.rq.cs 10 _ rfl
  have g11 := hF.rq.cs 11 _ rfl
  have g12 := hF.rq.cs 12 _ rfl
  exact bodyPost_ret (v := .agg #[.int .u8 (y.ch.toNat : Int), .int .u8 (y.kd.toNat : Int), .int .u64 (y.n : Int), .int .u64 (y.m : Int), .bool y.yes, .string (ofL y.name), .int .u64 (y.id : Int), .string (ofL o1), .string (ofL y.key), .slice A y.head.length c, .string (ofL y.body), .int .u64 (y.due : Int), .int .u8 (y.hops : Int)]) (by rw [← hW']; simp [results, Tryz.results33, go_sem, g0, g1, g2, g3, g4, g5, g6, g7, g8, g9, g10, g11, g12]) rfl ⟨A, c, rfl, HCP.out.1, by rw [← hW']; exact HCP.out.2.1.grown hF.G (fun a ha => by have := HCP.out.2.2 a ha; intro e; exact this (Option.some.inj e)), by rw [← hW']; exact hF.ri, by rw [← hW']; exact hF.G, fun a ha => Or.inl ha⟩
set_option maxHeartbeats 2000000 in
theorem re_read_5 (b : Nat) (y : Re) (A : Option Addr) (c : Nat) (s : LSt) (w : World) (h : InL b s w) (hok : lOk s) (hc : y.head.length ≤ c) (hp : Prs w A y.head) (hA : ∀ a, A = some a → a.block ≠ b) :
    Calls Tryz.prog 33 #[reV y A c, .pointer (some ⟨b, 0, none⟩), .int .i64 5] w (ReRdPost b (InL b) w y A s 5) := by
  have HD0 := Lib.hid (ReRd.start (rdr_in b) h y A c)
  have HT := Lib.hid (fun W h => itext_l b s 64 W h hok)
  have HCP := Lib.hid (And.intro hc (And.intro hp hA))
  have HE : Hid (Re.rd1 y s 5 = ({y with key := lTextOut s 64}, lText s 64)) := rfl
  generalize lTextOut s 64 = o1 at *
  generalize lText s 64 = s1 at *
  unfold ReRdPost
  rw [HE.out]
  clear h hok hc hp hA HE
  simp only [reV]
  go_enter Tryz.func33, Tryz.ntmps33
  go_wp2_with fail
  generalize ((w.alloc (.cells #[.int .u8 (y.ch.toNat : Int), .int .u8 (y.kd.toNat : Int), .int .u64 (y.n : Int), .int .u64 (y.m : Int), .bool y.yes, .string (ofL y.name), .int .u64 (y.id : Int), .string (ofL y.shop), .string (ofL y.key), .slice A y.head.length c, .string (ofL y.body), .int .u64 (y.due : Int), .int .u8 (y.hops : Int)] 30)).alloc (.cells #[.int .u8 0, .int .u8 0, .int .u64 0, .int .u64 0, .bool false, .string ⟨#[]⟩, .int .u64 0, .string ⟨#[]⟩, .string ⟨#[]⟩, .slice none 0 0, .string ⟨#[]⟩, .int .u64 0, .int .u8 0] 30)) = w2 at *
  refine (HT.out _ HD0.out.ri).mono ?_
  rintro e w3 ⟨rfl, hi3, hg3⟩
  have hD3 := HD0.out.step hi3 hg3
  have HS := Lib.hid (hD3.putp (rdr_in b) 8 (.string (ofL o1)) (by simp [reL]))
  clear hi3 hg3 HT HD0
  have c8 := hD3.rp.cs 8 _ rfl
  have cf : ∀ j, w3.frozen? ⟨w.heap.size, j, none⟩ = false := hD3.rp.s
  have cl := hD3.rp.lt
  clear hD3
  have d0 := HS.out.rp.cs 0 _ rfl
  have d1 := HS.out.rp.cs 1 _ rfl
  have d2 := HS.out.rp.cs 2 _ rfl
  have d3 := HS.out.rp.cs 3 _ rfl
  have d4 := HS.out.rp.cs 4 _ rfl
  have d5 := HS.out.rp.cs 5 _ rfl
  have d6 := HS.out.rp.cs 6 _ rfl
  have d7 := HS.out.rp.cs 7 _ rfl
  have d8 := HS.out.rp.cs 8 _ rfl
  have d9 := HS.out.rp.cs 9 _ rfl
  have d10 := HS.out.rp.cs 10 _ rfl
  have d11 := HS.out.rp.cs 11 _ rfl
  have d12 := HS.out.rp.cs 12 _ rfl
  have e0 := HS.out.rq.cs 0 _ rfl
  have e1 := HS.out.rq.cs 1 _ rfl
  have e2 := HS.out.rq.cs 2 _ rfl
  have e3 := HS.out.rq.cs 3 _ rfl
  have e4 := HS.out.rq.cs 4 _ rfl
  have e5 := HS.out.rq.cs 5 _ rfl
  have e6 := HS.out.rq.cs 6 _ rfl
  have e7 := HS.out.rq.cs 7 _ rfl
  have e8 := HS.out.rq.cs 8 _ rfl
  have e9 := HS.out.rq.cs 9 _ rfl
  have e10 := HS.out.rq.cs 10 _ rfl
  have e11 := HS.out.rq.cs 11 _ rfl
  have e12 := HS.out.rq.cs 12 _ rfl
  have ef : ∀ j, (w3.setCell ⟨w.heap.size, 8, none⟩ (.string (ofL o1))).frozen? ⟨w.heap.size + 1, j, none⟩ = false := HS.out.rq.s
  have el := HS.out.rq.lt
  go_wp2_with fail
  have hF := HS.out.fill (rdr_in b) [.int .u8 (y.ch.toNat : Int), .int .u8 (y.kd.toNat : Int), .int .u64 (y.n : Int), .int .u64 (y.m : Int), .bool y.yes, .string (ofL y.name), .int .u64 (y.id : Int), .string (ofL y.shop), .string (ofL o1), .slice A y.head.length c, .string (ofL y.body), .int .u64 (y.due : Int), .int .u8 (y.hops : Int)] rfl
  obtain ⟨W', hW'⟩ : ∃ W', W' = putAll (w.heap.size + 1) 0 [.int .u8 (y.ch.toNat : Int), .int .u8 (y.kd.toNat : Int), .int .u64 (y.n : Int), .int .u64 (y.m : Int), .bool y.yes, .string (ofL y.name), .int .u64 (y.id : Int), .string (ofL y.shop), .string (ofL o1), .slice A y.head.length c, .string (ofL y.body), .int .u64 (y.due : Int), .int .u8 (y.hops : Int)] (w3.setCell ⟨w.heap.size, 8, none⟩ (.string (ofL o1))) := ⟨_, rfl⟩
  rw [← hW'] at hF
  simp only [putAll] at hW'
  have g0 := hF.rq.cs 0 _ rfl
  have g1 := hF.rq.cs 1 _ rfl
  have g2 := hF.rq.cs 2 _ rfl
  have g3 := hF.rq.cs 3 _ rfl
  have g4 := hF.rq.cs 4 _ rfl
  have g5 := hF.rq.cs 5 _ rfl
  have g6 := hF.rq.cs 6 _ rfl
  have g7 := hF.rq.cs 7 _ rfl
  have g8 := hF.rq.cs 8 _ rfl
  have g9 := hF.rq.cs 9 _ rfl
  have g10 := hF.rq.cs 10 _ rfl
  have g11 := hF.rq.cs 11 _ rfl
  have g12 := hF.rq.cs 12 _ rfl
  exact bodyPost_ret (v := .agg #[.int .u8 (y.ch.toNat : Int), .int .u8 (y.kd.toNat : Int), .int .u64 (y.n : Int), .int .u64 (y.m : Int), .bool y.yes, .string (ofL y.name), .int .u64 (y.id : Int), .string (ofL y.shop), .string (ofL o1), .slice A y.head.length c, .string (ofL y.body), .int .u64 (y.due : Int), .int .u8 (y.hops : Int)]) (by rw [← hW']; simp [results, Tryz.results33, go_sem, g0, g1, g2, g3, g4, g5, g6, g7, g8, g9, g10, g11, g12]) rfl ⟨A, c, rfl, HCP.out.1, by rw [← hW']; exact HCP.out.2.1.grown hF.G (fun a ha => by have := HCP.out.2.2 a ha; intro e; exact this (Option.some.inj e)), by rw [← hW']; exact hF.ri, by rw [← hW']; exact hF.G, fun a ha => Or.inl ha⟩
set_option maxHeartbeats 2000000 in
theorem re_read_6 (b : Nat) (y : Re) (A : Option Addr) (c : Nat) (s : LSt) (w : World) (h : InL b s w) (hok : lOk s) (hc : y.head.length ≤ c) (hp : Prs w A y.head) (hA : ∀ a, A = some a → a.block ≠ b) :
    Calls Tryz.prog 33 #[reV y A c, .pointer (some ⟨b, 0, none⟩), .int .i64 6] w (ReRdPost b (InL b) w y A s 6) := by
  have HD0 := Lib.hid (ReRd.start (rdr_in b) h y A c)
  have HT := Lib.hid (fun W h => hread_any b s W h hok)
  have HCP := Lib.hid (And.intro hc (And.intro hp hA))
  have HE : Hid (Re.rd1 y s 6 = ({y with head := (Hd.hread s).1}, (Hd.hread s).2)) := rfl
  unfold HReadPost at HT
  generalize Hd.hread s = Q at *
  obtain ⟨l1, s1⟩ := Q
  unfold ReRdPost
  rw [HE.out]
  clear h hok hc hp hA HE
  simp only [reV]
  go_enter Tryz.func33, Tryz.ntmps33
  go_wp2_with fail
  generalize ((w.alloc (.cells #[.int .u8 (y.ch.toNat : Int), .int .u8 (y.kd.toNat : Int), .int .u64 (y.n : Int), .int .u64 (y.m : Int), .bool y.yes, .string (ofL y.name), .int .u64 (y.id : Int), .string (ofL y.shop), .string (ofL y.key), .slice A y.head.length c, .string (ofL y.body), .int .u64 (y.due : Int), .int .u8 (y.hops : Int)] 30)).alloc (.cells #[.int .u8 0, .int .u8 0, .int .u64 0, .int .u64 0, .bool false, .string ⟨#[]⟩, .int .u64 0, .string ⟨#[]⟩, .string ⟨#[]⟩, .slice none 0 0, .string ⟨#[]⟩, .int .u64 0, .int .u8 0] 30)) = w2 at *
  refine (HT.out _ HD0.out.ri).mono ?_
  rintro e w3 ⟨A', c', rfl, hc3, hp3, hi3, hg3, hA3⟩
  obtain ⟨n1, hn1⟩ : ∃ n1, n1 = l1.length := ⟨_, rfl⟩
  have HN1 := Lib.hid hn1
  try dsimp only at hc3
  try dsimp only at hp3
  try dsimp only at hi3
  try dsimp only
  rw [← hn1] at hc3 ⊢
  have HP3 := Lib.hid hp3
  have HC3 := Lib.hid hc3
  have HA3 := Lib.hid (show ∀ a, A' = some a → w.heap.size + 1 < a.block from fun a ha => by have := hA3 a ha; have := HD0.out.rq.lt; omega)
  have hD3 := HD0.out.step hi3 hg3
  have HS := Lib.hid (hD3.putp (rdr_in b) 9 ((Value.slice A' n1 c')) (by simp [reL]))
  clear hi3 hg3 HT HD0 hn1 hp3 hc3 hA3
  have c9 := hD3.rp.cs 9 _ rfl
  have cf : ∀ j, w3.frozen? ⟨w.heap.size, j, none⟩ = false := hD3.rp.s
  have cl := hD3.rp.lt
  clear hD3
  have d0 := HS.out.rp.cs 0 _ rfl
  have d1 := HS.out.rp.cs 1 _ rfl
  have d2 := HS.out.rp.cs 2 _ rfl
  have d3 := HS.out.rp.cs 3 _ rfl
  have d4 := HS.out.rp.cs 4 _ rfl
  have d5 := HS.out.rp.cs 5 _ rfl
  have d6 := HS.out.rp.cs 6 _ rfl
  have d7 := HS.out.rp.cs 7 _ rfl
  have d8 := HS.out.rp.cs 8 _ rfl
  have d9 := HS.out.rp.cs 9 _ rfl
  have d10 := HS.out.rp.cs 10 _ rfl
  have d11 := HS.out.rp.cs 11 _ rfl
  have d12 := HS.out.rp.cs 12 _ rfl
  have e0 := HS.out.rq.cs 0 _ rfl
  have e1 := HS.out.rq.cs 1 _ rfl
  have e2 := HS.out.rq.cs 2 _ rfl
  have e3 := HS.out.rq.cs 3 _ rfl
  have e4 := HS.out.rq.cs 4 _ rfl
  have e5 := HS.out.rq.cs 5 _ rfl
  have e6 := HS.out.rq.cs 6 _ rfl
  have e7 := HS.out.rq.cs 7 _ rfl
  have e8 := HS.out.rq.cs 8 _ rfl
  have e9 := HS.out.rq.cs 9 _ rfl
  have e10 := HS.out.rq.cs 10 _ rfl
  have e11 := HS.out.rq.cs 11 _ rfl
  have e12 := HS.out.rq.cs 12 _ rfl
  have ef : ∀ j, (w3.setCell ⟨w.heap.size, 9, none⟩ ((Value.slice A' n1 c'))).frozen? ⟨w.heap.size + 1, j, none⟩ = false := HS.out.rq.s
  have el := HS.out.rq.lt
  go_wp2_with fail
  have hF := HS.out.fill (rdr_in b) [.int .u8 (y.ch.toNat : Int), .int .u8 (y.kd.toNat : Int), .int .u64 (y.n : Int), .int .u64 (y.m : Int), .bool y.yes, .string (ofL y.name), .int .u64 (y.id : Int), .string (ofL y.shop), .string (ofL y.key), (Value.slice A' n1 c'), .string (ofL y.body), .int .u64 (y.due : Int), .int .u8 (y.hops : Int)] rfl
  obtain ⟨W', hW'⟩ : ∃ W', W' = putAll (w.heap.size + 1) 0 [.int .u8 (y.ch.toNat : Int), .int .u8 (y.kd.toNat : Int), .int .u64 (y.n : Int), .int .u64 (y.m : Int), .bool y.yes, .string (ofL y.name), .int .u64 (y.id : Int), .string (ofL y.shop), .string (ofL y.key), (Value.slice A' n1 c'), .string (ofL y.body), .int .u64 (y.due : Int), .int .u8 (y.hops : Int)] (w3.setCell ⟨w.heap.size, 9, none⟩ ((Value.slice A' n1 c'))) := ⟨_, rfl⟩
  rw [← hW'] at hF
  have hPP := Prs.putAll (g := w.heap.size + 1) (fun a ha => by have := HA3.out a ha; omega) [.int .u8 (y.ch.toNat : Int), .int .u8 (y.kd.toNat : Int), .int .u64 (y.n : Int), .int .u64 (y.m : Int), .bool y.yes, .string (ofL y.name), .int .u64 (y.id : Int), .string (ofL y.shop), .string (ofL y.key), (Value.slice A' n1 c'), .string (ofL y.body), .int .u64 (y.due : Int), .int .u8 (y.hops : Int)] 0 (HP3.out.aside (g := w.heap.size) (fun a ha => by have := HA3.out a ha; omega) 9 ((Value.slice A' n1 c')))
  rw [← hW'] at hPP
  simp only [putAll] at hW'
  have g0 := hF.rq.cs 0 _ rfl
  have g1 := hF.rq.cs 1 _ rfl
  have g2 := hF.rq.cs 2 _ rfl
  have g3 := hF.rq.cs 3 _ rfl
  have g4 := hF.rq.cs 4 _ rfl
  have g5 := hF.rq.cs 5 _ rfl
  have g6 := hF.rq.cs 6 _ rfl
  have g7 := hF.rq.cs 7 _ rfl
  have g8 := hF.rq.cs 8 _ rfl
  have g9 := hF.rq.cs 9 _ rfl
  have g10 := hF.rq.cs 10 _ rfl
  have g11 := hF.rq.cs 11 _ rfl
  have g12 := hF.rq.cs 12 _ rfl
  exact bodyPost_ret (v := .agg #[.int .u8 (y.ch.toNat : Int), .int .u8 (y.kd.toNat : Int), .int .u64 (y.n : Int), .int .u64 (y.m : Int), .bool y.yes, .string (ofL y.name), .int .u64 (y.id : Int), .string (ofL y.shop), .string (ofL y.key), (Value.slice A' n1 c'), .string (ofL y.body), .int .u64 (y.due : Int), .int .u8 (y.hops : Int)]) (by rw [← hW']; simp [results, Tryz.results33, go_sem, g0, g1, g2, g3, g4, g5, g6, g7, g8, g9, g10, g11, g12]) rfl ⟨A', c', by rw [HN1.out], by rw [← HN1.out]; exact HC3.out, by rw [← hW']; exact hPP, by rw [← hW']; exact hF.ri, by rw [← hW']; exact hF.G, fun a ha => Or.inr (by have := HA3.out a ha; omega)⟩
set_option maxHeartbeats 2000000 in
theorem re_read_7 (b : Nat) (y : Re) (A : Option Addr) (c : Nat) (s : LSt) (w : World) (h : InL b s w) (hok : lOk s) (hc : y.head.length ≤ c) (hp : Prs w A y.head) (hA : ∀ a, A = some a → a.block ≠ b) :
    Calls Tryz.prog 33 #[reV y A c, .pointer (some ⟨b, 0, none⟩), .int .i64 7] w (ReRdPost b (InL b) w y A s 7) := by
  have HD0 := Lib.hid (ReRd.start (rdr_in b) h y A c)
  have HT := Lib.hid (fun W h => itext_l b s 256 W h hok)
  have HCP := Lib.hid (And.intro hc (And.intro hp hA))
  have HE : Hid (Re.rd1 y s 7 = ({y with body := lTextOut s 256}, lText s 256)) := rfl
  generalize lTextOut s 256 = o1 at *
  generalize lText s 256 = s1 at *
  unfold ReRdPost
  rw [HE.out]
  clear h hok hc hp hA HE
  simp only [reV]
  go_enter Tryz.func33, Tryz.ntmps33
  go_wp2_with fail
  generalize ((w.alloc (.cells #[.int .u8 (y.ch.toNat : Int), .int .u8 (y.kd.toNat : Int), .int .u64 (y.n : Int), .int .u64 (y.m : Int), .bool y.yes, .string (ofL y.name), .int .u64 (y.id : Int), .string (ofL y.shop), .string (ofL y.key), .slice A y.head.length c, .string (ofL y.body), .int .u64 (y.due : Int), .int .u8 (y.hops : Int)] 30)).alloc (.cells #[.int .u8 0, .int .u8 0, .int .u64 0, .int .u64 0, .bool false, .string ⟨#[]⟩, .int .u64 0, .string ⟨#[]⟩, .string ⟨#[]⟩, .slice none 0 0, .string ⟨#[]⟩, .int .u64 0, .int .u8 0] 30)) = w2 at *
  refine (HT.out _ HD0.out.ri).mono ?_
  rintro e w3 ⟨rfl, hi3, hg3⟩
  have hD3 := HD0.out.step hi3 hg3
  have HS := Lib.hid (hD3.putp (rdr_in b) 10 (.string (ofL o1)) (by simp [reL]))
  clear hi3 hg3 HT HD0
  have c10 := hD3.rp.cs 10 _ rfl
  have cf : ∀ j, w3.frozen? ⟨w.heap.size, j, none⟩ = false := hD3.rp.s
  have cl := hD3.rp.lt
  clear hD3
  have d0 := HS.out.rp.cs 0 _ rfl
  have d1 := HS.out.rp.cs 1 _ rfl
  have d2 := HS.out.rp.cs 2 _ rfl
  have d3 := HS.out.rp.cs 3 _ rfl
  have d4 := HS.out.rp.cs 4 _ rfl
  have d5 := HS.out.rp.cs 5 _ rfl
  have d6 := HS.out.rp.cs 6 _ rfl
  have d7 := HS.out.rp.cs 7 _ rfl
  have d8 := HS.out.rp.cs 8 _ rfl
  have d9 := HS.out.rp.cs 9 _ rfl
  have d10 := HS.out.rp.cs 10 _ rfl
  have d11 := HS.out.rp.cs 11 _ rfl
  have d12 := HS.out.rp.cs 12 _ rfl
  have e0 := HS.out.rq.cs 0 _ rfl
  have e1 := HS.out.rq.cs 1 _ rfl
  have e2 := HS.out.rq.cs 2 _ rfl
  have e3 := HS.out.rq.cs 3 _ rfl
  have e4 := HS.out.rq.cs 4 _ rfl
  have e5 := HS.out.rq.cs 5 _ rfl
  have e6 := HS.out.rq.cs 6 _ rfl
  have e7 := HS.out.rq.cs 7 _ rfl
  have e8 := HS.out.rq.cs 8 _ rfl
  have e9 := HS.out.rq.cs 9 _ rfl
  have e10 := HS.out.rq.cs 10 _ rfl
  have e11 := HS.out.rq.cs 11 _ rfl
  have e12 := HS.out.rq.cs 12 _ rfl
  have ef : ∀ j, (w3.setCell ⟨w.heap.size, 10, none⟩ (.string (ofL o1))).frozen? ⟨w.heap.size + 1, j, none⟩ = false := HS.out.rq.s
  have el := HS.out.rq.lt
  go_wp2_with fail
  have hF := HS.out.fill (rdr_in b) [.int .u8 (y.ch.toNat : Int), .int .u8 (y.kd.toNat : Int), .int .u64 (y.n : Int), .int .u64 (y.m : Int), .bool y.yes, .string (ofL y.name), .int .u64 (y.id : Int), .string (ofL y.shop), .string (ofL y.key), .slice A y.head.length c, .string (ofL o1), .int .u64 (y.due : Int), .int .u8 (y.hops : Int)] rfl
  obtain ⟨W', hW'⟩ : ∃ W', W' = putAll (w.heap.size + 1) 0 [.int .u8 (y.ch.toNat : Int), .int .u8 (y.kd.toNat : Int), .int .u64 (y.n : Int), .int .u64 (y.m : Int), .bool y.yes, .string (ofL y.name), .int .u64 (y.id : Int), .string (ofL y.shop), .string (ofL y.key), .slice A y.head.length c, .string (ofL o1), .int .u64 (y.due : Int), .int .u8 (y.hops : Int)] (w3.setCell ⟨w.heap.size, 10, none⟩ (.string (ofL o1))) := ⟨_, rfl⟩
  rw [← hW'] at hF
  simp only [putAll] at hW'
  have g0 := hF.rq.cs 0 _ rfl
  have g1 := hF.rq.cs 1 _ rfl
  have g2 := hF.rq.cs 2 _ rfl
  have g3 := hF.rq.cs 3 _ rfl
  have g4 := hF.rq.cs 4 _ rfl
  have g5 := hF.rq.cs 5 _ rfl
  have g6 := hF.rq.cs 6 _ rfl
  have g7 := hF.rq.cs 7 _ rfl
  have g8 := hF.rq.cs 8 _ rfl
  have g9 := hF.rq.cs 9 _ rfl
  have g10 := hF.rq.cs 10 _ rfl
  have g11 := hF.rq.cs 11 _ rfl
  have g12 := hF.rq.cs 12 _ rfl
  exact bodyPost_ret (v := .agg #[.int .u8 (y.ch.toNat : Int), .int .u8 (y.kd.toNat : Int), .int .u64 (y.n : Int), .int .u64 (y.m : Int), .bool y.yes, .string (ofL y.name), .int .u64 (y.id : Int), .string (ofL y.shop), .string (ofL y.key), .slice A y.head.length c, .string (ofL o1), .int .u64 (y.due : Int), .int .u8 (y.hops : Int)]) (by rw [← hW']; simp [results, Tryz.results33, go_sem, g0, g1, g2, g3, g4, g5, g6, g7, g8, g9, g10, g11, g12]) rfl ⟨A, c, rfl, HCP.out.1, by rw [← hW']; exact HCP.out.2.1.grown hF.G (fun a ha => by have := HCP.out.2.2 a ha; intro e; exact this (Option.some.inj e)), by rw [← hW']; exact hF.ri, by rw [← hW']; exact hF.G, fun a ha => Or.inl ha⟩
theorem re_read_any (b p : Nat) (hp8 : p < 8) (y : Re) (A : Option Addr) (c : Nat) (s : LSt) (w : World) (h : InL b s w) (hok : lOk s) (hc : y.head.length ≤ c) (hp : Prs w A y.head) (hA : ∀ a, A = some a → a.block ≠ b) :
    Calls Tryz.prog 33 #[reV y A c, .pointer (some ⟨b, 0, none⟩), .int .i64 (p : Int)] w (ReRdPost b (InL b) w y A s p) := by
  rcases Re.lt8 hp8 with rfl | rfl | rfl | rfl | rfl | rfl | rfl | rfl
  · exact re_read_0 b y A c s w h hok hc hp hA
  · exact re_read_1 b y A c s w h hok hc hp hA
  · exact re_read_2 b y A c s w h hok hc hp hA
  · exact re_read_3 b y A c s w h hok hc hp hA
  · exact re_read_4 b y A c s w h hok hc hp hA
  · exact re_read_5 b y A c s w h hok hc hp hA
  · exact re_read_6 b y A c s w h hok hc hp hA
  · exact re_read_7 b y A c s w h hok hc hp hA
end Go.Proofs.YtnjlhafhgfpfiaaGreatDoor
end
