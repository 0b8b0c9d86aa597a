/-
  CHANNELS: made, a credit, room, what is unsettled, one lent more: walked.
-/
import Derived.Test.YtecjngodfciokaaGreatDoorCc04
import Derived.Test.YtecjngodfciokaaGreatDoorCc27

section
namespace Go.Proofs.YtecjngodfciokaaGreatDoor
open Go.ChangeShapes Go.WideShapes Go.ChangeAt Go.RowKit
/-- a channel, as it stands in memory -/
structure Cn where
  cr : Nat
  tA : Option Addr
  tn : Nat
  tc : Nat
  su : Bool
  num : Nat
  dr : Bool
  dA : Option Addr
  dn : Nat
  dc : Nat
def Cn.new : Cn := ⟨16, none, 0, 0, false, 0, false, none, 0, 0⟩
def chV (x : Cn) (A : Option Addr) (n c : Nat) : Value := .agg #[.int .i64 (x.cr : Int), .slice x.tA x.tn x.tc, .slice A n c, .bool x.su, .int .u64 (x.num : Int), .bool x.dr, .slice x.dA x.dn x.dc]
def ltL (id : Nat) (q : List UInt8) : List Value := [.int .u64 (id : Int), .string (ofL q)]
theorem max2_runC {P : Program} (w : World) (ts : Array TypeId) (t : TypeId) (a b : Int) : (Builtin.max_ ts t #[.int .i64 a, .int .i64 b]).run P w = .ok (.int .i64 (max a b)) w := by
  have h : ∀ x y : Int, (if y > x then y else x) = max x y := fun x y => by
    rw [Int.max_def]
    split <;> split <;> omega
  simp [Builtin.max_, Builtin.max2, h]
theorem rwsAll {A : Option Addr} {cs : List Value} {g : Nat} (hg : ∀ a, A = some a → a.block ≠ g) : ∀ (vs : List Value) (j : Nat) {W : World}, Rws W A cs → Rws (putAll g j vs W) A cs
  | [], _, _, h => h
  | v :: vs, j, _, h => rwsAll hg vs (j + 1) (rwsPut h hg j v)
theorem clipLt_any (A : Option Addr) (n c : Nat) (w : World) (hc : n ≤ c) : Calls Tryz.prog 38 #[.slice A n c] w fun e w' => e = .returned (.slice A n n) ∧ w = w' := by
  go_enter Tryz.func38, Tryz.ntmps38
  go_wp2_with fail
  go_ret
  exact ⟨rfl, rfl⟩
set_option maxRecDepth 100000 in
theorem chNew_any (w : World) : Calls Tryz.prog 19 #[] w fun e w' => e = .returned (chV Cn.new none 0 0) ∧ Below w.heap.size w w' := by
  go_enter Tryz.func19, Tryz.ntmps19
  go_wp2_with fail
  refine bodyPost_ret (v := chV Cn.new none 0 0) (by simp [results, Tryz.results19, go_sem, chV, Cn.new]) rfl ?_
  exact ⟨rfl, (Below.refl _ _).alloc (Nat.le_refl _) _⟩
def crOk (n : Nat) : Bool := decide (1 ≤ n) && decide (n ≤ 16)
set_option maxRecDepth 100000 in
set_option maxHeartbeats 4000000 in
theorem chCredit_any (x : Cn) (A : Option Addr) (n c N : Nat) (w : World) (hN : N < 18446744073709551616) :
    Calls Tryz.prog 20 #[chV x A n c, .int .u64 (N : Int)] w fun e w' => e = .returned (.tuple #[chV (if crOk N then { x with cr := N } else x) A n c, .int .i64 (if crOk N then 0 else 7)]) ∧ Below w.heap.size w w' := by
  obtain ⟨cr, tA, tn, tc, su, num, dr, dA, dn, dc⟩ := x
  have hb2 : Below w.heap.size w ((w.alloc (.cells #[.int .i64 (cr : Int), .slice tA tn tc, .slice A n c, .bool su, .int .u64 (num : Int), .bool dr, .slice dA dn dc] 63)).alloc (.cells #[.int .i64 (cr : Int), .slice tA tn tc, .slice A n c, .bool su, .int .u64 (num : Int), .bool dr, .slice dA dn dc] 63)) := ((Below.refl _ _).alloc (Nat.le_refl _) _).alloc (by simp) _
  by_cases h0 : N = 0
  · subst h0
    have e : crOk 0 = false := rfl
    rw [e]
    simp only [chV, if_neg Bool.false_ne_true]
    go_enter Tryz.func20, Tryz.ntmps20
    go_wp2_with fail
    refine bodyPost_ret (v := .tuple #[.agg #[.int .i64 (cr : Int), .slice tA tn tc, .slice A n c, .bool su, .int .u64 (num : Int), .bool dr, .slice dA dn dc], .int .i64 7]) (by simp [results, Tryz.results20, go_sem]) rfl ⟨rfl, hb2⟩
  · have z0 : ((N : Int) == 0) = false := by simp; omega
    by_cases h1 : N ≤ 16
    · have z1 : decide ((N : Int) > 16) = false := decide_eq_false (by omega)
      have e : crOk N = true := by unfold crOk; rw [decide_eq_true (by omega : 1 ≤ N), decide_eq_true h1]; rfl
      have hw : IntKind.i64.wrap (N : Int) = (N : Int) := by rw [IntKind.wrap_i64]; omega
      rw [e]
      simp only [chV, if_pos]
      go_enter Tryz.func20, Tryz.ntmps20
      go_wp2_with fail
      refine bodyPost_ret (v := .tuple #[.agg #[.int .i64 (N : Int), .slice tA tn tc, .slice A n c, .bool su, .int .u64 (num : Int), .bool dr, .slice dA dn dc], .int .i64 0]) (by simp [results, Tryz.results20, go_sem]) rfl ⟨rfl, ?_⟩
      exact ((Below.refl _ _).alloc (Nat.le_refl _) _).alloc (by simp) _
    · have z1 : decide ((N : Int) > 16) = true := decide_eq_true (by omega)
      have e : crOk N = false := by unfold crOk; rw [decide_eq_false h1]; simp
      rw [e]
      simp only [chV, if_neg Bool.false_ne_true]
      go_enter Tryz.func20, Tryz.ntmps20
      go_wp2_with fail
      refine bodyPost_ret (v := .tuple #[.agg #[.int .i64 (cr : Int), .slice tA tn tc, .slice A n c, .bool su, .int .u64 (num : Int), .bool dr, .slice dA dn dc], .int .i64 7]) (by simp [results, Tryz.results20, go_sem]) rfl ⟨rfl, hb2⟩
set_option maxRecDepth 100000 in
theorem chRoom_any (x : Cn) (A : Option Addr) (n c : Nat) (w : World) (hcr : x.cr ≤ 16) (hn : n ≤ 100000) :
    Calls Tryz.prog 21 #[chV x A n c] w fun e w' => e = .returned (.int .i64 ((x.cr - n : Nat) : Int)) ∧ Below w.heap.size w w' := by
  obtain ⟨cr, tA, tn, tc, su, num, dr, dA, dn, dc⟩ := x
  dsimp only at hcr ⊢
  have hw : IntKind.i64.wrap ((cr : Int) - (n : Int)) = (cr : Int) - (n : Int) := by rw [IntKind.wrap_i64]; omega
  have hm : ∀ (W : World) (ts : Array TypeId) (t : TypeId), (Builtin.max_ ts t #[.int .i64 ((cr : Int) - (n : Int)), .int .i64 0]).run Tryz.prog W = .ok (.int .i64 ((cr - n : Nat) : Int)) W := fun W ts t => by
    rw [max2_runC, show max ((cr : Int) - (n : Int)) 0 = ((cr - n : Nat) : Int) by omega]
  simp only [chV]
  go_enter Tryz.func21, Tryz.ntmps21
  go_wp2_with fail
  go_ret
  exact ⟨rfl, (Below.refl _ _).alloc (Nat.le_refl _) _⟩
def UnsPost (n : Nat) (cs : List Value) (w : World) (e : Ending) (w' : World) : Prop := ∃ A' c', e = .returned (.slice A' n c') ∧ n ≤ c' ∧ Rws w' A' cs ∧ (∀ a, A' = some a → w.heap.size ≤ a.block) ∧ Below w.heap.size w w'
set_option maxRecDepth 100000 in
theorem chUns_any (x : Cn) (A : Option Addr) (n c : Nat) (cs : List Value) (w : World) (hn : n ≤ 100000) (hp : Rws w A cs) (hlen : cs.length = n * 2) (hone : ∀ u ∈ cs, u.oneCell' = true) :
    Calls Tryz.prog 22 #[chV x A n c] w (UnsPost n cs w) := by
  obtain ⟨cr, tA, tn, tc, su, num, dr, dA, dn, dc⟩ := x
  have hb0 := rtOne w (.cells #[.int .i64 (cr : Int), .slice tA tn tc, .slice A n c, .bool su, .int .u64 (num : Int), .bool dr, .slice dA dn dc] 63)
  have HC := Lib.hid (cloneLt_any n cs A c _ hn (hp.on hb0) hlen hone)
  have HB0 := Lib.hid hb0
  clear hb0 hp
  simp only [chV]
  go_enter Tryz.func22, Tryz.ntmps22
  go_wp2_with fail
  refine HC.out.mono ?_
  rintro e w1 ⟨A', c', rfl, ho, b1⟩
  have HO := Lib.hid ho
  have HB1 := Lib.hid (bthen HB0.out b1 (Nat.le_refl _))
  clear ho b1
  go_wp2_with fail
  go_ret
  obtain ⟨A2, c2, e2, hc2, -, hr2, hb2⟩ := Rws.of_own HO.out
  obtain ⟨rfl, -, rfl⟩ := Value.slice.inj e2
  exact ⟨A', c', rfl, hc2, hr2, fun a ha => Nat.le_trans (by simp) (hb2 a ha).1, HB1.out⟩
def LendPost (x : Cn) (n : Nat) (cs : List Value) (w : World) (e : Ending) (w' : World) : Prop := ∃ g c', e = .returned (chV x (some ⟨g, 0, none⟩) (n + 1) c') ∧ n + 1 ≤ c' ∧ Rws w' (some ⟨g, 0, none⟩) cs ∧ w.heap.size ≤ g ∧ Below w.heap.size w w'
set_option maxRecDepth 100000 in
set_option maxHeartbeats 8000000 in
theorem chLend_any (x : Cn) (A : Option Addr) (n c : Nat) (cs : List Value) (id : Nat) (q : List UInt8) (w : World) (hl : n ≤ 100000) (hc : n ≤ c) (hn : A = none → n = 0) (hlen : cs.length = n * 2) (hp : Rws w A cs) :
    Calls Tryz.prog 23 #[chV x A n c, .agg #[.int .u64 (id : Int), .string (ofL q)]] w (LendPost x n (cs ++ ltL id q) w) := by
  obtain ⟨cr, tA, tn, tc, su, num, dr, dA, dn, dc⟩ := x
  have hb0 := rtThree w (.cells #[.int .i64 (cr : Int), .slice tA tn tc, .slice A n c, .bool su, .int .u64 (num : Int), .bool dr, .slice dA dn dc] 63) (.cells #[.int .u64 (id : Int), .string (ofL q)] 70) (.cells #[.int .i64 0, .slice none 0 0, .slice none 0 0, .bool false, .int .u64 0, .bool false, .slice none 0 0] 63)
  have HX0 := Lib.hid (rtNext (rtNext (rtAt0 w #[.int .i64 (cr : Int), .slice tA tn tc, .slice A n c, .bool su, .int .u64 (num : Int), .bool dr, .slice dA dn dc] 63) (.cells #[.int .u64 (id : Int), .string (ofL q)] 70)) (.cells #[.int .i64 0, .slice none 0 0, .slice none 0 0, .bool false, .int .u64 0, .bool false, .slice none 0 0] 63))
  have HQ0 := Lib.hid (rtNext (rtAt1 w (.cells #[.int .i64 (cr : Int), .slice tA tn tc, .slice A n c, .bool su, .int .u64 (num : Int), .bool dr, .slice dA dn dc] 63) #[.int .u64 (id : Int), .string (ofL q)] 70) (.cells #[.int .i64 0, .slice none 0 0, .slice none 0 0, .bool false, .int .u64 0, .bool false, .slice none 0 0] 63))
  have HR0 := Lib.hid (rtAt2 w (.cells #[.int .i64 (cr : Int), .slice tA tn tc, .slice A n c, .bool su, .int .u64 (num : Int), .bool dr, .slice dA dn dc] 63) (.cells #[.int .u64 (id : Int), .string (ofL q)] 70) #[.int .i64 0, .slice none 0 0, .slice none 0 0, .bool false, .int .u64 0, .bool false, .slice none 0 0] 63)
  have HSZ := Lib.hid (show (((w.alloc (.cells #[.int .i64 (cr : Int), .slice tA tn tc, .slice A n c, .bool su, .int .u64 (num : Int), .bool dr, .slice dA dn dc] 63)).alloc (.cells #[.int .u64 (id : Int), .string (ofL q)] 70)).alloc (.cells #[.int .i64 0, .slice none 0 0, .slice none 0 0, .bool false, .int .u64 0, .bool false, .slice none 0 0] 63)).heap.size = w.heap.size + 3 by simp)
  generalize hw3 : ((w.alloc (.cells #[.int .i64 (cr : Int), .slice tA tn tc, .slice A n c, .bool su, .int .u64 (num : Int), .bool dr, .slice dA dn dc] 63)).alloc (.cells #[.int .u64 (id : Int), .string (ofL q)] 70)).alloc (.cells #[.int .i64 0, .slice none 0 0, .slice none 0 0, .bool false, .int .u64 0, .bool false, .slice none 0 0] 63) = w3 at *
  have hdr : Below w3.heap.size w3 w3.drew := (Below.refl _ _).drew
  have hal := rtOne w3.drew (.cells #[.int .u64 (id : Int), .string (ofL q)] 70)
  have hnew := BoxC.new (w := w3.drew) (W := w3.drew) (Nat.le_refl _) #[.int .u64 (id : Int), .string (ofL q)] 70
  obtain ⟨g, c', w7, hrun, hown, hgr⟩ := moreLt_run (W := w3.drew.alloc (.cells #[.int .u64 (id : Int), .string (ofL q)] 70)) (n := n) (cs := cs) (xs := ltL id q) (A := A) (b := w3.drew.heap.size) hl (((hp.on hb0).on hdr).on hal) hlen rfl (by intro u hu; simp only [ltL, List.mem_cons, List.not_mem_nil, or_false] at hu; rcases hu with rfl | rfl <;> rfl) (fun j u hu => by
    rw [rws_add, Nat.zero_add]
    exact hnew.cs j u hu) hn
  have hs3 : w3.drew.heap.size = w3.heap.size := rfl
  have hs4 : (w3.drew.alloc (.cells #[.int .u64 (id : Int), .string (ofL q)] 70)).heap.size = w3.heap.size + 1 := by simp [hs3]
  have hsz := HSZ.out
  have hb7 : Below w.heap.size w w7 := (bthen (bthen hb0 hdr (Nat.le_refl _)) hal (Nat.le_refl _)).grown hgr (by omega) (fun k hk => by cases hk)
  have HX7 := Lib.hid (rtKept ((HX0.out.on hdr).on hal) hgr (by simp))
  have HR7 := Lib.hid (rtKept ((HR0.out.on hdr).on hal) hgr (by simp))
  obtain ⟨A9, c9, e9, hc9, -, hr9, hb9⟩ := Rws.of_own hown
  obtain ⟨rfl, -, rfl⟩ := Value.slice.inj e9
  have HG := Lib.hid (show w.heap.size + 4 ≤ g from by have := (hb9 _ rfl).1; dsimp only at this; omega)
  have HC9 := Lib.hid hc9
  have HR9 := Lib.hid hr9
  have HRUN := Lib.hid hrun
  have HB7 := Lib.hid hb7
  have HCL := Lib.hid (fun W => clipLt_any A n c W hc)
  have HX1 := Lib.hid (HX0.out.on hdr)
  have HQ1 := Lib.hid (HQ0.out.on hdr)
  clear hb0 hdr hal hnew hrun hown hgr hb7 hp hn hlen hs3 hs4 hsz hc9 hr9 hb9 e9 HX0 HQ0 HR0
  simp only [chV]
  go_enter Tryz.func23, Tryz.ntmps23
  go_upto_region 1 with fail
  try rw [hw3]
  have x0 := HX1.out.cs 0 _ rfl
  have x1 := HX1.out.cs 1 _ rfl
  have x2 := HX1.out.cs 2 _ rfl
  have x3 := HX1.out.cs 3 _ rfl
  have x4 := HX1.out.cs 4 _ rfl
  have x5 := HX1.out.cs 5 _ rfl
  have x6 := HX1.out.cs 6 _ rfl
  have xl := HX1.out.lt
  have q0 := HQ1.out.cs 0 _ rfl
  have q1 := HQ1.out.cs 1 _ rfl
  have ql := HQ1.out.lt
  have y2 := HX7.out.cs 2 _ rfl
  have yl := HX7.out.lt
  have yf := HX7.out.s
  unfold Soft at yf
  have xl2 : w.heap.size < w3.heap.size := HX1.out.lt
  have ql2 : w.heap.size + 1 < w3.heap.size := HQ1.out.lt
  have z2 : w3.cell? ⟨w.heap.size, 2, none⟩ = some (.slice A n c) := HX1.out.cs 2 _ rfl
  go_region_law (first
    | (go_simp; go_at_call 38; refine (HCL.out _).mono ?_; rintro e w5 ⟨rfl, rfl⟩)
    | (refine step_append_run (by rfl) _ _ 61 (by rfl) _ _ (by rfl) (by rfl) HRUN.out ?_))
  all_goals
    have HX8 := Lib.hid (HX7.out.put 2 (.slice (some ⟨g, 0, none⟩) (n + 1) c') (by simp))
    have HR8 := Lib.hid (HR7.out.aside (g := w.heap.size) (by omega) 2 (.slice (some ⟨g, 0, none⟩) (n + 1) c'))
    have HB8 := Lib.hid (HB7.out.setCell (p := ⟨w.heap.size, 2, none⟩) (Nat.le_refl _) (.slice (some ⟨g, 0, none⟩) (n + 1) c'))
    have HW8 := Lib.hid (rwsPut HR9.out (b := w.heap.size) (fun a ha => by cases ha; have := HG.out; dsimp only; omega) 2 (.slice (some ⟨g, 0, none⟩) (n + 1) c'))
    clear x0 x1 x2 x3 x4 x5 x6 xl q0 q1 ql y2 yl yf xl2 ql2 z2
    generalize w7.setCell ⟨w.heap.size, 2, none⟩ (.slice (some ⟨g, 0, none⟩) (n + 1) c') = w8 at *
    have x0 := HX8.out.cs 0 _ rfl
    have x1 := HX8.out.cs 1 _ rfl
    have x2 := HX8.out.cs 2 _ rfl
    have x3 := HX8.out.cs 3 _ rfl
    have x4 := HX8.out.cs 4 _ rfl
    have x5 := HX8.out.cs 5 _ rfl
    have x6 := HX8.out.cs 6 _ rfl
    have xl := HX8.out.lt
    have r0 := HR8.out.cs 0 _ rfl
    have r1 := HR8.out.cs 1 _ rfl
    have r2 := HR8.out.cs 2 _ rfl
    have r3 := HR8.out.cs 3 _ rfl
    have r4 := HR8.out.cs 4 _ rfl
    have r5 := HR8.out.cs 5 _ rfl
    have r6 := HR8.out.cs 6 _ rfl
    have rl := HR8.out.lt
    have rf := HR8.out.s
    unfold Soft at rf
    go_wp2_with fail
    have hR := HR8.out.fill [.int .i64 (cr : Int), .slice tA tn tc, .slice (some ⟨g, 0, none⟩) (n + 1) c', .bool su, .int .u64 (num : Int), .bool dr, .slice dA dn dc] rfl
    have hB := below_putAll (g := w.heap.size + 2) (by omega) [.int .i64 (cr : Int), .slice tA tn tc, .slice (some ⟨g, 0, none⟩) (n + 1) c', .bool su, .int .u64 (num : Int), .bool dr, .slice dA dn dc] 0 HB8.out
    have hW := rwsAll (g := w.heap.size + 2) (fun a ha => by cases ha; have := HG.out; dsimp only; omega) [.int .i64 (cr : Int), .slice tA tn tc, .slice (some ⟨g, 0, none⟩) (n + 1) c', .bool su, .int .u64 (num : Int), .bool dr, .slice dA dn dc] 0 HW8.out
    simp only [putAll] at hR hB hW
    have g0 := hR.cs 0 _ rfl
    have g1 := hR.cs 1 _ rfl
    have g2 := hR.cs 2 _ rfl
    have g3 := hR.cs 3 _ rfl
    have g4 := hR.cs 4 _ rfl
    have g5 := hR.cs 5 _ rfl
    have g6 := hR.cs 6 _ rfl
    exact bodyPost_ret (v := .agg #[.int .i64 (cr : Int), .slice tA tn tc, .slice (some ⟨g, 0, none⟩) (n + 1) c', .bool su, .int .u64 (num : Int), .bool dr, .slice dA dn dc]) (by simp [results, Tryz.results23, go_sem, g0, g1, g2, g3, g4, g5, g6]) rfl ⟨g, c', rfl, HC9.out, hW, by have := HG.out; omega, hB⟩
end Go.Proofs.YtecjngodfciokaaGreatDoor
end
