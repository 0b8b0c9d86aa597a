/-
  ITEMS PUT TOGETHER: the program's Of, walked.
-/
import Derived.Test.YtfbajmiiecmelabDoorLo39
import Derived.Test.YtfbajmiiecmelabDoorLo42
import Derived.Test.YtfbajmiiecmelabDoorLo45

section
namespace Go.Proofs.YtfbajmiiecmelabDoor
open Go.ChangeShapes Go.WideShapes Go.ChangeAt Go.RowKit
def LnOfPost (l : List It) (w : World) (e : Ending) (w' : World) : Prop := ∃ (v : Value) (r : List It) (code : Nat), e = .returned (.tuple #[v, .int .i64 (code : Int)]) ∧ OfR l r code ∧ LnU (fun g => w.heap.size ≤ g) w' v r ∧ Below w.heap.size w w'
def LoSt (w : World) (l : List It) (n g : Nat) (i : Value) (wr : World) : Prop := ∃ (k : Nat) (A : Option Addr) (c : Nat) (q : List It), q = l.take k ∧ k + g = n ∧ i = .int .i64 (k : Int) ∧ BoxC w (w.heap.size + 1) [.slice A q.length c] wr ∧ BoxC w w.heap.size [.slice none 0 0] wr ∧ LnU (fun g => w.heap.size + 1 < g) wr (.agg #[.slice A q.length c]) q ∧ (∀ j, j < k → Ln.oc l j = 0) ∧ Below w.heap.size w wr
set_option maxRecDepth 100000 in
set_option maxHeartbeats 4000000 in
theorem lnOf_any (l : List It) (m : List ItP) (A : Option Addr) (c : Nat) (w : World) (hm : m.map (·.x) = l) (hl : l.length ≤ 1000) (hI : Its w A m) (hL : Len w) :
    Calls Tryd.prog 6 #[.slice A m.length c] w (LnOfPost l w) := by
  have hml := xs_len hm
  have HI := Lib.hid hI
  have HM := Lib.hid hm
  have HML := Lib.hid hml
  have HL := Lib.hid hL
  have hml2 : m.length ≤ 1000 := by omega
  have HF := Lib.hid (show ∀ x ∈ l, Ml.Fits x.m from fun x hx => by
    rw [← hm] at hx
    obtain ⟨p, hp, rfl⟩ := List.mem_map.1 hx
    exact (hI.ok p hp).fits)
  have H1 := Lib.hid (box_next (box_at0 w #[.slice none 0 0] 34) (.cells #[.slice none 0 0] 34))
  have H2 := Lib.hid (box_at1 w (.cells #[.slice none 0 0] 34) #[.slice none 0 0] 34)
  have H3 := Lib.hid (two_allocs w (.cells #[.slice none 0 0] 34) (.cells #[.slice none 0 0] 34))
  clear hI hm hml hL
  go_enter Tryd.func6, Tryd.ntmps6
  go_wp2_with fail
  go_loopg [10] m.length (fun g i wr => LoSt w l m.length g i wr)
  case atStart => exact ⟨0, none, 0, [], rfl, by omega, rfl, H2.out, H1.out, LnU.nil _ _, fun j hj => absurd hj (by omega), H3.out⟩
  case round =>
    obtain ⟨k, A', c', q, hq, hk, rfl, hx4, hx2, hu, hoc, hB⟩ := hrel
    have HK := Lib.hid hk
    have HX4 := Lib.hid hx4
    have HX2 := Lib.hid hx2
    have HU := Lib.hid hu
    have HOC := Lib.hid hoc
    have HBK := Lib.hid hB
    have HQQ := Lib.hid hq
    clear hq hk hx4 hx2 hu hoc hB
    have s0 := HX4.out.cs 0 _ rfl
    by_cases hlt : k < m.length
    · have hlt2 : k < l.length := by have := HML.out; omega
      obtain ⟨b, off, hAe, hbl, hat⟩ := (HI.out.on HBK.out).at_ k hlt
      have hgo := (HI.out.on HBK.out).ok _ (List.getElem_mem hlt)
      subst hAe
      have hgx := xs_get HM.out hlt
      have had := Ln.oc_add hlt2
      rw [← HQQ.out] at had
      have HOK := Lib.hid (show ∀ c, Ln.acode q (l.getD k it0) = c → Ln.oc l k = c from fun c h => by rw [HQQ.out] at h; exact h)
      generalize m[k] = p at *
      obtain ⟨x, Ax, cx⟩ := p
      dsimp only at hgx hat hgo
      rw [← hgx] at had HOK
      unfold itL at hat
      have cc0 := hat 0 _ rfl
      have cc1 := hat 1 _ rfl
      have cc2 := hat 2 _ rfl
      have cc3 := hat 3 _ rfl
      have cc4 := hat 4 _ rfl
      have cc5 := hat 5 _ rfl
      have cc6 := hat 6 _ rfl
      have cc7 := hat 7 _ rfl
      have cc8 := hat 8 _ rfl
      rw [Nat.add_zero] at cc0
      have HT := Lib.hid (one_alloc wr (.cells #[.int .u64 (x.m.id : Int), .string (ofL x.m.shop), .string (ofL x.m.key), .slice Ax x.m.head.length cx, .string (ofL x.m.body), .int .u64 (x.m.due : Int), .int .u8 (x.m.hops : Int), .bool x.lent, .bool x.again] 30))
      have HB1 := Lib.hid (bthen HBK.out HT.out (Nat.le_refl _))
      have hlk : q.length ≤ 1000 := by rw [HQQ.out, List.length_take]; omega
      have HPT := Lib.hid (lnadd_any x Ax cx _ q _ _ (by omega) (HU.out.on HT.out) (hgo.on HT.out) (HL.out.on HB1.out))
      unfold LnCode at HPT
      rw [had] at HPT
      simp only [itV] at HPT
      obtain ⟨cd, hcd⟩ : ∃ cd, Ln.acode q x = cd := ⟨_, rfl⟩
      rw [hcd] at HPT
      have HCD := Lib.hid (HOK.out cd hcd)
      rw [HCD.out] at HPT
      have HX41 := Lib.hid (HX4.out.on HT.out)
      have HX21 := Lib.hid (HX2.out.on HT.out)
      have s1 := HX41.out.cs 0 _ rfl
      have hgs : w.heap.size + 1 < (wr.alloc (.cells #[.int .u64 (x.m.id : Int), .string (ofL x.m.shop), .string (ofL x.m.key), .slice Ax x.m.head.length cx, .string (ofL x.m.body), .int .u64 (x.m.due : Int), .int .u8 (x.m.hops : Int), .bool x.lent, .bool x.again] 30)).heap.size := HX41.out.lt
      have HGS := Lib.hid hgs
      clear hat hgo had hcd hgx HOK hgs
      by_cases h0 : cd = 0
      · subst h0
        rw [if_pos rfl] at HPT
        obtain ⟨q1, hq1⟩ : ∃ q1, l.take (k + 1) = q1 := ⟨_, rfl⟩
        rw [hq1] at HPT
        have HQ1 := Lib.hid hq1
        clear hq1
        go_wp2_with fail
        refine HPT.out.mono ?_
        rintro e w5 ⟨v5, rfl, hu5, hb⟩
        obtain ⟨A5, c5, rfl, -⟩ := hu5.form
        have HX5 := Lib.hid (HX41.out.on hb)
        have HZ5 := Lib.hid (HX21.out.on hb)
        have HB5 := Lib.hid (bthen HB1.out hb (Nat.le_refl _))
        have hu6 : LnU (fun g => w.heap.size + 1 < g) w5 (.agg #[.slice A5 q1.length c5]) q1 := hu5.mono (fun g hg => hg.elim id (fun h => Nat.lt_of_lt_of_le HGS.out h))
        have HU7 := Lib.hid (hu6.aside (g := w.heap.size + 1) (Nat.lt_irrefl _) 0 (.slice A5 q1.length c5))
        have hq := HX5.out.fill [.slice A5 q1.length c5] rfl
        simp only [putAll] at hq
        have HX7 := Lib.hid hq
        have HZ7 := Lib.hid (HZ5.out.aside (g := w.heap.size + 1) (by omega) 0 (.slice A5 q1.length c5))
        have HB7 := Lib.hid (HB5.out.setCell (p := ⟨w.heap.size + 1, 0, none⟩) (by show w.heap.size ≤ w.heap.size + 1; omega) (.slice A5 q1.length c5))
        clear hu5 hb hu6 hq cc0 cc1 cc2 cc3 cc4 cc5 cc6 cc7 cc8 s0 s1
        have s1 := HX5.out.cs 0 _ rfl
        have sf : ∀ j, w5.frozen? ⟨w.heap.size + 1, j, none⟩ = false := HX5.out.s
        have sl := HX5.out.lt
        go_wp2_with fail
        go_roundg (gk - 1)
        case rel => exact ⟨k + 1, A5, c5, q1, HQ1.out.symm, by have := HK.out; omega, by go_num, HX7.out, HZ7.out, HU7.out, fun j hj => by
          by_cases e : j = k
          · subst e; exact HCD.out
          · exact HOC.out j (by omega), HB7.out⟩
        case measure => have := HK.out; omega
      · rw [if_neg h0] at HPT
        have d1 : ((cd : Int) != 0) = true := by rw [bne_iff_ne]; omega
        go_wp2_with fail
        refine HPT.out.mono ?_
        rintro e w5 ⟨v5, rfl, hu5, hb⟩
        obtain ⟨A5, c5, rfl, -⟩ := hu5.form
        have HX5 := Lib.hid (HX41.out.on hb)
        have HZ5 := Lib.hid (HX21.out.on hb)
        have HB5 := Lib.hid (bthen HB1.out hb (Nat.le_refl _))
        have HZ6 := Lib.hid (HZ5.out.aside (g := w.heap.size + 1) (by omega) 0 (.slice A5 q.length c5))
        clear hu5 hb cc0 cc1 cc2 cc3 cc4 cc5 cc6 cc7 cc8 s0 s1
        have s1 := HX5.out.cs 0 _ rfl
        have sf : ∀ j, w5.frozen? ⟨w.heap.size + 1, j, none⟩ = false := HX5.out.s
        have sl := HX5.out.lt
        have r0 := HZ5.out.cs 0 _ rfl
        have rf : ∀ j, w5.frozen? ⟨w.heap.size, j, none⟩ = false := HZ5.out.s
        have rl := HZ5.out.lt
        have HB7 := Lib.hid ((HB5.out.setCell (p := ⟨w.heap.size + 1, 0, none⟩) (by show w.heap.size ≤ w.heap.size + 1; omega) (.slice A5 q.length c5)).setCell (p := ⟨w.heap.size, 0, none⟩) (Nat.le_refl _) (.slice none 0 0))
        have hq := HZ6.out.fill [.slice none 0 0] rfl
        simp only [putAll] at hq
        have g0 := hq.cs 0 _ rfl
        have HG0 := Lib.hid g0
        clear hq g0
        go_wp2_with fail
        have g0 := HG0.out
        refine bodyPost_ret (v := .tuple #[.agg #[.slice none 0 0], .int .i64 (cd : Int)]) (by simp [results, Tryd.results6, go_sem, g0]) rfl ?_
        exact ⟨_, [], cd, rfl, .inr ⟨rfl, k, hlt2, HOC.out, HCD.out, h0⟩, LnU.nil _ _, HB7.out⟩
    · have hkE : k = l.length := by have := HK.out; have := HML.out; omega
      subst hkE
      have r0 := HX2.out.cs 0 _ rfl
      have rf : ∀ j, wr.frozen? ⟨w.heap.size, j, none⟩ = false := HX2.out.s
      have rl := HX2.out.lt
      have sl := HX4.out.lt
      have hq := HX2.out.fill [.slice A' q.length c'] rfl
      simp only [putAll] at hq
      have HQ := Lib.hid (hq.cs 0 _ rfl)
      have HU7 := Lib.hid (HU.out.aside (g := w.heap.size) (by omega) 0 (.slice A' q.length c'))
      have HB7 := Lib.hid (HBK.out.setCell (p := ⟨w.heap.size, 0, none⟩) (Nat.le_refl _) (.slice A' q.length c'))
      clear hq
      have HQL := Lib.hid (show q = l by rw [HQQ.out, List.take_length])
      go_wp2_with fail
      have g0 := HQ.out
      refine bodyPost_ret (v := .tuple #[.agg #[.slice A' q.length c'], .int .i64 0]) (by simp [results, Tryd.results6, go_sem, g0]) rfl ?_
      exact ⟨_, q, 0, rfl, .inl ⟨HQL.out, rfl, HOC.out⟩, HU7.out.mono (fun g hg => by omega), HB7.out⟩
end Go.Proofs.YtfbajmiiecmelabDoor
end
