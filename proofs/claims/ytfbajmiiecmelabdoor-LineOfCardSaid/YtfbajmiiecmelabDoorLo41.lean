/-
  ITEMS PUT TOGETHER: the document's put, walked.
-/
import Derived.Test.YtfbajmiiecmelabDoorLo40

section
namespace Go.Proofs.YtfbajmiiecmelabDoor
open Go.ChangeShapes Go.WideShapes Go.ChangeAt Go.RowKit
namespace Ln
def pc (l : List It) (x : It) (k : Nat) : Nat := if x.m.code ≠ 0 then x.m.code else if (l.take k).any (fun y => decide (x.m.id ≤ y.m.id)) then 13 else 0
theorem pc_zero (l : List It) (x : It) : pc l x 0 = x.m.code := by
  unfold pc
  split
  · rfl
  · rename_i h
    simp at h ⊢
    exact h.symm
theorem pc_succ {l : List It} {x : It} {k : Nat} (hk : k < l.length) : pc l x (k + 1) = if pc l x k ≠ 0 then pc l x k else if x.m.id ≤ (l.getD k it0).m.id then 13 else 0 := by
  unfold pc
  rw [List.take_succ_eq_append_getElem hk, List.any_append, getD_lt hk]
  by_cases h : x.m.code ≠ 0
  · simp only [if_pos h]
  · simp only [if_neg h]
    cases h2 : (l.take k).any (fun y => decide (x.m.id ≤ y.m.id)) with
    | true => simp
    | false => simp
theorem acode_pc {l : List It} (hr : Rises l) (x : It) : acode l x = if pc l x l.length ≠ 0 then pc l x l.length else if 64 ≤ l.length then 12 else 0 := by
  unfold acode pc
  rw [List.take_length]
  by_cases h : x.m.code ≠ 0
  · simp only [if_pos h]
  · simp only [if_neg h]
    have e : (l.any (fun y => decide (x.m.id ≤ y.m.id)) = true) ↔ (0 < l.length ∧ x.m.id ≤ lastId l) := by
      rw [List.any_eq_true]
      constructor
      · rintro ⟨y, hy, hd⟩
        have := hr.last y hy
        have hd2 : x.m.id ≤ y.m.id := by simpa using hd
        exact ⟨List.length_pos_of_mem hy, by omega⟩
      · rintro ⟨h0, h1⟩
        unfold lastId at h1
        rw [getD_lt (by omega)] at h1
        exact ⟨_, List.getElem_mem _, by simpa using h1⟩
    by_cases h2 : 0 < l.length ∧ x.m.id ≤ lastId l
    · simp only [if_pos h2, if_pos (e.2 h2)]
      simp
    · simp only [if_neg h2, if_neg (fun g => h2 (e.1 g))]
      simp
end Ln
theorem Its.rws {w : World} {A : Option Addr} {m : List ItP} (h : Its w A m) : Rws w A (its m) := ⟨fun j v hv => by
  have hj := (List.getElem?_eq_some_iff.1 hv).1
  rw [its_len] at hj
  have hi : j / 9 < m.length := by omega
  obtain ⟨b, off, e, hlt, hc⟩ := h.at_ (j / 9) hi
  have hat := its_at hi (show j % 9 < 9 by omega)
  rw [show j / 9 * 9 + j % 9 = j by omega, hv] at hat
  have := hc _ _ hat.symm
  rw [Nat.add_assoc, show j / 9 * 9 + j % 9 = j by omega] at this
  exact ⟨b, off, e, hlt, this⟩⟩
def PutPost (l : List It) (x : It) (w : World) (e : Ending) (w' : World) : Prop := ∃ (A' : Option Addr) (c' : Nat) (m' : List ItP), e = .returned (.tuple #[.slice A' m'.length c', .int .i64 (Ln.acode l x : Int)]) ∧ m'.map (·.x) = Ln.add l x ∧ m'.length ≤ c' ∧ (A' = none → c' = 0) ∧ Its w' A' m' ∧ Below w.heap.size w w'
def PuSt (w : World) (l : List It) (x : It) (n g : Nat) (v i : Value) (wr : World) : Prop := ∃ k : Nat, k + g = n ∧ v = .int .i64 (Ln.pc l x k : Int) ∧ i = .int .i64 (k : Int) ∧ Below w.heap.size w wr
set_option maxRecDepth 100000 in
set_option maxHeartbeats 4000000 in
theorem r18put_any (l : List It) (m : List ItP) (A : Option Addr) (c : Nat) (x : It) (Ax : Option Addr) (cx : Nat) (w : World) (hm : m.map (·.x) = l) (hr : Ln.Rises l) (hl : l.length ≤ 1000) (hc : m.length ≤ c) (hn : A = none → c = 0) (hI : Its w A m) (hx : MaGo w x.m Ax cx) :
    Calls Tryd.prog 19 #[.slice A m.length c, itV x Ax cx] w (PutPost l x w) := by
  have hb0 := one_alloc w (.cells #[.int .u64 (x.m.id : Int), .string (ofL x.m.shop), .string (ofL x.m.key), .slice Ax x.m.head.length cx, .string (ofL x.m.body), .int .u64 (x.m.due : Int), .int .u8 (x.m.hops : Int), .bool x.lent, .bool x.again] 32)
  have HX0 := Lib.hid (box_at0 w #[.int .u64 (x.m.id : Int), .string (ofL x.m.shop), .string (ofL x.m.key), .slice Ax x.m.head.length cx, .string (ofL x.m.body), .int .u64 (x.m.due : Int), .int .u8 (x.m.hops : Int), .bool x.lent, .bool x.again] 32)
  have HC := Lib.hid (r13Check_any x.m Ax cx _ (hx.ok.on hb0))
  have HB0 := Lib.hid hb0
  have HI0 := Lib.hid (hI.on hb0)
  have HG0 := Lib.hid (hx.on hb0)
  obtain ⟨i1, hi1, hz0, hz1, hz2⟩ := info_parts infoRit
  have hml := xs_len hm
  have HAC := Lib.hid (Ln.acode_pc hr x)
  have HP0 := Lib.hid (Ln.pc_zero l x)
  have HM := Lib.hid hm
  have HML := Lib.hid hml
  have HCC := Lib.hid hc
  have HN := Lib.hid hn
  have hml2 : m.length ≤ 1000 := by omega
  simp only [itV]
  simp only [maV] at HC
  clear hx hb0 hI hm hml hc hn hr
  go_enter Tryd.func19, Tryd.ntmps19
  go_wp2_with fail
  generalize w.alloc (.cells #[.int .u64 (x.m.id : Int), .string (ofL x.m.shop), .string (ofL x.m.key), .slice Ax x.m.head.length cx, .string (ofL x.m.body), .int .u64 (x.m.due : Int), .int .u8 (x.m.hops : Int), .bool x.lent, .bool x.again] 32) = w1 at *
  refine HC.out.mono ?_
  rintro e w2 ⟨rfl, hb⟩
  have HX2 := Lib.hid (HX0.out.on hb)
  have HB2 := Lib.hid (bthen HB0.out hb (Nat.le_refl _))
  have HI2 := Lib.hid (HI0.out.on hb)
  have HG2 := Lib.hid (HG0.out.on hb)
  clear hb
  rw [← HP0.out]
  go_wp2_with fail
  go_loopg [6, 15] m.length (fun g v i wr => PuSt w2 l x m.length g v i wr)
  case atStart => exact ⟨0, by omega, rfl, rfl, Below.refl _ _⟩
  case round =>
    obtain ⟨k, hk, rfl, rfl, hBk⟩ := hrel
    have HK := Lib.hid hk
    have HBK := Lib.hid hBk
    clear hk hBk
    by_cases hlt : k < m.length
    · obtain ⟨b, off, hAe, hlt2, hat⟩ := (HI2.out.on HBK.out).at_ k hlt
      subst hAe
      have HPS := Lib.hid (Ln.pc_succ (l := l) (x := x) (k := k) (by rw [← HML.out]; exact hlt))
      have hgx := xs_get HM.out hlt
      generalize l.getD k it0 = yy at *
      generalize m[k] = p at *
      obtain ⟨y, Ay, cy⟩ := p
      dsimp only at hgx hat
      subst hgx
      unfold itL at hat
      have cc0 := hat 0 _ rfl
      have cc1 := hat 1 _ rfl
      have cc2 := hat 2 _ rfl
      have cc3 := hat 3 _ rfl
      have cc4 := hat 4 _ rfl
      have cc5 := hat 5 _ rfl
      have cc6 := hat 6 _ rfl
      have cc7 := hat 7 _ rfl
      have cc8 := hat 8 _ rfl
      rw [Nat.add_zero] at cc0
      have HXK := HX2.out.on HBK.out
      have x0 := HXK.cs 0 _ rfl
      have xl := HXK.lt
      have HB3 := Lib.hid (bthen HBK.out (one_alloc wr (.cells #[.int .u64 (y.m.id : Int), .string (ofL y.m.shop), .string (ofL y.m.key), .slice Ay y.m.head.length cy, .string (ofL y.m.body), .int .u64 (y.m.due : Int), .int .u8 (y.m.hops : Int), .bool y.lent, .bool y.again] 32)) (Nat.le_refl _))
      clear hat HXK
      generalize hpk : Ln.pc l x k = pk at *
      have HPK := Lib.hid hpk
      clear hpk
      by_cases h0 : pk = 0
      · subst h0
        by_cases hge : x.m.id ≤ y.m.id
        · have HPE := Lib.hid (show Ln.pc l x (k + 1) = 13 by rw [HPS.out, if_neg (by simp), if_pos hge])
          have d1 : decide ((y.m.id : Int) ≥ (x.m.id : Int)) = true := decide_eq_true (by omega)
          have d2 : decide (x.m.id ≤ y.m.id) = true := decide_eq_true hge
          go_wp2_with fail
          go_roundg (gk - 1)
          case rel => exact ⟨k + 1, by have := HK.out; omega, by rw [HPE.out]; rfl, by go_num, HB3.out⟩
          case measure => have := HK.out; omega
        · have HPE := Lib.hid (show Ln.pc l x (k + 1) = 0 by rw [HPS.out, if_neg (by simp), if_neg hge])
          have d1 : decide ((y.m.id : Int) ≥ (x.m.id : Int)) = false := decide_eq_false (by omega)
          have d2 : decide (x.m.id ≤ y.m.id) = false := decide_eq_false hge
          go_wp2_with fail
          go_roundg (gk - 1)
          case rel => exact ⟨k + 1, by have := HK.out; omega, by rw [HPE.out], by go_num, HB3.out⟩
          case measure => have := HK.out; omega
      · have HPE := Lib.hid (show Ln.pc l x (k + 1) = pk by rw [HPS.out, if_pos h0])
        have d1 : ((pk : Int) == 0) = false := by rw [beq_eq_false_iff_ne]; omega
        go_wp2_with fail
        go_roundg (gk - 1)
        case rel => exact ⟨k + 1, by have := HK.out; omega, by rw [HPE.out], by go_num, HB3.out⟩
        case measure => have := HK.out; omega
    · have hkE : k = l.length := by have := HK.out; have := HML.out; omega
      subst hkE
      have hac := HAC.out
      generalize hpk : Ln.pc l x l.length = pk at *
      have HXK := Lib.hid (HX2.out.on HBK.out)
      have HIK := Lib.hid (HI2.out.on HBK.out)
      have HGK := Lib.hid (HG2.out.on HBK.out)
      have HBE := Lib.hid (bthen HB2.out HBK.out (Nat.le_refl _))
      have hml := HML.out
      clear hpk
      by_cases h0 : pk = 0
      · subst h0
        rw [if_neg (by simp)] at hac
        by_cases h64 : 64 ≤ l.length
        · rw [if_pos h64] at hac
          have HAD := Lib.hid (show m.map (·.x) = Ln.add l x by unfold Ln.add; rw [if_neg (by omega)]; exact HM.out)
          have HAC2 := Lib.hid hac
          clear hac
          have d3 : decide ((m.length : Int) ≥ 64) = true := decide_eq_true (by omega)
          have HML2 := Lib.hid hml
          clear hml
          go_wp2_with fail
          go_ret2
          exact ⟨A, c, m, by rw [HAC2.out]; rfl, HAD.out, HCC.out, HN.out, HIK.out, HBE.out⟩
        · rw [if_neg h64] at hac
          have HAD := Lib.hid (show Ln.add l x = l ++ [x] by unfold Ln.add; rw [if_pos hac])
          have HAC2 := Lib.hid hac
          clear hac
          have d3 : decide ((m.length : Int) ≥ 64) = false := decide_eq_false (by omega)
          have HML2 := Lib.hid hml
          clear hml
          have HO0 := Lib.hid (World.ownsRow_nil wr wr.heap.size 32 9)
          have HRW := Lib.hid HIK.out.rws
          go_wp2_with (first
            | (at_builtin; refine wpList_append_rws _ rfl (Operand.tmp 42) (Operand.tmp 43) 24 rfl wr.heap.size 32 i1 _ 9 104 Tryd.underlying24 hi1 hz0 hz1 hz2 rfl (by decide) (by decide) (by rfl) HO0.out (by rfl) HRW.out (its_len m) (its_one m) (by omega) HN.out (Nat.le_refl _) ?_; intro v' w5 hown hgrow; rw [Nat.zero_add, List.nil_append] at hown; have HB5 := Lib.hid ((Below.refl wr.heap.size wr).grown hgrow (Nat.le_refl _) (fun k hk => by cases hk)); obtain ⟨A5, c5, rfl, -, -⟩ := Rw.own_cells hown; have HO5 := Lib.hid (Rw.own_on hown (one_alloc w5 (.cells #[.int .u64 (x.m.id : Int), .string (ofL x.m.shop), .string (ofL x.m.key), .slice Ax x.m.head.length cx, .string (ofL x.m.body), .int .u64 (x.m.due : Int), .int .u8 (x.m.hops : Int), .bool x.lent, .bool x.again] 32))); have HX5 := HXK.out.on HB5.out; have x0 := HX5.cs 0 _ rfl; have x1 := HX5.cs 1 _ rfl; have x2 := HX5.cs 2 _ rfl; have x3 := HX5.cs 3 _ rfl; have x4 := HX5.cs 4 _ rfl; have x5 := HX5.cs 5 _ rfl; have x6 := HX5.cs 6 _ rfl; have x7 := HX5.cs 7 _ rfl; have x8 := HX5.cs 8 _ rfl; have xl := HX5.lt; have HNW := Lib.hid (show Rws (w5.alloc (.cells #[.int .u64 (x.m.id : Int), .string (ofL x.m.shop), .string (ofL x.m.key), .slice Ax x.m.head.length cx, .string (ofL x.m.body), .int .u64 (x.m.due : Int), .int .u8 (x.m.hops : Int), .bool x.lent, .bool x.again] 32)) (some ⟨w5.heap.size, 0, none⟩) (its [(⟨x, Ax, cx⟩ : ItP)]) from Rws.of_news (fun j u hu => by rw [Nat.zero_add]; exact (World.cell?_alloc_new w5 #[.int .u64 (x.m.id : Int), .string (ofL x.m.shop), .string (ofL x.m.key), .slice Ax x.m.head.length cx, .string (ofL x.m.body), .int .u64 (x.m.due : Int), .int .u8 (x.m.hops : Int), .bool x.lent, .bool x.again] 32 j).trans (by simpa [its, itL] using hu))); have HS5 := Lib.hid (show wr.heap.size ≤ (w5.alloc (.cells #[.int .u64 (x.m.id : Int), .string (ofL x.m.shop), .string (ofL x.m.key), .slice Ax x.m.head.length cx, .string (ofL x.m.body), .int .u64 (x.m.due : Int), .int .u8 (x.m.hops : Int), .bool x.lent, .bool x.again] 32)).heap.size from Nat.le_trans hgrow.size (by simp)); clear hown hgrow HX5)
            | (at_builtin; refine wpList_append_rws _ rfl (Operand.tmp 45) (Operand.tmp 47) 24 rfl wr.heap.size 32 i1 _ 9 104 Tryd.underlying24 hi1 hz0 hz1 hz2 rfl (by decide) (by decide) (by rfl) HO5.out (by rfl) HNW.out (by rfl) (its_one _) (by omega) (fun e => by cases e) HS5.out ?_; intro v6 w6 hown hgrow; have HO6 := Lib.hid hown; have HG6 := Lib.hid hgrow; clear hown hgrow x0 x1 x2 x3 x4 x5 x6 x7 x8 xl))
          go_ret2
          have hown := HO6.out
          rw [← its_app] at hown
          have hb6 : Below wr.heap.size wr w6 := (bthen HB5.out (one_alloc w5 (.cells #[.int .u64 (x.m.id : Int), .string (ofL x.m.shop), .string (ofL x.m.key), .slice Ax x.m.head.length cx, .string (ofL x.m.body), .int .u64 (x.m.due : Int), .int .u8 (x.m.hops : Int), .bool x.lent, .bool x.again] 32)) (Nat.le_refl _)).grown HG6.out HS5.out (fun k hk => (HO5.out.lt k hk).1)
          obtain ⟨A6, c6, rfl, hc6, hn6, -, -⟩ := Rws.of_own hown
          refine ⟨A6, c6, m ++ [⟨x, Ax, cx⟩], by rw [HAC2.out, List.length_append]; rfl, by rw [HAD.out, List.map_append, HM.out]; rfl, by rw [List.length_append]; exact hc6, hn6, Its.of_own (B := wr.heap.size) (e := 32) (c := c6) (by rw [List.length_append]; exact hown) (fun p hp => ?_), bthen HBE.out hb6 (Nat.le_refl _)⟩
          rcases List.mem_append.1 hp with hp | hp
          · exact (HIK.out.ok p hp).on hb6
          · obtain rfl := List.mem_singleton.1 hp
            exact HGK.out.on hb6
      · rw [if_pos h0] at hac
        have HAD := Lib.hid (show m.map (·.x) = Ln.add l x by unfold Ln.add; rw [if_neg (by omega)]; exact HM.out)
        have HAC2 := Lib.hid hac
        have HML2 := Lib.hid hml
        clear hac hml
        have d1 : ((pk : Int) == 0) = false := by rw [beq_eq_false_iff_ne]; omega
        have d2 : ((pk : Int) != 0) = true := by rw [bne_iff_ne]; omega
        go_wp2_with fail
        go_ret2
        exact ⟨A, c, m, by rw [HAC2.out]; rfl, HAD.out, HCC.out, HN.out, HIK.out, HBE.out⟩
end Go.Proofs.YtfbajmiiecmelabDoor
end
