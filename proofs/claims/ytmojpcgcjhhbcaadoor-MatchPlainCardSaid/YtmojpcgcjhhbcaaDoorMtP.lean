/-
  THE LAW MatchPlain, walked: what goes by a fanout, by a plain topic, by heads without a Want.
-/
import Derived.Test.YtmojpcgcjhhbcaaDoorMtG
namespace Go.Proofs.YtmojpcgcjhhbcaaDoor
open Go.ChangeShapes Go.WideShapes Go.ChangeAt Go.RowKit

theorem key_all {l : List UInt8} (h : Wrd.keyCode [] l = 0) : ∀ w ∈ Wrd.words l, Wrd.okWord [] w = true := by
  by_cases h64 : 64 < l.length
  · rw [key_long [] h64] at h; omega
  · cases ha : (Wrd.words l).all (Wrd.okWord []) with
    | true => exact List.all_eq_true.1 ha
    | false => rw [key_form h64 ha] at h; omega
theorem mark_not {b : UInt8} (h : Wrd.mark b = true) : b ≠ 35 ∧ b ≠ 42 ∧ b ≠ 46 := by
  refine ⟨?_, ?_, ?_⟩ <;> (intro e; subst e; revert h; decide)
theorem plain_mem {x : List UInt8} (h : Wrd.plain x = true) : x ≠ [] ∧ ∀ b ∈ x, Wrd.mark b = true := by
  unfold Wrd.plain at h
  rw [Bool.and_eq_true, List.all_eq_true] at h
  refine ⟨?_, h.1⟩
  intro e
  rw [e] at h
  simp at h
theorem plain_not {x : List UInt8} (h : Wrd.plain x = true) : x ≠ Wrd.hash ∧ x ≠ Wrd.star ∧ (46 : UInt8) ∉ x := by
  obtain ⟨_, h2⟩ := plain_mem h
  refine ⟨fun e => ?_, fun e => ?_, fun hm => (mark_not (h2 _ hm)).2.2 rfl⟩
  · exact (mark_not (h2 35 (by rw [e]; simp [Wrd.hash]))).1 rfl
  · exact (mark_not (h2 42 (by rw [e]; simp [Wrd.star]))).2.1 rfl
theorem key_words {l : List UInt8} (h : Wrd.keyCode [] l = 0) : ∀ w ∈ Wrd.words l, w ≠ Wrd.hash ∧ w ≠ Wrd.star := by
  intro w hw
  have := key_all h w hw
  unfold Wrd.okWord at this
  simp at this
  exact ⟨(plain_not this).1, (plain_not this).2.1⟩
/-- a key matches itself alone -/
theorem self_same {l m : List UInt8} (h : Wrd.keyCode [] l = 0) : Wrd.matches' (Wrd.words l) (Wrd.words m) = (l == m) := by
  unfold Wrd.matches'
  rw [Wrd.mt_same _ _ (fun w hw => key_words h w (List.mem_reverse.1 hw)), Bool.eq_iff_iff]
  simp only [decide_eq_true_eq, beq_iff_eq, List.reverse_inj]
  exact ⟨fun e => Wrd.words_inj e, fun e => by rw [e]⟩
/-- the rules of the law -/
def plainR (n : Nat) (a : List UInt8) (b : Bool) : Ru := ⟨n, a, [], b⟩
theorem plainR_ok (n : Nat) (a : List UInt8) (b : Bool) (ha : a.length ≤ 64) (w : World) : RuOk w (plainR n a b) none 0 := ⟨by show a.length ≤ 90000; omega, by simp [plainR], by simp [plainR], lite_nil, Prs.nil _ _⟩
theorem own_all (h : List Hd.Pr) : h.all (hasP h) = true := each_yes fun _ hk => hasP_yes hk (prEq_self _)
/-- the law's two boxes, behind all stores -/
structure MpC (w : World) (p q : Nat) (a : List UInt8) (h : List Hd.Pr) (B : Option Addr) (W : World) : Prop where
  p0 : W.cell? ⟨p, 0, none⟩ = some (.int .u8 0)
  p1 : W.cell? ⟨p, 1, none⟩ = some (.string (ofL a))
  p2 : W.cell? ⟨p, 2, none⟩ = some (.slice none 0 0)
  p3 : W.cell? ⟨p, 3, none⟩ = some (.bool false)
  q0 : W.cell? ⟨q, 0, none⟩ = some (.int .u8 2)
  q1 : W.cell? ⟨q, 1, none⟩ = some (.string (ofL a))
  q2 : W.cell? ⟨q, 2, none⟩ = some (.slice none 0 0)
  q3 : W.cell? ⟨q, 3, none⟩ = some (.bool false)
  lp : p < W.heap.size
  lq : q < W.heap.size
  rb : Prs W B h
  L : Len W
  B : Below w.heap.size w W
theorem MpC.on {w : World} {p q : Nat} {a : List UInt8} {h : List Hd.Pr} {B : Option Addr} {W W' : World} (H : MpC w p q a h B W) (hb : Below W.heap.size W W') : MpC w p q a h B W' :=
  ⟨(hb.cell (p := ⟨p, 0, none⟩) H.lp).trans H.p0, (hb.cell (p := ⟨p, 1, none⟩) H.lp).trans H.p1, (hb.cell (p := ⟨p, 2, none⟩) H.lp).trans H.p2, (hb.cell (p := ⟨p, 3, none⟩) H.lp).trans H.p3,
   (hb.cell (p := ⟨q, 0, none⟩) H.lq).trans H.q0, (hb.cell (p := ⟨q, 1, none⟩) H.lq).trans H.q1, (hb.cell (p := ⟨q, 2, none⟩) H.lq).trans H.q2, (hb.cell (p := ⟨q, 3, none⟩) H.lq).trans H.q3,
   Nat.lt_of_lt_of_le H.lp hb.size, Nat.lt_of_lt_of_le H.lq hb.size, H.rb.on hb, H.L.on hb, bthen H.B hb (Nat.le_refl _)⟩
theorem MpC.start (w w5 : World) (a : List UInt8) (h : List Hd.Pr) (B : Option Addr) (hP : Prs w5 B h) (hL : Len w5) (hB : Below w.heap.size w w5) (t : TypeId) :
    MpC w w5.heap.size (w5.heap.size + 1) a h B ((w5.alloc (.cells #[.int .u8 0, .string (ofL a), .slice none 0 0, .bool false] t)).alloc (.cells #[.int .u8 2, .string (ofL a), .slice none 0 0, .bool false] t)) := by
  have e1 : (w5.alloc (.cells #[.int .u8 0, .string (ofL a), .slice none 0 0, .bool false] t)).heap.size = w5.heap.size + 1 := by simp
  have b1 := (Below.refl w5.heap.size w5).alloc (Nat.le_refl _) (.cells #[.int .u8 0, .string (ofL a), .slice none 0 0, .bool false] t)
  have b2 := (Below.refl (w5.alloc (.cells #[.int .u8 0, .string (ofL a), .slice none 0 0, .bool false] t)).heap.size (w5.alloc (.cells #[.int .u8 0, .string (ofL a), .slice none 0 0, .bool false] t))).alloc (Nat.le_refl _) (.cells #[.int .u8 2, .string (ofL a), .slice none 0 0, .bool false] t)
  have c1 := (Cels.new w5 #[.int .u8 0, .string (ofL a), .slice none 0 0, .bool false] t).on b2 (by simp)
  have c2 := Cels.new (w5.alloc (.cells #[.int .u8 0, .string (ofL a), .slice none 0 0, .bool false] t)) #[.int .u8 2, .string (ofL a), .slice none 0 0, .bool false] t
  rw [e1] at c2
  exact ⟨c1 0 _ rfl, c1 1 _ rfl, c1 2 _ rfl, c1 3 _ rfl, c2 0 _ rfl, c2 1 _ rfl, c2 2 _ rfl, c2 3 _ rfl, by simp; omega, by simp, (hP.on b1).on b2, (hL.on b1).on b2, bthen (bthen hB b1 (Nat.le_refl _)) b2 (Nat.le_refl _)⟩
set_option maxRecDepth 100000 in
set_option maxHeartbeats 16000000 in
theorem matchPlain_walk (a key : List UInt8) (h : List Hd.Pr) (B : Option Addr) (d : Nat) (w : World) (hh : h.length ≤ 9223372036854775807) (hd : h.length ≤ d) (hB : Prs w B h) (hL : Len w) :
    Calls Tryd.prog 7 #[.string (ofL a), .string (ofL key), .slice B h.length d] w fun e w' => e = .returned (.bool true) ∧ Below w.heap.size w w' := by
  have HAW := Lib.hid (awake10_any w hL)
  have HP := Lib.hid hB
  have HLL := Lib.hid hL
  have HK1 := Lib.hid (fun W => rkey_big a W)
  have HK2 := Lib.hid (fun W => rkey_big key W)
  have HLH := Lib.hid (fun W h' => light9_any h B d W hh h')
  clear hL hB
  by_cases hk1 : Wrd.keyCode [] a = 0
  · by_cases hk2 : Wrd.keyCode [] key = 0
    · cases hlh : lightB h with
      | false =>
        rw [hk1] at HK1
        rw [hk2] at HK2
        rw [hlh] at HLH
        clear hk1 hk2 hlh
        go_enter Tryd.func7, Tryd.ntmps7
        go_wp2_with fail
        refine HAW.out.mono ?_
        rintro e w1 ⟨rfl, b1⟩
        have HP1 := Lib.hid (HP.out.on b1)
        have HL1 := Lib.hid (HLL.out.on b1)
        have HB1 := Lib.hid b1
        clear b1
        go_wp2_with fail
        refine (HK1.out _).mono ?_
        rintro e w2 ⟨rfl, b2⟩
        have HP2 := Lib.hid (HP1.out.on b2)
        have HL2 := Lib.hid (HL1.out.on b2)
        have HB2 := Lib.hid (bthen HB1.out b2 (Nat.le_refl _))
        clear b2
        go_wp2_with fail
        refine (HK2.out _).mono ?_
        rintro e w3 ⟨rfl, b3⟩
        have HP3 := Lib.hid (HP2.out.on b3)
        have HL3 := Lib.hid (HL2.out.on b3)
        have HB3 := Lib.hid (bthen HB2.out b3 (Nat.le_refl _))
        clear b3
        go_wp2_with fail
        refine (HLH.out _ HP3.out).mono ?_
        rintro e w4 ⟨rfl, b4⟩
        have HB4 := Lib.hid (bthen HB3.out b4 (Nat.le_refl _))
        clear b4
        go_wp2_with fail
        go_ret
        exact ⟨rfl, HB4.out⟩
      | true =>
        obtain ⟨hhl, hht, -⟩ := light_lite hlh
        have HCH := Lib.hid (fun W h' => rCheck9_any h B d W (by omega) hd hht h')
        rw [hlh] at HLH
        clear hlh
        by_cases hh0 : Hd.hcode h = 0
        · rw [hh0] at HCH
          have hal := key_len hk1
          have hkl := key_len hk2
          have hg : ∀ (n : Nat) (x : List UInt8) (b : Bool) (V : Bool), n ≤ 3 → x.length ≤ 64 → goesB (plainR n x b) key h = V → ∀ W, Prs W B h → Len W → Calls Tryd.prog 31 #[ruV (plainR n x b) none 0, .string (ofL key), .slice B h.length d] W fun e w' => e = .returned (.bool V) ∧ Below W.heap.size W w' := fun n x b V hn hx hv W h1 h2 => by
            have := mGoes_any (plainR n x b) none 0 key h B d W (plainR_ok n x b hx W) hn (by omega) (by omega) h1 h2
            rw [hv] at this
            exact this
          obtain ⟨M, hM⟩ : ∃ M, (a == key) = M := ⟨_, rfl⟩
          have G1 := Lib.hid (hg 1 a false true (by omega) hal (goes_1 rfl key h))
          have G2 := Lib.hid (hg 0 a false M (by omega) hal ((goes_0 rfl key h).trans hM))
          have G3 := Lib.hid (hg 2 a false M (by omega) hal (((goes_2 rfl key h).trans (self_same hk1)).trans hM))
          have G4 := Lib.hid (hg 3 [] true true (by omega) (by simp) ((goes_3 rfl key h).trans rfl))
          have G5 := Lib.hid (hg 3 [] false false (by omega) (by simp) ((goes_3 rfl key h).trans rfl))
          have G6 := Lib.hid (fun W (h1 : Prs W B h) (h2 : Len W) => by
            have := mGoes_any ⟨3, [], h, true⟩ B d key h B d W ⟨by simp, by show h.length ≤ 100000; omega, hd, hht, h1⟩ (by simp) (by omega) (by omega) h1 h2
            rw [show goesB ⟨3, [], h, true⟩ key h = true from (goes_3 rfl key h).trans (own_all h)] at this
            exact this)
          simp only [ruV, plainR, show ofL [] = ⟨#[]⟩ from rfl, List.length_nil] at G1 G2 G3 G4 G5 G6
          rw [hk1] at HK1
          rw [hk2] at HK2
          have hq := str_same a key
          rw [hM] at hq
          have hmm : (M == M) = true := by simp
          clear hk1 hk2 hh0 hM hg
          go_enter Tryd.func7, Tryd.ntmps7
          go_wp2_with fail
          refine HAW.out.mono ?_
          rintro e w1 ⟨rfl, b1⟩
          have HP1 := Lib.hid (HP.out.on b1)
          have HL1 := Lib.hid (HLL.out.on b1)
          have HB1 := Lib.hid b1
          clear b1
          go_wp2_with fail
          refine (HK1.out _).mono ?_
          rintro e w2 ⟨rfl, b2⟩
          have HP2 := Lib.hid (HP1.out.on b2)
          have HL2 := Lib.hid (HL1.out.on b2)
          have HB2 := Lib.hid (bthen HB1.out b2 (Nat.le_refl _))
          clear b2
          go_wp2_with fail
          refine (HK2.out _).mono ?_
          rintro e w3 ⟨rfl, b3⟩
          have HP3 := Lib.hid (HP2.out.on b3)
          have HL3 := Lib.hid (HL2.out.on b3)
          have HB3 := Lib.hid (bthen HB2.out b3 (Nat.le_refl _))
          clear b3
          go_wp2_with fail
          refine (HLH.out _ HP3.out).mono ?_
          rintro e w4 ⟨rfl, b4⟩
          have HP4 := Lib.hid (HP3.out.on b4)
          have HL4 := Lib.hid (HL3.out.on b4)
          have HB4 := Lib.hid (bthen HB3.out b4 (Nat.le_refl _))
          clear b4
          go_wp2_with fail
          refine (HCH.out _ HP4.out).mono ?_
          rintro e w5 ⟨rfl, b5⟩
          have HP5 := Lib.hid (HP4.out.on b5)
          have HL5 := Lib.hid (HL4.out.on b5)
          have HB5 := Lib.hid (bthen HB4.out b5 (Nat.le_refl _))
          clear b5
          go_upto_region 6 with fail
          have HC5 := Lib.hid (MpC.start w w5 a h B HP5.out HL5.out HB5.out 48)
          generalize (w5.alloc (.cells #[.int .u8 0, .string (ofL a), .slice none 0 0, .bool false] 48)).alloc (.cells #[.int .u8 2, .string (ofL a), .slice none 0 0, .bool false] 48) = w6 at *
          generalize w5.heap.size + 1 = q at *
          generalize w5.heap.size = p at *
          clear HAW HP HLL HK1 HK2 HLH HCH HP1 HL1 HB1 HP2 HL2 HB2 HP3 HL3 HB3 HP4 HL4 HB4 HP5 HL5 HB5
          go_wp2_with fail
          refine (G1.out _ HC5.out.rb HC5.out.L).mono ?_
          rintro e w7 ⟨rfl, b7⟩
          have hC6 := HC5.out.on b7
          have HC6 := Lib.hid hC6
          obtain ⟨c0, c1, c2, c3, -, -, -, -, c4, -, -, -, -⟩ := hC6
          clear b7
          go_wp2_with fail
          refine (G2.out _ HC6.out.rb HC6.out.L).mono ?_
          rintro e w8 ⟨rfl, b8⟩
          have hC7 := HC6.out.on b8
          have HC7 := Lib.hid hC7
          clear c0 c1 c2 c3 c4
          obtain ⟨-, -, -, -, c0, c1, c2, c3, -, c4, -, -, -⟩ := hC7
          clear b8
          go_wp2_with fail
          refine (G3.out _ HC7.out.rb HC7.out.L).mono ?_
          rintro e w9 ⟨rfl, b9⟩
          have HC8 := Lib.hid (HC7.out.on b9)
          clear b9 c0 c1 c2 c3 c4
          go_wp2_with fail
          refine (G4.out _ HC8.out.rb HC8.out.L).mono ?_
          rintro e wa ⟨rfl, ba⟩
          have HC9 := Lib.hid (HC8.out.on ba)
          clear ba
          go_wp2_with fail
          refine (G5.out _ HC9.out.rb HC9.out.L).mono ?_
          rintro e wb ⟨rfl, bb⟩
          have HC10 := Lib.hid (HC9.out.on bb)
          clear bb
          go_wp2_with fail
          refine (G6.out _ HC10.out.rb HC10.out.L).mono ?_
          rintro e wc ⟨rfl, bc⟩
          have HBZ := Lib.hid (bthen HC10.out.B bc (Nat.le_refl _))
          clear bc
          go_wp2_with fail
          go_ret
          exact ⟨rfl, HBZ.out⟩
        · have hne := code_ne hh0
          rw [hk1] at HK1
          rw [hk2] at HK2
          clear hk1 hk2 hh0
          go_enter Tryd.func7, Tryd.ntmps7
          go_wp2_with fail
          refine HAW.out.mono ?_
          rintro e w1 ⟨rfl, b1⟩
          have HP1 := Lib.hid (HP.out.on b1)
          have HL1 := Lib.hid (HLL.out.on b1)
          have HB1 := Lib.hid b1
          clear b1
          go_wp2_with fail
          refine (HK1.out _).mono ?_
          rintro e w2 ⟨rfl, b2⟩
          have HP2 := Lib.hid (HP1.out.on b2)
          have HL2 := Lib.hid (HL1.out.on b2)
          have HB2 := Lib.hid (bthen HB1.out b2 (Nat.le_refl _))
          clear b2
          go_wp2_with fail
          refine (HK2.out _).mono ?_
          rintro e w3 ⟨rfl, b3⟩
          have HP3 := Lib.hid (HP2.out.on b3)
          have HL3 := Lib.hid (HL2.out.on b3)
          have HB3 := Lib.hid (bthen HB2.out b3 (Nat.le_refl _))
          clear b3
          go_wp2_with fail
          refine (HLH.out _ HP3.out).mono ?_
          rintro e w4 ⟨rfl, b4⟩
          have HP4 := Lib.hid (HP3.out.on b4)
          have HL4 := Lib.hid (HL3.out.on b4)
          have HB4 := Lib.hid (bthen HB3.out b4 (Nat.le_refl _))
          clear b4
          go_wp2_with fail
          refine (HCH.out _ HP4.out).mono ?_
          rintro e w5 ⟨rfl, b5⟩
          have HB5 := Lib.hid (bthen HB4.out b5 (Nat.le_refl _))
          clear b5
          go_wp2_with fail
          go_ret
          exact ⟨rfl, HB5.out⟩
    · have hne := code_ne hk2
      rw [hk1] at HK1
      clear hk1 hk2
      go_enter Tryd.func7, Tryd.ntmps7
      go_wp2_with fail
      refine HAW.out.mono ?_
      rintro e w1 ⟨rfl, b1⟩
      have HP1 := Lib.hid (HP.out.on b1)
      have HL1 := Lib.hid (HLL.out.on b1)
      have HB1 := Lib.hid b1
      clear b1
      go_wp2_with fail
      refine (HK1.out _).mono ?_
      rintro e w2 ⟨rfl, b2⟩
      have HP2 := Lib.hid (HP1.out.on b2)
      have HL2 := Lib.hid (HL1.out.on b2)
      have HB2 := Lib.hid (bthen HB1.out b2 (Nat.le_refl _))
      clear b2
      go_wp2_with fail
      refine (HK2.out _).mono ?_
      rintro e w3 ⟨rfl, b3⟩
      have HB3 := Lib.hid (bthen HB2.out b3 (Nat.le_refl _))
      clear b3
      go_wp2_with fail
      go_ret
      exact ⟨rfl, HB3.out⟩
  · have hne := code_ne hk1
    clear hk1
    go_enter Tryd.func7, Tryd.ntmps7
    go_wp2_with fail
    refine HAW.out.mono ?_
    rintro e w1 ⟨rfl, b1⟩
    have HP1 := Lib.hid (HP.out.on b1)
    have HL1 := Lib.hid (HLL.out.on b1)
    have HB1 := Lib.hid b1
    clear b1
    go_wp2_with fail
    refine (HK1.out _).mono ?_
    rintro e w2 ⟨rfl, b2⟩
    have HB2 := Lib.hid (bthen HB1.out b2 (Nat.le_refl _))
    clear b2
    go_wp2_with fail
    go_ret
    exact ⟨rfl, HB2.out⟩
end Go.Proofs.YtmojpcgcjhhbcaaDoor
