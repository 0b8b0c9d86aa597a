/-
  DEEDS UNPACKED, the program's. PLAIN: drafts: what may stand behind the others; what is told at a tick. No program is spoken of here. ADD OF ANY DEEDS, the program's: walked. ALL OF THE DOCUMENT'S DRAFT AT A TICK: walked. ROWS OF DEEDS THAT COME IN: whether they are gone through; what is added in parts (plain): walked.
-/
import Derived.Test.YtaikigponkjkgaaGreatDoorDs05
import Derived.Test.YtaikigponkjkgaaGreatDoorDs15
import Derived.Test.YtaikigponkjkgaaGreatDoorDs38
import Derived.Test.YtaikigponkjkgaaGreatDoorDs42
import Derived.Test.YtaikigponkjkgaaGreatDoorDs43
import Derived.Test.YtaikigponkjkgaaGreatDoorDs44

section
namespace Go.Proofs.YtaikigponkjkgaaGreatDoor
open Go.ChangeShapes Go.WideShapes Go.ChangeAt Go.RowKit
/-- while deeds are read: the reader b, one's own row v -/
structure UnI (w : World) (b : Nat) (R : LSt → World → Prop) (T : TypeId) (s : LSt) (v : Value) (q : List Dp) (W : World) : Prop where
  ri : R s W
  own : W.ownsRow (b + 1) T 29 v q.length (q.flatMap dpL)
  ra : ∀ p ∈ q, Prs W p.A p.x.bind.want ∧ p.x.bind.want.length ≤ p.c ∧ (p.x.bind.want ≠ [] → ∀ a, p.A = some a → b < a.block ∧ v.ownBlock ≠ some a.block)
  rb : ∀ p ∈ q, Prs W p.B p.x.mail.head ∧ p.x.mail.head.length ≤ p.d ∧ (p.x.mail.head ≠ [] → ∀ a, p.B = some a → b < a.block ∧ v.ownBlock ≠ some a.block)
  B : Below w.heap.size w W
  lt : w.heap.size ≤ b ∧ b < W.heap.size
theorem un_own_row {w : World} {B e sz n : Nat} {v : Value} {xs : List Value} (h : w.ownsRow B e sz v n xs) {b : Nat} (hb : b < B) : v.ownBlock ≠ some b := fun e => by have := (h.lt _ e).1; omega
theorem un_prs_in {w : World} {A : Option Addr} {l : List Hd.Pr} (h : Prs w A l) (hl : l ≠ []) {a : Addr} (ha : A = some a) : a.block < w.heap.size := by
  obtain ⟨b, off, e, hlt, -⟩ := h.at_ 0 (List.length_pos_iff.2 hl)
  rw [ha] at e
  cases e
  exact hlt
section
variable {w W W' : World} {b : Nat} {R : LSt → World → Prop} {T : TypeId} {s s' : LSt} {v : Value} {q : List Dp}
theorem UnI.step (h : UnI w b R T s v q W) (hi : R s' W') (hg : W.grownBy W' (some b)) : UnI w b R T s' v q W' := by
  obtain ⟨l1, l2⟩ := h.lt
  have hr : ∀ {A : Option Addr} {l : List Hd.Pr}, Prs W A l → (l ≠ [] → ∀ a, A = some a → b < a.block ∧ v.ownBlock ≠ some a.block) → Prs W' A l := fun {A l} hp hn => by
    by_cases e : l = []
    · rw [e]; exact Prs.nil _ _
    · exact hp.grown hg (fun a ha e2 => by have := (hn e a ha).1; have := Option.some.inj e2; omega)
  exact ⟨hi, h.own.kept hg (.inr (un_own_row h.own (Nat.lt_succ_self b))), fun p hp => ⟨hr (h.ra p hp).1 (h.ra p hp).2.2, (h.ra p hp).2⟩, fun p hp => ⟨hr (h.rb p hp).1 (h.rb p hp).2.2, (h.rb p hp).2⟩, below_in h.B hg h.B.size l1, l1, Nat.lt_of_lt_of_le l2 hg.size⟩
theorem UnI.on (hR : Rder b R) (h : UnI w b R T s v q W) (hb : Below W.heap.size W W') : UnI w b R T s v q W' :=
  ⟨hR.on h.ri hb, Rw.own_on h.own hb, fun p hp => ⟨(h.ra p hp).1.on hb, (h.ra p hp).2⟩, fun p hp => ⟨(h.rb p hp).1.on hb, (h.rb p hp).2⟩, bthen h.B hb (Nat.le_refl _), h.lt.1, Nat.lt_of_lt_of_le h.lt.2 hb.size⟩
theorem UnI.append (hR : Rder b R) (h : UnI w b R T s v q W) {p0 : Dp} {g cap n : Nat}
    (ha0 : Prs W p0.A p0.x.bind.want ∧ p0.x.bind.want.length ≤ p0.c ∧ (p0.x.bind.want ≠ [] → ∀ a, p0.A = some a → b < a.block ∧ v.ownBlock ≠ some a.block))
    (hb0 : Prs W p0.B p0.x.mail.head ∧ p0.x.mail.head.length ≤ p0.d ∧ (p0.x.mail.head ≠ [] → ∀ a, p0.B = some a → b < a.block ∧ v.ownBlock ≠ some a.block))
    (hg : W.grownBy W' v.ownBlock) (ho : W'.ownsRow (b + 1) T 29 (.slice (some ⟨g, 0, none⟩) n cap) (q ++ [p0]).length ((q ++ [p0]).flatMap dpL)) (hat : v.ownBlock = some g ∨ g = W.heap.size) : UnI w b R T s (.slice (some ⟨g, 0, none⟩) n cap) (q ++ [p0]) W' := by
  obtain ⟨l1, l2⟩ := h.lt
  have hno : ∀ k, k < b + 1 → some k ≠ v.ownBlock := fun k hk e => by have := (h.own.lt _ e.symm).1; omega
  have hr : ∀ {A : Option Addr} {l : List Hd.Pr}, Prs W A l → (l ≠ [] → ∀ a, A = some a → b < a.block ∧ v.ownBlock ≠ some a.block) → Prs W' A l ∧ (l ≠ [] → ∀ a, A = some a → b < a.block ∧ (Value.slice (some ⟨g, 0, none⟩) n cap).ownBlock ≠ some a.block) := fun {A l} hp hn => by
    by_cases e : l = []
    · rw [e]; exact ⟨Prs.nil _ _, fun h => absurd rfl h⟩
    · refine ⟨hp.grown hg (fun a ha e2 => (hn e a ha).2 e2.symm), fun _ a ha => ⟨(hn e a ha).1, fun e2 => ?_⟩⟩
      have e3 : g = a.block := Option.some.inj e2
      have := un_prs_in hp e ha
      rcases hat with e4 | e4
      · exact (hn e a ha).2 (by rw [e4, e3])
      · omega
  refine ⟨hR.gr h.ri hg (hno b (by omega)), ho, fun p hp => ?_, fun p hp => ?_, h.B.grown hg h.B.size (fun k hk => by have := (h.own.lt _ hk).1; omega), l1, Nat.lt_of_lt_of_le l2 hg.size⟩
  · rcases List.mem_append.1 hp with hp | hp
    · have := hr (h.ra p hp).1 (h.ra p hp).2.2
      exact ⟨this.1, (h.ra p hp).2.1, this.2⟩
    · obtain rfl := List.mem_singleton.1 hp
      have := hr ha0.1 ha0.2.2
      exact ⟨this.1, ha0.2.1, this.2⟩
  · rcases List.mem_append.1 hp with hp | hp
    · have := hr (h.rb p hp).1 (h.rb p hp).2.2
      exact ⟨this.1, (h.rb p hp).2.1, this.2⟩
    · obtain rfl := List.mem_singleton.1 hp
      have := hr hb0.1 hb0.2.2
      exact ⟨this.1, hb0.2.1, this.2⟩
end
theorem lo_deOk {w : World} {x : De} {A : Option Addr} {c : Nat} {B : Option Addr} {d : Nat} (h : De.Lo x) (hA : Prs w A x.bind.want) (hc : x.bind.want.length ≤ c) (hB : Prs w B x.mail.head) (hd : x.mail.head.length ≤ d) : DeOk w x A c B d := by
  obtain ⟨f, sn, st, qn, qd, bs, bt, bk, bw, bp, nm, ms, mk, mb, mh, mp, tx⟩ := h
  exact ⟨by omega, by omega, by omega, by omega, ⟨by omega, by omega, by omega, by omega, hc, lite_of bp, hA⟩, by omega, ⟨by omega, by omega, by omega, by omega, hd, lite_of mp, hB⟩, by omega⟩
/-- what was read lies there -/
theorem UnI.dps {w W : World} {b : Nat} {R : LSt → World → Prop} {T : TypeId} {s : LSt} {v : Value} {q : List Dp} (h : UnI w b R T s v q W) (hl : ∀ p ∈ q, De.Lo p.x) : ∃ A c, v = .slice A q.length c ∧ q.length ≤ c ∧ Dps W A q := by
  obtain ⟨A, c, e, hc, -, hr, -⟩ := Rws.of_own h.own
  exact ⟨A, c, e, hc, hr, fun p hp => lo_deOk (hl p hp) (h.ra p hp).1 (h.ra p hp).2.1 (h.rb p hp).1 (h.rb p hp).2.1⟩
def unC (t : List UInt8) : Int := if De.unB t = true then 0 else 4
/-- the deeds that some bytes are lie there -/
def UnPost (t : List UInt8) (w : World) (e : Ending) (w' : World) : Prop := ∃ A c q, e = .returned (.tuple #[.slice A q.length c, .int .i64 (unC t)]) ∧ q.map Dp.x = De.un t ∧ q.length ≤ c ∧ Dps w' A q ∧ (∀ p ∈ q, De.Lo p.x) ∧ Below w.heap.size w w'
theorem UnPost.bad {t : List UInt8} {w W : World} (h : De.unB t = false) (hb : Below w.heap.size w W) {e : Ending} (he : e = .returned (.tuple #[.slice none 0 0, .int .i64 4])) : UnPost t w e W :=
  ⟨none, 0, [], by rw [he]; unfold unC; rw [h]; rfl, by unfold De.un; rw [h]; rfl, Nat.le_refl _, Dps.nil _ _, fun p hp => by simp at hp, hb⟩
theorem UnPost.good {t : List UInt8} {w W : World} {A : Option Addr} {c : Nat} {q : List Dp} (h : De.unB t = true) (hq : q.map Dp.x = (De.unR t).1) (hc : q.length ≤ c) (hD : Dps W A q) (hl : ∀ p ∈ q, De.Lo p.x) (hb : Below w.heap.size w W) {e : Ending} (he : e = .returned (.tuple #[.slice A q.length c, .int .i64 0])) : UnPost t w e W :=
  ⟨A, c, q, by rw [he]; unfold unC; rw [h]; rfl, by unfold De.un; rw [h, hq]; rfl, hc, hD, hl, hb⟩
/-- what Unpack finds at the end -/
theorem unp_end {t : List UInt8} (h : lEnd (De.unR t).2 ≠ 0) : De.unB t = false := by unfold De.unB; rw [decide_eq_false h]; rfl
theorem unp_code {t : List UInt8} (h : De.packc (De.unR t).1 ≠ 0) : De.unB t = false := by unfold De.unB; rw [decide_eq_false h]; simp
theorem unp_text {t : List UInt8} (h : De.pack (De.unR t).1 ≠ t) : De.unB t = false := by unfold De.unB; rw [decide_eq_false h]; simp
theorem unp_yes {t : List UInt8} (h1 : lEnd (De.unR t).2 = 0) (h2 : De.packc (De.unR t).1 = 0) (h3 : De.pack (De.unR t).1 = t) : De.unB t = true := by unfold De.unB; rw [h1, h2, h3]; simp
theorem lo_map {q : List Dp} {n : Nat} {s : LSt} (h : q.map Dp.x = (De.rds n s).1) : ∀ p ∈ q, De.Lo p.x := fun p hp => De.rds_lo n s p.x (h ▸ List.mem_map_of_mem hp)
theorem unp_ne {a b : List UInt8} (h : a ≠ b) : ((ofL a).toList != (ofL b).toList) = true := by rw [bne, str_same, beq_eq_false_iff_ne.2 h]; rfl
theorem unp_ne2 {a b : List UInt8} (h : a ≠ b) : (!((ofL a).toList == (ofL b).toList)) = true := by rw [str_same, beq_eq_false_iff_ne.2 h]; rfl
theorem unp_same2 (a : List UInt8) : (!((ofL a).toList == (ofL a).toList)) = false := by rw [str_same]; simp
theorem unp_same (a : List UInt8) : ((ofL a).toList != (ofL a).toList) = false := by rw [bne, str_same]; simp
set_option maxRecDepth 100000 in
set_option maxHeartbeats 16000000 in
theorem ddUnpack_any (t : List UInt8) (w : World) (_ht : t.length ≤ 1000000) (hL : Len w) : Calls Tryz.prog 10 #[.string (ofL t)] w (UnPost t w) := by
  have HLN := Lib.hid hL
  have HNEW := Lib.hid (inew_l t w)
  obtain ⟨b, hb⟩ : ∃ b, b = w.heap.size := ⟨_, rfl⟩
  rw [← hb] at HNEW
  have HBQ := Lib.hid hb
  have HR : Hid (Rder b (InL b)) := rdr_in b
  have HBAD := Lib.hid (fun (h : De.unB t = false) (W : World) (hb : Below w.heap.size w W) (e : Ending) he => UnPost.bad (t := t) (w := w) (W := W) h hb (e := e) he)
  have HGOOD := Lib.hid (fun (h : De.unB t = true) A c (q : List Dp) (W : World) hq hc hD hl (hb : Below w.heap.size w W) (e : Ending) he => UnPost.good (t := t) (w := w) (W := W) (A := A) (c := c) (q := q) h hq hc hD hl hb (e := e) he)
  have HE1 := Lib.hid (unp_end (t := t))
  have HE2 := Lib.hid (unp_code (t := t))
  have HE3 := Lib.hid (unp_text (t := t))
  have HE4 := Lib.hid (unp_yes (t := t))
  have HUR : Hid (De.unR t = De.rds (De.unN t) (De.r1 (t, 0))) := rfl
  have HN1 := Lib.hid (show ∀ W, InL b (t, 0) W → Calls Tryz.prog 26 #[.pointer (some ⟨b, 0, none⟩), .int .i64 1] W (PostL b W (.int .u64 ((De.unN t : Nat) : Int)) (De.r1 (t, 0))) from fun W h => inum_l b (t, 0) 1 1 W (by omega) rfl h (lOk_new t))
  have hnl : De.unN t < 256 := De.n1_lt _
  have HOK : Hid (∀ k, lOk (De.rds k (De.r1 (t, 0))).2) := fun k => De.rds_ok k (De.ok_r1 (lOk_new t))
  have HRS : Hid (∀ k, De.rds (k + 1) (De.r1 (t, 0)) = ((De.rds k (De.r1 (t, 0))).1 ++ [(De.rd (De.rds k (De.r1 (t, 0))).2).1], (De.rd (De.rds k (De.r1 (t, 0))).2).2)) := fun k => rfl
  have HLM : Hid (∀ k q, List.map Dp.x q = (De.rds k (De.r1 (t, 0))).1 → ∀ p ∈ q, De.Lo p.x) := fun k q h => lo_map h
  have HLE : Hid (∀ k, (De.rds k (De.r1 (t, 0))).1.length = k) := fun k => De.rds_len k _
  have HR0 : Hid (De.rds 0 (De.r1 (t, 0)) = ([], De.r1 (t, 0))) := rfl
  generalize UnPost t w = POST at *
  generalize De.unR t = RR at *
  generalize De.unN t = n at *
  generalize De.r1 (t, 0) = s1 at *
  generalize De.rds = rds at *
  clear hL hb
  go_enter Tryz.func10, Tryz.ntmps10
  go_wp2_with fail
  refine HNEW.out.mono ?_
  rintro e w1 ⟨rfl, hi1, hb1⟩
  have HI1 := Lib.hid hi1
  have HB1 : Hid (Below w.heap.size w w1) := by have e := HBQ.out; unfold Hid; rw [← e]; exact hb1
  clear hi1 hb1
  go_wp2_with fail
  refine (HN1.out _ HI1.out).mono ?_
  rintro e w2 ⟨rfl, hi2, hg2⟩
  have HU2 := Lib.hid (show UnI w b (InL b) 52 s1 (.slice none 0 0) [] w2 from ⟨hi2, World.ownsRow_nil _ _ _ _, fun p hp => by simp at hp, fun p hp => by simp at hp, below_in HB1.out hg2 HB1.out.size (by have := HBQ.out; omega), by have := HBQ.out; omega, HR.out.lt hi2⟩)
  clear hi2 hg2
  go_wp2_with fail
  go_loopg [5, 12] n (fun g v i wr => ∃ (k : Nat) (q : List Dp), k + g = n ∧ i = .int .u64 (k : Int) ∧ q.map Dp.x = (rds k s1).1 ∧ UnI w b (InL b) 52 (rds k s1).2 v q wr)
  case atStart => exact ⟨0, [], by omega, rfl, by rw [HR0.out]; rfl, by rw [HR0.out]; exact HU2.out⟩
  case round =>
    obtain ⟨k, q, hk, rfl, hqm, hU⟩ := hrel
    have HK := Lib.hid hk
    have HQM := Lib.hid hqm
    have hql : q.length = k := by rw [← List.length_map (f := Dp.x), hqm]; exact HLE.out k
    have HU := Lib.hid hU
    have HLO := Lib.hid (HLM.out k q hqm)
    clear hk hqm hU
    obtain ⟨A9, c9, ev, hc9, hD9⟩ := HU.out.dps HLO.out
    rw [hql] at ev hc9
    subst ev
    have HD9 := Lib.hid hD9
    have HC9 := Lib.hid hc9
    have HQL := Lib.hid hql
    clear hD9 hc9 hql
    by_cases hlt : k < n
    · have hki : (k : Int) < (n : Int) := by omega
      have HRD := Lib.hid (ddread_any b (rds k s1).2 wr HU.out.ri (HOK.out k) (fun W hg => HLN.out.on (below_in HU.out.B hg HU.out.B.size HU.out.lt.1)))
      have HRSk := Lib.hid (HRS.out k)
      have HSB0 := Lib.hid (show b + 1 ≤ wr.heap.size from HU.out.lt.2)
      generalize De.rd (rds k s1).2 = D at *
      obtain ⟨x, sx⟩ := D
      dsimp only at HRD HRSk
      unfold DeRd at HRD
      go_wp2_with fail
      refine HRD.out.mono ?_
      rintro e w9 ⟨XA, xc, XB, xd, rfl, hxc, hxd, hpa, hpb, hi9, hg9, ha9, hb9⟩
      have HU9 := Lib.hid (HU.out.step hi9 hg9)
      have hne9 : ∀ a : Addr, wr.heap.size ≤ a.block → b < a.block ∧ (Value.slice A9 k c9).ownBlock ≠ some a.block := fun a ha => ⟨by have := HSB0.out; omega, fun e => by have := (HU.out.own.lt _ e).2; omega⟩
      have HXA := Lib.hid (show Prs w9 XA x.bind.want ∧ x.bind.want.length ≤ xc ∧ (x.bind.want ≠ [] → ∀ a, XA = some a → b < a.block ∧ (Value.slice A9 k c9).ownBlock ≠ some a.block) from ⟨hpa, hxc, fun _ a ha => hne9 a (ha9 a ha)⟩)
      have HXB := Lib.hid (show Prs w9 XB x.mail.head ∧ x.mail.head.length ≤ xd ∧ (x.mail.head ≠ [] → ∀ a, XB = some a → b < a.block ∧ (Value.slice A9 k c9).ownBlock ≠ some a.block) from ⟨hpb, hxd, fun _ a ha => hne9 a (hb9 a ha)⟩)
      clear hxc hxd hpa hpb hi9 hg9 ha9 hb9 hne9 HRD
      have hkl : k ≤ 255 := by omega
      obtain ⟨iD, hiD, hzD, hsD, hbD⟩ := info_parts infoDe
      have HBXA := Lib.hid (rtOne w9 (.cells (deL x XA xc XB xd).toArray 52))
      have HUA := Lib.hid (HU9.out.on HR.out HBXA.out)
      have HOWN := Lib.hid HUA.out.own
      rw [HQL.out] at HOWN
      have HNW := Lib.hid (BoxC.new (w := w9) (W := w9) (Nat.le_refl _) (deL x XA xc XB xd).toArray 52)
      have HSZA := Lib.hid (show (w9.alloc (.cells (deL x XA xc XB xd).toArray 52)).heap.size = w9.heap.size + 1 by simp)
      have HSB := Lib.hid (show b + 1 ≤ (w9.alloc (.cells (deL x XA xc XB xd).toArray 52)).heap.size from HUA.out.lt.2)
      have HXA2 := Lib.hid (And.intro (HXA.out.1.on HBXA.out) HXA.out.2)
      have HXB2 := Lib.hid (And.intro (HXB.out.1.on HBXA.out) HXB.out.2)
      go_upto_region 6 with (first
          | (refine wpList_plain (by rfl) (fun K hK => wp_buildDe _ (by rfl) x XA xc XB xd (by kernel_rfl) (hK _ _ ?_)))
          | (at_builtin; refine wpList_append_lies _ (by rfl) _ _ 22 (by rfl) (b + 1) 52 iD _ 29 344 Tryz.underlying22 hiD hzD hsD hbD (by rfl) (by decide) (.slice A9 k c9) k (q.flatMap dpL) (by rfl) HOWN.out ⟨w9.heap.size, 0, none⟩ 1 1 (deL x XA xc XB xd) (by rfl) rfl (fun j u hj => by rw [rws_add, Nat.zero_add]; exact HNW.out.cs j u hj) (de_one _ _ _ _ _) (by omega) (by unfold maxLen; omega) (by omega) HSB.out (w9.heap.size + 1) HSZA.out ?_; intro gg cap w2 hown hgrow hat hlt'; have HW := Lib.hid hown; have HG := Lib.hid hgrow; have HAT2 := Lib.hid hat; clear hown hgrow hat hlt'))
      have HU7 := Lib.hid (HUA.out.append HR.out (p0 := ⟨x, XA, xc, XB, xd⟩) (g := gg) (cap := cap) (n := k + 1) HXA2.out HXB2.out HG.out (by rw [List.length_append, List.length_singleton, HQL.out, List.flatMap_append, List.flatMap_singleton]; exact HW.out) (by rw [HSZA.out]; exact HAT2.out))
      go_wp2_with fail
      go_roundg (gk - 1)
      case rel => exact ⟨k + 1, q ++ [⟨x, XA, xc, XB, xd⟩], by have := HK.out; omega, by go_num, by rw [List.map_append, HQM.out, HRSk.out]; rfl, by rw [HRSk.out]; exact HU7.out⟩
      case measure => have := HK.out; omega
    · have hki : ¬ (k : Int) < (n : Int) := by omega
      have e : k = n := by have := HK.out; omega
      have HEN := Lib.hid (iend_l b (rds k s1).2 wr HU.out.ri)
      have HRE : Hid (RR = rds k s1) := by unfold Hid; rw [HUR.out, e]
      have HLk := Lib.hid (HLE.out k)
      generalize rds k s1 = RK at *
      have hkl : k ≤ 255 := by omega
      obtain rfl : RR = RK := HRE.out
      clear HRE e
      go_wp2_with fail
      refine HEN.out.mono ?_
      rintro e w3 ⟨rfl, rfl⟩
      by_cases he : lEnd RR.2 = 0
      · have heq : (lEnd RR.2 != 0) = false := by rw [he]; rfl
        have HPK := Lib.hid (ddPack_any q A9 c9 wr (by have := HQL.out; omega) HD9.out (fun p hp => (HLO.out p hp).f) (HLN.out.on HU.out.B))
        rw [HQL.out, HQM.out] at HPK
        obtain ⟨PV, hPV⟩ : ∃ PV, packV RR.1 = PV := ⟨_, rfl⟩
        rw [hPV] at HPK
        go_wp2_with fail
        refine HPK.out.mono ?_
        rintro e w4 ⟨rfl, b4⟩
        have HB4 := Lib.hid (bthen HU.out.B b4 (Nat.le_refl _))
        have HD4 := Lib.hid (HD9.out.on b4)
        clear b4
        by_cases hc : De.packc RR.1 = 0
        · rw [show packV RR.1 = .tuple #[.string (ofL (De.pack RR.1)), .int .i64 0] by unfold packV; rw [if_pos hc]] at hPV
          subst hPV
          by_cases hp : De.pack RR.1 = t
          · have hpe : ((ofL (De.pack RR.1)).toList != (ofL t).toList) = false := by rw [hp]; exact unp_same t
            have hpe2 : (!((ofL (De.pack RR.1)).toList == (ofL t).toList)) = false := by rw [hp]; exact unp_same2 t
            go_wp2_with fail
            (try go_ret2)
            exact HGOOD.out (HE4.out he hc hp) A9 c9 q w4 HQM.out (by rw [HQL.out]; exact HC9.out) HD4.out HLO.out HB4.out _ (by rw [HQL.out]; rfl)
          · have hpe := unp_ne hp
            have hpe2 := unp_ne2 hp
            go_wp2_with fail
            (try go_ret2)
            exact HBAD.out (HE3.out hp) w4 HB4.out _ rfl
        · rw [show packV RR.1 = .tuple #[.string ⟨#[]⟩, .int .i64 (De.packc RR.1 : Int)] by unfold packV; rw [if_neg hc]] at hPV
          subst hPV
          have hce : ((De.packc RR.1 : Int) != 0) = true := by rw [bne_iff_ne]; omega
          go_wp2_with fail
          (try go_ret2)
          exact HBAD.out (HE2.out hc) w4 HB4.out _ rfl
      · have heq : (lEnd RR.2 != 0) = true := by rw [bne_iff_ne]; exact he
        go_wp2_with fail
        (try go_ret2)
        exact HBAD.out (HE1.out he) wr HU.out.B _ rfl
end Go.Proofs.YtaikigponkjkgaaGreatDoor
end
section
namespace Go.Proofs.YtaikigponkjkgaaGreatDoor
namespace Dr
def own (x : De) : De := { x with bind := { x.bind with want := [] } }
end Dr
end Go.Proofs.YtaikigponkjkgaaGreatDoor
end
section
namespace Go.Proofs.YtaikigponkjkgaaGreatDoor
open Go.ChangeShapes Go.WideShapes Go.ChangeAt Go.RowKit
namespace Dr
end Dr
theorem rws_grown {w w' : World} {A : Option Addr} {cs : List Value} (h : Rws w A cs) (hg : w.grownBy w' none) : Rws w' A cs := ⟨fun i u hu => by
  obtain ⟨g, off, rfl, hlt, hc⟩ := h.at_ i u hu
  exact ⟨g, off, rfl, Nat.lt_of_lt_of_le hlt hg.size, hg.cell hc (by simp)⟩⟩
theorem DeOk.grown {w w' : World} {x : De} {A : Option Addr} {c : Nat} {B : Option Addr} {d : Nat} (h : DeOk w x A c B d) (hg : w.grownBy w' none) : DeOk w' x A c B d :=
  ⟨h.sn, h.st, h.qn, h.qd, ⟨h.bind.shop, h.bind.tol, h.bind.key, h.bind.len, h.bind.cap, h.bind.lite, prs_grown h.bind.row hg⟩, h.name, ⟨h.mail.shop, h.mail.key, h.mail.body, h.mail.len, h.mail.cap, h.mail.lite, prs_grown h.mail.row hg⟩, h.text⟩
theorem Dps.grown {w w' : World} {A : Option Addr} {l : List Dp} (h : Dps w A l) (hg : w.grownBy w' none) : Dps w' A l := ⟨rws_grown h.row hg, fun p hp => (h.ok p hp).grown hg⟩
theorem DeOk.aside {w : World} {x : De} {A : Option Addr} {c : Nat} {B : Option Addr} {d : Nat} (h : DeOk w x A c B d) {g : Nat} (hA : ∀ a, A = some a → g ≠ a.block) (hB : ∀ a, B = some a → g ≠ a.block) (j : Nat) (v : Value) : DeOk (w.setCell ⟨g, j, none⟩ v) x A c B d :=
  ⟨h.sn, h.st, h.qn, h.qd, ⟨h.bind.shop, h.bind.tol, h.bind.key, h.bind.len, h.bind.cap, h.bind.lite, h.bind.row.aside hA j v⟩, h.name, ⟨h.mail.shop, h.mail.key, h.mail.body, h.mail.len, h.mail.cap, h.mail.lite, h.mail.row.aside hB j v⟩, h.text⟩
/-- a place that the call's own boxes don't lie at -/
def Away (s : Nat) (A : Option Addr) : Prop := ∀ a, A = some a → a.block < s ∨ s + 3 ≤ a.block
def AwayD (s : Nat) (l : List Dp) : Prop := ∀ p ∈ l, Away s p.A ∧ Away s p.B
theorem Dps.aside {w : World} {A : Option Addr} {l : List Dp} (h : Dps w A l) {s g : Nat} (hs : s ≤ g) (hg : g < s + 3) (hA : Away s A) (hl : AwayD s l) (j : Nat) (v : Value) : Dps (w.setCell ⟨g, j, none⟩ v) A l :=
  ⟨rwsPut h.row (fun a ha => by rcases hA a ha with h | h <;> omega) j v, fun p hp => (h.ok p hp).aside (fun a ha => by rcases (hl p hp).1 a ha with h | h <;> omega) (fun a ha => by rcases (hl p hp).2 a ha with h | h <;> omega) j v⟩
/-- the boxes: the deed's, what is more, what is told, what was -/
structure AdG (w : World) (x : De) (XA : Option Addr) (xc : Nat) (XB : Option Addr) (xd : Nat) (A : Option Addr) (n c : Nat) (A' : Option Addr) (c' : Nat) (mm : List Dp) (g8 : Nat) (W : World) : Prop where
  e : BoxC w g8 (deL x XA xc XB xd) W
  mo : BoxC w (w.heap.size + 2) [.slice A' mm.length c'] W
  r : BoxC w (w.heap.size + 1) [.slice none 0 0] W
  x : BoxC w w.heap.size [.slice A n c] W
  D : Dps W A' mm
  B : Below w.heap.size w W
  gg : w.heap.size + 2 < g8
theorem AdG.on {w : World} {x : De} {XA : Option Addr} {xc : Nat} {XB : Option Addr} {xd : Nat} {A : Option Addr} {n c : Nat} {A' : Option Addr} {c' : Nat} {mm : List Dp} {g8 : Nat} {W W' : World} (h : AdG w x XA xc XB xd A n c A' c' mm g8 W) (hb : Below W.heap.size W W') : AdG w x XA xc XB xd A n c A' c' mm g8 W' := ⟨h.e.on hb, h.mo.on hb, h.r.on hb, h.x.on hb, h.D.on hb, bthen h.B hb (Nat.le_refl _), h.gg⟩
theorem AdG.grown {w : World} {x : De} {XA : Option Addr} {xc : Nat} {XB : Option Addr} {xd : Nat} {A : Option Addr} {n c : Nat} {A' : Option Addr} {c' : Nat} {mm : List Dp} {g8 : Nat} {W W' : World} (h : AdG w x XA xc XB xd A n c A' c' mm g8 W) (hg : W.grownBy W' none) : AdG w x XA xc XB xd A n c A' c' mm g8 W' := ⟨rtKept h.e hg (by simp), rtKept h.mo hg (by simp), rtKept h.r hg (by simp), rtKept h.x hg (by simp), h.D.grown hg, h.B.grown hg h.B.size (fun k hk => by cases hk), h.gg⟩
/-- all of it lies in blocks of a kind -/
structure InP (P : Nat → Prop) (A : Option Addr) (l : List Dp) : Prop where
  row : ∀ a, A = some a → P a.block
  a : ∀ p ∈ l, ∀ a, p.A = some a → P a.block
  b : ∀ p ∈ l, ∀ a, p.B = some a → P a.block
theorem InP.imp {P Q : Nat → Prop} {A : Option Addr} {l : List Dp} (h : InP P A l) (hi : ∀ b, P b → Q b) : InP Q A l := ⟨fun a ha => hi _ (h.row a ha), fun p hp a ha => hi _ (h.a p hp a ha), fun p hp a ha => hi _ (h.b p hp a ha)⟩
theorem InP.none (P : Nat → Prop) : InP P none [] := ⟨fun a h => (by cases h), fun p h => (by simp at h), fun p h => (by simp at h)⟩
def InD (s : Nat) (A : Option Addr) (l : List Dp) : Prop := InP (fun b => b < s) A l
theorem InD.mono {s t : Nat} {A : Option Addr} {l : List Dp} (h : InD s A l) (ht : s ≤ t) : InD t A l := InP.imp h fun _ hb => Nat.lt_of_lt_of_le hb ht
theorem InD.none (s : Nat) : InD s none [] := InP.none _
end Go.Proofs.YtaikigponkjkgaaGreatDoor
end
section
namespace Go.Proofs.YtaikigponkjkgaaGreatDoor
open Go.ChangeShapes Go.WideShapes Go.ChangeAt Go.RowKit
theorem infoRDe : (Tryz.prog.info? 59).map (fun i => (i.zero, i.size, i.bytes)) = some (some (.agg #[.int .u8 0, .int .u64 0, .string ⟨#[]⟩, .int .u8 0, .string ⟨#[]⟩, .string ⟨#[]⟩, .int .u64 0, .int .u64 0, .string ⟨#[]⟩, .string ⟨#[]⟩, .string ⟨#[]⟩, .bool false, .string ⟨#[]⟩, .slice none 0 0, .bool false, .string ⟨#[]⟩, .int .u64 0, .int .u8 0, .int .u8 0, .int .u8 0, .int .u64 0, .int .u64 0, .string ⟨#[]⟩, .string ⟨#[]⟩, .slice none 0 0, .string ⟨#[]⟩, .int .u64 0, .int .u8 0, .string ⟨#[]⟩]), 29, 344) := by kernel_rfl
theorem wp_buildRDe {o : Oper} {a : Act} {w : World} {K : Act → World → Prop} {Q : Exit → Act → World → Prop} (parts : Array (Nat × Operand)) (ho : o.op = .buildSlice 24 1 parts) (x : De) (A : Option Addr) (c : Nat) (B : Option Addr) (d : Nat)
    (hp : (parts.map fun (i, y) => (i, a.eval y)).toList = [(0, deV x A c B d)]) (h : K (a.put o.dst (.slice (some ⟨w.heap.size, 0, none⟩) 1 1)) (w.alloc (.cells (deL x A c B d).toArray 59))) : o.wp Tryz.prog a w K Q := by
  obtain ⟨i, hi, hz, hs, hb⟩ := info_parts infoRDe
  refine wp_buildSlice 24 59 1 parts ho (deL x A c B d).toArray i _ Tryz.underlying24 hi hz (by rw [hs]; decide) (by rw [hs]; decide) ?_ h
  rw [hs, hp]
  exact fill29 x A c B d

end Go.Proofs.YtaikigponkjkgaaGreatDoor
end
section
namespace Go.Proofs.YtaikigponkjkgaaGreatDoor
open Go.ChangeShapes Go.WideShapes Go.ChangeAt Go.RowKit
/-- deeds that come in -/
structure Din (w : World) (A : Option Addr) (l : List Dp) : Prop where
  row : Rws w A (l.flatMap dpL)
  in_ : ∀ p ∈ l, DeIn w p.x p.A p.c p.B p.d
theorem din_elt {w : World} {A : Option Addr} {l : List Dp} (h : Din w A l) {i : Nat} (hi : i < l.length) : ∃ b off, A = some ⟨b, off, none⟩ ∧ b < w.heap.size ∧ w.rangeAt b (off + i * 29) (dpL (l.getD i Dp0)) ∧ DeIn w (l.getD i Dp0).x (l.getD i Dp0).A (l.getD i Dp0).c (l.getD i Dp0).B (l.getD i Dp0).d := by
  obtain ⟨b, off, e, hb, hc⟩ := Rws.elt dpL 29 (fun _ => rfl) (by decide) h.row hi
  rw [dp_get hi] at hc
  refine ⟨b, off, e, hb, fun j v hj => hc j v hj, ?_⟩
  have := h.in_ _ (List.getElem_mem hi)
  rw [dp_get hi] at this
  exact this
end Go.Proofs.YtaikigponkjkgaaGreatDoor
end
