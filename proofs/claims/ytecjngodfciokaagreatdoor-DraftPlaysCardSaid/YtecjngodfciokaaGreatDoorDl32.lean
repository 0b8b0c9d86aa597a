/-
  WHEN WHAT LIVES SO LONG IS GONE: walked, the program's and the document's. ALL OF A DRAFT OF THE SAME PUTS, AT A TICK: walked. ALL OF A DRAFT AT A TICK, any deeds, the program's: walked.
-/
import Derived.Test.YtecjngodfciokaaGreatDoorDl02
import Derived.Test.YtecjngodfciokaaGreatDoorDl05
import Derived.Test.YtecjngodfciokaaGreatDoorDl30
import Derived.Test.YtecjngodfciokaaGreatDoorDl31

section
namespace Go.Proofs.YtecjngodfciokaaGreatDoor
open Go.ChangeShapes Go.WideShapes Go.ChangeAt Go.RowKit
def lifeN (t l : Nat) : Nat := if l = 0 ∨ 18446744073709551616 ≤ t + l then 0 else t + l
theorem life_0 (t : Nat) : lifeN t 0 = 0 := by unfold lifeN; rw [if_pos (Or.inl rfl)]
theorem life_big {t l : Nat} (h : 18446744073709551616 ≤ t + l) : lifeN t l = 0 := by unfold lifeN; rw [if_pos (Or.inr h)]
theorem life_some {t l : Nat} (h : l ≠ 0) (h2 : t + l < 18446744073709551616) : lifeN t l = t + l := by unfold lifeN; rw [if_neg (by omega)]
set_option maxRecDepth 100000 in
theorem drLife_any (t l : Nat) (w : World) (ht : t < 18446744073709551616) (hl : l < 18446744073709551616) : Calls Tryz.prog 25 #[.int .u64 (t : Int), .int .u64 (l : Int)] w fun e w' => e = .returned (.int .u64 (lifeN t l : Int)) ∧ w = w' := by
  by_cases h0 : l = 0
  · subst h0
    rw [life_0]
    have hw : IntKind.u64.wrap ((t : Int) + 0) = (t : Int) := by rw [IntKind.wrap_u64]; omega
    have hw2 : IntKind.u64.wrap (t : Int) = (t : Int) := by rw [IntKind.wrap_u64]; omega
    go_enter Tryz.func25, Tryz.ntmps25
    go_wp2_with fail
    go_ret
    exact ⟨rfl, rfl⟩
  · have hz : ((l : Int) == 0) = false := beq_eq_false_iff_ne.2 (by omega)
    by_cases hb : 18446744073709551616 ≤ t + l
    · have HE := Lib.hid (life_big hb)
      have hw : IntKind.u64.wrap ((t : Int) + (l : Int)) = ((t + l - 18446744073709551616 : Nat) : Int) := by rw [IntKind.wrap_u64]; omega
      have hlt : t + l - 18446744073709551616 < t := by omega
      generalize t + l - 18446744073709551616 = v at *
      have hd : decide ((v : Int) < (t : Int)) = true := decide_eq_true (by omega)
      clear hb ht hl h0
      go_enter Tryz.func25, Tryz.ntmps25
      go_wp2_with fail
      go_ret
      exact ⟨by rw [HE.out]; rfl, rfl⟩
    · have HE := Lib.hid (life_some h0 (Nat.lt_of_not_le hb))
      have hw : IntKind.u64.wrap ((t : Int) + (l : Int)) = ((t + l : Nat) : Int) := by rw [IntKind.wrap_u64]; omega
      have hlt : ¬ t + l < t := by omega
      generalize t + l = v at *
      have hd : decide ((v : Int) < (t : Int)) = false := decide_eq_false (by omega)
      clear hb ht hl h0
      go_enter Tryz.func25, Tryz.ntmps25
      go_wp2_with fail
      go_ret
      exact ⟨by rw [HE.out]; rfl, rfl⟩
set_option maxRecDepth 100000 in
theorem r26Life_any (t l : Nat) (w : World) (ht : t < 18446744073709551616) (hl : l < 18446744073709551616) : Calls Tryz.prog 33 #[.int .u64 (t : Int), .int .u64 (l : Int)] w fun e w' => e = .returned (.int .u64 (lifeN t l : Int)) ∧ w = w' := by
  by_cases h0 : l = 0
  · subst h0
    rw [life_0]
    have hw : IntKind.u64.wrap ((t : Int) + 0) = (t : Int) := by rw [IntKind.wrap_u64]; omega
    have hw2 : IntKind.u64.wrap (t : Int) = (t : Int) := by rw [IntKind.wrap_u64]; omega
    go_enter Tryz.func33, Tryz.ntmps33
    go_wp2_with fail
    go_ret
    exact ⟨rfl, rfl⟩
  · have hz : ((l : Int) == 0) = false := beq_eq_false_iff_ne.2 (by omega)
    by_cases hb : 18446744073709551616 ≤ t + l
    · have HE := Lib.hid (life_big hb)
      have hw : IntKind.u64.wrap ((t : Int) + (l : Int)) = ((t + l - 18446744073709551616 : Nat) : Int) := by rw [IntKind.wrap_u64]; omega
      have hlt : t + l - 18446744073709551616 < t := by omega
      generalize t + l - 18446744073709551616 = v at *
      have hd : decide ((v : Int) < (t : Int)) = true := decide_eq_true (by omega)
      clear hb ht hl h0
      go_enter Tryz.func33, Tryz.ntmps33
      go_wp2_with fail
      go_ret
      exact ⟨by rw [HE.out]; rfl, rfl⟩
    · have HE := Lib.hid (life_some h0 (Nat.lt_of_not_le hb))
      have hw : IntKind.u64.wrap ((t : Int) + (l : Int)) = ((t + l : Nat) : Int) := by rw [IntKind.wrap_u64]; omega
      have hlt : ¬ t + l < t := by omega
      generalize t + l = v at *
      have hd : decide ((v : Int) < (t : Int)) = false := decide_eq_false (by omega)
      clear hb ht hl h0
      go_enter Tryz.func33, Tryz.ntmps33
      go_wp2_with fail
      go_ret
      exact ⟨by rw [HE.out]; rfl, rfl⟩
end Go.Proofs.YtecjngodfciokaaGreatDoor
end
section
namespace Go.Proofs.YtecjngodfciokaaGreatDoor
open Go.ChangeShapes Go.WideShapes Go.ChangeAt Go.RowKit
def due (T : Nat) (m : Ml) : Ml := { m with due := lifeN T m.due }
theorem ownPrs_grown {C : Nat} {w w' : World} {A : Option Addr} {c : Nat} {l : List Hd.Pr} {row : Option Nat} (h : OwnPrs C w A c l) (hg : w.grownBy w' row) (hne : ∀ a, A = some a → ∀ b, row = some b → a.block ≠ b) : OwnPrs C w' A c l :=
  World.ownsRow.kept (row := row) h hg (by
    cases A with
    | none => exact Or.inl rfl
    | some a => exact Or.inr (by simp only [Value.ownBlock]; exact fun e => hne a rfl a.block e.symm rfl))
theorem ownRow_on {w w' : World} {base : Nat} {e : TypeId} {sz n : Nat} {v : Value} {xs : List Value} (h : w.ownsRow base e sz v n xs) (hb : Below w.heap.size w w') : w'.ownsRow base e sz v n xs :=
  World.ownsRow.kept (row := none) h ⟨hb.os, hb.tape, hb.output, hb.size, fun k hk _ => hb.block k hk⟩ (by
    cases hv : v.ownBlock with
    | none => exact Or.inl rfl
    | some a => exact Or.inr (by simp))
end Go.Proofs.YtecjngodfciokaaGreatDoor
end
section
namespace Go.Proofs.YtecjngodfciokaaGreatDoor
open Go.ChangeShapes Go.WideShapes Go.ChangeAt Go.RowKit
def at6 (T : Nat) (x : De) : De := { Dr.own x with tick := T, mail := due T x.mail }
def at8 (T : Nat) (x : De) : De := { Dr.own x with tick := T }
def at1 (T : Nat) (x : De) : De := if x.kd = 6 then at6 T x else at8 T x
theorem at1_head (T : Nat) (x : De) : (at1 T x).mail.head = x.mail.head := by unfold at1; split <;> rfl
theorem at1_ok {w w' : World} {x : De} {A : Option Addr} {c : Nat} {B : Option Addr} {d : Nat} (T : Nat) (h : DeOk w x A c B d) {B' : Option Addr} {d' : Nat} (hp : Prs w' B' x.mail.head) (hd : x.mail.head.length ≤ d') : DeOk w' (at1 T x) none 0 B' d' := by
  unfold at1
  split
  · exact ⟨h.sn, h.st, h.qn, h.qd, ⟨h.bind.shop, h.bind.tol, h.bind.key, Nat.zero_le _, Nat.le_refl _, lite_nil, Prs.nil _ _⟩, h.name, ⟨h.mail.shop, h.mail.key, h.mail.body, h.mail.len, hd, h.mail.lite, hp⟩, h.text⟩
  · exact ⟨h.sn, h.st, h.qn, h.qd, ⟨h.bind.shop, h.bind.tol, h.bind.key, Nat.zero_le _, Nat.le_refl _, lite_nil, Prs.nil _ _⟩, h.name, ⟨h.mail.shop, h.mail.key, h.mail.body, h.mail.len, hd, h.mail.lite, hp⟩, h.text⟩
/-- the heads lie apart from the row -/
structure AtG (T : Nat) (w : World) (v : Value) (k : Nat) (q : List Dp) (W : World) : Prop where
  own : W.ownsRow w.heap.size 39 29 v k (q.flatMap dpL)
  ok : ∀ p ∈ q, OwnPrs w.heap.size W p.B p.d p.x.mail.head
  ne : ∀ p ∈ q, ∀ a, p.B = some a → ∀ b, v.ownBlock = some b → a.block ≠ b
  de : ∀ p ∈ q, ∃ x A c B d, DeOk w x A c B d ∧ p.x = at1 T x ∧ p.A = none ∧ p.c = 0
def AtGPost (T : Nat) (l : List Dp) (w : World) (e : Ending) (w' : World) : Prop := ∃ A' c' q, e = .returned (.slice A' q.length c') ∧ q.length ≤ c' ∧ q.map Dp.x = (l.map Dp.x).map (at1 T) ∧ Dps w' A' q ∧ Below w.heap.size w w'
set_option maxRecDepth 100000 in
set_option maxHeartbeats 32000000 in
theorem drAtG_any (T : Nat) (A : Option Addr) (c : Nat) (l : List Dp) (w : World) (hD : Dps w A l) (hl : l.length ≤ 16) (hT : T < 18446744073709551616) (hd : ∀ p ∈ l, p.x.mail.due < 18446744073709551616) :
    Calls Tryz.prog 12 #[.agg #[.slice A l.length c], .int .u64 (T : Int)] w (AtGPost T l w) := by
  have HD := Lib.hid hD
  have HL16 := Lib.hid hl
  have HDUE := Lib.hid hd
  have HTT := Lib.hid hT
  clear hD hl hT hd
  obtain ⟨n, hn⟩ : ∃ n, n = l.length := ⟨_, rfl⟩
  rw [← hn]
  have HN := Lib.hid hn
  have hn16 : n ≤ 16 := by have := HL16.out; omega
  clear hn
  have HB1 := Lib.hid (rtOne w (.cells #[.slice A n c] 27))
  go_enter Tryz.func12, Tryz.ntmps12
  go_wp2_with fail
  go_loopg [5, 11] n (fun g v i wr => ∃ k : Nat, k + g = n ∧ i = .int .i64 (k : Int) ∧ ∃ q : List Dp, q.length = k ∧ q.map Dp.x = ((l.take k).map Dp.x).map (at1 T) ∧ AtG T w v k q wr ∧ Below w.heap.size w wr)
  case atStart => exact ⟨0, by omega, rfl, [], rfl, by simp, ⟨World.ownsRow_nil _ _ _ _, fun p hp => by simp at hp, fun p hp => by simp at hp, fun p hp => by simp at hp⟩, HB1.out⟩
  case round =>
    obtain ⟨k, hk, rfl, q, hq, hqm, hA6, hB⟩ := hrel
    obtain ⟨A9, c9, rfl, hc9, hn9, hr9, hb9⟩ := Rws.of_own hA6.own
    have HC9 := Lib.hid hc9
    have HR9 := Lib.hid hr9
    clear hc9 hn9 hr9 hb9
    have HA6 := Lib.hid hA6
    have HB := Lib.hid hB
    have HQ := Lib.hid hq
    have HQM := Lib.hid hqm
    have HK := Lib.hid hk
    clear hA6 hB hq hk hqm
    by_cases hlt : k < n
    · have hkl : k < l.length := by have := HN.out; omega
      obtain ⟨b, off, rfl, hbl, hat, _⟩ := dps_elt (HD.out.on HB.out) hkl
      have hok : DeOk w (l.getD k Dp0).x (l.getD k Dp0).A (l.getD k Dp0).c (l.getD k Dp0).B (l.getD k Dp0).d := by
        obtain ⟨_, _, _, _, _, h⟩ := dps_elt HD.out hkl
        exact h
      have hdue : (l.getD k Dp0).x.mail.due < 18446744073709551616 := by
        rw [← dp_get hkl]
        exact HDUE.out _ (List.getElem_mem hkl)
      have HTK : Hid ((l.take (k + 1)).map Dp.x = (l.take k).map Dp.x ++ [(l.getD k Dp0).x]) := by
        unfold Hid
        rw [← List.take_append_getElem hkl, List.map_append, List.map_singleton, dp_get hkl]
      generalize l.getD k Dp0 = p at *
      obtain ⟨x, XA, xc, XB, xd⟩ := p
      dsimp only at hok HTK hdue
      have HAT := Lib.hid (show wr.rangeAt b (off + k * 29) (deL x XA xc XB xd) from hat)
      have HMA := Lib.hid hok
      have HLF := Lib.hid (fun W => drLife_any T x.mail.due W HTT.out hdue)
      clear hat hok hdue
      have hki : (k : Int) < (n : Int) := by omega
      have HE5 := Lib.hid (BoxC.new (w := wr) (W := wr) (Nat.le_refl _) (deL x XA xc XB xd).toArray 39)
      have HBX5 := Lib.hid (rtOne wr (.cells (deL x XA xc XB xd).toArray 39))
      go_upto_region 5 with (first
        | (refine wpList_load_mid (by rfl) 39 _ (by rfl) b (off + k * 29) (by rfl) (deL x XA xc XB xd) _ HAT.out Tryz.underlying39 rfl (by rw [de_size, deL_len]) ?_)
        | (refine wpList_store_new2 (by rfl) 39 _ _ (by rfl) _ (deL x XA xc XB xd).toArray (by rfl) (by rfl) (by rw [de_size]; rfl) (by rfl) (de_all _ _ _ _ _) ?_))
      generalize wr.alloc (.cells (deL x XA xc XB xd).toArray 39) = W5 at *
      go_wp2_with (refine wpList_load_mid (by rfl) 39 _ (by rfl) wr.heap.size 0 (by rfl) (deL x XA xc XB xd) _ HE5.out.cs.range Tryz.underlying39 rfl (by rw [de_size, deL_len]) ?_)
      refine (drOwnG_any x XA xc XB xd _ HMA.out.mail.len HMA.out.mail.cap ((HMA.out.mail.row.on HB.out).on HBX5.out)).mono ?_
      rintro e w6 ⟨B5, d5, rfl, ho5, b6⟩
      have HE6 := Lib.hid (HE5.out.on b6)
      have HBX6 := Lib.hid (bthen HBX5.out b6 (Nat.le_refl _))
      have HO6 := Lib.hid (ownPrs_mono ho5 HBX5.out.size)
      have HG6 := Lib.hid (show ∀ a, B5 = some a → wr.heap.size + 1 ≤ a.block from fun a ha => Nat.le_trans (Nat.succ_le_of_lt HE5.out.lt) (ho5.row.2.2 a ha).1)
      clear b6 ho5
      go_upto_region 6 with (refine wpList_store_mid (by rfl) 39 _ _ (by rfl) wr.heap.size 0 (deL (Dr.own x) none 0 B5 d5).toArray (by rfl) (by rfl) HE6.out.there (by rw [de_size]; rfl) (de_all _ _ _ _ _) ?_)
      have HE7 := Lib.hid (HE6.out.over (deL (Dr.own x) none 0 B5 d5) rfl)
      have HBX7 := Lib.hid (below_setCells (Nat.le_refl wr.heap.size) (deL (Dr.own x) none 0 B5 d5) 0 HBX6.out)
      have HO7 := Lib.hid (ownPrs_setCells HO6.out (g := wr.heap.size) (fun a ha e => by have := HG6.out a ha; omega) (deL (Dr.own x) none 0 B5 d5) 0)
      try simp only [List.toList_toArray]
      generalize w6.setCells wr.heap.size 0 (deL (Dr.own x) none 0 B5 d5) = W7 at *
      have e0 := HE7.out.cs 0 _ rfl
      have e1 := HE7.out.cs 1 _ rfl
      have e26 := HE7.out.cs 26 _ rfl
      have el := HE7.out.lt
      have ef := HE7.out.s
      unfold Soft at ef
      by_cases h6 : x.kd = 6
      · have hk6 : (((Dr.own x).kd : Int) == 6) = true := by show ((x.kd : Int) == 6) = true; rw [h6]; rfl
        have HAT1 : Hid (at1 T x = at6 T x) := if_pos h6
        clear h6
        go_wp2_with fail
        refine (HLF.out _).mono ?_
        rintro e w8 ⟨rfl, rfl⟩
        go_upto_region 9 with fail
        have HE9 := Lib.hid (show BoxC wr wr.heap.size (deL (at6 T x) none 0 B5 d5) ((W7.setCell ⟨wr.heap.size, 1, none⟩ (.int .u64 (T : Int))).setCell ⟨wr.heap.size, 26, none⟩ (.int .u64 (lifeN T x.mail.due : Int))) from (HE7.out.put 1 (.int .u64 (T : Int)) (by show _ < 29; omega)).put 26 (.int .u64 (lifeN T x.mail.due : Int)) (by show _ < 29; omega))
        have HBX9 := Lib.hid ((HBX7.out.setCell (p := ⟨wr.heap.size, 1, none⟩) (Nat.le_refl _) (.int .u64 (T : Int))).setCell (p := ⟨wr.heap.size, 26, none⟩) (Nat.le_refl _) (.int .u64 (lifeN T x.mail.due : Int)))
        have HO9 := Lib.hid ((HO7.out.aside (g := wr.heap.size) (fun a ha e => by have := HG6.out a ha; omega) 1 (.int .u64 (T : Int))).aside (g := wr.heap.size) (fun a ha e => by have := HG6.out a ha; omega) 26 (.int .u64 (lifeN T x.mail.due : Int)))
        clear e0 e1 e26 el ef HE5 HE6 HE7 HBX5 HBX6 HBX7 HO6 HO7
        generalize (W7.setCell ⟨wr.heap.size, 1, none⟩ (.int .u64 (T : Int))).setCell ⟨wr.heap.size, 26, none⟩ (.int .u64 (lifeN T x.mail.due : Int)) = W9 at *
        obtain ⟨iD, hiD, hzD, hsD, hbD⟩ := info_parts infoDe
        have HBXA := Lib.hid (bthen HBX9.out (rtOne W9 (.cells (deL (at6 T x) none 0 B5 d5).toArray 39)) (Nat.le_refl _))
        have HOWN := Lib.hid (ownRow_on HA6.out.own HBXA.out)
        have HOA := Lib.hid (OwnPrs.on HO9.out (rtOne W9 (.cells (deL (at6 T x) none 0 B5 d5).toArray 39)))
        have HNW := Lib.hid (BoxC.new (w := wr) (W := W9) HBX9.out.size (deL (at6 T x) none 0 B5 d5).toArray 39)
        have HSZA := Lib.hid (show (W9.alloc (.cells (deL (at6 T x) none 0 B5 d5).toArray 39)).heap.size = W9.heap.size + 1 by simp)
        go_upto_region 10 with (first
          | (refine wpList_load_mid (by rfl) 39 _ (by rfl) wr.heap.size 0 (by rfl) (deL (at6 T x) none 0 B5 d5) _ HE9.out.cs.range Tryz.underlying39 rfl (by rw [de_size, deL_len]) ?_)
          | (refine wpList_plain (by rfl) (fun K hK => wp_buildDe _ (by rfl) (at6 T x) none 0 B5 d5 (by kernel_rfl) (hK _ _ ?_)))
          | (at_builtin; refine wpList_append_lies _ (by rfl) _ _ 22 (by rfl) w.heap.size 39 iD _ 29 344 Tryz.underlying22 hiD hzD hsD hbD (by rfl) (by decide) (.slice A9 k c9) k (q.flatMap dpL) (by rfl) HOWN.out ⟨W9.heap.size, 0, none⟩ 1 1 (deL (at6 T x) none 0 B5 d5) (by rfl) rfl (fun j u hj => by rw [rws_add, Nat.zero_add]; exact HNW.out.cs j u hj) (de_one _ _ _ _ _) (by omega) (by unfold maxLen; omega) (by omega) (Nat.le_trans HB.out.size HBXA.out.size) (W9.heap.size + 1) HSZA.out ?_; intro gg cap w2 hown hgrow hat hlt'; have HW := Lib.hid hown; have HG := Lib.hid hgrow; have HAT2 := Lib.hid hat; clear hown hgrow hat hlt'))
        have hne5 : ∀ a, B5 = some a → ∀ bb, (Value.slice A9 k c9).ownBlock = some bb → a.block ≠ bb := fun a ha bb hbb => by
          have h1 := HG6.out a ha
          have h2 := (HA6.out.own.lt bb hbb).2
          omega
        have hA7 : AtG T w (.slice (some ⟨gg, 0, none⟩) (k + 1) cap) (k + 1) (q ++ [⟨at6 T x, none, 0, B5, d5⟩]) w2 := by
          refine ⟨?_, fun p hp => ?_, fun p hp a ha bb hbb => ?_, fun p hp => ?_⟩
          · rw [List.flatMap_append, List.flatMap_singleton]; exact HW.out
          · rcases List.mem_append.1 hp with hp | hp
            · exact ownPrs_grown (OwnPrs.on (HA6.out.ok p hp) HBXA.out) HG.out (HA6.out.ne p hp)
            · obtain rfl := List.mem_singleton.1 hp
              exact ownPrs_grown (ownPrs_mono HOA.out HB.out.size) HG.out hne5
          · obtain rfl : gg = bb := by simpa [Value.ownBlock] using hbb
            rcases HAT2.out with h1 | h1
            · rcases List.mem_append.1 hp with hp | hp
              · exact HA6.out.ne p hp a ha gg h1
              · obtain rfl := List.mem_singleton.1 hp
                exact hne5 a ha gg h1
            · rcases List.mem_append.1 hp with hp | hp
              · have h2 := ((HA6.out.ok p hp).row.2.2 a ha).2
                have h3 := HBX9.out.size
                omega
              · obtain rfl := List.mem_singleton.1 hp
                have h2 := (HO9.out.row.2.2 a ha).2
                omega
          · rcases List.mem_append.1 hp with hp | hp
            · exact HA6.out.de p hp
            · obtain rfl := List.mem_singleton.1 hp
              exact ⟨x, XA, xc, XB, xd, HMA.out, HAT1.out.symm, rfl, rfl⟩
        have HA7 := Lib.hid hA7
        have HB7 := Lib.hid ((bthen HB.out HBXA.out (Nat.le_refl _)).grown HG.out (bthen HB.out HBXA.out (Nat.le_refl _)).size (fun x hx => (HOWN.out.lt x hx).1))
        clear hA7 hne5
        go_wp2_with fail
        go_roundg (gk - 1)
        case rel => exact ⟨k + 1, by have := HK.out; omega, by go_num, q ++ [⟨at6 T x, none, 0, B5, d5⟩], by rw [List.length_append, HQ.out]; rfl, by rw [List.map_append, HQM.out, HTK.out, List.map_append, ← HAT1.out]; rfl, HA7.out, HB7.out⟩
        case measure => have := HK.out; omega
      · have hk6 : (((Dr.own x).kd : Int) == 6) = false := by show ((x.kd : Int) == 6) = false; simp; omega
        have HAT1 : Hid (at1 T x = at8 T x) := if_neg h6
        clear h6
        go_upto_region 9 with fail
        have HE9 := Lib.hid (show BoxC wr wr.heap.size (deL (at8 T x) none 0 B5 d5) (W7.setCell ⟨wr.heap.size, 1, none⟩ (.int .u64 (T : Int))) from HE7.out.put 1 (.int .u64 (T : Int)) (by show _ < 29; omega))
        have HBX9 := Lib.hid (HBX7.out.setCell (p := ⟨wr.heap.size, 1, none⟩) (Nat.le_refl _) (.int .u64 (T : Int)))
        have HO9 := Lib.hid (HO7.out.aside (g := wr.heap.size) (fun a ha e => by have := HG6.out a ha; omega) 1 (.int .u64 (T : Int)))
        clear e0 e1 e26 el ef HE5 HE6 HE7 HBX5 HBX6 HBX7 HO6 HO7
        generalize W7.setCell ⟨wr.heap.size, 1, none⟩ (.int .u64 (T : Int)) = W9 at *
        obtain ⟨iD, hiD, hzD, hsD, hbD⟩ := info_parts infoDe
        have HBXA := Lib.hid (bthen HBX9.out (rtOne W9 (.cells (deL (at8 T x) none 0 B5 d5).toArray 39)) (Nat.le_refl _))
        have HOWN := Lib.hid (ownRow_on HA6.out.own HBXA.out)
        have HOA := Lib.hid (OwnPrs.on HO9.out (rtOne W9 (.cells (deL (at8 T x) none 0 B5 d5).toArray 39)))
        have HNW := Lib.hid (BoxC.new (w := wr) (W := W9) HBX9.out.size (deL (at8 T x) none 0 B5 d5).toArray 39)
        have HSZA := Lib.hid (show (W9.alloc (.cells (deL (at8 T x) none 0 B5 d5).toArray 39)).heap.size = W9.heap.size + 1 by simp)
        go_upto_region 10 with (first
          | (refine wpList_load_mid (by rfl) 39 _ (by rfl) wr.heap.size 0 (by rfl) (deL (at8 T x) none 0 B5 d5) _ HE9.out.cs.range Tryz.underlying39 rfl (by rw [de_size, deL_len]) ?_)
          | (refine wpList_plain (by rfl) (fun K hK => wp_buildDe _ (by rfl) (at8 T x) none 0 B5 d5 (by kernel_rfl) (hK _ _ ?_)))
          | (at_builtin; refine wpList_append_lies _ (by rfl) _ _ 22 (by rfl) w.heap.size 39 iD _ 29 344 Tryz.underlying22 hiD hzD hsD hbD (by rfl) (by decide) (.slice A9 k c9) k (q.flatMap dpL) (by rfl) HOWN.out ⟨W9.heap.size, 0, none⟩ 1 1 (deL (at8 T x) none 0 B5 d5) (by rfl) rfl (fun j u hj => by rw [rws_add, Nat.zero_add]; exact HNW.out.cs j u hj) (de_one _ _ _ _ _) (by omega) (by unfold maxLen; omega) (by omega) (Nat.le_trans HB.out.size HBXA.out.size) (W9.heap.size + 1) HSZA.out ?_; intro gg cap w2 hown hgrow hat hlt'; have HW := Lib.hid hown; have HG := Lib.hid hgrow; have HAT2 := Lib.hid hat; clear hown hgrow hat hlt'))
        have hne5 : ∀ a, B5 = some a → ∀ bb, (Value.slice A9 k c9).ownBlock = some bb → a.block ≠ bb := fun a ha bb hbb => by
          have h1 := HG6.out a ha
          have h2 := (HA6.out.own.lt bb hbb).2
          omega
        have hA7 : AtG T w (.slice (some ⟨gg, 0, none⟩) (k + 1) cap) (k + 1) (q ++ [⟨at8 T x, none, 0, B5, d5⟩]) w2 := by
          refine ⟨?_, fun p hp => ?_, fun p hp a ha bb hbb => ?_, fun p hp => ?_⟩
          · rw [List.flatMap_append, List.flatMap_singleton]; exact HW.out
          · rcases List.mem_append.1 hp with hp | hp
            · exact ownPrs_grown (OwnPrs.on (HA6.out.ok p hp) HBXA.out) HG.out (HA6.out.ne p hp)
            · obtain rfl := List.mem_singleton.1 hp
              exact ownPrs_grown (ownPrs_mono HOA.out HB.out.size) HG.out hne5
          · obtain rfl : gg = bb := by simpa [Value.ownBlock] using hbb
            rcases HAT2.out with h1 | h1
            · rcases List.mem_append.1 hp with hp | hp
              · exact HA6.out.ne p hp a ha gg h1
              · obtain rfl := List.mem_singleton.1 hp
                exact hne5 a ha gg h1
            · rcases List.mem_append.1 hp with hp | hp
              · have h2 := ((HA6.out.ok p hp).row.2.2 a ha).2
                have h3 := HBX9.out.size
                omega
              · obtain rfl := List.mem_singleton.1 hp
                have h2 := (HO9.out.row.2.2 a ha).2
                omega
          · rcases List.mem_append.1 hp with hp | hp
            · exact HA6.out.de p hp
            · obtain rfl := List.mem_singleton.1 hp
              exact ⟨x, XA, xc, XB, xd, HMA.out, HAT1.out.symm, rfl, rfl⟩
        have HA7 := Lib.hid hA7
        have HB7 := Lib.hid ((bthen HB.out HBXA.out (Nat.le_refl _)).grown HG.out (bthen HB.out HBXA.out (Nat.le_refl _)).size (fun x hx => (HOWN.out.lt x hx).1))
        clear hA7 hne5
        go_wp2_with fail
        go_roundg (gk - 1)
        case rel => exact ⟨k + 1, by have := HK.out; omega, by go_num, q ++ [⟨at8 T x, none, 0, B5, d5⟩], by rw [List.length_append, HQ.out]; rfl, by rw [List.map_append, HQM.out, HTK.out, List.map_append, ← HAT1.out]; rfl, HA7.out, HB7.out⟩
        case measure => have := HK.out; omega
    · have hkn : k = n := by have := HK.out; omega
      have HFI : Hid (q.map Dp.x = (l.map Dp.x).map (at1 T)) := by
        unfold Hid
        rw [HQM.out, hkn, HN.out, List.take_length]
      subst hkn
      go_wp2_with fail
      go_ret
      refine ⟨A9, c9, q, by rw [HQ.out]; rfl, by rw [HQ.out]; exact HC9.out, HFI.out, ⟨HR9.out, fun p hp => ?_⟩, HB.out⟩
      obtain ⟨x, XA, xc, XB, xd, h1, h2, h3, h4⟩ := HA6.out.de p hp
      have h5 := (HA6.out.ok p hp).row
      obtain ⟨y, YA, yc, YB, yd⟩ := p
      simp only at h2 h3 h4 h5 ⊢
      subst h2 h3 h4
      rw [at1_head] at h5
      exact at1_ok T h1 h5.1 h5.2.1
end Go.Proofs.YtecjngodfciokaaGreatDoor
end
