/-
 A part of the proof.
-/
import Derived.Test.YtaikigponkjkgaaGreatDoorXr41
import Derived.Test.YtaikigponkjkgaaGreatDoorXr42

section
namespace Go.Proofs.YtaikigponkjkgaaGreatDoor
open Go.ChangeShapes Go.WideShapes Go.ChangeAt Go.RowKit
open Go.Lib (hid)
theorem din_on {w w' : World} {A : Option Addr} {l : List Dp} (h : Din w A l) (hb : Below w.heap.size w w') : Din w' A l := ⟨Rws.on h.row hb, fun p hp => (h.in_ p hp).on hb⟩
structure AlG (w : World) (v : Value) (k : Nat) (q : List Dp) (W : World) : Prop where
 own : W.ownsRow w.heap.size 59 29 v k (q.flatMap dpL)
 ok : ∀ p ∈ q, OwnPrs w.heap.size W p.A p.c p.x.bind.want
 ne : ∀ p ∈ q, ∀ a, p.A = some a → ∀ b, v.ownBlock = some b → a.block ≠ b
 de : ∀ p ∈ q, ∃ A c, DeOk w p.x A c p.B p.d
def lightAll (l : List Dp) : Bool := l.all fun p => deLight p.x
theorem lightAll_no {l : List Dp} {k : Nat} (hk : k < l.length) (h : deLight (l.getD k Dp0).x = false) : lightAll l = false := by
 unfold lightAll
 rw [List.all_eq_false]
 refine ⟨l[k], List.getElem_mem hk, ?_⟩
 rw [dp_get hk, h]
 simp
theorem lightAll_yes {l : List Dp} (h : ∀ j, j < l.length → deLight (l.getD j Dp0).x = true) : lightAll l = true := by
 unfold lightAll
 rw [List.all_eq_true]
 intro p hp
 obtain ⟨j, hj, rfl⟩ := List.getElem_of_mem hp
 rw [dp_get hj]
 exact h j hj
def AllPost (l : List Dp) (w : World) (e : Ending) (w' : World) : Prop := ∃ A' c' q, e = .returned (.tuple #[.slice A' q.length c', .bool (lightAll l)]) ∧ q.length ≤ c' ∧ (lightAll l = true → q.map Dp.x = l.map Dp.x) ∧ Dps w' A' q ∧ Below w.heap.size w w'
set_option maxRecDepth 100000 in
set_option maxHeartbeats 32000000 in
theorem law22All_any (l : List Dp) (A : Option Addr) (c : Nat) (w : World) (hl : l.length ≤ 409120605673) (hI : Din w A l) :
  Calls Tryz.prog 7 #[.slice A l.length c] w (AllPost l w) := by
 unfold AllPost
 have HI := hid hI
 have HNO := hid (fun k (hk : k < l.length) h => lightAll_no hk h)
 have HALL := hid (fun h => lightAll_yes (l := l) h)
 have HLI := hid (fun (x : De) XA xc XB xd W (h : DeIn W x XA xc XB xd) => ddLight_any x XA xc XB xd W h)
 clear hI
 generalize lightAll l = M at *
 obtain ⟨n, hn⟩ : ∃ n, n = l.length := ⟨_, rfl⟩
 rw [← hn]
 have HN := hid hn
 have hnl : n ≤ 409120605673 := by omega
 rw [← hn] at HALL
 clear hn hl
 go_enter Tryz.func7, Tryz.ntmps7
 go_wp2_with fail
 go_loopg [4, 9] n (fun g v i wr => ∃ k : Nat, k + g = n ∧ i = .int .i64 (k : Int) ∧ ∃ q : List Dp, q.length = k ∧ q.map Dp.x = (l.take k).map Dp.x ∧ (∀ j, j < k → deLight (l.getD j Dp0).x = true) ∧ AlG w v k q wr ∧ Below w.heap.size w wr)
 case atStart => exact ⟨0, by omega, rfl, [], rfl, by simp, fun j hj => absurd hj (by omega), ⟨World.ownsRow_nil _ _ _ _, fun p hp => by simp at hp, fun p hp => by simp at hp, fun p hp => by simp at hp⟩, Below.refl _ _⟩
 case round =>
  obtain ⟨k, hk, rfl, q, hq, hqm, hyes, hA6, hB⟩ := hrel
  obtain ⟨A9, c9, rfl, hc9, hn9, hr9, hb9⟩ := Rws.of_own hA6.own
  have HC9 := hid hc9
  have HR9 := hid hr9
  clear hc9 hn9 hr9 hb9
  have HA6 := hid hA6
  have HB := hid hB
  have HQ := hid hq
  have HQM := hid hqm
  have HYES := hid hyes
  have HK := hid hk
  clear hA6 hB hq hk hqm hyes
  by_cases hlt : k < n
  ·have hkl : k < l.length := by have := HN.out; omega
   obtain ⟨b, off, rfl, hbl, hat, _⟩ := din_elt (din_on HI.out HB.out) hkl
   have hin : DeIn w (l.getD k Dp0).x (l.getD k Dp0).A (l.getD k Dp0).c (l.getD k Dp0).B (l.getD k Dp0).d := by
    obtain ⟨_, _, _, _, _, h⟩ := din_elt HI.out hkl
    exact h
   have HNX : Hid (deLight (l.getD k Dp0).x = false → M = false) := fun h => HNO.out k hkl h
   have HSX : Hid (deLight (l.getD k Dp0).x = true → ∀ j, j < k + 1 → deLight (l.getD j Dp0).x = true) := fun h j hj => by
    by_cases e : j = k
    ·rw [e]; exact h
    ·exact HYES.out j (by omega)
   have HTK : Hid ((l.take (k + 1)).map Dp.x = (l.take k).map Dp.x ++ [(l.getD k Dp0).x]) := by
    unfold Hid
    rw [← List.take_append_getElem hkl, List.map_append, List.map_singleton, dp_get hkl]
   generalize hpk : l.getD k Dp0 = p at hat hin HNX HSX HTK
   clear hpk
   obtain ⟨x, XA, xc, XB, xd⟩ := p
   dsimp only at hin HTK HNX HSX
   have HAT := hid (show wr.rangeAt b (off + k * 29) (deL x XA xc XB xd) from hat)
   have HIN := hid hin
   clear hat hin
   have hki : (k : Int) < (n : Int) := by omega
   have HE5 := hid (BoxC.new (w := wr) (W := wr) (Nat.le_refl _) (deL x XA xc XB xd).toArray 52)
   have HBX5 := hid (rtOne wr (.cells (deL x XA xc XB xd).toArray 52))
   go_upto_region 5 with (first
    | (refine wpList_load_mid (by rfl) 52 _ (by rfl) b (off + k * 29) (by rfl) (deL x XA xc XB xd) _ HAT.out Tryz.underlying52 rfl (by rw [de_size, deL_len]) ?_)
    | (refine wpList_store_new2 (by rfl) 52 _ _ (by rfl) _ (deL x XA xc XB xd).toArray (by rfl) (by rfl) (by rw [de_size]; rfl) (by rfl) (de_all _ _ _ _ _) ?_))
   generalize wr.alloc (.cells (deL x XA xc XB xd).toArray 52) = W5 at *
   go_wp2_with (refine wpList_load_mid (by rfl) 52 _ (by rfl) wr.heap.size 0 (by rfl) (deL x XA xc XB xd) _ HE5.out.cs.range Tryz.underlying52 rfl (by rw [de_size, deL_len]) ?_)
   refine (HLI.out x XA xc XB xd _ ((HIN.out.on HB.out).on HBX5.out)).mono ?_
   rintro e w6 ⟨rfl, b6⟩
   have HE6 := hid (HE5.out.on b6)
   have HBX6 := hid (bthen HBX5.out b6 (Nat.le_refl _))
   clear b6
   cases hq : deLight x with
   | true =>
    have HS2 := hid (HSX.out hq)
    have HOK := hid (de_light_Ok hq HIN.out)
    clear hq
    go_wp2_with (refine wpList_load_mid (by rfl) 52 _ (by rfl) wr.heap.size 0 (by rfl) (deL x XA xc XB xd) _ HE6.out.cs.range Tryz.underlying52 rfl (by rw [de_size, deL_len]) ?_)
    refine (to22o_any x XA xc XB xd _ HOK.out.bind.len HOK.out.bind.cap ((HOK.out.bind.row.on HB.out).on HBX6.out)).mono ?_
    rintro e w9 ⟨A8, c8, rfl, ho8, b8⟩
    have HBX9 := hid (bthen HBX6.out b8 (Nat.le_refl _))
    have HO9 := hid ho8
    have HS6 := hid HBX6.out.size
    clear ho8 b8
    obtain ⟨iD, hiD, hzD, hsD, hbD⟩ := info_parts infoRDe
    have HBXA := hid (bthen HBX9.out (rtOne w9 (.cells (deL x A8 c8 XB xd).toArray 59)) (Nat.le_refl _))
    have HOWN := hid (ownRow_on HA6.out.own HBXA.out)
    have HOA := hid (OwnPrs.on HO9.out (rtOne w9 (.cells (deL x A8 c8 XB xd).toArray 59)))
    have HNW := hid (BoxC.new (w := wr) (W := w9) HBX9.out.size (deL x A8 c8 XB xd).toArray 59)
    have HSZA := hid (show (w9.alloc (.cells (deL x A8 c8 XB xd).toArray 59)).heap.size = w9.heap.size + 1 by simp)
    go_upto_region 8 with (first
     | (refine wpList_plain (by rfl) (fun K hK => wp_buildRDe _ (by rfl) x A8 c8 XB xd (by kernel_rfl) (hK _ _ ?_)))
     | (at_builtin; refine wpList_append_lies _ (by rfl) _ _ 24 (by rfl) w.heap.size 59 iD _ 29 344 Tryz.underlying24 hiD hzD hsD hbD (by rfl) (by decide) (.slice A9 k c9) k (q.flatMap dpL) (by rfl) HOWN.out ⟨w9.heap.size, 0, none⟩ 1 1 (deL x A8 c8 XB xd) (by rfl) rfl (fun j u hj => by rw [rws_add, Nat.zero_add]; exact HNW.out.cs j u hj) (de_one _ _ _ _ _) (by omega) (by unfold maxLen; omega) (by omega) (Nat.le_trans HB.out.size HBXA.out.size) (w9.heap.size + 1) HSZA.out ?_; intro gg cap w2 hown hgrow hat hlt'; have HW := hid hown; have HG := hid hgrow; have HAT2 := hid hat; clear hown hgrow hat hlt'))
    have hne5 : ∀ a, A8 = some a → ∀ bb, (Value.slice A9 k c9).ownBlock = some bb → a.block ≠ bb := fun a ha bb hbb => by
     have h1 := (HO9.out.row.2.2 a ha).1
     have h2 := (HA6.out.own.lt bb hbb).2
     have h3 := HS6.out
     omega
    have hA7 : AlG w (.slice (some ⟨gg, 0, none⟩) (k + 1) cap) (k + 1) (q ++ [⟨x, A8, c8, XB, xd⟩]) w2 := by
     refine ⟨?_, fun p hp => ?_, fun p hp a ha bb hbb => ?_, fun p hp => ?_⟩
     ·rw [List.flatMap_append, List.flatMap_singleton]; exact HW.out
     ·rcases List.mem_append.1 hp with hp | hp
      ·exact ownPrs_grown (OwnPrs.on (HA6.out.ok p hp) HBXA.out) HG.out (HA6.out.ne p hp)
      ·obtain rfl := List.mem_singleton.1 hp
       exact ownPrs_grown (ownPrs_mono HOA.out (Nat.le_trans HB.out.size HS6.out)) HG.out hne5
     ·obtain rfl : gg = bb := by simpa [Value.ownBlock] using hbb
      rcases HAT2.out with h1 | h1
      ·rcases List.mem_append.1 hp with hp | hp
       ·exact HA6.out.ne p hp a ha gg h1
       ·obtain rfl := List.mem_singleton.1 hp
        exact hne5 a ha gg h1
      ·rcases List.mem_append.1 hp with hp | hp
       ·have h2 := ((HA6.out.ok p hp).row.2.2 a ha).2
        have h3 := HBX9.out.size
        omega
       ·obtain rfl := List.mem_singleton.1 hp
        have h2 := (HO9.out.row.2.2 a ha).2
        omega
     ·rcases List.mem_append.1 hp with hp | hp
      ·exact HA6.out.de p hp
      ·obtain rfl := List.mem_singleton.1 hp
       exact ⟨XA, xc, HOK.out⟩
    have HA7 := hid hA7
    have HB7 := hid ((bthen HB.out HBXA.out (Nat.le_refl _)).grown HG.out (bthen HB.out HBXA.out (Nat.le_refl _)).size (fun x hx => (HOWN.out.lt x hx).1))
    clear hA7 hne5
    go_wp2_with fail
    go_roundg (gk - 1)
    case rel => exact ⟨k + 1, by have := HK.out; omega, by go_num, q ++ [⟨x, A8, c8, XB, xd⟩], by rw [List.length_append, HQ.out]; rfl, by rw [List.map_append, HQM.out, HTK.out]; rfl, HS2.out, HA7.out, HB7.out⟩
    case measure => have := HK.out; omega
   | false =>
    have HM := hid (HNX.out hq)
    have HB6 := hid (bthen HB.out HBX6.out (Nat.le_refl _))
    clear hq
    go_wp2_with fail
    refine bodyPost_ret (v := .tuple #[.slice none 0 0, .bool false]) (by simp [results, Tryz.results7, go_sem]) rfl ?_
    exact ⟨none, 0, [], by rw [HM.out]; rfl, Nat.le_refl _, (fun h => absurd (HM.out.symm.trans h) (by simp)), Dps.nil _ _, HB6.out⟩
  ·have hkn : k = n := by have := HK.out; omega
   have HM := hid (HALL.out (fun j hj => HYES.out j (by omega)))
   have HFI : Hid (q.map Dp.x = l.map Dp.x) := by
    unfold Hid
    rw [HQM.out, hkn, HN.out, List.take_length]
   subst hkn
   go_wp2_with fail
   refine bodyPost_ret (v := .tuple #[.slice A9 k c9, .bool true]) (by simp [results, Tryz.results7, go_sem]) rfl ?_
   refine ⟨A9, c9, q, by rw [HQ.out, HM.out], by rw [HQ.out]; exact HC9.out, fun _ => HFI.out, ⟨HR9.out, fun p hp => ?_⟩, HB.out⟩
   obtain ⟨A1, c1, h1⟩ := HA6.out.de p hp
   have h2 := (HA6.out.ok p hp).row
   have h3 := h1.on HB.out
   exact ⟨h3.sn, h3.st, h3.qn, h3.qd, ⟨h3.bind.shop, h3.bind.tol, h3.bind.key, h3.bind.len, h2.2.1, h3.bind.lite, h2.1⟩, h3.name, h3.mail, h3.text⟩
theorem st_getD {l : List (List UInt8)} {k : Nat} (h : k < l.length) : l[k] = l.getD k [] := by rw [List.getD_eq_getElem?_getD, List.getElem?_eq_getElem h]; rfl
theorem st_not {l m : List (List UInt8)} {k : Nat} (h : (l.getD k [] == m.getD k []) = false) : decide (l = m) = false := decide_eq_false fun e => by
 subst e
 simp at h
theorem st_yes {l m : List (List UInt8)} (h : l.length = m.length) (g : ∀ j, j < l.length → (l.getD j [] == m.getD j []) = true) : decide (l = m) = true := decide_eq_true (by
 refine List.ext_getElem h fun i h1 h2 => ?_
 have := g i h1
 rw [← st_getD h1, ← st_getD h2] at this
 simpa using this)
set_option maxHeartbeats 2000000 in
theorem eqS_any (l m : List (List UInt8)) (A : Option Addr) (c : Nat) (B : Option Addr) (d : Nat) (w : World) (hl : l.length ≤ 100000) (hm : m.length ≤ 100000) (hA : Rws w A (sts l)) (hB : Rws w B (sts m)) :
  Calls Tryz.prog 89 #[.slice A l.length c, .slice B m.length d] w fun e w' => e = .returned (.bool (decide (l = m))) ∧ Below w.heap.size w w' := by
 have HA := hid hA
 have HB := hid hB
 have HNE := hid (show l.length ≠ m.length → decide (l = m) = false from fun h => decide_eq_false fun e => h (by rw [e]))
 have HNO := hid (fun k h => st_not (l := l) (m := m) (k := k) h)
 have HYES := hid (fun h g => st_yes (l := l) (m := m) h g)
 clear hA hB
 generalize decide (l = m) = M at *
 obtain ⟨n, hn⟩ : ∃ n, n = l.length := ⟨_, rfl⟩
 obtain ⟨o, ho⟩ : ∃ o, o = m.length := ⟨_, rfl⟩
 rw [← hn, ← ho]
 have HN := hid hn
 have HO := hid ho
 have hnl : n ≤ 100000 := by omega
 have hol : o ≤ 100000 := by omega
 clear hn ho
 by_cases hlen : n = o
 ·have HLEN := hid hlen
  have hlen2 : ((n : Int) != (o : Int)) = false := by rw [hlen]; simp
  go_enter Tryz.func89, Tryz.ntmps89
  go_wp2_with fail
  clear hlen hlen2
  go_loopg [13] n (fun g i wr => ∃ k : Nat, k + g = n ∧ i = .int .i64 (k : Int) ∧ (∀ j, j < k → (l.getD j [] == m.getD j []) = true) ∧ Below w.heap.size w wr)
  case atStart => exact ⟨0, by omega, rfl, fun j hj => absurd hj (by omega), Below.refl _ _⟩
  case round =>
   obtain ⟨k, hk, rfl, hno, hBl⟩ := hrel
   have HBL := hid hBl
   have HALL := hid hno
   clear hBl hno
   by_cases hlt : k < n
   ·obtain ⟨b, off, rfl, hbl, c0⟩ := sts_get (Rws.on HA.out HBL.out) (show k < l.length by have := HN.out; omega)
    obtain ⟨b2, off2, rfl, hbl2, d0⟩ := sts_get (Rws.on HB.out HBL.out) (show k < m.length by have := HLEN.out; have := HO.out; omega)
    rw [st_getD] at c0 d0
    have hlt2 : k < o := by have := HLEN.out; omega
    have hq := str_same (l.getD k []) (m.getD k [])
    cases he : l.getD k [] == m.getD k [] with
    | true =>
     have HNEXT : Hid (∀ j, j < k + 1 → (l.getD j [] == m.getD j []) = true) := fun j hj => by
      by_cases e : j = k
      ·rw [e]; exact he
      ·exact HALL.out j (by omega)
     rw [he] at hq
     have hq2 : ((ofL (l.getD k [])).toList != (ofL (m.getD k [])).toList) = false := by rw [bne, hq]; rfl
     clear he
     generalize l.getD k [] = x at *
     generalize m.getD k [] = y at *
     go_wp2_with fail
     go_quiet (fail)
     go_wp2_with fail
     go_roundg (gk - 1)
     case rel => exact ⟨k + 1, by omega, by go_num, HNEXT.out, drewN_below HBL.out _⟩
     case measure => omega
    | false =>
     have HM := hid (HNO.out k he)
     rw [he] at hq
     have hq2 : ((ofL (l.getD k [])).toList != (ofL (m.getD k [])).toList) = true := by rw [bne, hq]; rfl
     clear he
     generalize l.getD k [] = x at *
     generalize m.getD k [] = y at *
     go_wp2_with fail
     go_quiet (fail)
     go_wp2_with fail
     go_ret
     exact ⟨ret_bool HM.out.symm, drewN_below HBL.out _⟩
   ·have HM := hid (HYES.out (by have := HLEN.out; have := HN.out; have := HO.out; omega) (fun j hj => HALL.out j (by have := HN.out; omega)))
    have hlt2 : ¬ k < o := by have := HLEN.out; omega
    go_wp2_with fail
    go_ret
    exact ⟨ret_bool HM.out.symm, HBL.out⟩
 ·have HM := hid (HNE.out (by have := HN.out; have := HO.out; omega))
  have hlen2 : ((n : Int) != (o : Int)) = true := by rw [bne_iff_ne]; omega
  clear hlen
  go_enter Tryz.func89, Tryz.ntmps89
  go_wp2_with fail
  go_ret
  exact ⟨ret_bool HM.out.symm, Below.refl _ _⟩
theorem rt_law10_any (w : World) (hL : Len w) : Calls Tryz.prog 88 #[] w fun e w' => e = .returned (.bool true) ∧ Below w.heap.size w w' := by
 have HE := hid (awake10_any w hL)
 clear hL
 go_enter Tryz.func88, Tryz.ntmps88
 go_wp2_with fail
 refine HE.out.mono ?_
 rintro e w1 ⟨rfl, b1⟩
 have HB1 := hid b1
 clear b1
 go_wp2_with fail
 go_ret
 exact ⟨rfl, HB1.out⟩
namespace Bk
def exS : Sh := ⟨[97], 1, []⟩
def exX : Bd := ⟨[97], [113], false, [], [], false⟩
def exY : Bd := ⟨[97], [113], false, [120], [], false⟩
def ex1 : Bk := ⟨[exS], []⟩
def ex2 : Bk := ⟨[exS], [exX]⟩
def ex3 : Bk := ⟨[exS], [exX, exY]⟩
theorem ex_1 : empty.make exS = (ex1, 0) := by decide
theorem ex_2 : ex1.bind exX = (ex2, 0) := by decide
theorem ex_3 : ex2.bind exY = (ex3, 0) := by decide
theorem ex_ok1 : Ok ex1 := by have := Ok.empty.make exS; rw [ex_1] at this; exact this
theorem ex_ok2 : Ok ex2 := by have := ex_ok1.bind exX; rw [ex_2] at this; exact this
end Bk
theorem ex_bdOk (w : World) (x : Bd) (hx : x = Bk.exX ∨ x = Bk.exY) : BdOk w x none 0 := by
 rcases hx with rfl | rfl
 ·exact ⟨by decide, by decide, by decide, by decide, by decide, lite_nil, Prs.nil _ _⟩
 ·exact ⟨by decide, by decide, by decide, by decide, by decide, lite_nil, Prs.nil _ _⟩
theorem exl_q : Bk.qs Bk.ex3 [97] [] [] = [[113]] := by decide
theorem exl_p : Bk.pls Bk.ex3 [97] [] [] = [] := by decide
theorem exl_c : Bk.lcode Bk.ex3 [97] = 0 := by decide
theorem ex_make (w : World) : Calls Tryz.prog 84 #[.agg #[.slice none 0 0, .slice none 0 0], .agg #[.string ⟨#[97]⟩, .int .u8 1, .string ⟨#[]⟩]] w fun e w' => ∃ A c B d ps, e = .returned (.tuple #[.agg #[.slice A 1 c, .slice B 0 d], .int .i64 0]) ∧ BkAt w' A c B d Bk.ex1 ps ∧ BkU (fun g => w.heap.size ≤ g) w' A B ps ∧ Below w.heap.size w w' := by
 have h := rtMake_any Bk.empty none 0 none 0 [] Bk.exS w (fun _ => False) Bk.Ok.empty (by decide) (by decide) (BkAt.nil w) (BkU.nil _ w)
 rw [Bk.ex_1] at h
 refine h.mono ?_
 rintro e w' ⟨A, c, B, d, ps, rfl, h1, h2, h3⟩
 exact ⟨A, c, B, d, ps, rfl, h1, h2.mono (fun g h => h.elim False.elim id), h3⟩
theorem ex_bind1 (w : World) (A : Option Addr) (c : Nat) (B : Option Addr) (d : Nat) (ps : List Bp) (U : Nat → Prop) (h1 : BkAt w A c B d Bk.ex1 ps) (h2 : BkU U w A B ps) (hL : Len w) : Calls Tryz.prog 85 #[.agg #[.slice A 1 c, .slice B 0 d], .agg #[.string ⟨#[97]⟩, .string ⟨#[113]⟩, .bool false, .string ⟨#[]⟩, .slice none 0 0, .bool false]] w fun e w' => ∃ A c B d ps, e = .returned (.tuple #[.agg #[.slice A 1 c, .slice B 1 d], .int .i64 0]) ∧ BkAt w' A c B d Bk.ex2 ps ∧ BkU (fun g => U g ∨ w.heap.size ≤ g) w' A B ps ∧ Below w.heap.size w w' := by
 have h := rtBind_any Bk.ex1 A c B d ps Bk.exX none 0 w U Bk.ex_ok1 h1 h2 (ex_bdOk w _ (.inl rfl)) hL
 rw [Bk.ex_2] at h
 exact h
theorem ex_bind2 (w : World) (A : Option Addr) (c : Nat) (B : Option Addr) (d : Nat) (ps : List Bp) (U : Nat → Prop) (h1 : BkAt w A c B d Bk.ex2 ps) (h2 : BkU U w A B ps) (hL : Len w) : Calls Tryz.prog 85 #[.agg #[.slice A 1 c, .slice B 1 d], .agg #[.string ⟨#[97]⟩, .string ⟨#[113]⟩, .bool false, .string ⟨#[120]⟩, .slice none 0 0, .bool false]] w fun e w' => ∃ A c B d ps, e = .returned (.tuple #[.agg #[.slice A 1 c, .slice B 2 d], .int .i64 0]) ∧ BkAt w' A c B d Bk.ex3 ps ∧ BkU (fun g => U g ∨ w.heap.size ≤ g) w' A B ps ∧ Below w.heap.size w w' := by
 have h := rtBind_any Bk.ex2 A c B d ps Bk.exY none 0 w U Bk.ex_ok2 h1 h2 (ex_bdOk w _ (.inr rfl)) hL
 rw [Bk.ex_3] at h
 exact h
theorem ex_leads (w : World) (A : Option Addr) (c : Nat) (B : Option Addr) (d : Nat) (ps : List Bp) (h1 : BkAt w A c B d Bk.ex3 ps) (hL : Len w) : Calls Tryz.prog 86 #[.agg #[.slice A 1 c, .slice B 2 d], .string ⟨#[97]⟩, .string ⟨#[]⟩, .slice none 0 0] w fun e w' => ∃ A' c' B' d', e = .returned (.tuple #[.slice A' 1 c', .slice B' 0 d', .int .i64 0]) ∧ Rws w' A' (sts [[113]]) ∧ Below w.heap.size w w' := by
 have h := rtLeads_any Bk.ex3 A c B d ps [97] [] [] none 0 w (by decide) (by decide) (by decide) h1 (by decide) (by decide) (Prs.nil _ _) hL
 rw [exl_q, exl_p, exl_c] at h
 refine h.mono ?_
 rintro e w' ⟨A', c', B', d', rfl, -, -, h3, -, -, -, h4⟩
 exact ⟨A', c', B', d', rfl, h3, h4⟩
set_option maxRecDepth 100000 in
set_option maxHeartbeats 8000000 in
theorem rt_awake_any (w : World) (hL : Len w) : Calls Tryz.prog 39 #[] w fun e w' => e = .returned (.bool true) ∧ Below w.heap.size w w' := by
 have HM := hid (ex_make w)
 have HLL := hid hL
 clear hL
 go_enter Tryz.func39, Tryz.ntmps39
 go_wp2_with fail
 refine HM.out.mono ?_
 rintro e w1 ⟨A, c, B, d, ps, rfl, hI1, hU1, hb1⟩
 have hx1 := rtAt0 w1 #[.slice A 1 c, .slice B 0 d] 133
 have HX1 := hid hx1
 have hb2 := rtOne w1 (.cells #[.slice A 1 c, .slice B 0 d] 133)
 have HB2 := hid (bthen hb1 hb2 (Nat.le_refl _))
 have HI2 := hid (hI1.on hb2)
 have HU2 := hid (hU1.self.on hb2.size)
 have HL2 := hid ((HLL.out.on hb1).on hb2)
 have HS2 := hid (show w.heap.size ≤ w1.heap.size from hb1.size)
 clear hx1 hI1 hU1 hb2 hb1
 go_upto_region 2 with fail
 generalize w1.alloc (.cells #[.slice A 1 c, .slice B 0 d] 133) = w2 at *
 have x0 := HX1.out.cs 0 _ rfl
 have x1 := HX1.out.cs 1 _ rfl
 have xl := HX1.out.lt
 have xf := HX1.out.s
 unfold Soft at xf
 have HP2 := hid (ex_bind1 w2 A c B d ps _ HI2.out HU2.out HL2.out)
 go_wp2_with fail
 refine HP2.out.mono ?_
 rintro e w3 ⟨A3, c3, B3, d3, ps3, rfl, hI3, hU3, hb3⟩
 have HX3 := hid (HX1.out.on hb3)
 have HB3 := hid (bthen HB2.out hb3 (Nat.le_refl _))
 have HL3 := hid (HL2.out.on hb3)
 have hnu : ¬ ((w.heap.size ≤ w1.heap.size ∧ w1.heap.size < w1.heap.size) ∨ w2.heap.size ≤ w1.heap.size) := by have := HX1.out.lt; omega
 have hi4 := (hI3.put hU3 hnu 0 (.slice A3 1 c3)).put (hU3.put w1.heap.size 0 (.slice A3 1 c3)) hnu 1 (.slice B3 1 d3)
 have hu4 := (hU3.put w1.heap.size 0 (.slice A3 1 c3)).put w1.heap.size 1 (.slice B3 1 d3)
 have hx4 := HX3.out.fill [.slice A3 1 c3, .slice B3 1 d3] rfl
 have hb4 := below_putAll (w := w) (g := w1.heap.size) HS2.out [.slice A3 1 c3, .slice B3 1 d3] 0 HB3.out
 simp only [putAll] at hx4 hb4
 have HX4 := hid hx4
 have HB4 := hid hb4
 have HI4 := hid hi4
 have HU4 := hid hu4
 have HL4 := hid (HLL.out.on hb4)
 clear hx4 hb4 hi4 hu4 hnu hI3 hU3 hb3
 clear x0 x1 xl xf
 have x0 := HX3.out.cs 0 _ rfl
 have x1 := HX3.out.cs 1 _ rfl
 have xl := HX3.out.lt
 have xf := HX3.out.s
 unfold Soft at xf
 go_upto_region 3 with fail
 generalize ((w3.setCell ⟨w1.heap.size, 0, none⟩ (.slice A3 1 c3)).setCell ⟨w1.heap.size, 1, none⟩ (.slice B3 1 d3)) = w4 at *
 clear x0 x1 xl xf
 have x0 := HX4.out.cs 0 _ rfl
 have x1 := HX4.out.cs 1 _ rfl
 have xl := HX4.out.lt
 have xf := HX4.out.s
 unfold Soft at xf
 have HP4 := hid (ex_bind2 w4 A3 c3 B3 d3 ps3 _ HI4.out HU4.out HL4.out)
 go_wp2_with fail
 refine HP4.out.mono ?_
 rintro e w5 ⟨A5, c5, B5, d5, ps5, rfl, hI5, hU5, hb5⟩
 have HX5 := hid (HX4.out.on hb5)
 have HB5 := hid (bthen HB4.out hb5 (Nat.le_refl _))
 have HL5 := hid (HL4.out.on hb5)
 have hnu : ¬ (((w.heap.size ≤ w1.heap.size ∧ w1.heap.size < w1.heap.size) ∨ w2.heap.size ≤ w1.heap.size) ∨ w4.heap.size ≤ w1.heap.size) := by have := HX1.out.lt; have := HX4.out.lt; omega
 have hi6 := (hI5.put hU5 hnu 0 (.slice A5 1 c5)).put (hU5.put w1.heap.size 0 (.slice A5 1 c5)) hnu 1 (.slice B5 2 d5)
 have hx6 := HX5.out.fill [.slice A5 1 c5, .slice B5 2 d5] rfl
 have hb6 := below_putAll (w := w) (g := w1.heap.size) HS2.out [.slice A5 1 c5, .slice B5 2 d5] 0 HB5.out
 simp only [putAll] at hx6 hb6
 have HX6 := hid hx6
 have HB6 := hid hb6
 have HI6 := hid hi6
 have HL6 := hid (HLL.out.on hb6)
 clear hx6 hb6 hi6 hnu hI5 hU5 hb5
 clear x0 x1 xl xf
 have x0 := HX5.out.cs 0 _ rfl
 have x1 := HX5.out.cs 1 _ rfl
 have xl := HX5.out.lt
 have xf := HX5.out.s
 unfold Soft at xf
 go_upto_region 4 with fail
 generalize ((w5.setCell ⟨w1.heap.size, 0, none⟩ (.slice A5 1 c5)).setCell ⟨w1.heap.size, 1, none⟩ (.slice B5 2 d5)) = w6 at *
 clear x0 x1 xl xf
 have x0 := HX6.out.cs 0 _ rfl
 have x1 := HX6.out.cs 1 _ rfl
 have xl := HX6.out.lt
 have HP6 := hid (ex_leads w6 A5 c5 B5 d5 ps5 HI6.out HL6.out)
 go_wp2_with fail
 refine HP6.out.mono ?_
 rintro e w7 ⟨A7, c7, B7, d7, rfl, hR7, hb7⟩
 have HB7 := hid (bthen HB6.out hb7 (Nat.le_refl _))
 have HL7 := hid (HL6.out.on hb7)
 have HR7 := hid hR7
 clear hR7 hb7 x0 x1 xl
 go_wp2_with fail
 refine (law4Awake_any _ HL7.out).mono ?_
 rintro e w8 ⟨rfl, hb8⟩
 have HB8 := hid (bthen HB7.out hb8 (Nat.le_refl _))
 have HL8 := hid (HL7.out.on hb8)
 have HR8 := hid (Rws.on HR7.out hb8)
 clear hb8
 go_wp2_with fail
 refine (rt_law10_any _ HL8.out).mono ?_
 rintro e w9 ⟨rfl, hb9⟩
 have HB9 := hid (bthen HB8.out hb9 (Nat.le_refl _))
 have HL9 := hid (HL8.out.on hb9)
 have HR9 := hid (Rws.on HR8.out hb9)
 clear hb9
 have HB10 := hid (bthen HB9.out (rtOne w9 (.cells #[.string ⟨#[113]⟩] 9)) (Nat.le_refl _))
 go_wp2_with fail
 have hs1 : Rws (w9.alloc (.cells #[.string ⟨#[113]⟩] 9)) (some ⟨w9.heap.size, 0, none⟩) (sts [[113]]) := Rws.of_news (fun j u hu => by
  have hc := (rtAt0 w9 #[.string ⟨#[113]⟩] 9).cs
  exact (congrArg (fun n => (w9.alloc (.cells #[.string ⟨#[113]⟩] 9)).cell? ⟨w9.heap.size, n, none⟩) (Nat.zero_add j)).trans (hc j u hu))
 refine (eqS_any [[113]] [[113]] A7 c7 (some ⟨w9.heap.size, 0, none⟩) 1 _ (by decide) (by decide) (Rws.on HR9.out (rtOne w9 _)) hs1).mono ?_
 rintro e w11 ⟨rfl, hb11⟩
 have HB11 := hid (bthen HB10.out hb11 (Nat.le_refl _))
 clear hb11 hs1
 rw [show decide ([[113]] = ([[113]] : List (List UInt8))) = true from rfl]
 go_wp2_with fail
 go_ret
 exact ⟨rfl, HB11.out⟩
def exDe : De := De.of 11 1
theorem exDe_code : exDe.code = 0 := by decide
theorem exDe_len : exDe.enc.length = 9 := by decide
theorem deOk_of (k t : Nat) (w : World) : DeOk w (De.of k t) none 0 none 0 := ⟨Nat.zero_le _, Nat.zero_le _, Nat.zero_le _, Nat.zero_le _, ⟨Nat.zero_le _, Nat.zero_le _, Nat.zero_le _, Nat.zero_le _, Nat.le_refl _, lite_nil, Prs.nil _ _⟩, Nat.zero_le _, ⟨Nat.zero_le _, Nat.zero_le _, Nat.zero_le _, Nat.zero_le _, Nat.le_refl _, lite_nil, Prs.nil _ _⟩, Nat.zero_le _⟩
theorem deFits_of {k t : Nat} (hk : k < 256) (ht : t < 18446744073709551616) : De.Fits (De.of k t) :=
 ⟨hk, ht, (show 0 < 256 by decide), (show 0 < 18446744073709551616 by decide), (show 0 < 18446744073709551616 by decide), fun p hp => absurd hp (by simp [De.of, Bk.Bd0]), (show 0 < 18446744073709551616 by decide), (show 0 < 256 by decide), (show 0 < 256 by decide), (show 0 < 256 by decide), (show 0 < 18446744073709551616 by decide), ⟨(show 0 < 18446744073709551616 by decide), (show 0 < 18446744073709551616 by decide), (show 0 < 256 by decide), fun p hp => absurd hp (by simp [De.of, Ml.zero])⟩⟩
theorem ex22_bytes (w : World) (hL : Len w) : Calls Tryz.prog 13 #[deV exDe none 0 none 0] w fun e w' => e = .returned (.tuple #[.string (ofL exDe.enc), .int .i64 0]) ∧ Below w.heap.size w w' := by
 have h := ddBytes_any exDe none 0 none 0 w (deOk_of 11 1 w) (deFits_of (by decide) (by decide)) hL
 rwa [show deBytesV exDe = .tuple #[.string (ofL exDe.enc), .int .i64 0] by unfold deBytesV; rw [if_pos exDe_code]] at h
theorem dd_law13Awake (w : World) (hL : Len w) : Calls Tryz.prog 14 #[] w fun e w' => e = .returned (.bool true) ∧ Below w.heap.size w w' := by
 have HA := hid (awake13_any w hL)
 go_enter Tryz.func14, Tryz.ntmps14
 go_wp2_with fail
 refine HA.out.mono ?_
 rintro x w1 ⟨rfl, b1⟩
 have B1 := hid b1
 clear b1
 go_wp2_with fail
 go_ret
 exact ⟨rfl, B1.out⟩
theorem dd_law14Awake (w : World) (hL : Len w) : Calls Tryz.prog 15 #[] w fun e w' => e = .returned (.bool true) ∧ Below w.heap.size w w' := by
 have HA := hid (rt_awake_any w hL)
 go_enter Tryz.func15, Tryz.ntmps15
 go_wp2_with fail
 refine HA.out.mono ?_
 rintro x w1 ⟨rfl, b1⟩
 have B1 := hid b1
 clear b1
 go_wp2_with fail
 go_ret
 exact ⟨rfl, B1.out⟩
set_option maxRecDepth 100000 in
set_option maxHeartbeats 4000000 in
theorem law22awake_any (w : World) (hL : Len w) : Calls Tryz.prog 6 #[] w fun e w' => e = .returned (.bool true) ∧ Below w.heap.size w w' := by
 have HX := hid (ex22_bytes w hL)
 have HL := hid hL
 have hz : (ofL exDe.enc).size = 9 := by rw [ofL_size, exDe_len]
 clear hL
 generalize ofL exDe.enc = E at *
 go_enter Tryz.func6, Tryz.ntmps6
 go_wp2_with (refine wpList_buildTo (by rfl) 52 _ (by rfl) _ (by rfl) (deL exDe none 0 none 0).toArray (by kernel_rfl) ?_)
 refine HX.out.mono ?_
 rintro e w1 ⟨rfl, b1⟩
 have HL1 := hid (HL.out.on b1)
 have HB1 := hid b1
 clear b1
 go_wp2_with fail
 refine (dd_law13Awake _ HL1.out).mono ?_
 rintro e w2 ⟨rfl, b2⟩
 have HL2 := hid (HL1.out.on b2)
 have HB2 := hid (bthen HB1.out b2 (Nat.le_refl _))
 clear b2
 go_wp2_with fail
 refine (dd_law14Awake _ HL2.out).mono ?_
 rintro e w3 ⟨rfl, b3⟩
 have HB3 := hid (bthen HB2.out b3 (Nat.le_refl _))
 clear b3
 go_wp2_with fail
 go_ret
 exact ⟨rfl, HB3.out⟩
theorem dp_of_din {w : World} {A : Option Addr} {l : List Dp} (h : Din w A l) (hl : ∀ p ∈ l, deLight p.x = true) : Dps w A l := ⟨h.row, fun p hp => de_light_Ok (hl p hp) (h.in_ p hp)⟩
theorem dp_din {W : World} {A : Option Addr} {q : List Dp} (h : Dps W A q) (hf : ∀ p ∈ q, De.Fits p.x) : Din W A q := ⟨h.row, fun p hp => by
 have o := h.ok p hp
 exact ⟨o.bind.row, o.bind.cap, by have := o.bind.len; omega, o.mail.row, o.mail.cap, by have := o.mail.len; omega, hf p hp⟩⟩
theorem lightAll_mem {l : List Dp} (h : lightAll l = true) : ∀ p ∈ l, deLight p.x = true := fun p hp => List.all_eq_true.1 h p hp
theorem pack_len {l : List De} (h : De.packc l = 0) : (De.pack l).length ≤ 700000 ∧ 0 < (De.pack l).length := by
 obtain ⟨h1, h2⟩ := De.packc_zero h
 have h3 := De.encs_le h2
 unfold De.pack
 rw [List.length_append, Oct.length_be]
 omega
end Go.Proofs.YtaikigponkjkgaaGreatDoor
end
