/-
  ANY DEEDS as the document's (law 22's All): walked.
-/
import Derived.Test.YtaikigponkjkgaaGreatDoorDs44
import Derived.Test.YtaikigponkjkgaaGreatDoorDs45
import Derived.Test.YtaikigponkjkgaaGreatDoorDs46

section
namespace Go.Proofs.YtaikigponkjkgaaGreatDoor
open Go.ChangeShapes Go.WideShapes Go.ChangeAt Go.RowKit
theorem din_on {w w' : World} {A : Option Addr} {l : List Dp} (h : Din w A l) (hb : Below w.heap.size w w') : Din w' A l := ⟨Rws.on h.row hb, fun p hp => (h.in_ p hp).on hb⟩
/-- the pairs lie apart from the row -/
structure AlG (w : World) (v : Value) (k : Nat) (q : List Dp) (W : World) : Prop where
  own : W.ownsRow w.heap.size 59 29 v k (q.flatMap dpL)
  ok : ∀ p ∈ q, OwnPrs w.heap.size W p.A p.c p.x.bind.want
  ne : ∀ p ∈ q, ∀ a, p.A = some a → ∀ b, v.ownBlock = some b → a.block ≠ b
  de : ∀ p ∈ q, ∃ A c, DeOk w p.x A c p.B p.d
def lightAll (l : List Dp) : Bool := l.all fun p => deLight p.x
theorem lightAll_no {l : List Dp} {k : Nat} (hk : k < l.length) (h : deLight (l.getD k Dp0).x = false) : lightAll l = false := by
  unfold lightAll
  rw [List.all_eq_false]
  refine ⟨l[k], List.getElem_mem hk, ?_⟩
  rw [dp_get hk, h]
  simp
theorem lightAll_yes {l : List Dp} (h : ∀ j, j < l.length → deLight (l.getD j Dp0).x = true) : lightAll l = true := by
  unfold lightAll
  rw [List.all_eq_true]
  intro p hp
  obtain ⟨j, hj, rfl⟩ := List.getElem_of_mem hp
  rw [dp_get hj]
  exact h j hj
def AllPost (l : List Dp) (w : World) (e : Ending) (w' : World) : Prop := ∃ A' c' q, e = .returned (.tuple #[.slice A' q.length c', .bool (lightAll l)]) ∧ q.length ≤ c' ∧ (lightAll l = true → q.map Dp.x = l.map Dp.x) ∧ Dps w' A' q ∧ Below w.heap.size w w'
set_option maxRecDepth 100000 in
set_option maxHeartbeats 32000000 in
theorem law22All_any (l : List Dp) (A : Option Addr) (c : Nat) (w : World) (hl : l.length ≤ 409120605673) (hI : Din w A l) :
    Calls Tryz.prog 7 #[.slice A l.length c] w (AllPost l w) := by
  unfold AllPost
  have HI := Lib.hid hI
  have HNO := Lib.hid (fun k (hk : k < l.length) h => lightAll_no hk h)
  have HALL := Lib.hid (fun h => lightAll_yes (l := l) h)
  have HLI := Lib.hid (fun (x : De) XA xc XB xd W (h : DeIn W x XA xc XB xd) => ddLight_any x XA xc XB xd W h)
  clear hI
  generalize lightAll l = M at *
  obtain ⟨n, hn⟩ : ∃ n, n = l.length := ⟨_, rfl⟩
  rw [← hn]
  have HN := Lib.hid hn
  have hnl : n ≤ 409120605673 := by omega
  rw [← hn] at HALL
  clear hn hl
  go_enter Tryz.func7, Tryz.ntmps7
  go_wp2_with fail
  go_loopg [4, 9] n (fun g v i wr => ∃ k : Nat, k + g = n ∧ i = .int .i64 (k : Int) ∧ ∃ q : List Dp, q.length = k ∧ q.map Dp.x = (l.take k).map Dp.x ∧ (∀ j, j < k → deLight (l.getD j Dp0).x = true) ∧ AlG w v k q wr ∧ Below w.heap.size w wr)
  case atStart => exact ⟨0, by omega, rfl, [], rfl, by simp, fun j hj => absurd hj (by omega), ⟨World.ownsRow_nil _ _ _ _, fun p hp => by simp at hp, fun p hp => by simp at hp, fun p hp => by simp at hp⟩, Below.refl _ _⟩
  case round =>
    obtain ⟨k, hk, rfl, q, hq, hqm, hyes, hA6, hB⟩ := hrel
    obtain ⟨A9, c9, rfl, hc9, hn9, hr9, hb9⟩ := Rws.of_own hA6.own
    have HC9 := Lib.hid hc9
    have HR9 := Lib.hid hr9
    clear hc9 hn9 hr9 hb9
    have HA6 := Lib.hid hA6
    have HB := Lib.hid hB
    have HQ := Lib.hid hq
    have HQM := Lib.hid hqm
    have HYES := Lib.hid hyes
    have HK := Lib.hid hk
    clear hA6 hB hq hk hqm hyes
    by_cases hlt : k < n
    · have hkl : k < l.length := by have := HN.out; omega
      obtain ⟨b, off, rfl, hbl, hat, _⟩ := din_elt (din_on HI.out HB.out) hkl
      have hin : DeIn w (l.getD k Dp0).x (l.getD k Dp0).A (l.getD k Dp0).c (l.getD k Dp0).B (l.getD k Dp0).d := by
        obtain ⟨_, _, _, _, _, h⟩ := din_elt HI.out hkl
        exact h
      have HNX : Hid (deLight (l.getD k Dp0).x = false → M = false) := fun h => HNO.out k hkl h
      have HSX : Hid (deLight (l.getD k Dp0).x = true → ∀ j, j < k + 1 → deLight (l.getD j Dp0).x = true) := fun h j hj => by
        by_cases e : j = k
        · rw [e]; exact h
        · exact HYES.out j (by omega)
      have HTK : Hid ((l.take (k + 1)).map Dp.x = (l.take k).map Dp.x ++ [(l.getD k Dp0).x]) := by
        unfold Hid
        rw [← List.take_append_getElem hkl, List.map_append, List.map_singleton, dp_get hkl]
      generalize hpk : l.getD k Dp0 = p at hat hin HNX HSX HTK
      clear hpk
      obtain ⟨x, XA, xc, XB, xd⟩ := p
      dsimp only at hin HTK HNX HSX
      have HAT := Lib.hid (show wr.rangeAt b (off + k * 29) (deL x XA xc XB xd) from hat)
      have HIN := Lib.hid hin
      clear hat hin
      have hki : (k : Int) < (n : Int) := by omega
      have HE5 := Lib.hid (BoxC.new (w := wr) (W := wr) (Nat.le_refl _) (deL x XA xc XB xd).toArray 52)
      have HBX5 := Lib.hid (rtOne wr (.cells (deL x XA xc XB xd).toArray 52))
      go_upto_region 5 with (first
        | (refine wpList_load_mid (by rfl) 52 _ (by rfl) b (off + k * 29) (by rfl) (deL x XA xc XB xd) _ HAT.out Tryz.underlying52 rfl (by rw [de_size, deL_len]) ?_)
        | (refine wpList_store_new2 (by rfl) 52 _ _ (by rfl) _ (deL x XA xc XB xd).toArray (by rfl) (by rfl) (by rw [de_size]; rfl) (by rfl) (de_all _ _ _ _ _) ?_))
      generalize wr.alloc (.cells (deL x XA xc XB xd).toArray 52) = W5 at *
      go_wp2_with (refine wpList_load_mid (by rfl) 52 _ (by rfl) wr.heap.size 0 (by rfl) (deL x XA xc XB xd) _ HE5.out.cs.range Tryz.underlying52 rfl (by rw [de_size, deL_len]) ?_)
      refine (HLI.out x XA xc XB xd _ ((HIN.out.on HB.out).on HBX5.out)).mono ?_
      rintro e w6 ⟨rfl, b6⟩
      have HE6 := Lib.hid (HE5.out.on b6)
      have HBX6 := Lib.hid (bthen HBX5.out b6 (Nat.le_refl _))
      clear b6
      cases hq : deLight x with
      | true =>
        have HS2 := Lib.hid (HSX.out hq)
        have HOK := Lib.hid (de_light_Ok hq HIN.out)
        clear hq
        go_wp2_with (refine wpList_load_mid (by rfl) 52 _ (by rfl) wr.heap.size 0 (by rfl) (deL x XA xc XB xd) _ HE6.out.cs.range Tryz.underlying52 rfl (by rw [de_size, deL_len]) ?_)
        refine (to22o_any x XA xc XB xd _ HOK.out.bind.len HOK.out.bind.cap ((HOK.out.bind.row.on HB.out).on HBX6.out)).mono ?_
        rintro e w9 ⟨A8, c8, rfl, ho8, b8⟩
        have HBX9 := Lib.hid (bthen HBX6.out b8 (Nat.le_refl _))
        have HO9 := Lib.hid ho8
        have HS6 := Lib.hid HBX6.out.size
        clear ho8 b8
        obtain ⟨iD, hiD, hzD, hsD, hbD⟩ := info_parts infoRDe
        have HBXA := Lib.hid (bthen HBX9.out (rtOne w9 (.cells (deL x A8 c8 XB xd).toArray 59)) (Nat.le_refl _))
        have HOWN := Lib.hid (ownRow_on HA6.out.own HBXA.out)
        have HOA := Lib.hid (OwnPrs.on HO9.out (rtOne w9 (.cells (deL x A8 c8 XB xd).toArray 59)))
        have HNW := Lib.hid (BoxC.new (w := wr) (W := w9) HBX9.out.size (deL x A8 c8 XB xd).toArray 59)
        have HSZA := Lib.hid (show (w9.alloc (.cells (deL x A8 c8 XB xd).toArray 59)).heap.size = w9.heap.size + 1 by simp)
        go_upto_region 8 with (first
          | (refine wpList_plain (by rfl) (fun K hK => wp_buildRDe _ (by rfl) x A8 c8 XB xd (by kernel_rfl) (hK _ _ ?_)))
          | (at_builtin; refine wpList_append_lies _ (by rfl) _ _ 24 (by rfl) w.heap.size 59 iD _ 29 344 Tryz.underlying24 hiD hzD hsD hbD (by rfl) (by decide) (.slice A9 k c9) k (q.flatMap dpL) (by rfl) HOWN.out ⟨w9.heap.size, 0, none⟩ 1 1 (deL x A8 c8 XB xd) (by rfl) rfl (fun j u hj => by rw [rws_add, Nat.zero_add]; exact HNW.out.cs j u hj) (de_one _ _ _ _ _) (by omega) (by unfold maxLen; omega) (by omega) (Nat.le_trans HB.out.size HBXA.out.size) (w9.heap.size + 1) HSZA.out ?_; intro gg cap w2 hown hgrow hat hlt'; have HW := Lib.hid hown; have HG := Lib.hid hgrow; have HAT2 := Lib.hid hat; clear hown hgrow hat hlt'))
        have hne5 : ∀ a, A8 = some a → ∀ bb, (Value.slice A9 k c9).ownBlock = some bb → a.block ≠ bb := fun a ha bb hbb => by
          have h1 := (HO9.out.row.2.2 a ha).1
          have h2 := (HA6.out.own.lt bb hbb).2
          have h3 := HS6.out
          omega
        have hA7 : AlG w (.slice (some ⟨gg, 0, none⟩) (k + 1) cap) (k + 1) (q ++ [⟨x, A8, c8, XB, xd⟩]) w2 := by
          refine ⟨?_, fun p hp => ?_, fun p hp a ha bb hbb => ?_, fun p hp => ?_⟩
          · rw [List.flatMap_append, List.flatMap_singleton]; exact HW.out
          · rcases List.mem_append.1 hp with hp | hp
            · exact ownPrs_grown (OwnPrs.on (HA6.out.ok p hp) HBXA.out) HG.out (HA6.out.ne p hp)
            · obtain rfl := List.mem_singleton.1 hp
              exact ownPrs_grown (ownPrs_mono HOA.out (Nat.le_trans HB.out.size HS6.out)) HG.out hne5
          · obtain rfl : gg = bb := by simpa [Value.ownBlock] using hbb
            rcases HAT2.out with h1 | h1
            · rcases List.mem_append.1 hp with hp | hp
              · exact HA6.out.ne p hp a ha gg h1
              · obtain rfl := List.mem_singleton.1 hp
                exact hne5 a ha gg h1
            · rcases List.mem_append.1 hp with hp | hp
              · have h2 := ((HA6.out.ok p hp).row.2.2 a ha).2
                have h3 := HBX9.out.size
                omega
              · obtain rfl := List.mem_singleton.1 hp
                have h2 := (HO9.out.row.2.2 a ha).2
                omega
          · rcases List.mem_append.1 hp with hp | hp
            · exact HA6.out.de p hp
            · obtain rfl := List.mem_singleton.1 hp
              exact ⟨XA, xc, HOK.out⟩
        have HA7 := Lib.hid hA7
        have HB7 := Lib.hid ((bthen HB.out HBXA.out (Nat.le_refl _)).grown HG.out (bthen HB.out HBXA.out (Nat.le_refl _)).size (fun x hx => (HOWN.out.lt x hx).1))
        clear hA7 hne5
        go_wp2_with fail
        go_roundg (gk - 1)
        case rel => exact ⟨k + 1, by have := HK.out; omega, by go_num, q ++ [⟨x, A8, c8, XB, xd⟩], by rw [List.length_append, HQ.out]; rfl, by rw [List.map_append, HQM.out, HTK.out]; rfl, HS2.out, HA7.out, HB7.out⟩
        case measure => have := HK.out; omega
      | false =>
        have HM := Lib.hid (HNX.out hq)
        have HB6 := Lib.hid (bthen HB.out HBX6.out (Nat.le_refl _))
        clear hq
        go_wp2_with fail
        refine bodyPost_ret (v := .tuple #[.slice none 0 0, .bool false]) (by simp [results, Tryz.results7, go_sem]) rfl ?_
        exact ⟨none, 0, [], by rw [HM.out]; rfl, Nat.le_refl _, (fun h => absurd (HM.out.symm.trans h) (by simp)), Dps.nil _ _, HB6.out⟩
    · have hkn : k = n := by have := HK.out; omega
      have HM := Lib.hid (HALL.out (fun j hj => HYES.out j (by omega)))
      have HFI : Hid (q.map Dp.x = l.map Dp.x) := by
        unfold Hid
        rw [HQM.out, hkn, HN.out, List.take_length]
      subst hkn
      go_wp2_with fail
      refine bodyPost_ret (v := .tuple #[.slice A9 k c9, .bool true]) (by simp [results, Tryz.results7, go_sem]) rfl ?_
      refine ⟨A9, c9, q, by rw [HQ.out, HM.out], by rw [HQ.out]; exact HC9.out, fun _ => HFI.out, ⟨HR9.out, fun p hp => ?_⟩, HB.out⟩
      obtain ⟨A1, c1, h1⟩ := HA6.out.de p hp
      have h2 := (HA6.out.ok p hp).row
      have h3 := h1.on HB.out
      exact ⟨h3.sn, h3.st, h3.qn, h3.qd, ⟨h3.bind.shop, h3.bind.tol, h3.bind.key, h3.bind.len, h2.2.1, h3.bind.lite, h2.1⟩, h3.name, h3.mail, h3.text⟩
end Go.Proofs.YtaikigponkjkgaaGreatDoor
end
