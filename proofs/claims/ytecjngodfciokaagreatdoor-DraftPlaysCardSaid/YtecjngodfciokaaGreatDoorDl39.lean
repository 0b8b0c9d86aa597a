/-
  ANY DEEDS as the document's (law 22's All): walked. WHETHER TWO DEEDS ARE THE SAME, the document's: walked.
-/
import Derived.Test.YtecjngodfciokaaGreatDoorDl26
import Derived.Test.YtecjngodfciokaaGreatDoorDl32
import Derived.Test.YtecjngodfciokaaGreatDoorDl33
import Derived.Test.YtecjngodfciokaaGreatDoorDl37
import Derived.Test.YtecjngodfciokaaGreatDoorDl38

section
namespace Go.Proofs.YtecjngodfciokaaGreatDoor
open Go.ChangeShapes Go.WideShapes Go.ChangeAt Go.RowKit
theorem din_on {w w' : World} {A : Option Addr} {l : List Dp} (h : Din w A l) (hb : Below w.heap.size w w') : Din w' A l := ⟨Rws.on h.row hb, fun p hp => (h.in_ p hp).on hb⟩
/-- the pairs lie apart from the row -/
structure AlG (w : World) (v : Value) (k : Nat) (q : List Dp) (W : World) : Prop where
  own : W.ownsRow w.heap.size 49 29 v k (q.flatMap dpL)
  ok : ∀ p ∈ q, OwnPrs w.heap.size W p.A p.c p.x.bind.want
  ne : ∀ p ∈ q, ∀ a, p.A = some a → ∀ b, v.ownBlock = some b → a.block ≠ b
  de : ∀ p ∈ q, ∃ A c, DeOk w p.x A c p.B p.d
def lightAll (l : List Dp) : Bool := l.all fun p => deLight p.x
theorem lightAll_no {l : List Dp} {k : Nat} (hk : k < l.length) (h : deLight (l.getD k Dp0).x = false) : lightAll l = false := by
  unfold lightAll
  rw [List.all_eq_false]
  refine ⟨l[k], List.getElem_mem hk, ?_⟩
  rw [dp_get hk, h]
  simp
theorem lightAll_yes {l : List Dp} (h : ∀ j, j < l.length → deLight (l.getD j Dp0).x = true) : lightAll l = true := by
  unfold lightAll
  rw [List.all_eq_true]
  intro p hp
  obtain ⟨j, hj, rfl⟩ := List.getElem_of_mem hp
  rw [dp_get hj]
  exact h j hj
def AllPost (l : List Dp) (w : World) (e : Ending) (w' : World) : Prop := ∃ A' c' q, e = .returned (.tuple #[.slice A' q.length c', .bool (lightAll l)]) ∧ q.length ≤ c' ∧ (lightAll l = true → q.map Dp.x = l.map Dp.x) ∧ Dps w' A' q ∧ Below w.heap.size w w'
set_option maxRecDepth 100000 in
set_option maxHeartbeats 32000000 in
theorem law22All_any (l : List Dp) (A : Option Addr) (c : Nat) (w : World) (hl : l.length ≤ 100000) (hI : Din w A l) :
    Calls Tryz.prog 11 #[.slice A l.length c] w (AllPost l w) := by
  unfold AllPost
  have HI := Lib.hid hI
  have HNO := Lib.hid (fun k (hk : k < l.length) h => lightAll_no hk h)
  have HALL := Lib.hid (fun h => lightAll_yes (l := l) h)
  have HLI := Lib.hid (fun (x : De) XA xc XB xd W (h : DeIn W x XA xc XB xd) => ddLight_any x XA xc XB xd W h)
  clear hI
  generalize lightAll l = M at *
  obtain ⟨n, hn⟩ : ∃ n, n = l.length := ⟨_, rfl⟩
  rw [← hn]
  have HN := Lib.hid hn
  have hnl : n ≤ 100000 := by omega
  rw [← hn] at HALL
  clear hn hl
  go_enter Tryz.func11, Tryz.ntmps11
  go_wp2_with fail
  go_loopg [4, 9] n (fun g v i wr => ∃ k : Nat, k + g = n ∧ i = .int .i64 (k : Int) ∧ ∃ q : List Dp, q.length = k ∧ q.map Dp.x = (l.take k).map Dp.x ∧ (∀ j, j < k → deLight (l.getD j Dp0).x = true) ∧ AlG w v k q wr ∧ Below w.heap.size w wr)
  case atStart => exact ⟨0, by omega, rfl, [], rfl, by simp, fun j hj => absurd hj (by omega), ⟨World.ownsRow_nil _ _ _ _, fun p hp => by simp at hp, fun p hp => by simp at hp, fun p hp => by simp at hp⟩, Below.refl _ _⟩
  case round =>
    obtain ⟨k, hk, rfl, q, hq, hqm, hyes, hA6, hB⟩ := hrel
    obtain ⟨A9, c9, rfl, hc9, hn9, hr9, hb9⟩ := Rws.of_own hA6.own
    have HC9 := Lib.hid hc9
    have HR9 := Lib.hid hr9
    clear hc9 hn9 hr9 hb9
    have HA6 := Lib.hid hA6
    have HB := Lib.hid hB
    have HQ := Lib.hid hq
    have HQM := Lib.hid hqm
    have HYES := Lib.hid hyes
    have HK := Lib.hid hk
    clear hA6 hB hq hk hqm hyes
    by_cases hlt : k < n
    · have hkl : k < l.length := by have := HN.out; omega
      obtain ⟨b, off, rfl, hbl, hat, _⟩ := din_elt (din_on HI.out HB.out) hkl
      have hin : DeIn w (l.getD k Dp0).x (l.getD k Dp0).A (l.getD k Dp0).c (l.getD k Dp0).B (l.getD k Dp0).d := by
        obtain ⟨_, _, _, _, _, h⟩ := din_elt HI.out hkl
        exact h
      have HNX : Hid (deLight (l.getD k Dp0).x = false → M = false) := fun h => HNO.out k hkl h
      have HSX : Hid (deLight (l.getD k Dp0).x = true → ∀ j, j < k + 1 → deLight (l.getD j Dp0).x = true) := fun h j hj => by
        by_cases e : j = k
        · rw [e]; exact h
        · exact HYES.out j (by omega)
      have HTK : Hid ((l.take (k + 1)).map Dp.x = (l.take k).map Dp.x ++ [(l.getD k Dp0).x]) := by
        unfold Hid
        rw [← List.take_append_getElem hkl, List.map_append, List.map_singleton, dp_get hkl]
      generalize hpk : l.getD k Dp0 = p at hat hin HNX HSX HTK
      clear hpk
      obtain ⟨x, XA, xc, XB, xd⟩ := p
      dsimp only at hin HTK HNX HSX
      have HAT := Lib.hid (show wr.rangeAt b (off + k * 29) (deL x XA xc XB xd) from hat)
      have HIN := Lib.hid hin
      clear hat hin
      have hki : (k : Int) < (n : Int) := by omega
      have HE5 := Lib.hid (BoxC.new (w := wr) (W := wr) (Nat.le_refl _) (deL x XA xc XB xd).toArray 39)
      have HBX5 := Lib.hid (rtOne wr (.cells (deL x XA xc XB xd).toArray 39))
      go_upto_region 5 with (first
        | (refine wpList_load_mid (by rfl) 39 _ (by rfl) b (off + k * 29) (by rfl) (deL x XA xc XB xd) _ HAT.out Tryz.underlying39 rfl (by rw [de_size, deL_len]) ?_)
        | (refine wpList_store_new2 (by rfl) 39 _ _ (by rfl) _ (deL x XA xc XB xd).toArray (by rfl) (by rfl) (by rw [de_size]; rfl) (by rfl) (de_all _ _ _ _ _) ?_))
      generalize wr.alloc (.cells (deL x XA xc XB xd).toArray 39) = W5 at *
      go_wp2_with (refine wpList_load_mid (by rfl) 39 _ (by rfl) wr.heap.size 0 (by rfl) (deL x XA xc XB xd) _ HE5.out.cs.range Tryz.underlying39 rfl (by rw [de_size, deL_len]) ?_)
      refine (HLI.out x XA xc XB xd _ ((HIN.out.on HB.out).on HBX5.out)).mono ?_
      rintro e w6 ⟨rfl, b6⟩
      have HE6 := Lib.hid (HE5.out.on b6)
      have HBX6 := Lib.hid (bthen HBX5.out b6 (Nat.le_refl _))
      clear b6
      cases hq : deLight x with
      | true =>
        have HS2 := Lib.hid (HSX.out hq)
        have HOK := Lib.hid (de_light_Ok hq HIN.out)
        clear hq
        go_wp2_with (refine wpList_load_mid (by rfl) 39 _ (by rfl) wr.heap.size 0 (by rfl) (deL x XA xc XB xd) _ HE6.out.cs.range Tryz.underlying39 rfl (by rw [de_size, deL_len]) ?_)
        refine (to22o_any x XA xc XB xd _ HOK.out.bind.len HOK.out.bind.cap ((HOK.out.bind.row.on HB.out).on HBX6.out)).mono ?_
        rintro e w9 ⟨A8, c8, rfl, ho8, b8⟩
        have HBX9 := Lib.hid (bthen HBX6.out b8 (Nat.le_refl _))
        have HO9 := Lib.hid ho8
        have HS6 := Lib.hid HBX6.out.size
        clear ho8 b8
        obtain ⟨iD, hiD, hzD, hsD, hbD⟩ := info_parts infoRDe
        have HBXA := Lib.hid (bthen HBX9.out (rtOne w9 (.cells (deL x A8 c8 XB xd).toArray 49)) (Nat.le_refl _))
        have HOWN := Lib.hid (ownRow_on HA6.out.own HBXA.out)
        have HOA := Lib.hid (OwnPrs.on HO9.out (rtOne w9 (.cells (deL x A8 c8 XB xd).toArray 49)))
        have HNW := Lib.hid (BoxC.new (w := wr) (W := w9) HBX9.out.size (deL x A8 c8 XB xd).toArray 49)
        have HSZA := Lib.hid (show (w9.alloc (.cells (deL x A8 c8 XB xd).toArray 49)).heap.size = w9.heap.size + 1 by simp)
        go_upto_region 8 with (first
          | (refine wpList_plain (by rfl) (fun K hK => wp_buildRDe _ (by rfl) x A8 c8 XB xd (by kernel_rfl) (hK _ _ ?_)))
          | (at_builtin; refine wpList_append_lies _ (by rfl) _ _ 28 (by rfl) w.heap.size 49 iD _ 29 344 Tryz.underlying28 hiD hzD hsD hbD (by rfl) (by decide) (.slice A9 k c9) k (q.flatMap dpL) (by rfl) HOWN.out ⟨w9.heap.size, 0, none⟩ 1 1 (deL x A8 c8 XB xd) (by rfl) rfl (fun j u hj => by rw [rws_add, Nat.zero_add]; exact HNW.out.cs j u hj) (de_one _ _ _ _ _) (by omega) (by unfold maxLen; omega) (by omega) (Nat.le_trans HB.out.size HBXA.out.size) (w9.heap.size + 1) HSZA.out ?_; intro gg cap w2 hown hgrow hat hlt'; have HW := Lib.hid hown; have HG := Lib.hid hgrow; have HAT2 := Lib.hid hat; clear hown hgrow hat hlt'))
        have hne5 : ∀ a, A8 = some a → ∀ bb, (Value.slice A9 k c9).ownBlock = some bb → a.block ≠ bb := fun a ha bb hbb => by
          have h1 := (HO9.out.row.2.2 a ha).1
          have h2 := (HA6.out.own.lt bb hbb).2
          have h3 := HS6.out
          omega
        have hA7 : AlG w (.slice (some ⟨gg, 0, none⟩) (k + 1) cap) (k + 1) (q ++ [⟨x, A8, c8, XB, xd⟩]) w2 := by
          refine ⟨?_, fun p hp => ?_, fun p hp a ha bb hbb => ?_, fun p hp => ?_⟩
          · rw [List.flatMap_append, List.flatMap_singleton]; exact HW.out
          · rcases List.mem_append.1 hp with hp | hp
            · exact ownPrs_grown (OwnPrs.on (HA6.out.ok p hp) HBXA.out) HG.out (HA6.out.ne p hp)
            · obtain rfl := List.mem_singleton.1 hp
              exact ownPrs_grown (ownPrs_mono HOA.out (Nat.le_trans HB.out.size HS6.out)) HG.out hne5
          · obtain rfl : gg = bb := by simpa [Value.ownBlock] using hbb
            rcases HAT2.out with h1 | h1
            · rcases List.mem_append.1 hp with hp | hp
              · exact HA6.out.ne p hp a ha gg h1
              · obtain rfl := List.mem_singleton.1 hp
                exact hne5 a ha gg h1
            · rcases List.mem_append.1 hp with hp | hp
              · have h2 := ((HA6.out.ok p hp).row.2.2 a ha).2
                have h3 := HBX9.out.size
                omega
              · obtain rfl := List.mem_singleton.1 hp
                have h2 := (HO9.out.row.2.2 a ha).2
                omega
          · rcases List.mem_append.1 hp with hp | hp
            · exact HA6.out.de p hp
            · obtain rfl := List.mem_singleton.1 hp
              exact ⟨XA, xc, HOK.out⟩
        have HA7 := Lib.hid hA7
        have HB7 := Lib.hid ((bthen HB.out HBXA.out (Nat.le_refl _)).grown HG.out (bthen HB.out HBXA.out (Nat.le_refl _)).size (fun x hx => (HOWN.out.lt x hx).1))
        clear hA7 hne5
        go_wp2_with fail
        go_roundg (gk - 1)
        case rel => exact ⟨k + 1, by have := HK.out; omega, by go_num, q ++ [⟨x, A8, c8, XB, xd⟩], by rw [List.length_append, HQ.out]; rfl, by rw [List.map_append, HQM.out, HTK.out]; rfl, HS2.out, HA7.out, HB7.out⟩
        case measure => have := HK.out; omega
      | false =>
        have HM := Lib.hid (HNX.out hq)
        have HB6 := Lib.hid (bthen HB.out HBX6.out (Nat.le_refl _))
        clear hq
        go_wp2_with fail
        refine bodyPost_ret (v := .tuple #[.slice none 0 0, .bool false]) (by simp [results, Tryz.results11, go_sem]) rfl ?_
        exact ⟨none, 0, [], by rw [HM.out]; rfl, Nat.le_refl _, (fun h => absurd (HM.out.symm.trans h) (by simp)), Dps.nil _ _, HB6.out⟩
    · have hkn : k = n := by have := HK.out; omega
      have HM := Lib.hid (HALL.out (fun j hj => HYES.out j (by omega)))
      have HFI : Hid (q.map Dp.x = l.map Dp.x) := by
        unfold Hid
        rw [HQM.out, hkn, HN.out, List.take_length]
      subst hkn
      go_wp2_with fail
      refine bodyPost_ret (v := .tuple #[.slice A9 k c9, .bool true]) (by simp [results, Tryz.results11, go_sem]) rfl ?_
      refine ⟨A9, c9, q, by rw [HQ.out, HM.out], by rw [HQ.out]; exact HC9.out, fun _ => HFI.out, ⟨HR9.out, fun p hp => ?_⟩, HB.out⟩
      obtain ⟨A1, c1, h1⟩ := HA6.out.de p hp
      have h2 := (HA6.out.ok p hp).row
      have h3 := h1.on HB.out
      exact ⟨h3.sn, h3.st, h3.qn, h3.qd, ⟨h3.bind.shop, h3.bind.tol, h3.bind.key, h3.bind.len, h2.2.1, h3.bind.lite, h2.1⟩, h3.name, h3.mail, h3.text⟩
end Go.Proofs.YtecjngodfciokaaGreatDoor
end
section
namespace Go.Proofs.YtecjngodfciokaaGreatDoor
open Go.ChangeShapes Go.WideShapes Go.ChangeAt Go.RowKit
theorem guardRQu : Tryz.prog.eqGuardType Tryz.prog.depth 46 = false := by kernel_rfl
theorem stoodRQu : Tryz.prog.stoodInHeld 46 = false := by kernel_rfl
theorem fieldsRQu : Tryz.prog.fieldsOf 46 = #[⟨"Name", 9, 0, false, "", "", 0⟩, ⟨"Most", 23, 1, false, "", "", 16⟩, ⟨"Life", 23, 2, false, "", "", 24⟩, ⟨"Dead", 9, 3, false, "", "", 32⟩] := by kernel_rfl
theorem rqu_eql (a : ByteArray) (b c : Int) (d : ByteArray) (a' : ByteArray) (b' c' : Int) (d' : ByteArray) (W : World) : (Op.equalIn 10000 46 (.agg #[.string a, .int .u64 b, .int .u64 c, .string d]) (.agg #[.string a', .int .u64 b', .int .u64 c', .string d'])).run Tryz.prog W = .ok ((a.toList == a'.toList) && (b == b') && (c == c') && (d.toList == d'.toList)) W := by
  rw [run_equalIn_agg (ht := by kernel_rfl) (hp := stoodRQu), fieldsRQu]
  simp [Op.eqFields, go_sem, Tryz.underlying23, Tryz.underlying9]
  by_cases h1 : a.toList = a'.toList <;> by_cases h2 : b = b' <;> by_cases h3 : c = c' <;> by_cases h4 : d.toList = d'.toList <;> simp [h1, h2, h3, h4]
theorem rqu_eq (x y : Qu) (W : World) : (Op.equalIn 10000 46 (.agg #[.string (ofL x.name), .int .u64 (x.most : Int), .int .u64 (x.life : Int), .string (ofL x.dead)]) (.agg #[.string (ofL y.name), .int .u64 (y.most : Int), .int .u64 (y.life : Int), .string (ofL y.dead)])).run Tryz.prog W = .ok (decide (x = y)) W := by
  rw [← quEq_dec, show quEq x y = (((ofL x.name).toList == (ofL y.name).toList) && ((x.most : Int) == (y.most : Int)) && ((x.life : Int) == (y.life : Int)) && ((ofL x.dead).toList == (ofL y.dead).toList)) by rw [str_same, str_same, cast_beq, cast_beq]; rfl]
  exact rqu_eql _ _ _ _ _ _ _ _ W
theorem rbind_dec (x y : Bd) (A : Option Addr) (c : Nat) (B : Option Addr) (d : Nat) (w : World) (hl : x.want.length ≤ 100000) (hm : y.want.length ≤ 100000) (hA : Prs w A x.want) (hB : Prs w B y.want) :
    Calls Tryz.prog 50 #[bdV x A c, bdV y B d] w fun e w' => e = .returned (.bool (decide (x = y))) ∧ Below w.heap.size w w' := by
  have h := r14SameBind_any x y A c B d w hl hm hA hB
  rwa [bdEq_dec] at h
theorem rmail_dec (x y : Ml) (A : Option Addr) (c : Nat) (B : Option Addr) (d : Nat) (w : World) (hl : x.head.length ≤ 100000) (hm : y.head.length ≤ 100000) (hA : Prs w A x.head) (hB : Prs w B y.head) :
    Calls Tryz.prog 51 #[maV x A c, maV y B d] w fun e w' => e = .returned (.bool (decide (x = y))) ∧ Below w.heap.size w w' := by
  have h := r13Same_any x y A c B d w hl hm hA hB
  rwa [maEq_decD] at h
attribute [local go_sem] guardRSh guardRQu
set_option maxRecDepth 100000 in
set_option maxHeartbeats 16000000 in
theorem r22Same_any0 (x y : De) (A : Option Addr) (c : Nat) (B : Option Addr) (d : Nat) (C : Option Addr) (e : Nat) (D : Option Addr) (f : Nat) (w : World) (hl : x.bind.want.length ≤ 100000) (hm : y.bind.want.length ≤ 100000) (hn : x.mail.head.length ≤ 100000) (ho : y.mail.head.length ≤ 100000) (hA : Prs w A x.bind.want) (hB : Prs w B x.mail.head) (hC : Prs w C y.bind.want) (hD : Prs w D y.mail.head) :
    Calls Tryz.prog 32 #[deV x A c B d, deV y C e D f] w fun r w' => r = .returned (.bool (deEqR x y)) ∧ Below w.heap.size w w' := by
  have HB0 := Lib.hid (rtTwo w (.cells #[.int .u8 (x.kd : Int), .int .u64 (x.tick : Int), .string (ofL x.shop.name), .int .u8 (x.shop.sort : Int), .string (ofL x.shop.to), .string (ofL x.q.name), .int .u64 (x.q.most : Int), .int .u64 (x.q.life : Int), .string (ofL x.q.dead), .string (ofL x.bind.shop), .string (ofL x.bind.to), .bool x.bind.up, .string (ofL x.bind.key), .slice A x.bind.want.length c, .bool x.bind.all, .string (ofL x.name), .int .u64 (x.id : Int), .int .u8 (x.how : Int), .int .u8 (x.frm : Int), .int .u8 (x.cd : Int), .int .u64 (x.num : Int), .int .u64 (x.mail.id : Int), .string (ofL x.mail.shop), .string (ofL x.mail.key), .slice B x.mail.head.length d, .string (ofL x.mail.body), .int .u64 (x.mail.due : Int), .int .u8 (x.mail.hops : Int), .string (ofL x.text)] 49) (.cells #[.int .u8 (y.kd : Int), .int .u64 (y.tick : Int), .string (ofL y.shop.name), .int .u8 (y.shop.sort : Int), .string (ofL y.shop.to), .string (ofL y.q.name), .int .u64 (y.q.most : Int), .int .u64 (y.q.life : Int), .string (ofL y.q.dead), .string (ofL y.bind.shop), .string (ofL y.bind.to), .bool y.bind.up, .string (ofL y.bind.key), .slice C y.bind.want.length e, .bool y.bind.all, .string (ofL y.name), .int .u64 (y.id : Int), .int .u8 (y.how : Int), .int .u8 (y.frm : Int), .int .u8 (y.cd : Int), .int .u64 (y.num : Int), .int .u64 (y.mail.id : Int), .string (ofL y.mail.shop), .string (ofL y.mail.key), .slice D y.mail.head.length f, .string (ofL y.mail.body), .int .u64 (y.mail.due : Int), .int .u8 (y.mail.hops : Int), .string (ofL y.text)] 49))
  have HXP := Lib.hid ((DeX.start w x A c B d hA hB 49).on (rtOne _ (.cells #[.int .u8 (y.kd : Int), .int .u64 (y.tick : Int), .string (ofL y.shop.name), .int .u8 (y.shop.sort : Int), .string (ofL y.shop.to), .string (ofL y.q.name), .int .u64 (y.q.most : Int), .int .u64 (y.q.life : Int), .string (ofL y.q.dead), .string (ofL y.bind.shop), .string (ofL y.bind.to), .bool y.bind.up, .string (ofL y.bind.key), .slice C y.bind.want.length e, .bool y.bind.all, .string (ofL y.name), .int .u64 (y.id : Int), .int .u8 (y.how : Int), .int .u8 (y.frm : Int), .int .u8 (y.cd : Int), .int .u64 (y.num : Int), .int .u64 (y.mail.id : Int), .string (ofL y.mail.shop), .string (ofL y.mail.key), .slice D y.mail.head.length f, .string (ofL y.mail.body), .int .u64 (y.mail.due : Int), .int .u8 (y.mail.hops : Int), .string (ofL y.text)] 49)))
  have HYP := Lib.hid (DeX.next (w := w) (.cells #[.int .u8 (x.kd : Int), .int .u64 (x.tick : Int), .string (ofL x.shop.name), .int .u8 (x.shop.sort : Int), .string (ofL x.shop.to), .string (ofL x.q.name), .int .u64 (x.q.most : Int), .int .u64 (x.q.life : Int), .string (ofL x.q.dead), .string (ofL x.bind.shop), .string (ofL x.bind.to), .bool x.bind.up, .string (ofL x.bind.key), .slice A x.bind.want.length c, .bool x.bind.all, .string (ofL x.name), .int .u64 (x.id : Int), .int .u8 (x.how : Int), .int .u8 (x.frm : Int), .int .u8 (x.cd : Int), .int .u64 (x.num : Int), .int .u64 (x.mail.id : Int), .string (ofL x.mail.shop), .string (ofL x.mail.key), .slice B x.mail.head.length d, .string (ofL x.mail.body), .int .u64 (x.mail.due : Int), .int .u8 (x.mail.hops : Int), .string (ofL x.text)] 49) y C e D f hC hD 49)
  have HBC := Lib.hid (fun W h1 h2 => rbind_dec x.bind y.bind A c C e W hl hm h1 h2)
  have HMC := Lib.hid (fun W h1 h2 => rmail_dec x.mail y.mail B d D f W hn ho h1 h2)
  skip
  have HX : Hid (deEqR x y = ((x.kd == y.kd) && ((x.tick == y.tick) && (decide (x.shop = y.shop) && (decide (x.q = y.q) && ((x.name == y.name) && ((x.id == y.id) && ((x.how == y.how) && ((x.frm == y.frm) && ((x.cd == y.cd) && ((x.num == y.num) && ((x.text == y.text) && (decide (x.bind = y.bind) && (decide (x.mail = y.mail))))))))))))))) := rfl
  have HQS := fun W => rsh_eq x.shop y.shop W
  have HQQ := fun W => rqu_eq x.q y.q W
  clear hA hB hC hD
  generalize deEqR x y = SB at *
  generalize decide (x.bind = y.bind) = M at *
  generalize decide (x.mail = y.mail) = M2 at *
  generalize decide (x.shop = y.shop) = M3 at *
  generalize decide (x.q = y.q) = M4 at *
  simp only [deV, bdV, maV] at *
  have h0 := cast_beq x.kd y.kd
  cases e0 : (x.kd == y.kd) with
  | false =>
    rw [e0] at h0
    have n0 : ((x.kd : Int) != (y.kd : Int)) = true := by rw [bne, h0]; rfl
    go_enter Tryz.func32, Tryz.ntmps32
    go_wp2_with fail
    go_ret
    exact ⟨ret_bool (by rw [HX.out, e0]; simp), HB0.out⟩
  | true =>
    rw [e0] at h0
    have n0 : ((x.kd : Int) != (y.kd : Int)) = false := by rw [bne, h0]; rfl
    have h1 := cast_beq x.tick y.tick
    cases e1 : (x.tick == y.tick) with
    | false =>
      rw [e1] at h1
      have n1 : ((x.tick : Int) != (y.tick : Int)) = true := by rw [bne, h1]; rfl
      go_enter Tryz.func32, Tryz.ntmps32
      go_wp2_with fail
      go_ret
      exact ⟨ret_bool (by rw [HX.out, e0, e1]; simp), HB0.out⟩
    | true =>
      rw [e1] at h1
      have n1 : ((x.tick : Int) != (y.tick : Int)) = false := by rw [bne, h1]; rfl
      cases e2 : M3 with
      | false =>
        rw [e2] at HQS
        go_enter Tryz.func32, Tryz.ntmps32
        go_wp2_with fail
        go_ret
        exact ⟨ret_bool (by rw [HX.out, e0, e1, e2]; simp), HB0.out⟩
      | true =>
        rw [e2] at HQS
        cases e3 : M4 with
        | false =>
          rw [e3] at HQQ
          go_enter Tryz.func32, Tryz.ntmps32
          go_wp2_with fail
          go_ret
          exact ⟨ret_bool (by rw [HX.out, e0, e1, e2, e3]; simp), HB0.out⟩
        | true =>
          rw [e3] at HQQ
          have h4 := str_same x.name y.name
          cases e4 : (x.name == y.name) with
          | false =>
            rw [e4] at h4
            have n4 : ((ofL x.name).toList != (ofL y.name).toList) = true := by rw [bne, h4]; rfl
            go_enter Tryz.func32, Tryz.ntmps32
            go_wp2_with fail
            go_ret
            exact ⟨ret_bool (by rw [HX.out, e0, e1, e2, e3, e4]; simp), HB0.out⟩
          | true =>
            rw [e4] at h4
            have n4 : ((ofL x.name).toList != (ofL y.name).toList) = false := by rw [bne, h4]; rfl
            have h5 := cast_beq x.id y.id
            cases e5 : (x.id == y.id) with
            | false =>
              rw [e5] at h5
              have n5 : ((x.id : Int) != (y.id : Int)) = true := by rw [bne, h5]; rfl
              go_enter Tryz.func32, Tryz.ntmps32
              go_wp2_with fail
              go_ret
              exact ⟨ret_bool (by rw [HX.out, e0, e1, e2, e3, e4, e5]; simp), HB0.out⟩
            | true =>
              rw [e5] at h5
              have n5 : ((x.id : Int) != (y.id : Int)) = false := by rw [bne, h5]; rfl
              have h6 := cast_beq x.how y.how
              cases e6 : (x.how == y.how) with
              | false =>
                rw [e6] at h6
                have n6 : ((x.how : Int) != (y.how : Int)) = true := by rw [bne, h6]; rfl
                go_enter Tryz.func32, Tryz.ntmps32
                go_wp2_with fail
                go_ret
                exact ⟨ret_bool (by rw [HX.out, e0, e1, e2, e3, e4, e5, e6]; simp), HB0.out⟩
              | true =>
                rw [e6] at h6
                have n6 : ((x.how : Int) != (y.how : Int)) = false := by rw [bne, h6]; rfl
                have h7 := cast_beq x.frm y.frm
                cases e7 : (x.frm == y.frm) with
                | false =>
                  rw [e7] at h7
                  have n7 : ((x.frm : Int) != (y.frm : Int)) = true := by rw [bne, h7]; rfl
                  go_enter Tryz.func32, Tryz.ntmps32
                  go_wp2_with fail
                  go_ret
                  exact ⟨ret_bool (by rw [HX.out, e0, e1, e2, e3, e4, e5, e6, e7]; simp), HB0.out⟩
                | true =>
                  rw [e7] at h7
                  have n7 : ((x.frm : Int) != (y.frm : Int)) = false := by rw [bne, h7]; rfl
                  have h8 := cast_beq x.cd y.cd
                  cases e8 : (x.cd == y.cd) with
                  | false =>
                    rw [e8] at h8
                    have n8 : ((x.cd : Int) != (y.cd : Int)) = true := by rw [bne, h8]; rfl
                    go_enter Tryz.func32, Tryz.ntmps32
                    go_wp2_with fail
                    go_ret
                    exact ⟨ret_bool (by rw [HX.out, e0, e1, e2, e3, e4, e5, e6, e7, e8]; simp), HB0.out⟩
                  | true =>
                    rw [e8] at h8
                    have n8 : ((x.cd : Int) != (y.cd : Int)) = false := by rw [bne, h8]; rfl
                    have h9 := cast_beq x.num y.num
                    cases e9 : (x.num == y.num) with
                    | false =>
                      rw [e9] at h9
                      have n9 : ((x.num : Int) != (y.num : Int)) = true := by rw [bne, h9]; rfl
                      go_enter Tryz.func32, Tryz.ntmps32
                      go_wp2_with fail
                      go_ret
                      exact ⟨ret_bool (by rw [HX.out, e0, e1, e2, e3, e4, e5, e6, e7, e8, e9]; simp), HB0.out⟩
                    | true =>
                      rw [e9] at h9
                      have n9 : ((x.num : Int) != (y.num : Int)) = false := by rw [bne, h9]; rfl
                      have h10 := str_same x.text y.text
                      cases e10 : (x.text == y.text) with
                      | false =>
                        rw [e10] at h10
                        have n10 : ((ofL x.text).toList != (ofL y.text).toList) = true := by rw [bne, h10]; rfl
                        go_enter Tryz.func32, Tryz.ntmps32
                        go_wp2_with fail
                        go_ret
                        exact ⟨ret_bool (by rw [HX.out, e0, e1, e2, e3, e4, e5, e6, e7, e8, e9, e10]; simp), HB0.out⟩
                      | true =>
                        rw [e10] at h10
                        have n10 : ((ofL x.text).toList != (ofL y.text).toList) = false := by rw [bne, h10]; rfl
                        cases e11 : M with
                        | false =>
                          rw [e11] at HBC
                          go_enter Tryz.func32, Tryz.ntmps32
                          go_wp2_with fail
                          refine (HBC.out _ HXP.out.ra HYP.out.ra).mono ?_
                          rintro r w1 ⟨rfl, b1⟩
                          have HB1 := Lib.hid (bthen HB0.out b1 (Nat.le_refl _))
                          have HXP1 := Lib.hid (HXP.out.on b1)
                          have HYP1 := Lib.hid (HYP.out.on b1)
                          have lp := HXP1.out.p.lt
                          have lq := HYP1.out.p.lt
                          have c21 := HXP1.out.p.cs 21 _ rfl
                          have d21 := HYP1.out.p.cs 21 _ rfl
                          have c22 := HXP1.out.p.cs 22 _ rfl
                          have d22 := HYP1.out.p.cs 22 _ rfl
                          have c23 := HXP1.out.p.cs 23 _ rfl
                          have d23 := HYP1.out.p.cs 23 _ rfl
                          have c24 := HXP1.out.p.cs 24 _ rfl
                          have d24 := HYP1.out.p.cs 24 _ rfl
                          have c25 := HXP1.out.p.cs 25 _ rfl
                          have d25 := HYP1.out.p.cs 25 _ rfl
                          have c26 := HXP1.out.p.cs 26 _ rfl
                          have d26 := HYP1.out.p.cs 26 _ rfl
                          have c27 := HXP1.out.p.cs 27 _ rfl
                          have d27 := HYP1.out.p.cs 27 _ rfl
                          clear b1
                          go_wp2_with fail
                          go_ret
                          exact ⟨ret_bool (by rw [HX.out, e0, e1, e2, e3, e4, e5, e6, e7, e8, e9, e10, e11]; simp), HB1.out⟩
                        | true =>
                          rw [e11] at HBC
                          go_enter Tryz.func32, Tryz.ntmps32
                          go_wp2_with fail
                          refine (HBC.out _ HXP.out.ra HYP.out.ra).mono ?_
                          rintro r w1 ⟨rfl, b1⟩
                          have HB1 := Lib.hid (bthen HB0.out b1 (Nat.le_refl _))
                          have HXP1 := Lib.hid (HXP.out.on b1)
                          have HYP1 := Lib.hid (HYP.out.on b1)
                          have lp := HXP1.out.p.lt
                          have lq := HYP1.out.p.lt
                          have c21 := HXP1.out.p.cs 21 _ rfl
                          have d21 := HYP1.out.p.cs 21 _ rfl
                          have c22 := HXP1.out.p.cs 22 _ rfl
                          have d22 := HYP1.out.p.cs 22 _ rfl
                          have c23 := HXP1.out.p.cs 23 _ rfl
                          have d23 := HYP1.out.p.cs 23 _ rfl
                          have c24 := HXP1.out.p.cs 24 _ rfl
                          have d24 := HYP1.out.p.cs 24 _ rfl
                          have c25 := HXP1.out.p.cs 25 _ rfl
                          have d25 := HYP1.out.p.cs 25 _ rfl
                          have c26 := HXP1.out.p.cs 26 _ rfl
                          have d26 := HYP1.out.p.cs 26 _ rfl
                          have c27 := HXP1.out.p.cs 27 _ rfl
                          have d27 := HYP1.out.p.cs 27 _ rfl
                          clear b1
                          go_wp2_with fail
                          refine (HMC.out _ HXP1.out.rb HYP1.out.rb).mono ?_
                          rintro r w2 ⟨rfl, b2⟩
                          have HB2 := Lib.hid (bthen HB1.out b2 (Nat.le_refl _))
                          have HXP2 := Lib.hid (HXP1.out.on b2)
                          have HYP2 := Lib.hid (HYP1.out.on b2)
                          clear lp lq c21 d21 c22 d22 c23 d23 c24 d24 c25 d25 c26 d26 c27 d27
                          clear b2
                          go_wp2_with fail
                          go_ret
                          exact ⟨ret_bool (by rw [HX.out, e0, e1, e2, e3, e4, e5, e6, e7, e8, e9, e10, e11]; simp), HB2.out⟩
theorem r22Same_any (x y : De) (A : Option Addr) (c : Nat) (B : Option Addr) (d : Nat) (C : Option Addr) (e : Nat) (D : Option Addr) (f : Nat) (w : World) (hl : x.bind.want.length ≤ 100000) (hm : y.bind.want.length ≤ 100000) (hn : x.mail.head.length ≤ 100000) (ho : y.mail.head.length ≤ 100000) (hA : Prs w A x.bind.want) (hB : Prs w B x.mail.head) (hC : Prs w C y.bind.want) (hD : Prs w D y.mail.head) :
    Calls Tryz.prog 32 #[deV x A c B d, deV y C e D f] w fun r w' => r = .returned (.bool (decide (x = y))) ∧ Below w.heap.size w w' := by
  have h := r22Same_any0 x y A c B d C e D f w hl hm hn ho hA hB hC hD
  rwa [deEqR_dec] at h
end Go.Proofs.YtecjngodfciokaaGreatDoor
end
