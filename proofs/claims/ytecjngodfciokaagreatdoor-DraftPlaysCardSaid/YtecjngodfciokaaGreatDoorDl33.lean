/-
  ALL OF THE DOCUMENT'S DRAFT AT A TICK: walked. WHICH MESSAGES ARE GONE THROUGH: walked.
-/
import Derived.Test.YtecjngodfciokaaGreatDoorDl08
import Derived.Test.YtecjngodfciokaaGreatDoorDl18
import Derived.Test.YtecjngodfciokaaGreatDoorDl32

section
namespace Go.Proofs.YtecjngodfciokaaGreatDoor
open Go.ChangeShapes Go.WideShapes Go.ChangeAt Go.RowKit
theorem infoRDe : (Tryz.prog.info? 49).map (fun i => (i.zero, i.size, i.bytes)) = some (some (.agg #[.int .u8 0, .int .u64 0, .string ⟨#[]⟩, .int .u8 0, .string ⟨#[]⟩, .string ⟨#[]⟩, .int .u64 0, .int .u64 0, .string ⟨#[]⟩, .string ⟨#[]⟩, .string ⟨#[]⟩, .bool false, .string ⟨#[]⟩, .slice none 0 0, .bool false, .string ⟨#[]⟩, .int .u64 0, .int .u8 0, .int .u8 0, .int .u8 0, .int .u64 0, .int .u64 0, .string ⟨#[]⟩, .string ⟨#[]⟩, .slice none 0 0, .string ⟨#[]⟩, .int .u64 0, .int .u8 0, .string ⟨#[]⟩]), 29, 344) := by kernel_rfl
theorem wp_buildRDe {o : Oper} {a : Act} {w : World} {K : Act → World → Prop} {Q : Exit → Act → World → Prop} (parts : Array (Nat × Operand)) (ho : o.op = .buildSlice 28 1 parts) (x : De) (A : Option Addr) (c : Nat) (B : Option Addr) (d : Nat)
    (hp : (parts.map fun (i, y) => (i, a.eval y)).toList = [(0, deV x A c B d)]) (h : K (a.put o.dst (.slice (some ⟨w.heap.size, 0, none⟩) 1 1)) (w.alloc (.cells (deL x A c B d).toArray 49))) : o.wp Tryz.prog a w K Q := by
  obtain ⟨i, hi, hz, hs, hb⟩ := info_parts infoRDe
  refine wp_buildSlice 28 49 1 parts ho (deL x A c B d).toArray i _ Tryz.underlying28 hi hz (by rw [hs]; decide) (by rw [hs]; decide) ?_ h
  rw [hs, hp]
  exact fill29 x A c B d

def rat6 (T : Nat) (x : De) : De := { x with tick := T, mail := due T x.mail }
def rat8 (T : Nat) (x : De) : De := { x with tick := T }
def rat1 (T : Nat) (x : De) : De := if x.kd = 6 then rat6 T x else rat8 T x
theorem rat1_ok {w : World} {x : De} {A : Option Addr} {c : Nat} {B : Option Addr} {d : Nat} (T : Nat) (h : DeOk w x A c B d) : DeOk w (rat1 T x) A c B d := by
  unfold rat1
  split
  · exact ⟨h.sn, h.st, h.qn, h.qd, h.bind, h.name, ⟨h.mail.shop, h.mail.key, h.mail.body, h.mail.len, h.mail.cap, h.mail.lite, h.mail.row⟩, h.text⟩
  · exact ⟨h.sn, h.st, h.qn, h.qd, h.bind, h.name, h.mail, h.text⟩
structure AtR (T : Nat) (w : World) (v : Value) (k : Nat) (q : List Dp) (W : World) : Prop where
  own : W.ownsRow w.heap.size 49 29 v k (q.flatMap dpL)
  de : ∀ p ∈ q, ∃ x, DeOk w x p.A p.c p.B p.d ∧ p.x = rat1 T x
def AtRPost (T : Nat) (l : List Dp) (w : World) (e : Ending) (w' : World) : Prop := ∃ A' c' q, e = .returned (.slice A' q.length c') ∧ q.length ≤ c' ∧ q.map Dp.x = (l.map Dp.x).map (rat1 T) ∧ Dps w' A' q ∧ Below w.heap.size w w'
set_option maxRecDepth 100000 in
set_option maxHeartbeats 32000000 in
theorem r26At_any (T : Nat) (A : Option Addr) (c : Nat) (l : List Dp) (w : World) (hD : Dps w A l) (hl : l.length ≤ 16) (hT : T < 18446744073709551616) (hd : ∀ p ∈ l, p.x.mail.due < 18446744073709551616) :
    Calls Tryz.prog 14 #[.slice A l.length c, .int .u64 (T : Int)] w (AtRPost T l w) := by
  have HD := Lib.hid hD
  have HL16 := Lib.hid hl
  have HDUE := Lib.hid hd
  have HTT := Lib.hid hT
  clear hD hl hT hd
  obtain ⟨n, hn⟩ : ∃ n, n = l.length := ⟨_, rfl⟩
  rw [← hn]
  have HN := Lib.hid hn
  have hn16 : n ≤ 16 := by have := HL16.out; omega
  clear hn
  go_enter Tryz.func14, Tryz.ntmps14
  go_wp2_with fail
  go_loopg [5, 10] n (fun g v i wr => ∃ k : Nat, k + g = n ∧ i = .int .i64 (k : Int) ∧ ∃ q : List Dp, q.length = k ∧ q.map Dp.x = ((l.take k).map Dp.x).map (rat1 T) ∧ AtR T w v k q wr ∧ Below w.heap.size w wr)
  case atStart => exact ⟨0, by omega, rfl, [], rfl, by simp, ⟨World.ownsRow_nil _ _ _ _, fun p hp => by simp at hp⟩, Below.refl _ _⟩
  case round =>
    obtain ⟨k, hk, rfl, q, hq, hqm, hA6, hB⟩ := hrel
    obtain ⟨A9, c9, rfl, hc9, hn9, hr9, hb9⟩ := Rws.of_own hA6.own
    have HC9 := Lib.hid hc9
    have HR9 := Lib.hid hr9
    clear hc9 hn9 hr9 hb9
    have HA6 := Lib.hid hA6
    have HB := Lib.hid hB
    have HQ := Lib.hid hq
    have HQM := Lib.hid hqm
    have HK := Lib.hid hk
    clear hA6 hB hq hk hqm
    by_cases hlt : k < n
    · have hkl : k < l.length := by have := HN.out; omega
      obtain ⟨b, off, rfl, hbl, hat, _⟩ := dps_elt (HD.out.on HB.out) hkl
      have hok : DeOk w (l.getD k Dp0).x (l.getD k Dp0).A (l.getD k Dp0).c (l.getD k Dp0).B (l.getD k Dp0).d := by
        obtain ⟨_, _, _, _, _, h⟩ := dps_elt HD.out hkl
        exact h
      have hdue : (l.getD k Dp0).x.mail.due < 18446744073709551616 := by
        rw [← dp_get hkl]
        exact HDUE.out _ (List.getElem_mem hkl)
      have HTK : Hid ((l.take (k + 1)).map Dp.x = (l.take k).map Dp.x ++ [(l.getD k Dp0).x]) := by
        unfold Hid
        rw [← List.take_append_getElem hkl, List.map_append, List.map_singleton, dp_get hkl]
      generalize l.getD k Dp0 = p at *
      obtain ⟨x, XA, xc, XB, xd⟩ := p
      dsimp only at hok HTK hdue
      have HAT := Lib.hid (show wr.rangeAt b (off + k * 29) (deL x XA xc XB xd) from hat)
      have HMA := Lib.hid hok
      have HLF := Lib.hid (fun W => r26Life_any T x.mail.due W HTT.out hdue)
      clear hat hok hdue
      have hki : (k : Int) < (n : Int) := by omega
      have HE7 := Lib.hid (BoxC.new (w := wr) (W := wr) (Nat.le_refl _) (deL x XA xc XB xd).toArray 49)
      have HBX7 := Lib.hid (rtOne wr (.cells (deL x XA xc XB xd).toArray 49))
      go_upto_region 5 with (first
        | (refine wpList_load_mid (by rfl) 49 _ (by rfl) b (off + k * 29) (by rfl) (deL x XA xc XB xd) _ HAT.out Tryz.underlying49 rfl (by rw [rde_size, deL_len]) ?_)
        | (refine wpList_store_new2 (by rfl) 49 _ _ (by rfl) _ (deL x XA xc XB xd).toArray (by rfl) (by rfl) (by rw [rde_size]; rfl) (by rfl) (de_all _ _ _ _ _) ?_))
      generalize wr.alloc (.cells (deL x XA xc XB xd).toArray 49) = W7 at *
      have e0 : W7.cell? ⟨wr.heap.size, 0, none⟩ = some (.int .u8 (x.kd : Int)) := HE7.out.cs 0 _ rfl
      have e1 : W7.cell? ⟨wr.heap.size, 1, none⟩ = some (.int .u64 (x.tick : Int)) := HE7.out.cs 1 _ rfl
      have e26 : W7.cell? ⟨wr.heap.size, 26, none⟩ = some (.int .u64 (x.mail.due : Int)) := HE7.out.cs 26 _ rfl
      have el := HE7.out.lt
      have ef := HE7.out.s
      unfold Soft at ef
      by_cases h6 : x.kd = 6
      · have hk6 : ((x.kd : Int) == 6) = true := by rw [h6]; rfl
        have HAT1 : Hid (rat1 T x = rat6 T x) := if_pos h6
        clear h6
        go_wp2_with fail
        refine (HLF.out _).mono ?_
        rintro e w8 ⟨rfl, rfl⟩
        go_upto_region 8 with fail
        have HE9 := Lib.hid (show BoxC wr wr.heap.size (deL (rat6 T x) XA xc XB xd) ((W7.setCell ⟨wr.heap.size, 1, none⟩ (.int .u64 (T : Int))).setCell ⟨wr.heap.size, 26, none⟩ (.int .u64 (lifeN T x.mail.due : Int))) from (HE7.out.put 1 (.int .u64 (T : Int)) (by show _ < 29; omega)).put 26 (.int .u64 (lifeN T x.mail.due : Int)) (by show _ < 29; omega))
        have HBX9 := Lib.hid ((HBX7.out.setCell (p := ⟨wr.heap.size, 1, none⟩) (Nat.le_refl _) (.int .u64 (T : Int))).setCell (p := ⟨wr.heap.size, 26, none⟩) (Nat.le_refl _) (.int .u64 (lifeN T x.mail.due : Int)))
        clear e0 e1 e26 el ef HE7 HBX7
        generalize (W7.setCell ⟨wr.heap.size, 1, none⟩ (.int .u64 (T : Int))).setCell ⟨wr.heap.size, 26, none⟩ (.int .u64 (lifeN T x.mail.due : Int)) = W9 at *
        obtain ⟨iD, hiD, hzD, hsD, hbD⟩ := info_parts infoRDe
        have HBXA := Lib.hid (bthen HBX9.out (rtOne W9 (.cells (deL (rat6 T x) XA xc XB xd).toArray 49)) (Nat.le_refl _))
        have HOWN := Lib.hid (ownRow_on HA6.out.own HBXA.out)
        have HNW := Lib.hid (BoxC.new (w := wr) (W := W9) HBX9.out.size (deL (rat6 T x) XA xc XB xd).toArray 49)
        have HSZA := Lib.hid (show (W9.alloc (.cells (deL (rat6 T x) XA xc XB xd).toArray 49)).heap.size = W9.heap.size + 1 by simp)
        go_upto_region 9 with (first
          | (refine wpList_load_mid (by rfl) 49 _ (by rfl) wr.heap.size 0 (by rfl) (deL (rat6 T x) XA xc XB xd) _ HE9.out.cs.range Tryz.underlying49 rfl (by rw [rde_size, deL_len]) ?_)
          | (refine wpList_plain (by rfl) (fun K hK => wp_buildRDe _ (by rfl) (rat6 T x) XA xc XB xd (by kernel_rfl) (hK _ _ ?_)))
          | (at_builtin; refine wpList_append_lies _ (by rfl) _ _ 28 (by rfl) w.heap.size 49 iD _ 29 344 Tryz.underlying28 hiD hzD hsD hbD (by rfl) (by decide) (.slice A9 k c9) k (q.flatMap dpL) (by rfl) HOWN.out ⟨W9.heap.size, 0, none⟩ 1 1 (deL (rat6 T x) XA xc XB xd) (by rfl) rfl (fun j u hj => by rw [rws_add, Nat.zero_add]; exact HNW.out.cs j u hj) (de_one _ _ _ _ _) (by omega) (by unfold maxLen; omega) (by omega) (Nat.le_trans HB.out.size HBXA.out.size) (W9.heap.size + 1) HSZA.out ?_; intro gg cap w2 hown hgrow hat hlt'; have HW := Lib.hid hown; have HG := Lib.hid hgrow; clear hown hgrow hat hlt'))
        have hA7 : AtR T w (.slice (some ⟨gg, 0, none⟩) (k + 1) cap) (k + 1) (q ++ [⟨rat6 T x, XA, xc, XB, xd⟩]) w2 := by
          refine ⟨?_, fun p hp => ?_⟩
          · rw [List.flatMap_append, List.flatMap_singleton]; exact HW.out
          · rcases List.mem_append.1 hp with hp | hp
            · exact HA6.out.de p hp
            · obtain rfl := List.mem_singleton.1 hp
              exact ⟨x, HMA.out, HAT1.out.symm⟩
        have HA7 := Lib.hid hA7
        have HB7 := Lib.hid ((bthen HB.out HBXA.out (Nat.le_refl _)).grown HG.out (bthen HB.out HBXA.out (Nat.le_refl _)).size (fun x hx => (HOWN.out.lt x hx).1))
        clear hA7
        go_wp2_with fail
        go_roundg (gk - 1)
        case rel => exact ⟨k + 1, by have := HK.out; omega, by go_num, q ++ [⟨rat6 T x, XA, xc, XB, xd⟩], by rw [List.length_append, HQ.out]; rfl, by rw [List.map_append, HQM.out, HTK.out, List.map_append, ← HAT1.out]; rfl, HA7.out, HB7.out⟩
        case measure => have := HK.out; omega
      · have hk6 : ((x.kd : Int) == 6) = false := by simp; omega
        have HAT1 : Hid (rat1 T x = rat8 T x) := if_neg h6
        clear h6
        go_upto_region 8 with fail
        have HE9 := Lib.hid (show BoxC wr wr.heap.size (deL (rat8 T x) XA xc XB xd) (W7.setCell ⟨wr.heap.size, 1, none⟩ (.int .u64 (T : Int))) from HE7.out.put 1 (.int .u64 (T : Int)) (by show _ < 29; omega))
        have HBX9 := Lib.hid (HBX7.out.setCell (p := ⟨wr.heap.size, 1, none⟩) (Nat.le_refl _) (.int .u64 (T : Int)))
        clear e0 e1 e26 el ef HE7 HBX7
        generalize W7.setCell ⟨wr.heap.size, 1, none⟩ (.int .u64 (T : Int)) = W9 at *
        obtain ⟨iD, hiD, hzD, hsD, hbD⟩ := info_parts infoRDe
        have HBXA := Lib.hid (bthen HBX9.out (rtOne W9 (.cells (deL (rat8 T x) XA xc XB xd).toArray 49)) (Nat.le_refl _))
        have HOWN := Lib.hid (ownRow_on HA6.out.own HBXA.out)
        have HNW := Lib.hid (BoxC.new (w := wr) (W := W9) HBX9.out.size (deL (rat8 T x) XA xc XB xd).toArray 49)
        have HSZA := Lib.hid (show (W9.alloc (.cells (deL (rat8 T x) XA xc XB xd).toArray 49)).heap.size = W9.heap.size + 1 by simp)
        go_upto_region 9 with (first
          | (refine wpList_load_mid (by rfl) 49 _ (by rfl) wr.heap.size 0 (by rfl) (deL (rat8 T x) XA xc XB xd) _ HE9.out.cs.range Tryz.underlying49 rfl (by rw [rde_size, deL_len]) ?_)
          | (refine wpList_plain (by rfl) (fun K hK => wp_buildRDe _ (by rfl) (rat8 T x) XA xc XB xd (by kernel_rfl) (hK _ _ ?_)))
          | (at_builtin; refine wpList_append_lies _ (by rfl) _ _ 28 (by rfl) w.heap.size 49 iD _ 29 344 Tryz.underlying28 hiD hzD hsD hbD (by rfl) (by decide) (.slice A9 k c9) k (q.flatMap dpL) (by rfl) HOWN.out ⟨W9.heap.size, 0, none⟩ 1 1 (deL (rat8 T x) XA xc XB xd) (by rfl) rfl (fun j u hj => by rw [rws_add, Nat.zero_add]; exact HNW.out.cs j u hj) (de_one _ _ _ _ _) (by omega) (by unfold maxLen; omega) (by omega) (Nat.le_trans HB.out.size HBXA.out.size) (W9.heap.size + 1) HSZA.out ?_; intro gg cap w2 hown hgrow hat hlt'; have HW := Lib.hid hown; have HG := Lib.hid hgrow; clear hown hgrow hat hlt'))
        have hA7 : AtR T w (.slice (some ⟨gg, 0, none⟩) (k + 1) cap) (k + 1) (q ++ [⟨rat8 T x, XA, xc, XB, xd⟩]) w2 := by
          refine ⟨?_, fun p hp => ?_⟩
          · rw [List.flatMap_append, List.flatMap_singleton]; exact HW.out
          · rcases List.mem_append.1 hp with hp | hp
            · exact HA6.out.de p hp
            · obtain rfl := List.mem_singleton.1 hp
              exact ⟨x, HMA.out, HAT1.out.symm⟩
        have HA7 := Lib.hid hA7
        have HB7 := Lib.hid ((bthen HB.out HBXA.out (Nat.le_refl _)).grown HG.out (bthen HB.out HBXA.out (Nat.le_refl _)).size (fun x hx => (HOWN.out.lt x hx).1))
        clear hA7
        go_wp2_with fail
        go_roundg (gk - 1)
        case rel => exact ⟨k + 1, by have := HK.out; omega, by go_num, q ++ [⟨rat8 T x, XA, xc, XB, xd⟩], by rw [List.length_append, HQ.out]; rfl, by rw [List.map_append, HQM.out, HTK.out, List.map_append, ← HAT1.out]; rfl, HA7.out, HB7.out⟩
        case measure => have := HK.out; omega
    · have hkn : k = n := by have := HK.out; omega
      have HFI : Hid (q.map Dp.x = (l.map Dp.x).map (rat1 T)) := by
        unfold Hid
        rw [HQM.out, hkn, HN.out, List.take_length]
      subst hkn
      go_wp2_with fail
      go_ret
      refine ⟨A9, c9, q, by rw [HQ.out]; rfl, by rw [HQ.out]; exact HC9.out, HFI.out, ⟨HR9.out, fun p hp => ?_⟩, HB.out⟩
      obtain ⟨x, h1, h2⟩ := HA6.out.de p hp
      rw [h2]
      exact (rat1_ok T h1).on HB.out
end Go.Proofs.YtecjngodfciokaaGreatDoor
end
section
namespace Go.Proofs.YtecjngodfciokaaGreatDoor
open Go.ChangeShapes Go.WideShapes Go.ChangeAt Go.RowKit
def maLight (x : Ml) : Bool := decide (x.shop.length ≤ 40) && decide (x.key.length ≤ 100) && lightB x.head && decide (x.body.length ≤ 300)
theorem ml_light_ok {x : Ml} (h : maLight x = true) : x.shop.length ≤ 40 ∧ x.key.length ≤ 100 ∧ lightB x.head = true ∧ x.body.length ≤ 300 := by
  unfold maLight at h
  simp only [Bool.and_eq_true, decide_eq_true_eq] at h
  exact ⟨h.1.1.1, h.1.1.2, h.1.2, h.2⟩
theorem ml_light_Ok {w : World} {x : Ml} {A : Option Addr} {c : Nat} (h : maLight x = true) (hc : x.head.length ≤ c) (hp : Prs w A x.head) : MaOk w x A c := by
  obtain ⟨h2, h3, h4, h5⟩ := ml_light_ok h
  obtain ⟨h6, h7, -⟩ := light_lite h4
  exact ⟨by omega, by omega, by omega, by omega, hc, h7, hp⟩
/-- one that came in -/
structure MaIn (w : World) (x : Ml) (A : Option Addr) (c : Nat) : Prop where
  row : Prs w A x.head
  cap : x.head.length ≤ c
  big : x.head.length ≤ 9223372036854775807
  txt : x.shop.length ≤ 9223372036854775807 ∧ x.key.length ≤ 9223372036854775807 ∧ x.body.length ≤ 9223372036854775807
  fits : Ml.Fits x
set_option maxRecDepth 100000 in
set_option maxHeartbeats 4000000 in
theorem ml_light_any (x : Ml) (A : Option Addr) (c : Nat) (w : World) (hl : x.head.length ≤ 9223372036854775807) (hp : Prs w A x.head) :
    Calls Tryz.prog 41 #[maV x A c] w fun e w' => e = .returned (.bool (maLight x)) ∧ Below w.heap.size w w' := by
  have HM0 := Lib.hid (MaX.start w x A c hp 37)
  have HLI := Lib.hid (fun W h => light9_any x.head A c W hl h)
  have HD : Hid (maLight x = (decide (x.shop.length ≤ 40) && decide (x.key.length ≤ 100) && lightB x.head && decide (x.body.length ≤ 300))) := rfl
  have s2 : (ofL x.shop).size = x.shop.length := ofL_size _
  have s3 : (ofL x.key).size = x.key.length := ofL_size _
  have s4 : (ofL x.body).size = x.body.length := ofL_size _
  generalize maLight x = LX at *
  generalize lightB x.head = LB at *
  simp only [maV]
  clear hp
  by_cases h1 : x.shop.length ≤ 40
  · have g1 : (ofL x.shop).size ≤ 40 := by omega
    by_cases h3 : x.key.length ≤ 100
    · have g3 : (ofL x.key).size ≤ 100 := by omega
      cases hb : LB with
      | false =>
        have HC := Lib.hid (show LX = false by rw [HD.out, hb]; simp)
        rw [hb] at HLI
        clear h1 h3 hb s2 s3 s4
        go_enter Tryz.func41, Tryz.ntmps41
        go_wp2_with fail
        refine (HLI.out _ HM0.out.ra).mono ?_
        rintro e w1 ⟨rfl, b1⟩
        have HM1 := Lib.hid (HM0.out.on b1)
        clear b1
        go_wp2_with fail
        go_ret
        exact ⟨ret_bool HC.out.symm, HM1.out.B⟩
      | true =>
        have HC := Lib.hid (show LX = decide (x.body.length ≤ 300) by rw [HD.out, hb, decide_eq_true h1, decide_eq_true h3]; simp)
        have hb4 : decide (((ofL x.body).size : Int) ≤ 300) = decide (x.body.length ≤ 300) := decide_eq_decide.2 (by omega)
        rw [hb] at HLI
        clear h1 h3 hb s2 s3 s4
        go_enter Tryz.func41, Tryz.ntmps41
        go_wp2_with fail
        refine (HLI.out _ HM0.out.ra).mono ?_
        rintro e w1 ⟨rfl, b1⟩
        have HM1 := Lib.hid (HM0.out.on b1)
        have lt1 := HM1.out.p.lt
        have cb := HM1.out.p.cs 4 _ rfl
        clear b1
        go_wp2_with fail
        go_ret
        exact ⟨ret_bool (by rw [HC.out, ← hb4]), HM1.out.B⟩
    · have g3 : ¬ (ofL x.key).size ≤ 100 := by omega
      have HC := Lib.hid (show LX = false by rw [HD.out, decide_eq_false h3]; simp)
      clear h1 h3 s2 s3 s4
      go_enter Tryz.func41, Tryz.ntmps41
      go_wp2_with fail
      go_ret
      exact ⟨ret_bool HC.out.symm, HM0.out.B⟩
  · have g1 : ¬ (ofL x.shop).size ≤ 40 := by omega
    have HC := Lib.hid (show LX = false by rw [HD.out, decide_eq_false h1]; simp)
    clear h1 s2 s3 s4
    go_enter Tryz.func41, Tryz.ntmps41
    go_wp2_with fail
    go_ret
    exact ⟨ret_bool HC.out.symm, HM0.out.B⟩
end Go.Proofs.YtecjngodfciokaaGreatDoor
end
