/-
 A part of the proof.
-/
import Derived.Test.YtaikigponkjkgaaGreatDoorXq44
import Derived.Test.YtaikigponkjkgaaGreatDoorXq46
import Derived.Test.YtaikigponkjkgaaGreatDoorXq48
import Derived.Test.YtaikigponkjkgaaGreatDoorXq50
import Derived.BigQuiet
import Derived.WalkKit
import Derived.ProofKit
import Derived.OpenShut
import Derived.Deep.DeepHandedRow
import Derived.Laws.IdiomArrays
import Derived.Lib.SmallJoins
section
namespace Go.Proofs.YtaikigponkjkgaaGreatDoor
open Go.ChangeShapes Go.WideShapes Go.ChangeAt Go.RowKit
open Go.Lib (hid)
set_option maxRecDepth 100000
set_option maxHeartbeats 16000000 in
theorem r22Pack_any (l : List Dp) (A : Option Addr) (c : Nat) (w : World) (hl : l.length ≤ 100000) (hI : Dps w A l) (hf : ∀ p ∈ l, De.Fits p.x) :
  Calls Tryz.prog 9 #[.slice A l.length c] w fun e w' => e = .returned (packV (l.map Dp.x)) ∧ Below w.heap.size w w' := by
 have HI := hid hI
 have HF := hid hf
 have hlm : (l.map Dp.x).length = l.length := List.length_map _
 obtain ⟨n, hn⟩ : ∃ n, n = l.length := ⟨_, rfl⟩
 rw [← hn]
 have HN := hid hn
 have hnl : n ≤ 100000 := by omega
 have hmn : (l.map Dp.x).length = n := by omega
 have HMN := hid hmn
 have HM : Hid (255 < n → packV (l.map Dp.x) = .tuple #[.string ⟨#[]⟩, .int .i64 6]) := fun h => packV_many (by omega)
 have HB : Hid (∀ k, k < n → n ≤ 255 → UpTo (l.map Dp.x) k → (l.getD k Dp0).x.code ≠ 0 → packV (l.map Dp.x) = .tuple #[.string ⟨#[]⟩, .int .i64 ((l.getD k Dp0).x.code : Int)]) := fun k hk h255 hu h0 => by
  obtain ⟨h1, h2⟩ := dp_map (l := l) (k := k) (by omega)
  have := packV_bad (l := l.map Dp.x) (k := k) (by omega) h1 hu (by rw [h2]; exact h0)
  rw [h2] at this
  exact this
 have HO : Hid (n ≤ 255 → UpTo (l.map Dp.x) n → packV (l.map Dp.x) = .tuple #[.string (ofL (Oct.be 1 n ++ De.encs (l.map Dp.x))), .int .i64 0]) := fun h255 hu => by
  have := packV_ok (l := l.map Dp.x) (by omega) (hu.all (by omega))
  rw [hmn] at this
  exact this
 have HTK : Hid (∀ k, k < n → De.encs ((l.map Dp.x).take (k + 1)) = De.encs ((l.map Dp.x).take k) ++ (l.getD k Dp0).x.enc) := fun k hk => by
  obtain ⟨h1, h2⟩ := dp_map (l := l) (k := k) (by omega)
  rw [De.codes_take h1, h2]
 have HUN : Hid (∀ k, k < n → UpTo (l.map Dp.x) k → (l.getD k Dp0).x.code = 0 → UpTo (l.map Dp.x) (k + 1)) := fun k hk hu h0 => by
  obtain ⟨h1, h2⟩ := dp_map (l := l) (k := k) (by omega)
  exact hu.next h1 (by rw [h2]; exact h0)
 have HTA : Hid ((l.map Dp.x).take n = l.map Dp.x) := List.take_of_length_le (by omega)
 generalize packV (l.map Dp.x) = PV at *
 generalize l.map Dp.x = L at *
 clear hI hf hn hl hlm hmn
 go_enter Tryz.func9, Tryz.ntmps9
 by_cases h255 : 255 < n
 ·have hq : (255 : Int) < (n : Int) := by omega
  have HV := HM.out h255
  go_wp2_with fail
  go_ret2
  exact ⟨by rw [HV]; rfl, Below.refl _ _⟩
 ·have hq : ¬ (255 : Int) < (n : Int) := by omega
  have hw : IntKind.u64.wrap (n : Int) = (n : Int) := by rw [show IntKind.u64.wrap (n : Int) = (n : Int) % 18446744073709551616 from rfl]; omega
  have H255 := hid h255
  have HN1 := hid (show Calls Tryz.prog 22 #[.int .u64 (n : Int), .int .i64 1] w fun x w' => x = .returned (.string (ofL (Oct.be 1 n))) ∧ Below w.heap.size w w' from rnum_at 1 (by omega) n w (by omega))
  have HE1 : Hid ((Oct.be 1 n).length = 1) := Oct.length_be _ _
  generalize Oct.be 1 n = E1 at *
  clear h255
  go_wp2_with fail
  (try simp only [hw])
  refine HN1.out.mono ?_
  rintro e w2 ⟨rfl, b2⟩
  have HB2 := hid b2
  clear b2
  go_wp2_with fail
  go_loopg [4, 17] n (fun g v i wr => ∃ k : Nat, k + g = n ∧ i = .int .i64 (k : Int) ∧ UpTo L k ∧ v = .string (ofL (E1 ++ De.encs (L.take k))) ∧ Below w.heap.size w wr)
  case atStart => exact ⟨0, by omega, rfl, UpTo.zero L, by rw [List.take_zero, show De.encs [] = [] from rfl, List.append_nil], HB2.out⟩
  case round =>
   obtain ⟨k, hk, rfl, hu, rfl, hb⟩ := hrel
   have HK := hid hk
   have HU := hid hu
   have HBK := hid hb
   clear hk hu hb
   by_cases hlt : k < n
   ·have hkl : k < l.length := by have := HN.out; omega
    obtain ⟨b, off, rfl, hbl, hat, hok⟩ := dps_elt (HI.out.on HBK.out) hkl
    have hfk : De.Fits (l.getD k Dp0).x := HF.out _ (by rw [← dp_get hkl]; exact List.getElem_mem hkl)
    have hle : (E1 ++ De.encs (L.take k)).length ≤ 700000 := by
     have h1 := HU.out.len (l := L) (by have := HMN.out; have := H255.out; omega)
     have h2 := HE1.out
     rw [List.length_append]; omega
    have hs1 : (ofL (E1 ++ De.encs (L.take k))).size ≤ 700000 := by rw [ofL_size]; exact hle
    have HBx := hid (HB.out k hlt (by have := H255.out; omega) HU.out)
    have HTKx := hid (show E1 ++ De.encs (L.take (k + 1)) = (E1 ++ De.encs (L.take k)) ++ (l.getD k Dp0).x.enc by rw [HTK.out k hlt, List.append_assoc])
    have HUNx := hid (HUN.out k hlt HU.out)
    have HEL := hid (fun h : (l.getD k Dp0).x.code = 0 => De.enc_le h)
    generalize hpk : l.getD k Dp0 = p at hat hok hfk HBx HTKx HUNx HEL
    clear hpk hle
    generalize E1 ++ De.encs (L.take k) = Y at *
    obtain ⟨x, XA, xc, XB, xd⟩ := p
    dsimp only at hok hfk HBx HTKx HUNx HEL
    have HAT := hid (show wr.rangeAt b (off + k * 29) (deL x XA xc XB xd) from hat)
    have HOK := hid hok
    have HFK := hid hfk
    clear hat hok hfk
    have hki : (k : Int) < (n : Int) := by omega
    have HE5 := hid (BoxC.new (w := wr) (W := wr) (Nat.le_refl _) (deL x XA xc XB xd).toArray 59)
    have HBX5 := hid (rtOne wr (.cells (deL x XA xc XB xd).toArray 59))
    have HB5 := hid (bthen HBK.out HBX5.out (Nat.le_refl _))
    go_upto_region 7 with (first
     | (refine wpList_load_mid (by rfl) 59 _ (by rfl) b (off + k * 29) (by rfl) (deL x XA xc XB xd) _ HAT.out Tryz.underlying59 rfl (by rw [rde_size, deL_len]) ?_)
     | (refine wpList_store_new2 (by rfl) 59 _ _ (by rfl) _ (deL x XA xc XB xd).toArray (by rfl) (by rfl) (by rw [rde_size]; rfl) (by rfl) (de_all _ _ _ _ _) ?_))
    have HCK := hid (r22Check_any x XA xc XB xd (wr.alloc (.cells (deL x XA xc XB xd).toArray 59)) (HOK.out.on HBX5.out))
    generalize wr.alloc (.cells (deL x XA xc XB xd).toArray 59) = W5 at *
    go_wp2_with (refine wpList_load_mid (by rfl) 59 _ (by rfl) wr.heap.size 0 (by rfl) (deL x XA xc XB xd) _ HE5.out.cs.range Tryz.underlying59 rfl (by rw [rde_size, deL_len]) ?_)
    refine HCK.out.mono ?_
    rintro e w6 ⟨rfl, b6⟩
    have HB6 := hid (bthen HB5.out b6 (Nat.le_refl _))
    have HE6 := hid (HE5.out.on b6)
    have HOK6 := hid ((HOK.out.on HBX5.out).on b6)
    clear b6 HCK
    by_cases h0 : x.code = 0
    ·have hne : ((x.code : Int) != 0) = false := by rw [h0]; rfl
     have HUK := hid (HUNx.out h0)
     have hs2 : (ofL x.enc).size ≤ 2100 := by rw [ofL_size]; exact HEL.out h0
     have HBY := hid (r22Bytes_any x XA xc XB xd w6 HOK6.out.bind.row HOK6.out.mail.row HFK.out h0)
     have HAP := hid (show ofL Y ++ ofL x.enc = ofL (E1 ++ De.encs (L.take (k + 1))) by rw [HTKx.out, ofL_app])
     clear h0 HUNx HEL HBx
     generalize ofL x.enc = X at *
     generalize ofL Y = Y1 at *
     generalize x.code = X2 at *
     go_wp2_with (refine wpList_load_mid (by rfl) 59 _ (by rfl) wr.heap.size 0 (by rfl) (deL x XA xc XB xd) _ HE6.out.cs.range Tryz.underlying59 rfl (by rw [rde_size, deL_len]) ?_)
     refine HBY.out.mono ?_
     rintro e w7 ⟨rfl, b7⟩
     have HB7 := hid (bthen HB6.out b7 (Nat.le_refl _))
     clear b7
     go_wp2_with fail
     go_roundg (gk - 1)
     case rel => exact ⟨k + 1, by have := HK.out; omega, by go_num, HUK.out, by rw [HAP.out], HB7.out⟩
     case measure => have := HK.out; omega
    ·have hne : ((x.code : Int) != 0) = true := by rw [bne_iff_ne]; omega
     have HV := HBx.out h0
     clear h0 HUNx HEL HBx
     generalize x.code = X at *
     go_wp2_with fail
     go_ret2
     exact ⟨by rw [HV]; rfl, HB6.out⟩
   ·have hki : ¬ (k : Int) < (n : Int) := by omega
    have e : k = n := by have := HK.out; omega
    have HV := hid (HO.out (by have := H255.out; omega) (e ▸ HU.out))
    have HE2 : Hid (L.take k = L) := by unfold Hid; rw [e]; exact HTA.out
    clear e
    go_wp2_with fail
    go_ret2
    exact ⟨by rw [HV.out]; have e2 := HE2.out; rw [e2]; rfl, HBK.out⟩
set_option maxHeartbeats 2000000 in
theorem riend_l (b : Nat) (S : ByteArray) (s : LSt) (w : World) (h : RefL b S s w) :
  Calls Tryz.prog 32 #[.pointer (some ⟨b, 0, none⟩)] w (Quiet w (.int .i64 (lEnd s))) := by
 obtain ⟨p, h⟩ := h
 have c0 := h.c0
 have c1 := h.c1
 have c2 : w.cell? ⟨b, 2, none⟩ = some (.int .i64 s.2) := h.c2
 have hle := h.le
 by_cases h0 : s.2 = 0
 ·have hz : ((ofL s.1).size : Int) = (S.size : Int) - (p : Int) := h.size h0
  rw [ofL_size] at hz
  rw [h0] at c2
  by_cases hlt : p < S.size
  ·have HE := hid (show lEnd s = 4 by unfold lEnd; rw [if_pos (by omega)])
   have hd : decide (p < S.size) = true := decide_eq_true hlt
   clear h h0 hz
   go_enter Tryz.func32, Tryz.ntmps32
   go_wp2_with fail
   go_quiet (fail)
   go_wp2_with fail
   go_ret
   exact ⟨ret_int (by rw [HE.out]), _, rfl⟩
  ·have HE := hid (show lEnd s = 0 by unfold lEnd; rw [if_neg (by omega), h0])
   have hd : decide (p < S.size) = false := decide_eq_false hlt
   clear h h0 hz
   go_enter Tryz.func32, Tryz.ntmps32
   go_wp2_with fail
   go_quiet (fail)
   go_wp2_with fail
   go_ret
   exact ⟨ret_int (by rw [HE.out]), _, rfl⟩
 ·have hnil : (ofL s.1).size = 0 := by
   have := h.ok h0
   rw [show ofL s.1 = ByteArray.empty from this]; rfl
  rw [ofL_size] at hnil
  have HE := hid (show lEnd s = s.2 by unfold lEnd; rw [if_neg (by omega)])
  have k0 : (s.2 == 0) = false := beq_eq_false_iff_ne.2 h0
  clear h h0 hnil
  go_enter Tryz.func32, Tryz.ntmps32
  go_wp2_with fail
  go_quiet (fail)
  go_wp2_with fail
  go_ret
  exact ⟨ret_int (by rw [HE.out]), _, rfl⟩
theorem below_drewN (B : Nat) (w : World) : ∀ n, Below B w (w.drewN n) := by
 intro n
 induction n with
 | zero => exact Below.refl _ _
 | succ n ih => exact ih.drew
set_option maxHeartbeats 16000000 in
theorem r22Unpack_any (t : List UInt8) (w : World) (ht : t.length ≤ 1000000) : Calls Tryz.prog 12 #[.string (ofL t)] w (UnPost t w) := by
 have hS : (ofL t).size ≤ 1000000 := by rw [ofL_size]; exact ht
 have HNEW := hid (RefL.new t w 84)
 obtain ⟨b, hb⟩ : ∃ b, b = w.heap.size := ⟨_, rfl⟩
 have HBQ := hid hb
 have HR : Hid (Rder b (RefL b (ofL t))) := rdr_ref b (ofL t)
 have HBAD := hid (fun (h : De.unB t = false) (W : World) (hb : Below w.heap.size w W) (e : Ending) he => UnPost.bad (t := t) (w := w) (W := W) h hb (e := e) he)
 have HGOOD := hid (fun (h : De.unB t = true) A c (q : List Dp) (W : World) hq hc hD hl (hb : Below w.heap.size w W) (e : Ending) he => UnPost.good (t := t) (w := w) (W := W) (A := A) (c := c) (q := q) h hq hc hD hl hb (e := e) he)
 have HE1 := hid (unp_end (t := t))
 have HE2 := hid (unp_code (t := t))
 have HE3 := hid (unp_text (t := t))
 have HE4 := hid (unp_yes (t := t))
 have HUR : Hid (De.unR t = De.rds (De.unN t) (De.r1 (t, 0))) := rfl
 have HN1 := hid (show ∀ W, RefL b (ofL t) (t, 0) W → Calls Tryz.prog 30 #[.pointer (some ⟨b, 0, none⟩), .int .i64 1] W (RPostL b (ofL t) W (.int .u64 ((De.unN t : Nat) : Int)) (De.r1 (t, 0))) from fun W h => rinum_l b (ofL t) (t, 0) 1 1 W (by omega) rfl h hS)
 have hnl : De.unN t < 256 := De.n1_lt _
 have HOK : Hid (∀ k, lOk (De.rds k (De.r1 (t, 0))).2) := fun k => De.rds_ok k (De.ok_r1 (lOk_new t))
 have HRS : Hid (∀ k, De.rds (k + 1) (De.r1 (t, 0)) = ((De.rds k (De.r1 (t, 0))).1 ++ [(De.rd (De.rds k (De.r1 (t, 0))).2).1], (De.rd (De.rds k (De.r1 (t, 0))).2).2)) := fun k => rfl
 have HLM : Hid (∀ k q, List.map Dp.x q = (De.rds k (De.r1 (t, 0))).1 → ∀ p ∈ q, De.Lo p.x) := fun k q h => lo_map h
 have HLE : Hid (∀ k, (De.rds k (De.r1 (t, 0))).1.length = k) := fun k => De.rds_len k _
 have HR0 : Hid (De.rds 0 (De.r1 (t, 0)) = ([], De.r1 (t, 0))) := rfl
 have HSTOP : Hid (∀ k, k ≤ De.unN t → (De.rds k (De.r1 (t, 0))).2.2 ≠ 0 → (De.unR t).2 = (De.rds k (De.r1 (t, 0))).2) := fun k hk he => by
  have := De.rds_stop (De.ok_r1 (lOk_new t)) he (De.unN t - k)
  rw [show k + (De.unN t - k) = De.unN t by omega] at this
  exact this
 have HEE : Hid (∀ k, (De.rds k (De.r1 (t, 0))).2.2 ≠ 0 → lEnd (De.rds k (De.r1 (t, 0))).2 ≠ 0) := fun k he => De.end_err (De.rds_ok k (De.ok_r1 (lOk_new t))) he
 generalize UnPost t w = POST at *
 generalize De.unR t = RR at *
 generalize De.unN t = n at *
 generalize De.r1 (t, 0) = s1 at *
 generalize De.rds = rds at *
 clear ht
 have hwn : IntKind.i64.wrap (n : Int) = (n : Int) := by rw [wi64 n (by omega)]; unfold Hd.i64; rw [if_pos (by omega)]
 have HB1 := hid (rtOne w (.cells #[.string (ofL t), .int .i64 0, .int .i64 0] 84))
 rw [← hb] at HNEW
 go_enter Tryz.func12, Tryz.ntmps12
 go_wp2_with fail
 rw [← hb]
 clear hb
 generalize w.alloc (.cells #[.string (ofL t), .int .i64 0, .int .i64 0] 84) = w1 at *
 refine (HN1.out _ HNEW.out).mono ?_
 rintro e w2 ⟨rfl, hi2, hg2⟩
 have HU2 := hid (show UnI w b (RefL b (ofL t)) 59 s1 (.slice none 0 0) [] w2 from ⟨hi2, World.ownsRow_nil _ _ _ _, fun p hp => by simp at hp, fun p hp => by simp at hp, below_in HB1.out hg2 HB1.out.size (by have := HBQ.out; omega), by have := HBQ.out; omega, HR.out.lt hi2⟩)
 clear hi2 hg2 HNEW HN1 HB1
 go_wp2_with fail
 (try simp only [hwn])
 go_loopg [6, 7] n (fun g v i wr => ∃ (k : Nat) (q : List Dp), k + g = n ∧ i = .int .i64 (k : Int) ∧ q.map Dp.x = (rds k s1).1 ∧ UnI w b (RefL b (ofL t)) 59 (rds k s1).2 v q wr)
 case atStart => exact ⟨0, [], by omega, rfl, by rw [HR0.out]; rfl, by rw [HR0.out]; exact HU2.out⟩
 case round =>
  obtain ⟨k, q, hk, rfl, hqm, hU⟩ := hrel
  have HK := hid hk
  have HQM := hid hqm
  have hql : q.length = k := by rw [← List.length_map (f := Dp.x), hqm]; exact HLE.out k
  have HU := hid hU
  have HLO := hid (HLM.out k q hqm)
  clear hqm hU
  obtain ⟨A9, c9, ev, hc9, hD9⟩ := HU.out.dps HLO.out
  rw [hql] at ev hc9
  subst ev
  have HD9 := hid hD9
  have HC9 := hid hc9
  have HQL := hid hql
  clear hD9 hc9 hql
  have hkl : k ≤ 255 := by omega
  have hkn : k ≤ n := by omega
  clear hk
  by_cases hlt : k < n
  ·have hki : (k : Int) < (n : Int) := by omega
   have c2 := HU.out.ri.code
   by_cases hcd : (rds k s1).2.2 = 0
   ·have HRD := hid (r22read_any b (ofL t) hS (rds k s1).2 wr HU.out.ri (HOK.out k))
    have HRSk := hid (HRS.out k)
    have HSB0 := hid (show b + 1 ≤ wr.heap.size from HU.out.lt.2)
    rw [hcd] at c2
    clear hcd
    generalize De.rd (rds k s1).2 = D at *
    obtain ⟨x, sx⟩ := D
    dsimp only at HRD HRSk
    unfold DeRd at HRD
    go_wp2_with fail
    clear c2
    refine HRD.out.mono ?_
    rintro e w9 ⟨XA, xc, XB, xd, rfl, hxc, hxd, hpa, hpb, hi9, hg9, ha9, hb9⟩
    have HU9 := hid (HU.out.step hi9 hg9)
    have hne9 : ∀ a : Addr, wr.heap.size ≤ a.block → b < a.block ∧ (Value.slice A9 k c9).ownBlock ≠ some a.block := fun a ha => ⟨by have := HSB0.out; omega, fun e => by have := (HU.out.own.lt _ e).2; omega⟩
    have HXA_ := hid (show Prs w9 XA x.bind.want ∧ x.bind.want.length ≤ xc ∧ (x.bind.want ≠ [] → ∀ a, XA = some a → b < a.block ∧ (Value.slice A9 k c9).ownBlock ≠ some a.block) from ⟨hpa, hxc, fun _ a ha => hne9 a (ha9 a ha)⟩)
    have HXB_ := hid (show Prs w9 XB x.mail.head ∧ x.mail.head.length ≤ xd ∧ (x.mail.head ≠ [] → ∀ a, XB = some a → b < a.block ∧ (Value.slice A9 k c9).ownBlock ≠ some a.block) from ⟨hpb, hxd, fun _ a ha => hne9 a (hb9 a ha)⟩)
    clear hxc hxd hpa hpb hi9 hg9 ha9 hb9 hne9 HRD
    obtain ⟨iD, hiD, hzD, hsD, hbD⟩ := info_parts infoRDe
    have HBXA := hid (rtOne w9 (.cells (deL x XA xc XB xd).toArray 59))
    have HUA := hid (HU9.out.on HR.out HBXA.out)
    have HOWN := hid HUA.out.own
    rw [HQL.out] at HOWN
    have HNW := hid (BoxC.new (w := w9) (W := w9) (Nat.le_refl _) (deL x XA xc XB xd).toArray 59)
    have HSZA := hid (show (w9.alloc (.cells (deL x XA xc XB xd).toArray 59)).heap.size = w9.heap.size + 1 by simp)
    have HSB := hid (show b + 1 ≤ (w9.alloc (.cells (deL x XA xc XB xd).toArray 59)).heap.size from HUA.out.lt.2)
    have HXA2 := hid (And.intro (HXA_.out.1.on HBXA.out) HXA_.out.2)
    have HXB2 := hid (And.intro (HXB_.out.1.on HBXA.out) HXB_.out.2)
    go_upto_region 6 with (first
     | (refine wpList_plain (by rfl) (fun K hK => wp_buildRDe _ (by rfl) x XA xc XB xd (by kernel_rfl) (hK _ _ ?_)))
     | (at_builtin; refine wpList_append_lies _ (by rfl) _ _ 24 (by rfl) (b + 1) 59 iD _ 29 344 Tryz.underlying24 hiD hzD hsD hbD (by rfl) (by decide) (.slice A9 k c9) k (q.flatMap dpL) (by rfl) HOWN.out ⟨w9.heap.size, 0, none⟩ 1 1 (deL x XA xc XB xd) (by rfl) rfl (fun j u hj => by rw [rws_add, Nat.zero_add]; exact HNW.out.cs j u hj) (de_one _ _ _ _ _) (by omega) (by unfold maxLen; omega) (by omega) HSB.out (w9.heap.size + 1) HSZA.out ?_; intro gg cap w2 hown hgrow hat hlt'; have HW := hid hown; have HG := hid hgrow; have HAT2 := hid hat; clear hown hgrow hat hlt'))
    have HU7 := hid (HUA.out.append HR.out (p0 := ⟨x, XA, xc, XB, xd⟩) (g := gg) (cap := cap) (n := k + 1) HXA2.out HXB2.out HG.out (by rw [List.length_append, List.length_singleton, HQL.out, List.flatMap_append, List.flatMap_singleton]; exact HW.out) (by rw [HSZA.out]; exact HAT2.out))
    go_wp2_with fail
    go_roundg (gk - 1)
    case rel => exact ⟨k + 1, q ++ [⟨x, XA, xc, XB, xd⟩], by have := HK.out; omega, by go_num, by rw [List.map_append, HQM.out, HRSk.out]; rfl, by rw [HRSk.out]; exact HU7.out⟩
    case measure => have := HK.out; omega
   ·have HXA : Hid (lEnd (rds k s1).2 = 0 → rds k s1 = RR) := fun h => absurd h (HEE.out k hcd)
    have HXB : Hid (lEnd (rds k s1).2 ≠ 0 → De.unB t = false) := fun h => HE1.out (by rw [HSTOP.out k hkn hcd]; exact h)
    have hcq : ((rds k s1).2.2 == 0) = false := by rw [beq_eq_false_iff_ne]; exact hcd
    generalize rds k s1 = RK at *
    clear hcd
    have HEN := hid (riend_l b (ofL t) RK.2 wr HU.out.ri)
    have HPK := hid (r22Pack_any q A9 c9 wr (by have := HQL.out; omega) HD9.out (fun p hp => (HLO.out p hp).f))
    rw [HQL.out, HQM.out] at HPK
    obtain ⟨PV, hPV⟩ : ∃ PV, packV RK.1 = PV := ⟨_, rfl⟩
    rw [hPV] at HPK
    go_wp2_with fail
    refine HPK.out.mono ?_
    rintro e w4 ⟨rfl, b4⟩
    have HB4 := hid (bthen HU.out.B b4 (Nat.le_refl _))
    have HD4 := hid (HD9.out.on b4)
    have HEN4 := hid (riend_l b (ofL t) RK.2 w4 (HR.out.on HU.out.ri b4))
    clear b4 HEN
    by_cases hc : De.packc RK.1 = 0
    ·rw [show packV RK.1 = .tuple #[.string (ofL (De.pack RK.1)), .int .i64 0] by unfold packV; rw [if_pos hc]] at hPV
     subst hPV
     go_wp2_with fail
     refine HEN4.out.mono ?_
     rintro e w5 hw5
     obtain ⟨rfl, dn, rfl⟩ := hw5
     have hbd := below_drewN w4.heap.size w4 dn
     have HB5 := hid (bthen HB4.out hbd (Nat.le_refl _))
     have HD5 := hid (HD4.out.on hbd)
     clear hbd
     generalize w4.drewN dn = w5 at *
     by_cases he : lEnd RK.2 = 0
     ·have heq : (lEnd RK.2 != 0) = false := by rw [he]; rfl
      have hrk := HXA.out he
      by_cases hp : De.pack RK.1 = t
      ·have hpe : ((ofL (De.pack RK.1)).toList != (ofL t).toList) = false := by rw [hp]; exact unp_same t
       have hpe2 : (!((ofL (De.pack RK.1)).toList == (ofL t).toList)) = false := by rw [hp]; exact unp_same2 t
       have HRK := hid hrk
       clear hrk
       go_wp2_with fail
       (try go_ret2)
       exact HGOOD.out (HE4.out (HRK.out ▸ he) (HRK.out ▸ hc) (HRK.out ▸ hp)) A9 c9 q _ (HRK.out ▸ HQM.out) (by rw [HQL.out]; exact HC9.out) HD5.out HLO.out HB5.out _ (by rw [HQL.out]; rfl)
      ·have hpe := unp_ne hp
       have hpe2 := unp_ne2 hp
       have HRK := hid hrk
       clear hrk
       go_wp2_with fail
       (try go_ret2)
       exact HBAD.out (HE3.out (HRK.out ▸ hp)) _ HB5.out _ rfl
     ·have heq : (lEnd RK.2 != 0) = true := by rw [bne_iff_ne]; exact he
      go_wp2_with fail
      (try go_ret2)
      exact HBAD.out (HXB.out he) _ HB5.out _ rfl
    ·rw [show packV RK.1 = .tuple #[.string ⟨#[]⟩, .int .i64 (De.packc RK.1 : Int)] by unfold packV; rw [if_neg hc]] at hPV
     subst hPV
     have hce : ((De.packc RK.1 : Int) != 0) = true := by rw [bne_iff_ne]; omega
     go_wp2_with fail
     refine HEN4.out.mono ?_
     rintro e w5 hw5
     obtain ⟨rfl, dn, rfl⟩ := hw5
     have hbd := below_drewN w4.heap.size w4 dn
     have HB5 := hid (bthen HB4.out hbd (Nat.le_refl _))
     have HD5 := hid (HD4.out.on hbd)
     clear hbd
     generalize w4.drewN dn = w5 at *
     by_cases he : lEnd RK.2 = 0
     ·have heq : (lEnd RK.2 != 0) = false := by rw [he]; rfl
      have HRK := hid (HXA.out he)
      have HBD := hid (HE2.out (HRK.out ▸ hc))
      generalize De.packc RK.1 = PC at *
      go_wp2_with fail
      (try go_ret2)
      exact HBAD.out HBD.out _ HB5.out _ rfl
     ·have heq : (lEnd RK.2 != 0) = true := by rw [bne_iff_ne]; exact he
      go_wp2_with fail
      (try go_ret2)
      exact HBAD.out (HXB.out he) _ HB5.out _ rfl
  ·have hki : ¬ (k : Int) < (n : Int) := by omega
   have HRE : Hid (rds k s1 = RR) := by unfold Hid; rw [HUR.out, show k = n by omega]
   have HXA : Hid (lEnd (rds k s1).2 = 0 → rds k s1 = RR) := fun _ => HRE.out
   have HXB : Hid (lEnd (rds k s1).2 ≠ 0 → De.unB t = false) := fun h => HE1.out (by rw [← HRE.out]; exact h)
   clear HRE
   generalize rds k s1 = RK at *
   have HEN := hid (riend_l b (ofL t) RK.2 wr HU.out.ri)
   have HPK := hid (r22Pack_any q A9 c9 wr (by have := HQL.out; omega) HD9.out (fun p hp => (HLO.out p hp).f))
   rw [HQL.out, HQM.out] at HPK
   obtain ⟨PV, hPV⟩ : ∃ PV, packV RK.1 = PV := ⟨_, rfl⟩
   rw [hPV] at HPK
   go_wp2_with fail
   refine HPK.out.mono ?_
   rintro e w4 ⟨rfl, b4⟩
   have HB4 := hid (bthen HU.out.B b4 (Nat.le_refl _))
   have HD4 := hid (HD9.out.on b4)
   have HEN4 := hid (riend_l b (ofL t) RK.2 w4 (HR.out.on HU.out.ri b4))
   clear b4 HEN
   by_cases hc : De.packc RK.1 = 0
   ·rw [show packV RK.1 = .tuple #[.string (ofL (De.pack RK.1)), .int .i64 0] by unfold packV; rw [if_pos hc]] at hPV
    subst hPV
    go_wp2_with fail
    refine HEN4.out.mono ?_
    rintro e w5 hw5
    obtain ⟨rfl, dn, rfl⟩ := hw5
    have hbd := below_drewN w4.heap.size w4 dn
    have HB5 := hid (bthen HB4.out hbd (Nat.le_refl _))
    have HD5 := hid (HD4.out.on hbd)
    clear hbd
    generalize w4.drewN dn = w5 at *
    by_cases he : lEnd RK.2 = 0
    ·have heq : (lEnd RK.2 != 0) = false := by rw [he]; rfl
     have hrk := HXA.out he
     by_cases hp : De.pack RK.1 = t
     ·have hpe : ((ofL (De.pack RK.1)).toList != (ofL t).toList) = false := by rw [hp]; exact unp_same t
      have hpe2 : (!((ofL (De.pack RK.1)).toList == (ofL t).toList)) = false := by rw [hp]; exact unp_same2 t
      have HRK := hid hrk
      clear hrk
      go_wp2_with fail
      (try go_ret2)
      exact HGOOD.out (HE4.out (HRK.out ▸ he) (HRK.out ▸ hc) (HRK.out ▸ hp)) A9 c9 q _ (HRK.out ▸ HQM.out) (by rw [HQL.out]; exact HC9.out) HD5.out HLO.out HB5.out _ (by rw [HQL.out]; rfl)
     ·have hpe := unp_ne hp
      have hpe2 := unp_ne2 hp
      have HRK := hid hrk
      clear hrk
      go_wp2_with fail
      (try go_ret2)
      exact HBAD.out (HE3.out (HRK.out ▸ hp)) _ HB5.out _ rfl
    ·have heq : (lEnd RK.2 != 0) = true := by rw [bne_iff_ne]; exact he
     go_wp2_with fail
     (try go_ret2)
     exact HBAD.out (HXB.out he) _ HB5.out _ rfl
   ·rw [show packV RK.1 = .tuple #[.string ⟨#[]⟩, .int .i64 (De.packc RK.1 : Int)] by unfold packV; rw [if_neg hc]] at hPV
    subst hPV
    have hce : ((De.packc RK.1 : Int) != 0) = true := by rw [bne_iff_ne]; omega
    go_wp2_with fail
    refine HEN4.out.mono ?_
    rintro e w5 hw5
    obtain ⟨rfl, dn, rfl⟩ := hw5
    have hbd := below_drewN w4.heap.size w4 dn
    have HB5 := hid (bthen HB4.out hbd (Nat.le_refl _))
    have HD5 := hid (HD4.out.on hbd)
    clear hbd
    generalize w4.drewN dn = w5 at *
    by_cases he : lEnd RK.2 = 0
    ·have heq : (lEnd RK.2 != 0) = false := by rw [he]; rfl
     have HRK := hid (HXA.out he)
     have HBD := hid (HE2.out (HRK.out ▸ hc))
     generalize De.packc RK.1 = PC at *
     go_wp2_with fail
     (try go_ret2)
     exact HBAD.out HBD.out _ HB5.out _ rfl
    ·have heq : (lEnd RK.2 != 0) = true := by rw [bne_iff_ne]; exact he
     go_wp2_with fail
     (try go_ret2)
     exact HBAD.out (HXB.out he) _ HB5.out _ rfl
theorem lightB_code {l : List Hd.Pr} (h : Hd.hcode l = 0) : lightB l = true := by
 obtain ⟨h1, h2⟩ := Hd.hcode_ok h
 unfold lightB
 rw [Bool.and_eq_true, decide_eq_true_eq, List.all_eq_true]
 refine ⟨by omega, fun p hp => ?_⟩
 obtain ⟨i, hi, rfl⟩ := List.getElem_of_mem hp
 have h3 := (Hd.pcode_ok (h2 i hi)).1
 rw [Hd.pr_at hi] at h3
 obtain ⟨k1, k2, k3, k4, k5⟩ := Hd.bad_ok h3
 have k6 := (Hd.name_ok_len k1).1
 have k7 : (l[i]).txt.length ≤ 64 := by
  by_cases e : (l[i]).kind = 1
  ·exact (k3 e).1
  ·rw [k5 e]; exact Nat.zero_le _
 rw [Bool.and_eq_true, decide_eq_true_eq, decide_eq_true_eq]
 omega
theorem maLight_code {x : Ml} (h : x.code = 0) : maLight x = true := by
 obtain ⟨c1, c2, c3, c4, c5⟩ := Ml.code_ok h
 have a := (Hd.name_ok_len c1).1
 have b := Ml.key_len c2
 have c := lightB_code c3
 unfold maLight
 simp only [Bool.and_eq_true, decide_eq_true_eq]
 exact ⟨⟨⟨by omega, by omega⟩, c⟩, by omega⟩
theorem light_of {x : De} (h1 : x.shop.name.length ≤ 40) (h2 : x.shop.to.length ≤ 40) (h3 : x.q.name.length ≤ 40) (h4 : x.q.dead.length ≤ 40) (h5 : x.bind.shop.length ≤ 40) (h6 : x.bind.to.length ≤ 40) (h7 : x.name.length ≤ 40) (h8 : x.bind.key.length ≤ 100) (h9 : x.text.length ≤ 100) (ha : lightB x.bind.want = true) (hb : maLight x.mail = true) : deLight x = true := by
 unfold deLight mx7
 rw [ha, hb]
 simp only [Bool.and_true, Bool.and_eq_true, decide_eq_true_eq]
 omega
theorem light_code {x : De} (h : x.code = 0) : deLight x = true := by
 obtain ⟨h1, h2, h3⟩ := De.code_zero h
 obtain ⟨k, t, sh, q, bd, nm, id, how, frm, cd, num, ml, tt⟩ := x
 unfold De.told at h2
 unfold De.body at h3
 simp only at h1 h2 h3
 by_cases k0 : k = 0
 ·rw [if_pos k0] at h2 h3
  obtain ⟨a, b⟩ := De.shc_len h3
  rw [h2]
  refine light_of ?_ ?_ ?_ ?_ ?_ ?_ ?_ ?_ ?_ rfl rfl <;> dsimp only [De.of, De.Qu0, Bk.Bd0, Bk.Sh0] <;> first | omega | exact Nat.zero_le _
 ·rw [if_neg k0] at h2 h3
  by_cases k2 : k = 2
  ·rw [if_pos k2] at h2 h3
   obtain ⟨a, b⟩ := De.quc_len h3
   rw [h2]
   refine light_of ?_ ?_ ?_ ?_ ?_ ?_ ?_ ?_ ?_ rfl rfl <;> dsimp only [De.of, De.Qu0, Bk.Bd0, Bk.Sh0] <;> first | omega | exact Nat.zero_le _
  ·rw [if_neg k2] at h2 h3
   by_cases k4 : k = 4 ∨ k = 5
   ·rw [if_pos k4] at h2 h3
    obtain ⟨a, b, c, d⟩ := De.bdc_len h3
    rw [h2]
    refine light_of ?_ ?_ ?_ ?_ ?_ ?_ ?_ ?_ ?_ (lightB_code d) rfl <;> dsimp only [De.of, De.Qu0, Bk.Bd0, Bk.Sh0] <;> first | omega | exact Nat.zero_le _
   ·rw [if_neg k4] at h2 h3
    by_cases k1 : k = 1 ∨ k = 3 ∨ k = 7
    ·rw [if_pos k1] at h2 h3
     have a := (Hd.name_ok_len h3).1
     rw [h2]
     refine light_of ?_ ?_ ?_ ?_ ?_ ?_ ?_ ?_ ?_ rfl rfl <;> dsimp only [De.of, De.Qu0, Bk.Bd0, Bk.Sh0] <;> first | omega | exact Nat.zero_le _
    ·rw [if_neg k1] at h2 h3
     by_cases k6 : k = 6
     ·rw [if_pos k6] at h2
      rw [if_pos (.inl k6)] at h3
      rw [h2]
      refine light_of ?_ ?_ ?_ ?_ ?_ ?_ ?_ ?_ ?_ rfl (maLight_code h3) <;> dsimp only [De.of, De.Qu0, Bk.Bd0, Bk.Sh0] <;> exact Nat.zero_le _
     ·rw [if_neg k6] at h2
      by_cases k8 : k = 8
      ·rw [if_pos k8] at h2
       rw [if_neg (by omega), if_pos k8] at h3
       have a := De.stc_len h3
       dsimp only at a
       rw [h2]
       refine light_of ?_ ?_ ?_ ?_ ?_ ?_ ?_ ?_ ?_ rfl rfl <;> dsimp only [De.of, De.Qu0, Bk.Bd0, Bk.Sh0] <;> first | omega | exact Nat.zero_le _
      ·rw [if_neg k8] at h2
       by_cases k10 : k = 10
       ·rw [if_pos k10] at h2
        rw [if_pos (.inr k10)] at h3
        rw [h2]
        refine light_of ?_ ?_ ?_ ?_ ?_ ?_ ?_ ?_ ?_ rfl (maLight_code h3) <;> dsimp only [De.of, De.Qu0, Bk.Bd0, Bk.Sh0] <;> exact Nat.zero_le _
       ·rw [if_neg k10] at h2
        by_cases k12 : k = 12
        ·rw [if_pos k12] at h2
         rw [if_neg (by omega), if_neg k8, if_pos k12] at h3
         have hl : tt.length ≤ 64 := by
          by_cases g : 64 < tt.length
          ·rw [if_pos g] at h3; omega
          ·omega
         rw [h2]
         refine light_of ?_ ?_ ?_ ?_ ?_ ?_ ?_ ?_ ?_ rfl rfl <;> dsimp only [De.of, De.Qu0, Bk.Bd0, Bk.Sh0] <;> first | omega | exact Nat.zero_le _
        ·rw [if_neg k12] at h2
         rw [h2]
         refine light_of ?_ ?_ ?_ ?_ ?_ ?_ ?_ ?_ ?_ rfl rfl <;> dsimp only [De.of, De.Qu0, Bk.Bd0, Bk.Sh0] <;> exact Nat.zero_le _
theorem un_light {t : List UInt8} {q : List Dp} (h : q.map Dp.x = De.un t) : lightAll q = true := by
 have e : lightAll q = (q.map Dp.x).all deLight := by unfold lightAll; rw [List.all_map]; rfl
 rw [e, h]
 unfold De.un
 cases hb : De.unB t with
 | false => rfl
 | true =>
  rw [if_pos rfl]
  unfold De.unB at hb
  simp only [Bool.and_eq_true, decide_eq_true_eq] at hb
  exact List.all_eq_true.2 fun x hx => light_code ((De.packc_zero hb.2.1).2 x hx)
theorem un_len {t : List UInt8} {q : List Dp} (h : q.map Dp.x = De.un t) : q.length ≤ 255 := by
 rw [← List.length_map (f := Dp.x), h]
 unfold De.un
 cases hb : De.unB t with
 | false => exact Nat.zero_le _
 | true =>
  rw [if_pos rfl]
  unfold De.unB at hb
  simp only [Bool.and_eq_true, decide_eq_true_eq] at hb
  exact (De.packc_zero hb.2.1).1
theorem dsSame_map {l m : List Dp} (h : l.map Dp.x = m.map Dp.x) : dsSame l m = true := decide_eq_true h
set_option maxHeartbeats 16000000 in
theorem deedReads_walk (t : List UInt8) (w : World) (hL : Len w) :
  Calls Tryz.prog 4 #[.string (ofL t)] w fun e w' => e = .returned (.bool true) ∧ Below w.heap.size w w' := by
 have HAW := hid (fun W g => law22awake_any W g)
 have HL0 := hid hL
 have hz : (ofL t).size = t.length := ofL_size t
 clear hL
 go_enter Tryz.func4, Tryz.ntmps4
 go_wp2_with fail
 refine (HAW.out _ HL0.out).mono ?_
 rintro e w1 ⟨rfl, b1⟩
 have HB1 := hid b1
 clear b1
 by_cases hl : 2000 < t.length
 ·have hq : (2000 : Int) < (t.length : Int) := by omega
  go_wp2_with fail
  go_ret
  exact ⟨rfl, HB1.out⟩
 ·have hq : ¬ (2000 : Int) < (t.length : Int) := by omega
  have HU1 := hid (fun W h => ddUnpack_any t W (by omega) h)
  have HU2 := hid (fun W => r22Unpack_any t W (by omega))
  unfold UnPost at HU1 HU2
  go_wp2_with fail
  refine (HU1.out _ (HL0.out.on HB1.out)).mono ?_
  rintro e w2 ⟨A3, c3, q3, rfl, hm3, hc3, hD3, hl3, b2⟩
  have HB2 := hid (bthen HB1.out b2 (Nat.le_refl _))
  have HD3 := hid hD3
  have HM3 := hid hm3
  have hlt3 := un_light hm3
  have hln3 := un_len hm3
  have HF3 := hid (fun p (hp : p ∈ q3) => (hl3 p hp).f)
  clear hm3 hc3 hD3 hl3 b2
  go_wp2_with fail
  refine (HU2.out _).mono ?_
  rintro e w3 ⟨A5, c5, q5, rfl, hm5, hc5, hD5, hl5, b3⟩
  have HB3 := hid (bthen HB2.out b3 (Nat.le_refl _))
  have HD33 := hid (HD3.out.on b3)
  have HD5 := hid hD5
  have HM5 := hid hm5
  have hln5 := un_len hm5
  clear hm5 hc5 hD5 hl5 b3
  have HAL := hid (law22All_any q3 A3 c3 w3 (by omega) (dp_din HD33.out HF3.out))
  unfold AllPost at HAL
  rw [hlt3] at HAL
  go_wp2_with fail
  refine HAL.out.mono ?_
  rintro e w4 ⟨A7, c7, q7, rfl, hc7, hm7, hD7, b4⟩
  have HB4 := hid (bthen HB3.out b4 (Nat.le_refl _))
  have HD7 := hid hD7
  have hm73 := hm7 (by trivial)
  have hln7 : q7.length ≤ 255 := by rw [← List.length_map (f := Dp.x), hm73, List.length_map]; exact hln3
  have HSA := hid (r22SameAll_any q7 q5 A7 c7 A5 c5 w4 (by omega) (by omega) HD7.out (HD5.out.on b4))
  rw [dsSame_map (show q7.map Dp.x = q5.map Dp.x by rw [hm73, HM3.out, HM5.out])] at HSA
  have huc : (unC t == unC t) = true := beq_self_eq_true _
  clear hc7 hm7 hD7 b4 hm73 hlt3
  generalize unC t = U at *
  go_wp2_with fail
  refine HSA.out.mono ?_
  rintro e w5 ⟨rfl, b5⟩
  have HB5 := hid (bthen HB4.out b5 (Nat.le_refl _))
  clear b5
  go_wp2_with fail
  go_ret
  exact ⟨rfl, HB5.out⟩
theorem own : ownKnob Tryz.prog.godebug = none := by kernel_rfl
end Go.Proofs.YtaikigponkjkgaaGreatDoor
end
