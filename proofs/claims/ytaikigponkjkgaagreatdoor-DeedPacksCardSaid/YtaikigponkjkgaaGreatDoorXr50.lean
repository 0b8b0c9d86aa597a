/-
 A part of the proof.
-/
import Derived.Test.YtaikigponkjkgaaGreatDoorXr43
import Derived.Test.YtaikigponkjkgaaGreatDoorXr47
import Derived.Test.YtaikigponkjkgaaGreatDoorXr49
import Derived.BigQuiet
import Derived.Deep.RegionHeld3
import Derived.Deep.DeepCutAuto
import Derived.WalkKit
import Derived.ProofKit
import Derived.OpenShut
import Derived.Deep.DeepHandedRow
import Derived.Laws.IdiomArrays
import Derived.Lib.SmallJoins
import Derived.Deep.Slices
import Derived.Deep.Fields
import Derived.ChangeSame
section
namespace Go.Proofs.YtaikigponkjkgaaGreatDoor
open Go.ChangeShapes Go.WideShapes Go.ChangeAt Go.RowKit
set_option maxRecDepth 100000 in
set_option maxHeartbeats 16000000 in
theorem r22Pack_any (l : List Dp) (A : Option Addr) (c : Nat) (w : World) (hl : l.length ≤ 100000) (hI : Dps w A l) (hf : ∀ p ∈ l, De.Fits p.x) :
  Calls Tryz.prog 9 #[.slice A l.length c] w fun e w' => e = .returned (packV (l.map Dp.x)) ∧ Below w.heap.size w w' := by
 have HI := Lib.hid hI
 have HF := Lib.hid hf
 have hlm : (l.map Dp.x).length = l.length := List.length_map _
 obtain ⟨n, hn⟩ : ∃ n, n = l.length := ⟨_, rfl⟩
 rw [← hn]
 have HN := Lib.hid hn
 have hnl : n ≤ 100000 := by omega
 have hmn : (l.map Dp.x).length = n := by omega
 have HMN := Lib.hid hmn
 have HM : Hid (255 < n → packV (l.map Dp.x) = .tuple #[.string ⟨#[]⟩, .int .i64 6]) := fun h => packV_many (by omega)
 have HB : Hid (∀ k, k < n → n ≤ 255 → UpTo (l.map Dp.x) k → (l.getD k Dp0).x.code ≠ 0 → packV (l.map Dp.x) = .tuple #[.string ⟨#[]⟩, .int .i64 ((l.getD k Dp0).x.code : Int)]) := fun k hk h255 hu h0 => by
  obtain ⟨h1, h2⟩ := dp_map (l := l) (k := k) (by omega)
  have := packV_bad (l := l.map Dp.x) (k := k) (by omega) h1 hu (by rw [h2]; exact h0)
  rw [h2] at this
  exact this
 have HO : Hid (n ≤ 255 → UpTo (l.map Dp.x) n → packV (l.map Dp.x) = .tuple #[.string (ofL (Oct.be 1 n ++ De.encs (l.map Dp.x))), .int .i64 0]) := fun h255 hu => by
  have := packV_ok (l := l.map Dp.x) (by omega) (hu.all (by omega))
  rw [hmn] at this
  exact this
 have HTK : Hid (∀ k, k < n → De.encs ((l.map Dp.x).take (k + 1)) = De.encs ((l.map Dp.x).take k) ++ (l.getD k Dp0).x.enc) := fun k hk => by
  obtain ⟨h1, h2⟩ := dp_map (l := l) (k := k) (by omega)
  rw [De.codes_take h1, h2]
 have HUN : Hid (∀ k, k < n → UpTo (l.map Dp.x) k → (l.getD k Dp0).x.code = 0 → UpTo (l.map Dp.x) (k + 1)) := fun k hk hu h0 => by
  obtain ⟨h1, h2⟩ := dp_map (l := l) (k := k) (by omega)
  exact hu.next h1 (by rw [h2]; exact h0)
 have HTA : Hid ((l.map Dp.x).take n = l.map Dp.x) := List.take_of_length_le (by omega)
 generalize packV (l.map Dp.x) = PV at *
 generalize l.map Dp.x = L at *
 clear hI hf hn hl hlm hmn
 go_enter Tryz.func9, Tryz.ntmps9
 by_cases h255 : 255 < n
 ·have hq : (255 : Int) < (n : Int) := by omega
  have HV := HM.out h255
  go_wp2_with fail
  go_ret2
  exact ⟨by rw [HV]; rfl, Below.refl _ _⟩
 ·have hq : ¬ (255 : Int) < (n : Int) := by omega
  have hw : IntKind.u64.wrap (n : Int) = (n : Int) := by rw [show IntKind.u64.wrap (n : Int) = (n : Int) % 18446744073709551616 from rfl]; omega
  have H255 := Lib.hid h255
  have HN1 := Lib.hid (show Calls Tryz.prog 22 #[.int .u64 (n : Int), .int .i64 1] w fun x w' => x = .returned (.string (ofL (Oct.be 1 n))) ∧ Below w.heap.size w w' from rnum_at 1 (by omega) n w (by omega))
  have HE1 : Hid ((Oct.be 1 n).length = 1) := Oct.length_be _ _
  generalize Oct.be 1 n = E1 at *
  clear h255
  go_wp2_with fail
  (try simp only [hw])
  refine HN1.out.mono ?_
  rintro e w2 ⟨rfl, b2⟩
  have HB2 := Lib.hid b2
  clear b2
  go_wp2_with fail
  go_loopg [4, 17] n (fun g v i wr => ∃ k : Nat, k + g = n ∧ i = .int .i64 (k : Int) ∧ UpTo L k ∧ v = .string (ofL (E1 ++ De.encs (L.take k))) ∧ Below w.heap.size w wr)
  case atStart => exact ⟨0, by omega, rfl, UpTo.zero L, by rw [List.take_zero, show De.encs [] = [] from rfl, List.append_nil], HB2.out⟩
  case round =>
   obtain ⟨k, hk, rfl, hu, rfl, hb⟩ := hrel
   have HK := Lib.hid hk
   have HU := Lib.hid hu
   have HBK := Lib.hid hb
   clear hk hu hb
   by_cases hlt : k < n
   ·have hkl : k < l.length := by have := HN.out; omega
    obtain ⟨b, off, rfl, hbl, hat, hok⟩ := dps_elt (HI.out.on HBK.out) hkl
    have hfk : De.Fits (l.getD k Dp0).x := HF.out _ (by rw [← dp_get hkl]; exact List.getElem_mem hkl)
    have hle : (E1 ++ De.encs (L.take k)).length ≤ 700000 := by
     have h1 := HU.out.len (l := L) (by have := HMN.out; have := H255.out; omega)
     have h2 := HE1.out
     rw [List.length_append]; omega
    have hs1 : (ofL (E1 ++ De.encs (L.take k))).size ≤ 700000 := by rw [ofL_size]; exact hle
    have HBx := Lib.hid (HB.out k hlt (by have := H255.out; omega) HU.out)
    have HTKx := Lib.hid (show E1 ++ De.encs (L.take (k + 1)) = (E1 ++ De.encs (L.take k)) ++ (l.getD k Dp0).x.enc by rw [HTK.out k hlt, List.append_assoc])
    have HUNx := Lib.hid (HUN.out k hlt HU.out)
    have HEL := Lib.hid (fun h : (l.getD k Dp0).x.code = 0 => De.enc_le h)
    generalize hpk : l.getD k Dp0 = p at hat hok hfk HBx HTKx HUNx HEL
    clear hpk hle
    generalize E1 ++ De.encs (L.take k) = Y at *
    obtain ⟨x, XA, xc, XB, xd⟩ := p
    dsimp only at hok hfk HBx HTKx HUNx HEL
    have HAT := Lib.hid (show wr.rangeAt b (off + k * 29) (deL x XA xc XB xd) from hat)
    have HOK := Lib.hid hok
    have HFK := Lib.hid hfk
    clear hat hok hfk
    have hki : (k : Int) < (n : Int) := by omega
    have HE5 := Lib.hid (BoxC.new (w := wr) (W := wr) (Nat.le_refl _) (deL x XA xc XB xd).toArray 59)
    have HBX5 := Lib.hid (rtOne wr (.cells (deL x XA xc XB xd).toArray 59))
    have HB5 := Lib.hid (bthen HBK.out HBX5.out (Nat.le_refl _))
    go_upto_region 7 with (first
     | (refine wpList_load_mid (by rfl) 59 _ (by rfl) b (off + k * 29) (by rfl) (deL x XA xc XB xd) _ HAT.out Tryz.underlying59 rfl (by rw [rde_size, deL_len]) ?_)
     | (refine wpList_store_new2 (by rfl) 59 _ _ (by rfl) _ (deL x XA xc XB xd).toArray (by rfl) (by rfl) (by rw [rde_size]; rfl) (by rfl) (de_all _ _ _ _ _) ?_))
    have HCK := Lib.hid (r22Check_any x XA xc XB xd (wr.alloc (.cells (deL x XA xc XB xd).toArray 59)) (HOK.out.on HBX5.out))
    generalize wr.alloc (.cells (deL x XA xc XB xd).toArray 59) = W5 at *
    go_wp2_with (refine wpList_load_mid (by rfl) 59 _ (by rfl) wr.heap.size 0 (by rfl) (deL x XA xc XB xd) _ HE5.out.cs.range Tryz.underlying59 rfl (by rw [rde_size, deL_len]) ?_)
    refine HCK.out.mono ?_
    rintro e w6 ⟨rfl, b6⟩
    have HB6 := Lib.hid (bthen HB5.out b6 (Nat.le_refl _))
    have HE6 := Lib.hid (HE5.out.on b6)
    have HOK6 := Lib.hid ((HOK.out.on HBX5.out).on b6)
    clear b6 HCK
    by_cases h0 : x.code = 0
    ·have hne : ((x.code : Int) != 0) = false := by rw [h0]; rfl
     have HUK := Lib.hid (HUNx.out h0)
     have hs2 : (ofL x.enc).size ≤ 2100 := by rw [ofL_size]; exact HEL.out h0
     have HBY := Lib.hid (r22Bytes_any x XA xc XB xd w6 HOK6.out.bind.row HOK6.out.mail.row HFK.out h0)
     have HAP := Lib.hid (show ofL Y ++ ofL x.enc = ofL (E1 ++ De.encs (L.take (k + 1))) by rw [HTKx.out, ofL_app])
     clear h0 HUNx HEL HBx
     generalize ofL x.enc = X at *
     generalize ofL Y = Y1 at *
     generalize x.code = X2 at *
     go_wp2_with (refine wpList_load_mid (by rfl) 59 _ (by rfl) wr.heap.size 0 (by rfl) (deL x XA xc XB xd) _ HE6.out.cs.range Tryz.underlying59 rfl (by rw [rde_size, deL_len]) ?_)
     refine HBY.out.mono ?_
     rintro e w7 ⟨rfl, b7⟩
     have HB7 := Lib.hid (bthen HB6.out b7 (Nat.le_refl _))
     clear b7
     go_wp2_with fail
     go_roundg (gk - 1)
     case rel => exact ⟨k + 1, by have := HK.out; omega, by go_num, HUK.out, by rw [HAP.out], HB7.out⟩
     case measure => have := HK.out; omega
    ·have hne : ((x.code : Int) != 0) = true := by rw [bne_iff_ne]; omega
     have HV := HBx.out h0
     clear h0 HUNx HEL HBx
     generalize x.code = X at *
     go_wp2_with fail
     go_ret2
     exact ⟨by rw [HV]; rfl, HB6.out⟩
   ·have hki : ¬ (k : Int) < (n : Int) := by omega
    have e : k = n := by have := HK.out; omega
    have HV := Lib.hid (HO.out (by have := H255.out; omega) (e ▸ HU.out))
    have HE2 : Hid (L.take k = L) := by unfold Hid; rw [e]; exact HTA.out
    clear e
    go_wp2_with fail
    go_ret2
    exact ⟨by rw [HV.out]; have e2 := HE2.out; rw [e2]; rfl, HBK.out⟩
theorem lightAll_map {l m : List Dp} (h : l.map Dp.x = m.map Dp.x) : lightAll l = lightAll m := by
 have e : ∀ k : List Dp, lightAll k = (k.map Dp.x).all deLight := fun k => by unfold lightAll; rw [List.all_map]; rfl
 rw [e, e, h]
theorem dsSame_map {l m : List Dp} (h : l.map Dp.x = m.map Dp.x) : dsSame l m = true := decide_eq_true h
set_option maxRecDepth 100000 in
set_option maxHeartbeats 16000000 in
theorem deedPacks_walk (A0 : Option Addr) (c0 : Nat) (l : List Dp) (w : World) (hl : l.length ≤ 409120605673) (hI : Din w A0 l) (hL : Len w) :
  Calls Tryz.prog 3 #[.slice A0 l.length c0] w fun e w' => e = .returned (.bool true) ∧ Below w.heap.size w w' := by
 have HAW := Lib.hid (fun W g => law22awake_any W g)
 have HAL := Lib.hid (fun W g => law22All_any l A0 c0 W hl g)
 have HI := Lib.hid hI
 have HL0 := Lib.hid hL
 have HFX : Hid (∀ x ∈ l.map Dp.x, De.Fits x) := fun x hx => by
  obtain ⟨p, hp, rfl⟩ := List.mem_map.1 hx
  exact (hI.in_ p hp).fits
 have HLM := Lib.hid (fun h => lightAll_mem (l := l) h)
 have HPK := Lib.hid (fun W (h1 : l.length ≤ 100000) h2 h3 => ddPack_any l A0 c0 W h1 h2 (fun p hp => (hI.in_ p hp).fits) h3)
 have HLG : Hid (l.length = (l.map Dp.x).length) := (List.length_map _).symm
 obtain ⟨n, hn⟩ : ∃ n, n = l.length := ⟨_, rfl⟩
 have HN := Lib.hid hn
 rw [← hn] at HAL HPK ⊢
 clear hI hL hl hn
 unfold AllPost at HAL
 go_enter Tryz.func3, Tryz.ntmps3
 go_wp2_with fail
 refine (HAW.out _ HL0.out).mono ?_
 rintro e w1 ⟨rfl, b1⟩
 have HB1 := Lib.hid b1
 clear b1
 go_wp2_with fail
 refine (HAL.out _ (din_on HI.out HB1.out)).mono ?_
 rintro e w2 ⟨A2, c2, q2, rfl, -, hm2, hD2, b2⟩
 have HB2 := Lib.hid (bthen HB1.out b2 (Nat.le_refl _))
 have HM2 := Lib.hid hm2
 have HD2 := Lib.hid hD2
 clear b2 HAL hm2 hD2
 by_cases h300 : 300 < n
 ·have hq : (300 : Int) < (n : Int) := by omega
  go_wp2_with fail
  go_ret
  exact ⟨rfl, HB2.out⟩
 ·have hq : ¬ (300 : Int) < (n : Int) := by omega
  cases hla : lightAll l with
  | false =>
   go_wp2_with fail
   go_ret
   exact ⟨rfl, HB2.out⟩
  | true =>
   have HD := Lib.hid (dp_of_din HI.out (HLM.out hla))
   have HME := Lib.hid (HM2.out hla)
   have HLA := Lib.hid hla
   clear hla HM2
   have hq2 : q2.length ≤ 300 := by rw [← List.length_map (f := Dp.x), HME.out, ← HLG.out, ← HN.out]; omega
   have HF2 : Hid (∀ p ∈ q2, De.Fits p.x) := fun p hp => HFX.out _ (by rw [← HME.out]; exact List.mem_map_of_mem hp)
   have HRP := Lib.hid (fun W h => r22Pack_any q2 A2 c2 W (by omega) h HF2.out)
   rw [HME.out] at HRP
   go_wp2_with fail
   refine (HPK.out _ (by omega) (HD.out.on HB2.out) (HL0.out.on HB2.out)).mono ?_
   obtain ⟨PV, hPV⟩ : ∃ PV, packV (l.map Dp.x) = PV := ⟨_, rfl⟩
   rw [hPV] at HRP
   rw [hPV]
   rintro e w3 ⟨rfl, b3⟩
   have HB3 := Lib.hid (bthen HB2.out b3 (Nat.le_refl _))
   have HD23 := Lib.hid (HD2.out.on b3)
   clear b3 HPK
   by_cases hc : De.packc (l.map Dp.x) = 0
   ·rw [show packV (l.map Dp.x) = .tuple #[.string (ofL (De.pack (l.map Dp.x))), .int .i64 0] by unfold packV; rw [if_pos hc]] at hPV
    subst hPV
    obtain ⟨hp1, -⟩ := pack_len hc
    obtain ⟨hu1, hu2⟩ := De.un_pack HFX.out hc
    have HUN := Lib.hid (fun W h => ddUnpack_any (De.pack (l.map Dp.x)) W (by omega) h)
    unfold UnPost at HUN
    rw [show unC (De.pack (l.map Dp.x)) = 0 by unfold unC; rw [if_pos hu1], hu2] at HUN
    have hs1 := unp_same (De.pack (l.map Dp.x))
    have hs2 := unp_same2 (De.pack (l.map Dp.x))
    generalize De.pack (l.map Dp.x) = E at *
    clear hc hp1 hu1 hu2
    go_wp2_with fail
    refine (HRP.out _ HD23.out).mono ?_
    rintro e w4 ⟨rfl, b4⟩
    have HB4 := Lib.hid (bthen HB3.out b4 (Nat.le_refl _))
    have HD24 := Lib.hid (HD23.out.on b4)
    clear b4 HRP
    go_wp2_with fail
    refine (HUN.out _ (HL0.out.on HB4.out)).mono ?_
    rintro e w5 ⟨A9, c9, q9, rfl, hm9, hc9, hD9, hl9, b5⟩
    have HB5 := Lib.hid (bthen HB4.out b5 (Nat.le_refl _))
    have HD25 := Lib.hid (HD24.out.on b5)
    have hln9 : q9.length ≤ 300 := by rw [← List.length_map (f := Dp.x), hm9, ← HLG.out, ← HN.out]; omega
    have hla9 : lightAll q9 = true := (lightAll_map hm9).trans HLA.out
    have HAL := Lib.hid (law22All_any q9 A9 c9 w5 (by omega) (dp_din hD9 (fun p hp => (hl9 p hp).f)))
    unfold AllPost at HAL
    rw [hla9] at HAL
    have HM9 := Lib.hid hm9
    clear hm9 hc9 hD9 hl9 b5 hla9 HUN
    go_wp2_with fail
    refine HAL.out.mono ?_
    rintro e w6 ⟨A7, c7, q7, rfl, hc7, hm7, hD7, b6⟩
    have HB6 := Lib.hid (bthen HB5.out b6 (Nat.le_refl _))
    have hm79 := hm7 (by trivial)
    have hln7 : q7.length ≤ 300 := by rw [← List.length_map (f := Dp.x), hm79, List.length_map]; exact hln9
    have HSA := Lib.hid (r22SameAll_any q7 q2 A7 c7 A2 c2 w6 (by omega) (by omega) hD7 (HD25.out.on b6))
    rw [dsSame_map (show q7.map Dp.x = q2.map Dp.x by rw [hm79, HM9.out, HME.out])] at HSA
    clear hc7 hm7 hD7 b6 hm79
    go_wp2_with fail
    refine HSA.out.mono ?_
    rintro e w7 ⟨rfl, b7⟩
    have HB7 := Lib.hid (bthen HB6.out b7 (Nat.le_refl _))
    clear b7
    go_wp2_with fail
    go_ret
    exact ⟨rfl, HB7.out⟩
   ·rw [show packV (l.map Dp.x) = .tuple #[.string ⟨#[]⟩, .int .i64 (De.packc (l.map Dp.x) : Int)] by unfold packV; rw [if_neg hc]] at hPV
    subst hPV
    have hce : ((De.packc (l.map Dp.x) : Int) != 0) = true := by rw [bne_iff_ne]; omega
    have hcs : ((De.packc (l.map Dp.x) : Int) != (De.packc (l.map Dp.x) : Int)) = false := by simp
    generalize De.packc (l.map Dp.x) = PC at *
    go_wp2_with fail
    refine (HRP.out _ HD23.out).mono ?_
    rintro e w4 ⟨rfl, b4⟩
    have HB4 := Lib.hid (bthen HB3.out b4 (Nat.le_refl _))
    clear b4
    go_wp2_with fail
    go_ret
    exact ⟨rfl, HB4.out⟩
structure MsC (w : World) (p q : Nat) (r : Ru) (A : Option Addr) (c : Nat) (s : Ru) (B : Option Addr) (d : Nat) (W : World) : Prop where
 rp : Cels W p (ruL r A c)
 rq : Cels W q (ruL s B d)
 lp : p < W.heap.size
 lq : q < W.heap.size
 ra : Prs W A r.want
 rb : Prs W B s.want
 B : Below w.heap.size w W
theorem MsC.on {w : World} {p q : Nat} {r : Ru} {A : Option Addr} {c : Nat} {s : Ru} {B : Option Addr} {d : Nat} {W W' : World} (h : MsC w p q r A c s B d W) (hb : Below W.heap.size W W') : MsC w p q r A c s B d W' :=
 ⟨h.rp.on hb h.lp, h.rq.on hb h.lq, Nat.lt_of_lt_of_le h.lp hb.size, Nat.lt_of_lt_of_le h.lq hb.size, h.ra.on hb, h.rb.on hb, bthen h.B hb (Nat.le_refl _)⟩
abbrev MsS (w : World) (p q : Nat) (r : Ru) (A : Option Addr) (c : Nat) (s : Ru) (B : Option Addr) (d : Nat) (W : World) : Prop :=
 (W.cell? ⟨p, 0, none⟩ = some (.int .u8 (r.sort : Int)) ∧ W.cell? ⟨p, 1, none⟩ = some (.string (ofL r.key)) ∧ W.cell? ⟨p, 2, none⟩ = some (.slice A r.want.length c) ∧ W.cell? ⟨p, 3, none⟩ = some (.bool r.all) ∧ p < W.heap.size ∧
  W.cell? ⟨q, 0, none⟩ = some (.int .u8 (s.sort : Int)) ∧ W.cell? ⟨q, 1, none⟩ = some (.string (ofL s.key)) ∧ W.cell? ⟨q, 2, none⟩ = some (.slice B s.want.length d) ∧ W.cell? ⟨q, 3, none⟩ = some (.bool s.all) ∧ q < W.heap.size) ∧ MsC w p q r A c s B d W
theorem MsC.s {w : World} {p q : Nat} {r : Ru} {A : Option Addr} {c : Nat} {s : Ru} {B : Option Addr} {d : Nat} {W : World} (h : MsC w p q r A c s B d W) : MsS w p q r A c s B d W :=
 ⟨⟨h.rp 0 _ rfl, h.rp 1 _ rfl, h.rp 2 _ rfl, h.rp 3 _ rfl, h.lp, h.rq 0 _ rfl, h.rq 1 _ rfl, h.rq 2 _ rfl, h.rq 3 _ rfl, h.lq⟩, h⟩
theorem MsS.on {w : World} {p q : Nat} {r : Ru} {A : Option Addr} {c : Nat} {s : Ru} {B : Option Addr} {d : Nat} {W W' : World} (h : MsS w p q r A c s B d W) (hb : Below W.heap.size W W') : MsS w p q r A c s B d W' := (h.2.on hb).s
theorem MsC.start (w : World) (r : Ru) (A : Option Addr) (c : Nat) (s : Ru) (B : Option Addr) (d : Nat) (hA : Prs w A r.want) (hB : Prs w B s.want) (t : TypeId) :
  MsC w w.heap.size (w.heap.size + 1) r A c s B d ((w.alloc (.cells #[.int .u8 (r.sort : Int), .string (ofL r.key), .slice A r.want.length c, .bool r.all] t)).alloc (.cells #[.int .u8 (s.sort : Int), .string (ofL s.key), .slice B s.want.length d, .bool s.all] t)) := by
 have e1 : (w.alloc (.cells #[.int .u8 (r.sort : Int), .string (ofL r.key), .slice A r.want.length c, .bool r.all] t)).heap.size = w.heap.size + 1 := by simp
 have hb0 : Below w.heap.size w (w.alloc (.cells #[.int .u8 (r.sort : Int), .string (ofL r.key), .slice A r.want.length c, .bool r.all] t)) := (Below.refl _ _).alloc (Nat.le_refl _) _
 have hb := (Below.refl (w.alloc (.cells #[.int .u8 (r.sort : Int), .string (ofL r.key), .slice A r.want.length c, .bool r.all] t)).heap.size (w.alloc (.cells #[.int .u8 (r.sort : Int), .string (ofL r.key), .slice A r.want.length c, .bool r.all] t))).alloc (Nat.le_refl _) (.cells #[.int .u8 (s.sort : Int), .string (ofL s.key), .slice B s.want.length d, .bool s.all] t)
 refine ⟨(ruBox r A c w t).on hb (by simp), ?_, by simp; omega, by simp, (hA.on hb0).on hb, (hB.on hb0).on hb, bthen hb0 hb (Nat.le_refl _)⟩
 rw [← e1]
 exact Cels.new _ _ _
end Go.Proofs.YtaikigponkjkgaaGreatDoor
end
section
namespace Go.Proofs.YtaikigponkjkgaaGreatDoor
open Go.ChangeShapes Go.WideShapes Go.ChangeAt Go.RowKit
theorem own : ownKnob Tryz.prog.godebug = none := by kernel_rfl
theorem laidOut : laidOutB Tryz.prog = true := by kernel_rfl
theorem nat_of_u8 {n : Int} (h : (Lit.int .u8 n).wf = true) : ∃ k : Nat, n = (k : Int) ∧ k < 256 := by
 have hx : 0 ≤ n ∧ n ≤ 255 := by simpa [Lit.wf, IntKind.min, IntKind.max, IntKind.signed, IntKind.bits] using h
 exact ⟨n.toNat, by omega, by omega⟩
end Go.Proofs.YtaikigponkjkgaaGreatDoor
end
section
namespace Go.Proofs.YtaikigponkjkgaaGreatDoor.Rw
open Go.ChangeShapes Go.WideShapes Go.Deep
section
variable {H : Type} {enc : TypeId × Value → H} {P : Program} {w : World} {base : Nat} {spare : Nat → Bool} {held : Bool}
theorem open_slice_fields {t e : TypeId} {fs : Array Field} {fuel : Nat} {cs : List Value} {x : DataW H × List MemPlace} (ht : P.underlying t = some (.slice e)) (he : P.underlying e = some (.struct fs))
  (hone : oneCellFields P fs = true) (hC : P.cellsOf e = fs.size) (h : DataW.trod enc P w base spare held fuel t cs = some x) :
  (cs = [.slice none 0 0] ∧ x = (.nil, [])) ∨
  ∃ (a : Addr) (len cap m : Nat) (D : Nat → DataW H) (Pl : Nat → List MemPlace), cs = [.slice (some a) len cap] ∧ base ≤ a.block ∧ len ≤ cap ∧ cap ≤ maxLen ∧ m = (if spare a.block then cap else len) ∧
   x = (.slice ((List.range len).map D) ((List.range (m - len)).map fun j => D (len + j)), MemPlace.row a (m * fs.size) ++ (List.range m).flatMap Pl) ∧
   ∀ i, i < m → ∃ (ys : List (DataW H × List MemPlace)) (n : Nat), D i = .agg (ys.map (·.1)) ∧ Pl i = ys.flatMap (·.2) ∧ ys.length = fs.size ∧
    ∀ (j : Nat) (f : Field), fs[j]? = some f → ∃ (v : Value) (y : DataW H × List MemPlace), w.cell? (a.add (i * fs.size + j)) = some v ∧ ys[j]? = some y ∧ DataW.trod enc P w base spare held n f.type [v] = some y := by
 rcases open_slice ht h with h0 | ⟨a, len, cap, m, n, D, Pl, hcs, hb, hl, hm, hmm, hx, hi⟩
 ·exact .inl h0
 ·refine .inr ⟨a, len, cap, m, D, Pl, hcs, hb, hl, hm, hmm, by rw [hC] at hx; exact hx, fun i him => ?_⟩
  obtain ⟨cs', hc, ht'⟩ := hi i him
  rw [hC] at hc
  obtain ⟨ys, n', hn', hy, hlen, hyl, hf⟩ := DataW.trod_struct he ht'
  obtain ⟨_, hcl, hat⟩ := World.cells?_some hc
  simp only [Prod.mk.injEq] at hy
  refine ⟨ys, n', hy.1, hy.2, hyl, fun j f hj => ?_⟩
  obtain ⟨ho, hk⟩ := hone_of hone j f hj
  have hjl : j < fs.size := (Array.getElem?_eq_some_iff.1 hj).1
  have hcell := hat j hjl
  have hv : cs'[j]? = some (cs'[j]'(by omega)) := List.getElem?_eq_getElem (by omega)
  have h1 := hf j f hj
  rw [ho, hk] at h1
  have hone' : (cs'.drop j).take 1 = [cs'[j]'(by omega)] := by
   rw [List.drop_eq_getElem_cons (by omega)]
   rfl
  rw [hone'] at h1
  have hys : ys[j]? = some (ys[j]'(by omega)) := List.getElem?_eq_getElem (by omega)
  refine ⟨_, _, ?_, hys, h1.trans hys⟩
  rw [← Go.Deep.add_add, hcell, hv]
end
end Go.Proofs.YtaikigponkjkgaaGreatDoor.Rw
end
section
namespace Go.Proofs.YtaikigponkjkgaaGreatDoor
open Go.ChangeShapes Go.WideShapes Go.Deep
theorem i64_of {n : Int} (h : (Lit.int .i64 n).wf = true) : -9223372036854775808 ≤ n ∧ n < 9223372036854775808 := by
 have hx : -9223372036854775808 ≤ n ∧ n ≤ 9223372036854775807 := by simpa [Lit.wf, IntKind.min, IntKind.max, IntKind.signed, IntKind.bits] using h
 omega
structure PairsIn (W : World) (A : Option Addr) (len cap : Nat) (l : List Hd.Pr) : Prop where
 len : l.length = len
 at_ : Prs W A l
 fits : ∀ p ∈ l, Hd.Fits p
 le : l.length ≤ cap
 big : l.length ≤ 9223372036854775807
theorem pairs_in {H : Type} {enc : TypeId × Value → H} {W : World} {A : Option Addr} {len cap fuel : Nat} {x : DataW H × List MemPlace}
  (hf : DataW.trod enc Tryz.prog W 0 (fun _ => true) true fuel 46 [.slice A len cap] = some x) : ∃ l : List Hd.Pr, PairsIn W A len cap l := by
 rcases Rw.open_slice_fields Tryz.underlying46 Tryz.underlying142 (by kernel_rfl) (by kernel_rfl) hf with ⟨hcs, _⟩ | ⟨a, l, c, m, D, Pl, hcs, _, hl, hm, hmm, _, hi⟩
 ·simp at hcs
  obtain ⟨rfl, rfl, rfl⟩ := hcs
  exact ⟨[], rfl, Prs.nil _ _, fun f hf => by simp at hf, Nat.le_refl _, by simp⟩
 ·simp at hcs
  obtain ⟨rfl, rfl, rfl⟩ := hcs
  have hm' : m = cap := by simpa using hmm
  subst hm'
  have hsz : ∀ i, ∃ x : Hd.Pr, i < m → Hd.Fits x ∧ ∃ b off, a = ⟨b, off, none⟩ ∧ b < W.heap.size ∧ PrAt W b (off + i * 4) x := by
   intro i
   by_cases him : i < m
   ·obtain ⟨ys, n, _, _, _, hfld⟩ := hi i him
    obtain ⟨v0, y0, k0, _, t0⟩ := hfld 0 _ rfl
    obtain ⟨v1, y1, k1, _, t1⟩ := hfld 1 _ rfl
    obtain ⟨v2, y2, k2, _, t2⟩ := hfld 2 _ rfl
    obtain ⟨v3, y3, k3, _, t3⟩ := hfld 3 _ rfl
    obtain ⟨x0, e0, _, w0⟩ := DataW.trod_string Tryz.underlying9 t0
    obtain ⟨x1, e1, _, w1⟩ := DataW.trod_int Tryz.underlying5 t1
    obtain ⟨x2, e2, _, w2⟩ := DataW.trod_int Tryz.underlying2 t2
    obtain ⟨x3, e3, _, w3⟩ := DataW.trod_string Tryz.underlying9 t3
    obtain ⟨kd, rfl, hkd⟩ := nat_of_u8 w1
    obtain ⟨lo, hi2⟩ := i64_of w2
    simp only [List.cons.injEq, and_true] at e0 e1 e2 e3
    subst e0 e1 e2 e3
    obtain ⟨ys', n', _, _, _, hfld'⟩ := hi 0 (by omega)
    obtain ⟨v', y', k', _, _⟩ := hfld' 0 _ rfl
    obtain ⟨b, off, spot⟩ := a
    have hsp : spot = none := by
     have := World.cell?_spot k'
     simpa [Addr.add] using this
    subst hsp
    have hb : b < W.heap.size := by
     have := World.block_lt_of_cell? W _ k1
     simpa [Addr.add] using this
    have ea : ∀ j, (⟨b, off, none⟩ : Addr).add (i * 4 + j) = ⟨b, off + i * 4 + j, none⟩ := fun j => by
     unfold Addr.add
     split
     ·rename_i h0
      have : i * 4 + j = 0 := by simpa using h0
      simp only [Addr.mk.injEq, true_and, and_true]; omega
     ·simp only [Addr.mk.injEq, true_and, and_true]; omega
    have q0 := (congrArg W.cell? (ea 0)).symm.trans k0
    have q1 := (congrArg W.cell? (ea 1)).symm.trans k1
    have q2 := (congrArg W.cell? (ea 2)).symm.trans k2
    have q3 := (congrArg W.cell? (ea 3)).symm.trans k3
    exact ⟨⟨x0.data.toList, kd, x2, x3.data.toList⟩, fun _ => ⟨⟨hkd, lo, hi2⟩, b, off, rfl, hb, ⟨by rw [ofL_toList]; exact q0, q1, q2, by rw [ofL_toList]; exact q3⟩⟩⟩
   ·exact ⟨Hd.Pr.zero, fun h => absurd h him⟩
  obtain ⟨f, hfn⟩ := Classical.axiomOfChoice hsz
  refine ⟨(List.range len).map f, by simp, ⟨fun i hi' => ?_⟩, fun x hx => ?_, by simp; omega, by simp; unfold maxLen at hm; omega⟩
  ·have hil : i < len := by simpa using hi'
   have eg : Hd.pr ((List.range len).map f) i = f i := by unfold Hd.pr; simp [List.getD_eq_getElem?_getD, hil]
   rw [eg]
   obtain ⟨hfit, b, off, rfl, hb, hat⟩ := hfn i (by omega)
   exact ⟨b, off, rfl, hb, hat⟩
  ·obtain ⟨i, hi2, rfl⟩ := List.mem_map.1 hx
   exact (hfn i (by have := List.mem_range.1 hi2; omega)).1
end Go.Proofs.YtaikigponkjkgaaGreatDoor
end
section
namespace Go.Proofs.YtaikigponkjkgaaGreatDoor
open Go.ChangeShapes Go.WideShapes Go.ChangeAt Go.RowKit
theorem u64_nat {n : Int} (h : (Lit.int .u64 n).wf = true) : ∃ k : Nat, n = (k : Int) ∧ k < 18446744073709551616 := by
 have hx : 0 ≤ n ∧ n ≤ 18446744073709551615 := by simpa [Lit.wf, IntKind.min, IntKind.max, IntKind.signed, IntKind.bits] using h
 exact ⟨n.toNat, by omega, by omega⟩
theorem txt_big {s : ByteArray} (h : s.size ≤ maxLen) : s.data.toList.length ≤ 9223372036854775807 := by
 have hz := ofL_size s.data.toList
 rw [ofL_toList] at hz
 unfold maxLen at h
 omega
theorem lstOf7 {α : Type} {cs : List α} (h : cs.length = 7) : ∃ c0 c1 c2 c3 c4 c5 c6, cs = [c0, c1, c2, c3, c4, c5, c6] := by
 match cs, h with
 | [c0, c1, c2, c3, c4, c5, c6], _ => exact ⟨c0, c1, c2, c3, c4, c5, c6, rfl⟩
end Go.Proofs.YtaikigponkjkgaaGreatDoor
end
section
namespace Go.Proofs.YtaikigponkjkgaaGreatDoor
open Go.ChangeShapes Go.WideShapes Go.Deep Go.RowKit
theorem acs_addr {b off : Nat} {k j : Nat} : ((⟨b, off, none⟩ : Addr).add k).add j = ⟨b, off + k + j, none⟩ := by
 unfold Addr.add
 (repeat' split) <;> simp_all <;> omega
theorem acs_row {H : Type} {enc : TypeId × Value → H} {P : Program} {W : World} {t e : TypeId} {C : Nat} {A : Option Addr} {len cap : Nat} {fuel : Nat} {y : DataW H × List MemPlace} (ht : P.underlying t = some (.slice e)) (hC : P.cellsOf e = C) (h0 : 0 < C)
  (h : DataW.trod enc P W 0 (fun _ => true) true fuel t [.slice A len cap] = some y) :
  len ≤ cap ∧ cap ≤ 9223372036854775807 ∧ (A = none → cap = 0) ∧ ∀ i, i < len → ∃ b off, A = some ⟨b, off, none⟩ ∧ b < W.heap.size ∧ ∃ cs n y, cs.length = C ∧ (∀ j, j < C → W.cell? (((⟨b, off, none⟩ : Addr).add (i * C)).add j) = cs[j]?) ∧ DataW.trod enc P W 0 (fun _ => true) true n e cs = some y := by
 rcases open_slice ht h with ⟨hcs, _⟩ | ⟨a, l, c, m, n, D, Q, hcs, _, hl, hm, hmm, _, hi⟩
 ·simp at hcs
  obtain ⟨rfl, rfl, rfl⟩ := hcs
  exact ⟨Nat.le_refl _, by omega, fun _ => rfl, fun i hi => absurd hi (by omega)⟩
 ·simp at hcs
  obtain ⟨rfl, rfl, rfl⟩ := hcs
  have hm' : m = cap := by simpa using hmm
  subst hm'
  rw [hC] at hi
  refine ⟨hl, by unfold maxLen at hm; omega, (fun e => by cases e), fun i hil => ?_⟩
  obtain ⟨cs', hc, ht'⟩ := hi i (by omega)
  obtain ⟨_, hcl, hat⟩ := World.cells?_some hc
  obtain ⟨b, off, spot⟩ := a
  have hsp : spot = none := by
   obtain ⟨cs0, hc0, -⟩ := hi 0 (by omega)
   obtain ⟨_, hcl0, hat0⟩ := World.cells?_some hc0
   have h1 : W.cell? (((⟨b, off, spot⟩ : Addr).add (0 * C)).add 0) = some (cs0[0]'(by omega)) := by rw [hat0 0 h0, List.getElem?_eq_getElem (by omega)]
   have := World.cell?_spot h1
   simpa [Addr.add] using this
  subst hsp
  have h1 : W.cell? (((⟨b, off, none⟩ : Addr).add (i * C)).add 0) = some (cs'[0]'(by omega)) := by rw [hat 0 h0, List.getElem?_eq_getElem (by omega)]
  have hb : b < W.heap.size := by
   have := World.block_lt_of_cell? W _ h1
   revert this
   unfold Addr.add
   (repeat' split) <;> intro h <;> simpa using h
  exact ⟨b, off, rfl, hb, cs', n, _, hcl, hat, ht'⟩
set_option maxRecDepth 100000 in
set_option maxHeartbeats 2000000 in
set_option maxRecDepth 100000 in
theorem mail_cells {H : Type} {enc : TypeId × Value → H} {W : World} {n : Nat} {cs : List Value} {y : DataW H × List MemPlace} (hcl : cs.length = 7)
  (h : DataW.trod enc Tryz.prog W 0 (fun _ => true) true n 50 cs = some y) : ∃ (x : Ml) (A : Option Addr) (c : Nat), MaIn W x A c ∧ cs = maL x A c := by
 obtain ⟨c0, c1, c2, c3, c4, c5, c6, rfl⟩ := lstOf7 hcl
 obtain ⟨ys, n', -, -, -, hyl, hft⟩ := DataW.trod_struct Tryz.underlying50 h
 obtain ⟨y0, y1, y2, y3, y4, y5, y6, rfl⟩ := lstOf7 hyl
 have t0 : DataW.trod enc Tryz.prog W 0 (fun _ => true) true n' 41 (([c0, c1, c2, c3, c4, c5, c6].drop 0).take (Tryz.prog.cellsOf 41)) = some y0 := hft 0 _ rfl
 rw [show Tryz.prog.cellsOf 41 = 1 by kernel_rfl] at t0
 simp only [List.drop, List.take] at t0
 have t1 : DataW.trod enc Tryz.prog W 0 (fun _ => true) true n' 9 (([c0, c1, c2, c3, c4, c5, c6].drop 1).take (Tryz.prog.cellsOf 9)) = some y1 := hft 1 _ rfl
 rw [show Tryz.prog.cellsOf 9 = 1 by kernel_rfl] at t1
 simp only [List.drop, List.take] at t1
 have t2 : DataW.trod enc Tryz.prog W 0 (fun _ => true) true n' 9 (([c0, c1, c2, c3, c4, c5, c6].drop 2).take (Tryz.prog.cellsOf 9)) = some y2 := hft 2 _ rfl
 rw [show Tryz.prog.cellsOf 9 = 1 by kernel_rfl] at t2
 simp only [List.drop, List.take] at t2
 have t3 : DataW.trod enc Tryz.prog W 0 (fun _ => true) true n' 46 (([c0, c1, c2, c3, c4, c5, c6].drop 3).take (Tryz.prog.cellsOf 46)) = some y3 := hft 3 _ rfl
 rw [show Tryz.prog.cellsOf 46 = 1 by kernel_rfl] at t3
 simp only [List.drop, List.take] at t3
 have t4 : DataW.trod enc Tryz.prog W 0 (fun _ => true) true n' 9 (([c0, c1, c2, c3, c4, c5, c6].drop 4).take (Tryz.prog.cellsOf 9)) = some y4 := hft 4 _ rfl
 rw [show Tryz.prog.cellsOf 9 = 1 by kernel_rfl] at t4
 simp only [List.drop, List.take] at t4
 have t5 : DataW.trod enc Tryz.prog W 0 (fun _ => true) true n' 41 (([c0, c1, c2, c3, c4, c5, c6].drop 5).take (Tryz.prog.cellsOf 41)) = some y5 := hft 5 _ rfl
 rw [show Tryz.prog.cellsOf 41 = 1 by kernel_rfl] at t5
 simp only [List.drop, List.take] at t5
 have t6 : DataW.trod enc Tryz.prog W 0 (fun _ => true) true n' 5 (([c0, c1, c2, c3, c4, c5, c6].drop 6).take (Tryz.prog.cellsOf 5)) = some y6 := hft 6 _ rfl
 rw [show Tryz.prog.cellsOf 5 = 1 by kernel_rfl] at t6
 simp only [List.drop, List.take] at t6
 obtain ⟨x0, e0, -, w0⟩ := DataW.trod_int Tryz.underlying41 t0
 obtain ⟨x1, e1, -, w1⟩ := DataW.trod_string Tryz.underlying9 t1
 obtain ⟨x2, e2, -, w2⟩ := DataW.trod_string Tryz.underlying9 t2
 obtain ⟨A, len, cc, e3⟩ := Joins.slice_form Tryz.underlying46 t3
 obtain ⟨x4, e4, -, w4⟩ := DataW.trod_string Tryz.underlying9 t4
 obtain ⟨x5, e5, -, w5⟩ := DataW.trod_int Tryz.underlying41 t5
 obtain ⟨x6, e6, -, w6⟩ := DataW.trod_int Tryz.underlying5 t6
 simp only [List.cons.injEq, and_true] at e0 e1 e2 e3 e4 e5 e6
 subst e0 e1 e2 e3 e4 e5 e6
 obtain ⟨l, rfl, hP, hfi, hc, hb⟩ := pairs_in t3
 obtain ⟨id, rfl, hid⟩ := u64_nat w0
 obtain ⟨due, rfl, hdue⟩ := u64_nat w5
 obtain ⟨hops, rfl, hho⟩ := nat_of_u8 w6
 exact ⟨⟨id, x1.data.toList, x2.data.toList, l, x4.data.toList, due, hops⟩, A, cc, ⟨hP, hc, hb, ⟨txt_big w1, txt_big w2, txt_big w4⟩, ⟨hid, hdue, hho, hfi⟩⟩, by unfold maL; rw [ofL_toList, ofL_toList, ofL_toList]⟩
theorem rc_u8 : Tryz.prog.cellsOf 5 = 1 := by kernel_rfl
theorem rc_str : Tryz.prog.cellsOf 9 = 1 := by kernel_rfl
theorem rc_bool : Tryz.prog.cellsOf 4 = 1 := by kernel_rfl
theorem rc_prs : Tryz.prog.cellsOf 46 = 1 := by kernel_rfl
set_option maxRecDepth 100000 in
theorem shop_cells {H : Type} {enc : TypeId × Value → H} {W : World} {n : Nat} {c0 c1 c2 : Value} {y : DataW H × List MemPlace}
  (h : DataW.trod enc Tryz.prog W 0 (fun _ => true) true n 43 [c0, c1, c2] = some y) : ∃ s : Sh, s.sort < 256 ∧ c0 = .string (ofL s.name) ∧ c1 = .int .u8 (s.sort : Int) ∧ c2 = .string (ofL s.to) := by
 obtain ⟨ys, n', -, -, -, hyl, hft⟩ := DataW.trod_struct Tryz.underlying43 h
 match ys, hyl with
 | [y0, y1, y2], _ =>
  have t0 : DataW.trod enc Tryz.prog W 0 (fun _ => true) true n' 9 (([c0, c1, c2].drop 0).take (Tryz.prog.cellsOf 9)) = some y0 := hft 0 _ rfl
  have t1 : DataW.trod enc Tryz.prog W 0 (fun _ => true) true n' 5 (([c0, c1, c2].drop 1).take (Tryz.prog.cellsOf 5)) = some y1 := hft 1 _ rfl
  have t2 : DataW.trod enc Tryz.prog W 0 (fun _ => true) true n' 9 (([c0, c1, c2].drop 2).take (Tryz.prog.cellsOf 9)) = some y2 := hft 2 _ rfl
  rw [rc_str] at t0 t2
  rw [rc_u8] at t1
  simp only [List.drop, List.take] at t0 t1 t2
  obtain ⟨x0, e0, -, w0⟩ := DataW.trod_string Tryz.underlying9 t0
  obtain ⟨x1, e1, -, w1⟩ := DataW.trod_int Tryz.underlying5 t1
  obtain ⟨x2, e2, -, w2⟩ := DataW.trod_string Tryz.underlying9 t2
  simp only [List.cons.injEq, and_true] at e0 e1 e2
  subst e0 e1 e2
  obtain ⟨k, rfl, hk⟩ := nat_of_u8 w1
  exact ⟨⟨x0.data.toList, k, x2.data.toList⟩, hk, by rw [ofL_toList], rfl, by rw [ofL_toList]⟩
end Go.Proofs.YtaikigponkjkgaaGreatDoor
end
