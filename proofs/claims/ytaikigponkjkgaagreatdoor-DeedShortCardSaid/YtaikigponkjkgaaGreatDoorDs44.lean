/-
  DEEDS PACKED, the program's. A PUT MORE IN A DRAFT OF THE SAME PUTS: walked. WHEN WHAT LIVES SO LONG IS GONE: walked, the program's and the document's. ALL OF A DRAFT OF THE SAME PUTS, AT A TICK: walked.
-/
import Derived.Test.YtaikigponkjkgaaGreatDoorDs02
import Derived.Test.YtaikigponkjkgaaGreatDoorDs06
import Derived.Test.YtaikigponkjkgaaGreatDoorDs17
import Derived.Test.YtaikigponkjkgaaGreatDoorDs18
import Derived.Test.YtaikigponkjkgaaGreatDoorDs40
import Derived.Test.YtaikigponkjkgaaGreatDoorDs43
import Derived.BigFrame
import Derived.Deep.RegionHeld3
import Derived.Deep.DeepCutAuto
section
namespace Go.Proofs.YtaikigponkjkgaaGreatDoor
open Go.ChangeShapes Go.WideShapes Go.ChangeAt Go.RowKit
namespace De
theorem tx_le {s : List UInt8} {n : Nat} (h : s.length ≤ n) : (tx s).length ≤ n + 2 := by
  unfold tx
  rw [List.length_append, Oct.length_be]
  omega
theorem rest_le {x : De} (h : x.code = 0) : (rest x).length ≤ 2000 := by
  obtain ⟨h1, -, h3⟩ := code_zero h
  unfold body at h3
  unfold rest
  by_cases k0 : x.kd = 0
  · rw [if_pos k0] at h3 ⊢
    obtain ⟨a, b⟩ := shc_len h3
    have := tx_le a; have := tx_le b
    simp only [List.length_append, Oct.length_be]; omega
  · rw [if_neg k0] at h3 ⊢
    by_cases k2 : x.kd = 2
    · rw [if_pos k2] at h3 ⊢
      obtain ⟨a, b⟩ := quc_len h3
      have := tx_le a; have := tx_le b
      simp only [List.length_append, Oct.length_be]; omega
    · rw [if_neg k2] at h3 ⊢
      by_cases k4 : x.kd = 4 ∨ x.kd = 5
      · rw [if_pos k4] at h3 ⊢
        obtain ⟨a, b, c, d⟩ := bdc_len h3
        have l3 : (Hd.henc x.bind.want).length ≤ 1000 := by have := (hfine_of d).pre x.bind.want.length; rw [hpre_all (Nat.le_refl _)] at this; exact this
        unfold bdE
        simp only [List.length_append, Oct.length_be, List.length_nil]; omega
      · rw [if_neg k4] at h3 ⊢
        by_cases k1 : x.kd = 1 ∨ x.kd = 3 ∨ x.kd = 7
        · rw [if_pos k1] at h3 ⊢
          have := tx_le (Hd.name_ok_len h3).1; omega
        · rw [if_neg k1] at h3 ⊢
          by_cases k6 : x.kd = 6
          · rw [if_pos k6]
            rw [if_pos (.inl k6)] at h3
            have := mail_len h3; omega
          · rw [if_neg k6]
            by_cases k8 : x.kd = 8
            · rw [if_pos k8]
              rw [if_neg (by omega), if_pos k8] at h3
              have := tx_le (stc_len h3)
              simp only [List.length_append, Oct.length_be]; omega
            · rw [if_neg k8]
              by_cases k10 : x.kd = 10
              · rw [if_pos k10]
                rw [if_pos (.inr k10)] at h3
                have := mail_len h3
                simp only [List.length_append, Oct.length_be]; omega
              · rw [if_neg k10]
                by_cases k12 : x.kd = 12
                · rw [if_pos k12]
                  rw [if_neg (by omega), if_neg k8, if_pos k12] at h3
                  have hl : x.text.length ≤ 64 := by
                    by_cases g : 64 < x.text.length
                    · rw [if_pos g] at h3; omega
                    · omega
                  have := tx_le hl
                  simp only [List.length_append, Oct.length_be]; omega
                · rw [if_neg k12]; exact Nat.zero_le _
theorem enc_le {x : De} (h : x.code = 0) : x.enc.length ≤ 2100 := by
  have := rest_le h
  rw [enc_rest]
  simp only [List.length_append, Oct.length_be]
  omega
theorem encs_le : ∀ {l : List De}, (∀ x ∈ l, x.code = 0) → (encs l).length ≤ l.length * 2100
  | [], _ => by simp [encs]
  | y :: l, h => by
    have h1 := enc_le (h y (List.mem_cons_self ..))
    have h2 := encs_le (l := l) fun x hx => h x (List.mem_cons_of_mem _ hx)
    have e : (encs (y :: l)).length = y.enc.length + (encs l).length := by simp [encs]
    rw [e, List.length_cons, Nat.succ_mul]
    omega
end De
/-- what Pack answers -/
def packV (l : List De) : Value := if De.packc l = 0 then .tuple #[.string (ofL (De.pack l)), .int .i64 0] else .tuple #[.string ⟨#[]⟩, .int .i64 (De.packc l : Int)]
theorem packV_many {l : List De} (h : 255 < l.length) : packV l = .tuple #[.string ⟨#[]⟩, .int .i64 6] := by
  have e : De.packc l = 6 := by unfold De.packc; rw [if_pos h]
  unfold packV
  rw [e]; rfl
theorem packV_bad {l : List De} {k : Nat} (hn : l.length ≤ 255) (hk : k < l.length) (h : ∀ x ∈ l.take k, x.code = 0) (h2 : l[k].code ≠ 0) : packV l = .tuple #[.string ⟨#[]⟩, .int .i64 (l[k].code : Int)] := by
  have e : De.packc l = l[k].code := by unfold De.packc; rw [if_neg (by omega)]; exact De.codes_at hk h h2
  unfold packV
  rw [e, if_neg h2]
theorem packV_ok {l : List De} (hn : l.length ≤ 255) (h : ∀ x ∈ l, x.code = 0) : packV l = .tuple #[.string (ofL (Oct.be 1 l.length ++ De.encs l)), .int .i64 0] := by
  have e : De.packc l = 0 := by unfold De.packc; rw [if_neg (by omega)]; exact De.codes_all h
  unfold packV
  rw [e, if_pos rfl]; rfl
/-- up to one of them all may be -/
def UpTo (l : List De) (k : Nat) : Prop := ∀ x ∈ l.take k, x.code = 0
theorem UpTo.zero (l : List De) : UpTo l 0 := fun x hx => by simp at hx
theorem UpTo.next {l : List De} {k : Nat} (h : UpTo l k) (hk : k < l.length) (h0 : l[k].code = 0) : UpTo l (k + 1) := fun x hx => by
  rw [List.take_succ_eq_append_getElem hk] at hx
  rcases List.mem_append.1 hx with e | e
  · exact h x e
  · rw [List.mem_singleton.1 e]; exact h0
theorem UpTo.all {l : List De} {k : Nat} (h : UpTo l k) (hk : l.length ≤ k) : ∀ x ∈ l, x.code = 0 := fun x hx => h x (by rw [List.take_of_length_le hk]; exact hx)
theorem UpTo.len {l : List De} {k : Nat} (h : UpTo l k) (hl : l.length ≤ 255) : (De.encs (l.take k)).length ≤ 600000 := by
  have h1 := De.encs_le (l := l.take k) h
  have h2 : (l.take k).length ≤ 255 := by rw [List.length_take]; omega
  omega
theorem dp_map {l : List Dp} {k : Nat} (hk : k < l.length) : ∃ h : k < (l.map Dp.x).length, (l.map Dp.x)[k] = (l.getD k Dp0).x := ⟨by rw [List.length_map]; exact hk, by rw [List.getElem_map, dp_get hk]⟩
set_option maxRecDepth 100000 in
set_option maxHeartbeats 16000000 in
theorem ddPack_any (l : List Dp) (A : Option Addr) (c : Nat) (w : World) (hl : l.length ≤ 100000) (hI : Dps w A l) (hf : ∀ p ∈ l, De.Fits p.x) (hL : Len w) :
    Calls Tryz.prog 8 #[.slice A l.length c] w fun e w' => e = .returned (packV (l.map Dp.x)) ∧ Below w.heap.size w w' := by
  have HI := Lib.hid hI
  have HF := Lib.hid hf
  have HLN := Lib.hid hL
  have hlm : (l.map Dp.x).length = l.length := List.length_map _
  obtain ⟨n, hn⟩ : ∃ n, n = l.length := ⟨_, rfl⟩
  rw [← hn]
  have HN := Lib.hid hn
  have hnl : n ≤ 100000 := by omega
  have hmn : (l.map Dp.x).length = n := by omega
  have HMN := Lib.hid hmn
  have HM : Hid (255 < n → packV (l.map Dp.x) = .tuple #[.string ⟨#[]⟩, .int .i64 6]) := fun h => packV_many (by omega)
  have HB : Hid (∀ k, k < n → n ≤ 255 → UpTo (l.map Dp.x) k → (l.getD k Dp0).x.code ≠ 0 → packV (l.map Dp.x) = .tuple #[.string ⟨#[]⟩, .int .i64 ((l.getD k Dp0).x.code : Int)]) := fun k hk h255 hu h0 => by
    obtain ⟨h1, h2⟩ := dp_map (l := l) (k := k) (by omega)
    have := packV_bad (l := l.map Dp.x) (k := k) (by omega) h1 hu (by rw [h2]; exact h0)
    rw [h2] at this
    exact this
  have HO : Hid (n ≤ 255 → UpTo (l.map Dp.x) n → packV (l.map Dp.x) = .tuple #[.string (ofL (Oct.be 1 n ++ De.encs (l.map Dp.x))), .int .i64 0]) := fun h255 hu => by
    have := packV_ok (l := l.map Dp.x) (by omega) (hu.all (by omega))
    rw [hmn] at this
    exact this
  have HTK : Hid (∀ k, k < n → De.encs ((l.map Dp.x).take (k + 1)) = De.encs ((l.map Dp.x).take k) ++ (l.getD k Dp0).x.enc) := fun k hk => by
    obtain ⟨h1, h2⟩ := dp_map (l := l) (k := k) (by omega)
    rw [De.codes_take h1, h2]
  have HUN : Hid (∀ k, k < n → UpTo (l.map Dp.x) k → (l.getD k Dp0).x.code = 0 → UpTo (l.map Dp.x) (k + 1)) := fun k hk hu h0 => by
    obtain ⟨h1, h2⟩ := dp_map (l := l) (k := k) (by omega)
    exact hu.next h1 (by rw [h2]; exact h0)
  have HTA : Hid ((l.map Dp.x).take n = l.map Dp.x) := List.take_of_length_le (by omega)
  generalize packV (l.map Dp.x) = PV at *
  generalize l.map Dp.x = L at *
  clear hI hf hL hn hl hlm hmn
  go_enter Tryz.func8, Tryz.ntmps8
  by_cases h255 : 255 < n
  · have hq : (255 : Int) < (n : Int) := by omega
    have HV := HM.out h255
    go_wp2_with fail
    go_ret2
    exact ⟨by rw [HV]; rfl, Below.refl _ _⟩
  · have hq : ¬ (255 : Int) < (n : Int) := by omega
    have hw : IntKind.u64.wrap (n : Int) = (n : Int) := by rw [show IntKind.u64.wrap (n : Int) = (n : Int) % 18446744073709551616 from rfl]; omega
    have H255 := Lib.hid h255
    have HN1 := Lib.hid (fun W => num_l [] n 1 1 W (by omega) (by omega) rfl (by simp))
    rw [show ofL ([] : List UInt8) = ⟨#[]⟩ from rfl, List.nil_append] at HN1
    have HE1 : Hid ((Oct.be 1 n).length = 1) := Oct.length_be _ _
    generalize Oct.be 1 n = E1 at *
    have HST := Lib.hid (fun W => ostrD_any E1 W)
    have HSW := Lib.hid (fun l s W h h1 h2 => sbWrite_any w.heap.size w.heap.size l s W h h1 h2)
    have HSS := Lib.hid (fun l W h h2 => sbStr_any w.heap.size w.heap.size l W h h2)
    have HS0 := Lib.hid (sb_new w)
    have HB0 := Lib.hid ((Below.refl w.heap.size w).alloc (Nat.le_refl _) (.cells #[.pointer none, .slice none 0 0] 64))
    clear h255
    go_wp2_with fail
    (try simp only [hw])
    generalize w.alloc (.cells #[.pointer none, .slice none 0 0] 64) = w1 at *
    refine (HN1.out w1).mono ?_
    rintro e w2 ⟨rfl, b2⟩
    have HB2 := Lib.hid (bthen HB0.out b2 (Nat.le_refl _))
    have HS2 := Lib.hid (ry_sb_on HS0.out b2)
    clear b2
    go_wp2_with fail
    refine (HST.out _).mono ?_
    rintro e w3 ⟨rfl, b3⟩
    have HB3 := Lib.hid (bthen HB2.out b3 (Nat.le_refl _))
    have HS3 := Lib.hid (ry_sb_on HS2.out b3)
    clear b3
    go_wp2_with fail
    refine (HSW.out _ _ _ HS3.out (by have := HE1.out; simp; omega) HB3.out.size).mono ?_
    rintro e w4 ⟨rfl, hs4, b4⟩
    rw [List.nil_append] at hs4
    have HS4 := Lib.hid hs4
    have HB4 := Lib.hid (Below.trans HB3.out b4)
    clear hs4 b4
    go_wp2_with fail
    go_loopg [21] n (fun g i wr => ∃ k : Nat, k + g = n ∧ i = .int .i64 (k : Int) ∧ UpTo L k ∧ Sb w.heap.size w.heap.size (E1 ++ De.encs (L.take k)) wr ∧ Below w.heap.size w wr)
    case atStart => exact ⟨0, by omega, rfl, UpTo.zero L, by rw [List.take_zero, show De.encs [] = [] from rfl, List.append_nil]; exact HS4.out, HB4.out⟩
    case round =>
      obtain ⟨k, hk, rfl, hu, hs, hb⟩ := hrel
      have HK := Lib.hid hk
      have HU := Lib.hid hu
      have HS := Lib.hid hs
      have HBK := Lib.hid hb
      clear hk hu hs hb
      by_cases hlt : k < n
      · have hkl : k < l.length := by have := HN.out; omega
        obtain ⟨b, off, rfl, hbl, hat, hok⟩ := dps_elt (HI.out.on HBK.out) hkl
        have hfk : De.Fits (l.getD k Dp0).x := HF.out _ (by rw [← dp_get hkl]; exact List.getElem_mem hkl)
        have hle : (E1 ++ De.encs (L.take k)).length ≤ 700000 := by
          have h1 := HU.out.len (l := L) (by have := HMN.out; have := H255.out; omega)
          have h2 := HE1.out
          rw [List.length_append]; omega
        have HLE := Lib.hid hle
        have HBx := Lib.hid (HB.out k hlt (by have := H255.out; omega) HU.out)
        have HTKx := Lib.hid (HTK.out k hlt)
        have HUNx := Lib.hid (HUN.out k hlt HU.out)
        have HEL := Lib.hid (fun h : (l.getD k Dp0).x.code = 0 => De.enc_le h)
        generalize hpk : l.getD k Dp0 = p at hat hok hfk HBx HTKx HUNx HEL
        clear hpk hle
        obtain ⟨x, XA, xc, XB, xd⟩ := p
        dsimp only at hok hfk HBx HTKx HUNx HEL
        have HAT := Lib.hid (show wr.rangeAt b (off + k * 29) (deL x XA xc XB xd) from hat)
        have HOK := Lib.hid hok
        have HFK := Lib.hid hfk
        clear hat hok hfk
        have hki : (k : Int) < (n : Int) := by omega
        have HE5 := Lib.hid (BoxC.new (w := wr) (W := wr) (Nat.le_refl _) (deL x XA xc XB xd).toArray 52)
        have HBX5 := Lib.hid (rtOne wr (.cells (deL x XA xc XB xd).toArray 52))
        have HS5 := Lib.hid (ry_sb_on HS.out HBX5.out)
        have HB5 := Lib.hid (bthen HBK.out HBX5.out (Nat.le_refl _))
        go_upto_region 8 with (first
          | (refine wpList_load_mid (by rfl) 52 _ (by rfl) b (off + k * 29) (by rfl) (deL x XA xc XB xd) _ HAT.out Tryz.underlying52 rfl (by rw [de_size, deL_len]) ?_)
          | (refine wpList_store_new2 (by rfl) 52 _ _ (by rfl) _ (deL x XA xc XB xd).toArray (by rfl) (by rfl) (by rw [de_size]; rfl) (by rfl) (de_all _ _ _ _ _) ?_))
        have HBY := Lib.hid (ddBytes_any x XA xc XB xd (wr.alloc (.cells (deL x XA xc XB xd).toArray 52)) (HOK.out.on HBX5.out) HFK.out (HLN.out.on HB5.out))
        generalize wr.alloc (.cells (deL x XA xc XB xd).toArray 52) = W5 at *
        go_wp2_with (refine wpList_load_mid (by rfl) 52 _ (by rfl) wr.heap.size 0 (by rfl) (deL x XA xc XB xd) _ HE5.out.cs.range Tryz.underlying52 rfl (by rw [de_size, deL_len]) ?_)
        refine HBY.out.mono ?_
        rintro e w6 ⟨rfl, b6⟩
        have HB6 := Lib.hid (bthen HB5.out b6 (Nat.le_refl _))
        have HS6 := Lib.hid (ry_sb_on HS5.out b6)
        clear b6 HBY
        by_cases h0 : x.code = 0
        · rw [show deBytesV x = .tuple #[.string (ofL x.enc), .int .i64 0] by unfold deBytesV; rw [if_pos h0]]
          have HUK := Lib.hid (HUNx.out h0)
          have HELx := Lib.hid (HEL.out h0)
          clear h0 HUNx HEL HBx
          generalize x.enc = X at *
          go_wp2_with fail
          refine (HSW.out _ _ _ HS6.out (by have := HLE.out; have := HELx.out; omega) HB6.out.size).mono ?_
          rintro e w7 ⟨rfl, hs7, b7⟩
          have HS7 := Lib.hid hs7
          have HB7 := Lib.hid (Below.trans HB6.out b7)
          clear hs7 b7
          go_wp2_with fail
          go_roundg (gk - 1)
          case rel => exact ⟨k + 1, by have := HK.out; omega, by go_num, HUK.out, by rw [HTKx.out, ← List.append_assoc]; exact HS7.out, HB7.out⟩
          case measure => have := HK.out; omega
        · rw [show deBytesV x = .tuple #[.string ⟨#[]⟩, .int .i64 (x.code : Int)] by unfold deBytesV; rw [if_neg h0]]
          have hne : ((x.code : Int) != 0) = true := by rw [bne_iff_ne]; omega
          have HV := HBx.out h0
          clear h0 HUNx HEL HBx
          generalize x.code = X at *
          go_wp2_with fail
          go_ret2
          exact ⟨by rw [HV]; rfl, HB6.out⟩
      · have hki : ¬ (k : Int) < (n : Int) := by omega
        have e : k = n := by have := HK.out; omega
        have HV := HO.out (by have := H255.out; omega) (e ▸ HU.out)
        have hs := HS.out
        rw [e, HTA.out] at hs
        have HSF := Lib.hid hs
        clear hs e
        go_wp2_with fail
        refine (HSS.out _ _ HSF.out HBK.out.size).mono ?_
        rintro e w7 ⟨rfl, b7⟩
        have HB7 := Lib.hid (Below.trans HBK.out b7)
        clear b7
        go_wp2_with fail
        go_ret2
        exact ⟨by rw [HV]; rfl, HB7.out⟩
end Go.Proofs.YtaikigponkjkgaaGreatDoor
end
section
namespace Go.Proofs.YtaikigponkjkgaaGreatDoor
open Go.ChangeShapes Go.WideShapes Go.ChangeAt Go.RowKit
theorem prs_grown {w w' : World} {A : Option Addr} {l : List Hd.Pr} (h : Prs w A l) (hg : w.grownBy w' none) : Prs w' A l := h.grown hg (fun a _ e => by cases e)
/-- the boxes: the deed's, what is more, what is told -/
structure AdW (w : World) (t : Nat) (m : Ml) (B : Option Addr) (d : Nat) (A : Option Addr) (n c g8 : Nat) (W : World) : Prop where
  e : BoxC w g8 (deL (Df t m) none 0 B d) W
  mo : BoxC w (w.heap.size + 2) [.slice A n c] W
  r : BoxC w (w.heap.size + 1) [.slice none 0 0] W
  x : BoxC w w.heap.size [.slice A n c] W
  B : Below w.heap.size w W
  gg : w.heap.size + 2 < g8
theorem AdW.on {w : World} {t : Nat} {m : Ml} {B : Option Addr} {d : Nat} {A : Option Addr} {n c g8 : Nat} {W W' : World} (h : AdW w t m B d A n c g8 W) (hb : Below W.heap.size W W') : AdW w t m B d A n c g8 W' := ⟨h.e.on hb, h.mo.on hb, h.r.on hb, h.x.on hb, bthen h.B hb (Nat.le_refl _), h.gg⟩
theorem AdW.grown {w : World} {t : Nat} {m : Ml} {B : Option Addr} {d : Nat} {A : Option Addr} {n c g8 : Nat} {W W' : World} (h : AdW w t m B d A n c g8 W) (hg : W.grownBy W' none) : AdW w t m B d A n c g8 W' := ⟨rtKept h.e hg (by simp), rtKept h.mo hg (by simp), rtKept h.r hg (by simp), rtKept h.x hg (by simp), h.B.grown hg h.B.size (fun k hk => by cases hk), h.gg⟩
end Go.Proofs.YtaikigponkjkgaaGreatDoor
end
section
namespace Go.Proofs.YtaikigponkjkgaaGreatDoor
open Go.ChangeShapes Go.WideShapes Go.ChangeAt Go.RowKit
def lifeN (t l : Nat) : Nat := if l = 0 ∨ 18446744073709551616 ≤ t + l then 0 else t + l
end Go.Proofs.YtaikigponkjkgaaGreatDoor
end
section
namespace Go.Proofs.YtaikigponkjkgaaGreatDoor
open Go.ChangeShapes Go.WideShapes Go.ChangeAt Go.RowKit
def due (T : Nat) (m : Ml) : Ml := { m with due := lifeN T m.due }
theorem ownPrs_grown {C : Nat} {w w' : World} {A : Option Addr} {c : Nat} {l : List Hd.Pr} {row : Option Nat} (h : OwnPrs C w A c l) (hg : w.grownBy w' row) (hne : ∀ a, A = some a → ∀ b, row = some b → a.block ≠ b) : OwnPrs C w' A c l :=
  World.ownsRow.kept (row := row) h hg (by
    cases A with
    | none => exact Or.inl rfl
    | some a => exact Or.inr (by simp only [Value.ownBlock]; exact fun e => hne a rfl a.block e.symm rfl))
theorem ownRow_on {w w' : World} {base : Nat} {e : TypeId} {sz n : Nat} {v : Value} {xs : List Value} (h : w.ownsRow base e sz v n xs) (hb : Below w.heap.size w w') : w'.ownsRow base e sz v n xs :=
  World.ownsRow.kept (row := none) h ⟨hb.os, hb.tape, hb.output, hb.size, fun k hk _ => hb.block k hk⟩ (by
    cases hv : v.ownBlock with
    | none => exact Or.inl rfl
    | some a => exact Or.inr (by simp))
end Go.Proofs.YtaikigponkjkgaaGreatDoor
end
