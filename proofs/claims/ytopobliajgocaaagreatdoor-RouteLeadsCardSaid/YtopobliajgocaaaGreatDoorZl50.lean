/-
  THE LAW RouteLeads: walked.
-/
import Derived.Test.YtopobliajgocaaaGreatDoorZl49

section
namespace Go.Proofs.YtopobliajgocaaaGreatDoor
open Go.ChangeShapes Go.WideShapes Go.ChangeAt Go.RowKit
theorem leads_few {b : Bk} (hb : Bk.Ok b) (n key : List UInt8) (h : List Hd.Pr) : (b.qs n key h).length ≤ 100000 ∧ (b.pls n key h).length ≤ 100000 := by
  have h3 := hb.blen
  unfold Bk.qs Bk.pls
  cases b.shop n with
  | none => exact ⟨by simp, by simp⟩
  | some s =>
    dsimp only
    have h1 := Bk.lead_len s false key h b.binds
    have h2 := Bk.lead_len s true key h b.binds
    by_cases h4 : s.sort = 4
    · rw [if_pos h4, if_pos h4]; exact ⟨by simp, by simp⟩
    · rw [if_neg h4, if_neg h4]; exact ⟨by omega, by omega⟩
def LePost (w : World) (e : Ending) (w' : World) : Prop := e = .returned (.bool true) ∧ Below w.heap.size w w'
/-- the acts' loop -/
def RlSt (w : World) (R : Nat) (n g : Nat) (i : Value) (wr : World) : Prop := ∃ (k : Nat) (b : Bk), k + g = n ∧ i = .int .i64 (k : Int) ∧ Bk.Ok b ∧ BkBox w R (fun g => g ≠ R ∧ g ≠ R + 1) b wr ∧ BkBox w (R + 1) (fun g => g ≠ R ∧ g ≠ R + 1) b wr ∧ Below w.heap.size w wr
attribute [local go_sem] guardRSh
set_option maxRecDepth 100000 in
set_option maxHeartbeats 16000000 in
theorem routeLeads_walk (A0 : Option Addr) (ca : Nat) (l : List RaP) (shop key : List UInt8) (h : List Hd.Pr) (Bh : Option Addr) (dh : Nat) (w : World) (hl : l.length ≤ 9223372036854775807) (hA : Ras w A0 l) (hh : h.length ≤ 9223372036854775807) (hd : h.length ≤ dh) (hp : Prs w Bh h) (hL : Len w) :
    Calls Tryz.prog 4 #[.slice A0 l.length ca, .string (ofL shop), .string (ofL key), .slice Bh h.length dh] w (LePost w) := by
  unfold LePost
  have HAW := Lib.hid (fun W h => rt_awake_any W h)
  have HLI := Lib.hid (fun W h => light14_any A0 ca l W hl h)
  have HKE := Lib.hid (fun W => rkey_big key W)
  have HL9 := Lib.hid (fun W g => light9_any h Bh dh W hh g)
  have HA := Lib.hid hA
  have HL := Lib.hid hL
  have HP := Lib.hid hp
  have hz := ofL_size shop
  clear hA hL hp
  go_enter Tryz.func4, Tryz.ntmps4
  go_wp2_with fail
  refine (HAW.out _ HL.out).mono ?_
  rintro e w1 ⟨rfl, b1⟩
  have B1 := Lib.hid b1
  clear b1
  go_wp2_with fail
  refine (HLI.out _ (HA.out.on B1.out)).mono ?_
  rintro e w2 ⟨h2, b2⟩
  have B2 := Lib.hid (bthen B1.out b2 (Nat.le_refl _))
  clear b2
  rcases h2 with ⟨rfl, hf⟩ | rfl
  · have HF := Lib.hid hf
    clear hf
    by_cases h40 : shop.length ≤ 40
    · have d40 : decide ((shop.length : Int) > 40) = false := decide_eq_false (by omega)
      have HKL := Lib.hid (fun e => key_len (l := key) e)
      generalize Wrd.keyCode [] key = K at *
      by_cases hk0 : K = 0
      · have dk : ((K : Int) != 0) = false := by rw [hk0]; rfl
        have hkl := HKL.out hk0
        have HKY := Lib.hid hkl
        clear hk0 hkl
        cases hlb : lightB h with
        | true =>
          obtain ⟨hq1, hq2, -⟩ := light_lite hlb
          rw [hlb] at HL9
          have HCK := Lib.hid (fun W g => rCheck9_any h Bh dh W (by omega) hd hq2 g)
          have HQ1 := Lib.hid hq1
          clear hlb hq1 hq2
          generalize Hd.hcode h = C at *
          by_cases hc0 : C = 0
          · have dc : ((C : Int) != 0) = false := by rw [hc0]; rfl
            clear hc0
            go_wp2_with fail
            refine (HKE.out _).mono ?_
            rintro e w3 ⟨rfl, b3⟩
            have B3 := Lib.hid (bthen B2.out b3 (Nat.le_refl _))
            clear b3
            go_wp2_with fail
            refine (HL9.out _ (HP.out.on B3.out)).mono ?_
            rintro e w4 ⟨rfl, b4⟩
            have B4 := Lib.hid (bthen B3.out b4 (Nat.le_refl _))
            clear b4
            go_wp2_with fail
            refine (HCK.out _ (HP.out.on B4.out)).mono ?_
            rintro e w5 ⟨rfl, b5⟩
            have B5 := Lib.hid (bthen B4.out b5 (Nat.le_refl _))
            clear b5
            go_upto_region 7 with fail
            have HBX := Lib.hid ((BkBox.new B5.out.size (fun g => g ≠ w5.heap.size ∧ g ≠ w5.heap.size + 1) 28).on (rtOne _ (.cells #[.slice none 0 0, .slice none 0 0] 32)))
            have HBY := Lib.hid (show BkBox w (w5.heap.size + 1) (fun g => g ≠ w5.heap.size ∧ g ≠ w5.heap.size + 1) Bk.empty ((w5.alloc (.cells #[.slice none 0 0, .slice none 0 0] 28)).alloc (.cells #[.slice none 0 0, .slice none 0 0] 32)) from by
              have := BkBox.new (w := w) (W := w5.alloc (.cells #[.slice none 0 0, .slice none 0 0] 28)) (by have := B5.out.size; simp; omega) (fun g => g ≠ w5.heap.size ∧ g ≠ w5.heap.size + 1) 32
              rwa [show (w5.alloc (.cells #[.slice none 0 0, .slice none 0 0] 28)).heap.size = w5.heap.size + 1 by simp] at this)
            have HBB := Lib.hid (bthen B5.out (rtTwo w5 (.cells #[.slice none 0 0, .slice none 0 0] 28) (.cells #[.slice none 0 0, .slice none 0 0] 32)) (Nat.le_refl _))
            generalize ((w5.alloc (.cells #[.slice none 0 0, .slice none 0 0] 28)).alloc (.cells #[.slice none 0 0, .slice none 0 0] 32)) = w6 at *
            generalize w5.heap.size = R at *
            go_wp2_with fail
            go_loopg [49] l.length (fun g i wr => RlSt w R l.length g i wr)
            case atStart => exact ⟨0, Bk.empty, by omega, rfl, Bk.Ok.empty, HBX.out, HBY.out, HBB.out⟩
            case round =>
              obtain ⟨k0, b, hk, rfl, hok, hbx, hby, hbb⟩ := hrel
              have HK := Lib.hid hk
              have HOK := Lib.hid hok
              have HQX := Lib.hid hbx
              have HQY := Lib.hid hby
              have HQB := Lib.hid hbb
              clear hk hok hbx hby hbb
              by_cases hlt : k0 < l.length
              · have hras := HA.out.on HQB.out
                obtain ⟨ba, off, rfl, hbl, hat⟩ := ras_get hras hlt
                have hin := hras.h l[k0] (List.getElem_mem hlt)
                have hfe := HF.out.2 l[k0] (List.getElem_mem hlt)
                generalize l[k0] = p at *
                obtain ⟨k, s, x, Ax, cx⟩ := p
                unfold raL actL at hat
                dsimp only at hat
                have c0 := hat 0 _ rfl
                have c1 := hat 1 _ rfl
                have c2 := hat 2 _ rfl
                have c3 := hat 3 _ rfl
                have c4 := hat 4 _ rfl
                have c5 := hat 5 _ rfl
                have c6 := hat 6 _ rfl
                have c7 := hat 7 _ rfl
                have c8 := hat 8 _ rfl
                have c9 := hat 9 _ rfl
                rw [Nat.add_zero] at c0
                have HXO := Lib.hid (show BdOk wr x Ax cx from hfe.ok hin)
                have HA1 := Lib.hid (rtOne wr (.cells #[.int .u8 (k : Int), .string (ofL s.name), .int .u8 (s.sort : Int), .string (ofL s.to), .string (ofL x.shop), .string (ofL x.to), .bool x.up, .string (ofL x.key), .slice Ax x.want.length cx, .bool x.all] 39))
                have HB1 := Lib.hid (bthen HQB.out HA1.out (Nat.le_refl _))
                have HX1 := Lib.hid (HQX.out.on HA1.out)
                have HY1 := Lib.hid (HQY.out.on HA1.out)
                have HN1 := Lib.hid (show s.name.length ≤ 90000 from by have : s.name.length ≤ 40 := hfe.s1; omega)
                have HN2 := Lib.hid (show s.to.length ≤ 90000 from by have : s.to.length ≤ 40 := hfe.s2; omega)
                have HDO := Lib.hid (fun A c B d ps C e D f qs W U V hx hI hU hJ hV hL => done14_any k s x Ax cx b b A c B d ps C e D f qs W U V HN1.out HN2.out hx HOK.out HOK.out hI hU hJ hV hL)
                have HST := Lib.hid (HOK.out.act k s x)
                obtain ⟨A, c, B, d, ps, hx, hi, hu⟩ := HX1.out
                obtain ⟨C, e, D, f, qs, hy, hj, hv⟩ := HY1.out
                have HX := Lib.hid hx
                have HI := Lib.hid hi
                have HU := Lib.hid hu
                have HY := Lib.hid hy
                have HJ := Lib.hid hj
                have HV := Lib.hid hv
                have x0 := hx.cs 0 _ rfl
                have x1 := hx.cs 1 _ rfl
                have xl := hx.lt
                have y0 := hy.cs 0 _ rfl
                have y1 := hy.cs 1 _ rfl
                have yl := hy.lt
                clear hat hin hfe hras hx hi hu hy hj hv
                unfold DonePost bkV actV at HDO
                generalize b.act k s x = q2 at *
                go_wp2_with fail
                refine (HDO.out _ _ _ _ _ _ _ _ _ _ _ _ _ (HXO.out.on HA1.out) HI.out HU.out HJ.out HV.out (HL.out.on HB1.out)).mono ?_
                rintro en w7 ⟨A7, c7, B7, d7, ps7, C7, e7, D7, f7, qs7, rfl, hI7, hU7, hJ7, hV7, hb7⟩
                have HX7 := Lib.hid (HX.out.on hb7)
                have HY7 := Lib.hid (HY.out.on hb7)
                have HZ := Lib.hid (show R < (wr.alloc (.cells #[.int .u8 (k : Int), .string (ofL s.name), .int .u8 (s.sort : Int), .string (ofL s.to), .string (ofL x.shop), .string (ofL x.to), .bool x.up, .string (ofL x.key), .slice Ax x.want.length cx, .bool x.all] 39)).heap.size ∧ R + 1 < (wr.alloc (.cells #[.int .u8 (k : Int), .string (ofL s.name), .int .u8 (s.sort : Int), .string (ofL s.to), .string (ofL x.shop), .string (ofL x.to), .bool x.up, .string (ofL x.key), .slice Ax x.want.length cx, .bool x.all] 39)).heap.size from ⟨xl, yl⟩)
                have htw := bk_two (P := fun g => g ≠ R ∧ g ≠ R + 1) HX7.out HY7.out (by omega) (by simp) (by simp) HZ.out.1 (fun g hg => by have := HZ.out; omega) hI7 hU7 hJ7 hV7
                have HTW := Lib.hid htw
                have hb8 := bthen HB1.out hb7 (Nat.le_refl _)
                have hb9 := (((hb8.setCell (p := ⟨R, 0, none⟩) HX.out.ge (.slice A7 q2.1.shops.length c7)).setCell (p := ⟨R, 1, none⟩) HX.out.ge (.slice B7 q2.1.binds.length d7)).setCell (p := ⟨R + 1, 0, none⟩) HY.out.ge (.slice C7 q2.1.shops.length e7)).setCell (p := ⟨R + 1, 1, none⟩) HY.out.ge (.slice D7 q2.1.binds.length f7)
                have HB9 := Lib.hid hb9
                clear hI7 hU7 hJ7 hV7 hb7 htw hb8 hb9 x0 x1 xl y0 y1 yl
                have x0 := HX7.out.cs 0 _ rfl
                have x1 := HX7.out.cs 1 _ rfl
                have xl := HX7.out.lt
                have xf := HX7.out.s
                have y0 := HY7.out.cs 0 _ rfl
                have y1 := HY7.out.cs 1 _ rfl
                have yl := HY7.out.lt
                have yf := HY7.out.s
                unfold Soft at xf yf
                go_wp2_with fail
                go_roundg (gk - 1)
                case rel => exact ⟨k0 + 1, q2.1, by have := HK.out; omega, by go_num, HST.out, HTW.out.1, HTW.out.2, HB9.out⟩
                case measure => have := HK.out; omega
              · have HLQ := Lib.hid (fun A c B d ps W hI hp hL => rtLeads_any b A c B d ps shop key h Bh dh W (by have := HOK.out.len; omega) (by have := HOK.out.blen; omega) HOK.out.sort hI (by have := HKY.out; omega) (by have := HQ1.out; omega) hp hL)
                have HLR := Lib.hid (fun A c B d ps W hI hp => r14Leads_any b A c B d ps shop key h Bh dh W (by have := HOK.out.len; omega) (by have := HOK.out.blen; omega) HOK.out.sort hI (by have := HKY.out; omega) (by have := HQ1.out; omega) hp)
                have HSH := Lib.hid (fun A c B d W hS => rtShop_any b A c B d shop W (by have := HOK.out.len; omega) hS)
                have HFN := Lib.hid (fun A c B d W hS => r14Find_any b A c B d shop W (by have := HOK.out.len; omega) hS)
                have HQL := Lib.hid (show (b.qs shop key h).length ≤ 100000 ∧ (b.pls shop key h).length ≤ 100000 from leads_few HOK.out shop key h)
                have hfx := find_idx (fun x : Sh => x.name == shop) b.shops Bk.Sh0
                unfold LeadsPost bkV at HLQ HLR
                unfold bkV at HSH HFN
                generalize b.qs shop key h = qz at *
                generalize b.pls shop key h = pl at *
                generalize b.lcode shop = lc at *
                obtain ⟨A, c, B, d, ps, hx, hi, -⟩ := HQX.out
                obtain ⟨C, e, D, f, qs, hy, hj, -⟩ := HQY.out
                have HX := Lib.hid hx
                have HI := Lib.hid hi
                have HY := Lib.hid hy
                have HJ := Lib.hid hj
                have x0 := hx.cs 0 _ rfl
                have x1 := hx.cs 1 _ rfl
                have xl := hx.lt
                have y0 := hy.cs 0 _ rfl
                have y1 := hy.cs 1 _ rfl
                have yl := hy.lt
                clear hx hi hy hj
                go_wp2_with fail
                refine (HLQ.out _ _ _ _ _ _ HI.out (HP.out.on HQB.out) (HL.out.on HQB.out)).mono ?_
                rintro en w7 ⟨A7, c7, B7, d7, rfl, -, -, hr7, -, -, hs7, hb7⟩
                have HB7 := Lib.hid (bthen HQB.out hb7 (Nat.le_refl _))
                have HX7 := Lib.hid (HX.out.on hb7)
                have HI7 := Lib.hid (HI.out.on hb7)
                have HY7 := Lib.hid (HY.out.on hb7)
                have HJ7 := Lib.hid (HJ.out.on hb7)
                have HR7 := Lib.hid hr7
                have HS7 := Lib.hid hs7
                clear hr7 hs7 hb7 x0 x1 xl y0 y1 yl
                have x0 := HX7.out.cs 0 _ rfl
                have x1 := HX7.out.cs 1 _ rfl
                have xl := HX7.out.lt
                have y0 := HY7.out.cs 0 _ rfl
                have y1 := HY7.out.cs 1 _ rfl
                have yl := HY7.out.lt
                go_wp2_with fail
                refine (HLR.out _ _ _ _ _ _ HJ7.out (HP.out.on HB7.out)).mono ?_
                rintro en w8 ⟨A8, c8, B8, d8, rfl, -, -, hr8, -, -, hs8, hb8⟩
                have HB8 := Lib.hid (bthen HB7.out hb8 (Nat.le_refl _))
                have HX8 := Lib.hid (HX7.out.on hb8)
                have HI8 := Lib.hid (HI7.out.on hb8)
                have HY8 := Lib.hid (HY7.out.on hb8)
                have HJ8 := Lib.hid (HJ7.out.on hb8)
                have HR8 := Lib.hid (Rws.on HR7.out hb8)
                have HS8 := Lib.hid (Rws.on HS7.out hb8)
                have HRR8 := Lib.hid hr8
                have HSS8 := Lib.hid hs8
                clear hr8 hs8 hb8 x0 x1 xl y0 y1 yl
                have x0 := HX8.out.cs 0 _ rfl
                have x1 := HX8.out.cs 1 _ rfl
                have xl := HX8.out.lt
                have y0 := HY8.out.cs 0 _ rfl
                have y1 := HY8.out.cs 1 _ rfl
                have yl := HY8.out.lt
                go_wp2_with fail
                have hsb : b.shop shop = b.shops.find? fun x => x.name == shop := rfl
                rw [hsb] at HSH
                obtain ⟨e1, e2⟩ | ⟨k1, e1, hk1, e2⟩ := hfx
                · rw [e2, show shV (Option.getD none Bk.Sh0) = .agg #[.string (ofL []), .int .u8 0, .string (ofL [])] from rfl, show Option.isSome (none : Option Sh) = false from rfl] at HSH
                  rw [e1] at HFN
                  clear e1 e2 hsb
                  refine (HSH.out _ _ _ _ _ HI8.out.shs).mono ?_
                  rintro en w9 ⟨rfl, hb9⟩
                  have hb10 := bthen hb9 (rtOne w9 (.cells #[.string (ofL []), .int .u8 0, .string (ofL [])] 34)) (Nat.le_refl _)
                  have HT10 := Lib.hid (rtAt0 w9 #[.string (ofL []), .int .u8 0, .string (ofL [])] 34)
                  have HB10 := Lib.hid (bthen HB8.out hb10 (Nat.le_refl _))
                  have HY10 := Lib.hid (HY8.out.on hb10)
                  have HJ10 := Lib.hid (HJ8.out.on hb10)
                  have HR10 := Lib.hid (Rws.on HR8.out hb10)
                  have HS10 := Lib.hid (Rws.on HS8.out hb10)
                  have HRR10 := Lib.hid (Rws.on HRR8.out hb10)
                  have HSS10 := Lib.hid (Rws.on HSS8.out hb10)
                  clear hb9 hb10 x0 x1 xl y0 y1 yl
                  go_upto_region 15 with fail
                  generalize w9.alloc (.cells #[.string (ofL []), .int .u8 0, .string (ofL [])] 34) = w10 at *
                  generalize w9.heap.size = T at *
                  have y0 := HY10.out.cs 0 _ rfl
                  have y1 := HY10.out.cs 1 _ rfl
                  have yl := HY10.out.lt
                  go_wp2_with fail
                  refine (HFN.out _ _ _ _ _ HJ10.out.shs).mono ?_
                  rintro en w11 ⟨rfl, hb11⟩
                  have HB11 := Lib.hid (bthen HB10.out hb11 (Nat.le_refl _))
                  have HY11 := Lib.hid (HY10.out.on hb11)
                  have HT11 := Lib.hid (HT10.out.on hb11)
                  have HR11 := Lib.hid (Rws.on HR10.out hb11)
                  have HS11 := Lib.hid (Rws.on HS10.out hb11)
                  have HRR11 := Lib.hid (Rws.on HRR10.out hb11)
                  have HSS11 := Lib.hid (Rws.on HSS10.out hb11)
                  clear hb11 y0 y1 yl
                  have y0 := HY11.out.cs 0 _ rfl
                  have y1 := HY11.out.cs 1 _ rfl
                  have yl := HY11.out.lt
                  have t0 := HT11.out.cs 0 _ rfl
                  have t1 := HT11.out.cs 1 _ rfl
                  have t2 := HT11.out.cs 2 _ rfl
                  have tl := HT11.out.lt
                  go_upto_region 16 with fail
                  go_quiet (fail)
                  have hb12 := drewN_below (Below.refl w11.heap.size w11) nq
                  have HB12 := Lib.hid (bthen HB11.out hb12 (Nat.le_refl _))
                  have HR12 := Lib.hid (Rws.on HR11.out hb12)
                  have HS12 := Lib.hid (Rws.on HS11.out hb12)
                  have HRR12 := Lib.hid (Rws.on HRR11.out hb12)
                  have HSS12 := Lib.hid (Rws.on HSS11.out hb12)
                  clear hb12
                  generalize w11.drewN nq = w12 at *
                  go_wp2_with fail
                  refine (eqS_any qz qz A7 c7 A8 c8 _ HQL.out.1 HQL.out.1 HR12.out HRR12.out).mono ?_
                  rintro en w13 ⟨rfl, hb13⟩
                  have HB13 := Lib.hid (bthen HB12.out hb13 (Nat.le_refl _))
                  have HS13 := Lib.hid (Rws.on HS12.out hb13)
                  have HSS13 := Lib.hid (Rws.on HSS12.out hb13)
                  clear hb13
                  rw [show decide (qz = qz) = true from decide_eq_true rfl]
                  go_wp2_with fail
                  refine (eqS_any pl pl B7 d7 B8 d8 _ HQL.out.2 HQL.out.2 HS13.out HSS13.out).mono ?_
                  rintro en w14 ⟨rfl, hb14⟩
                  have HB14 := Lib.hid (bthen HB13.out hb14 (Nat.le_refl _))
                  clear hb14
                  rw [show decide (pl = pl) = true from decide_eq_true rfl]
                  go_wp2_with fail
                  go_ret
                  exact ⟨rfl, HB14.out⟩
                · rw [e2, show shV (Option.getD (some (b.shops.getD k1 Bk.Sh0)) Bk.Sh0) = .agg #[.string (ofL (b.shops.getD k1 Bk.Sh0).name), .int .u8 ((b.shops.getD k1 Bk.Sh0).sort : Int), .string (ofL (b.shops.getD k1 Bk.Sh0).to)] from rfl, show Option.isSome (some (b.shops.getD k1 Bk.Sh0)) = true from rfl] at HSH
                  rw [e1] at HFN
                  obtain ⟨bs, os, rfl, hbs, hats⟩ := shs_get HJ8.out.shs.row hk1
                  rw [sh_get hk1] at hats
                  have HSE := Lib.hid (fun W => rsh_eq (b.shops.getD k1 Bk.Sh0) (b.shops.getD k1 Bk.Sh0) W)
                  generalize b.shops.getD k1 Bk.Sh0 = y at *
                  have HAT := Lib.hid hats
                  have hkb : bs < w8.heap.size := hbs
                  have hk2 : ¬ ((k1 : Int) < 0) := by omega
                  have hk3 : (k1 : Int) < (b.shops.length : Int) := by omega
                  have hk4 : decide ((k1 : Int) ≥ 0) = true := decide_eq_true (by omega)
                  clear e1 e2 hsb hats hbs
                  refine (HSH.out _ _ _ _ _ HI8.out.shs).mono ?_
                  rintro en w9 ⟨rfl, hb9⟩
                  have hb10 := bthen hb9 (rtOne w9 (.cells #[.string (ofL y.name), .int .u8 (y.sort : Int), .string (ofL y.to)] 34)) (Nat.le_refl _)
                  have HT10 := Lib.hid (rtAt0 w9 #[.string (ofL y.name), .int .u8 (y.sort : Int), .string (ofL y.to)] 34)
                  have HB10 := Lib.hid (bthen HB8.out hb10 (Nat.le_refl _))
                  have HY10 := Lib.hid (HY8.out.on hb10)
                  have HJ10 := Lib.hid (HJ8.out.on hb10)
                  have HR10 := Lib.hid (Rws.on HR8.out hb10)
                  have HS10 := Lib.hid (Rws.on HS8.out hb10)
                  have HRR10 := Lib.hid (Rws.on HRR8.out hb10)
                  have HSS10 := Lib.hid (Rws.on HSS8.out hb10)
                  have HZ10 := Lib.hid hb10
                  clear hb9 hb10 x0 x1 xl y0 y1 yl
                  go_upto_region 15 with fail
                  generalize w9.alloc (.cells #[.string (ofL y.name), .int .u8 (y.sort : Int), .string (ofL y.to)] 34) = w10 at *
                  generalize w9.heap.size = T at *
                  have y0 := HY10.out.cs 0 _ rfl
                  have y1 := HY10.out.cs 1 _ rfl
                  have yl := HY10.out.lt
                  go_wp2_with fail
                  refine (HFN.out _ _ _ _ _ HJ10.out.shs).mono ?_
                  rintro en w11 ⟨rfl, hb11⟩
                  have hz11 := bthen HZ10.out hb11 (Nat.le_refl _)
                  have q0 := rtCell hz11 (HAT.out 0 _ rfl)
                  have q1 := rtCell hz11 (HAT.out 1 _ rfl)
                  have q2 := rtCell hz11 (HAT.out 2 _ rfl)
                  rw [Nat.add_zero] at q0
                  have ql : bs < w11.heap.size := Nat.lt_of_lt_of_le hkb hz11.size
                  have HB11 := Lib.hid (bthen HB10.out hb11 (Nat.le_refl _))
                  have HY11 := Lib.hid (HY10.out.on hb11)
                  have HT11 := Lib.hid (HT10.out.on hb11)
                  have HR11 := Lib.hid (Rws.on HR10.out hb11)
                  have HS11 := Lib.hid (Rws.on HS10.out hb11)
                  have HRR11 := Lib.hid (Rws.on HRR10.out hb11)
                  have HSS11 := Lib.hid (Rws.on HSS10.out hb11)
                  clear hb11 y0 y1 yl
                  have y0 := HY11.out.cs 0 _ rfl
                  have y1 := HY11.out.cs 1 _ rfl
                  have yl := HY11.out.lt
                  have t0 := HT11.out.cs 0 _ rfl
                  have t1 := HT11.out.cs 1 _ rfl
                  have t2 := HT11.out.cs 2 _ rfl
                  have tl := HT11.out.lt
                  go_upto_region 16 with fail
                  go_quiet (fail)
                  have hb12 := drewN_below (Below.refl w11.heap.size w11) nq
                  have HB12 := Lib.hid (bthen HB11.out hb12 (Nat.le_refl _))
                  have HR12 := Lib.hid (Rws.on HR11.out hb12)
                  have HS12 := Lib.hid (Rws.on HS11.out hb12)
                  have HRR12 := Lib.hid (Rws.on HRR11.out hb12)
                  have HSS12 := Lib.hid (Rws.on HSS11.out hb12)
                  clear hb12
                  generalize w11.drewN nq = w12 at *
                  go_wp2_with fail
                  refine (eqS_any qz qz A7 c7 A8 c8 _ HQL.out.1 HQL.out.1 HR12.out HRR12.out).mono ?_
                  rintro en w13 ⟨rfl, hb13⟩
                  have HB13 := Lib.hid (bthen HB12.out hb13 (Nat.le_refl _))
                  have HS13 := Lib.hid (Rws.on HS12.out hb13)
                  have HSS13 := Lib.hid (Rws.on HSS12.out hb13)
                  clear hb13
                  rw [show decide (qz = qz) = true from decide_eq_true rfl]
                  go_wp2_with fail
                  refine (eqS_any pl pl B7 d7 B8 d8 _ HQL.out.2 HQL.out.2 HS13.out HSS13.out).mono ?_
                  rintro en w14 ⟨rfl, hb14⟩
                  have HB14 := Lib.hid (bthen HB13.out hb14 (Nat.le_refl _))
                  clear hb14
                  rw [show decide (pl = pl) = true from decide_eq_true rfl]
                  go_wp2_with fail
                  go_ret
                  exact ⟨rfl, HB14.out⟩
          · have dc : ((C : Int) != 0) = true := by rw [bne_iff_ne]; omega
            clear hc0
            go_wp2_with fail
            refine (HKE.out _).mono ?_
            rintro e w3 ⟨rfl, b3⟩
            have B3 := Lib.hid (bthen B2.out b3 (Nat.le_refl _))
            clear b3
            go_wp2_with fail
            refine (HL9.out _ (HP.out.on B3.out)).mono ?_
            rintro e w4 ⟨rfl, b4⟩
            have B4 := Lib.hid (bthen B3.out b4 (Nat.le_refl _))
            clear b4
            go_wp2_with fail
            refine (HCK.out _ (HP.out.on B4.out)).mono ?_
            rintro e w5 ⟨rfl, b5⟩
            have B5 := Lib.hid (bthen B4.out b5 (Nat.le_refl _))
            clear b5
            go_wp2_with fail
            go_ret
            exact ⟨rfl, B5.out⟩
        | false =>
          rw [hlb] at HL9
          clear hlb
          go_wp2_with fail
          refine (HKE.out _).mono ?_
          rintro e w3 ⟨rfl, b3⟩
          have B3 := Lib.hid (bthen B2.out b3 (Nat.le_refl _))
          clear b3
          go_wp2_with fail
          refine (HL9.out _ (HP.out.on B3.out)).mono ?_
          rintro e w4 ⟨rfl, b4⟩
          have B4 := Lib.hid (bthen B3.out b4 (Nat.le_refl _))
          clear b4
          go_wp2_with fail
          go_ret
          exact ⟨rfl, B4.out⟩
      · have dk : ((K : Int) != 0) = true := by rw [bne_iff_ne]; omega
        clear hk0
        go_wp2_with fail
        refine (HKE.out _).mono ?_
        rintro e w3 ⟨rfl, b3⟩
        have B3 := Lib.hid (bthen B2.out b3 (Nat.le_refl _))
        clear b3
        go_wp2_with fail
        go_ret
        exact ⟨rfl, B3.out⟩
    · have d40 : decide ((shop.length : Int) > 40) = true := decide_eq_true (by omega)
      go_wp2_with fail
      go_ret
      exact ⟨rfl, B2.out⟩
  · go_wp2_with fail
    go_ret
    exact ⟨rfl, B2.out⟩
end Go.Proofs.YtopobliajgocaaaGreatDoor
end
