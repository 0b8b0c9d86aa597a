/-
  THE LAW RouteOwn: walked.
-/
import Derived.Test.YtopobliajgocaaaGreatDoorZo48
import Derived.Test.YtopobliajgocaaaGreatDoorZo49

section
namespace Go.Proofs.YtopobliajgocaaaGreatDoor
open Go.ChangeShapes Go.WideShapes Go.ChangeAt Go.RowKit
/-- the first acts' loop -/
def RoSt (w : World) (R : Nat) (n g : Nat) (i : Value) (wr : World) : Prop := ∃ (k : Nat) (b : Bk), k + g = n ∧ i = .int .i64 (k : Int) ∧ Bk.Ok b ∧ BkBox w R (fun g => g ≠ R) b wr ∧ Below w.heap.size w wr
/-- the other acts' loop -/
def RpSt (w : World) (R : Nat) (shop : List UInt8) (b : Bk) (A : Option Addr) (ql : List (List UInt8)) (B : Option Addr) (pl : List (List UInt8)) (n g : Nat) (i : Value) (wr : World) : Prop := ∃ (k : Nat) (c : Bk), k + g = n ∧ i = .int .i64 (k : Int) ∧ Bk.Ok c ∧ Bk.Alike shop b c ∧ BkBox w R (fun g => g ≠ R) c wr ∧ Rws wr A (sts ql) ∧ Rws wr B (sts pl) ∧ Below w.heap.size w wr
theorem strs_ne {a b : List UInt8} (h : ¬ a = b) : ((ofL a).toList == (ofL b).toList) = false := by
  rw [str_same a b]
  simpa using h
theorem strs_eq {a b : List UInt8} (h : a = b) : ((ofL a).toList == (ofL b).toList) = true := by
  subst h
  simp
set_option maxRecDepth 100000 in
set_option maxHeartbeats 16000000 in
theorem routeOwn_walk (A0 : Option Addr) (ca : Nat) (l : List RaP) (M0 : Option Addr) (cm : Nat) (more : List RaP) (shop key : List UInt8) (h : List Hd.Pr) (Bh : Option Addr) (dh : Nat) (w : World) (hl : l.length ≤ 9223372036854775807) (hA : Ras w A0 l) (hlm : more.length ≤ 9223372036854775807) (hM : Ras w M0 more) (hh : h.length ≤ 9223372036854775807) (hd : h.length ≤ dh) (hp : Prs w Bh h) (hL : Len w) :
    Calls Tryz.prog 5 #[.slice A0 l.length ca, .slice M0 more.length cm, .string (ofL shop), .string (ofL key), .slice Bh h.length dh] w (LePost w) := by
  unfold LePost
  have HAW := Lib.hid (fun W h => rt_awake_any W h)
  have HLI := Lib.hid (fun W h => light14_any A0 ca l W hl h)
  have HLM := Lib.hid (fun W h => light14_any M0 cm more W hlm h)
  have HKE := Lib.hid (fun W => rkey_big key W)
  have HL9 := Lib.hid (fun W g => light9_any h Bh dh W hh g)
  have HA := Lib.hid hA
  have HM := Lib.hid hM
  have HL := Lib.hid hL
  have HP := Lib.hid hp
  clear hA hM hL hp
  go_enter Tryz.func5, Tryz.ntmps5
  go_wp2_with fail
  refine (HAW.out _ HL.out).mono ?_
  rintro e w1 ⟨rfl, b1⟩
  have B1 := Lib.hid b1
  clear b1
  go_wp2_with fail
  refine (HLI.out _ (HA.out.on B1.out)).mono ?_
  rintro e w2 ⟨h2, b2⟩
  have B2 := Lib.hid (bthen B1.out b2 (Nat.le_refl _))
  clear b2
  rcases h2 with ⟨rfl, hf⟩ | rfl
  · have HF := Lib.hid hf
    clear hf
    go_wp2_with fail
    refine (HLM.out _ (HM.out.on B2.out)).mono ?_
    rintro e w2' ⟨h2, b2⟩
    have B2' := Lib.hid (bthen B2.out b2 (Nat.le_refl _))
    clear b2
    rcases h2 with ⟨rfl, hf⟩ | rfl
    · have HFM := Lib.hid hf
      clear hf
      have HKL := Lib.hid (fun e => key_len (l := key) e)
      generalize Wrd.keyCode [] key = K at *
      by_cases hk0 : K = 0
      · have dk : ((K : Int) != 0) = false := by rw [hk0]; rfl
        have hkl := HKL.out hk0
        have HKY := Lib.hid hkl
        clear hk0 hkl
        cases hlb : lightB h with
        | true =>
          obtain ⟨hq1, hq2, -⟩ := light_lite hlb
          rw [hlb] at HL9
          have HCK := Lib.hid (fun W g => rCheck9_any h Bh dh W (by omega) hd hq2 g)
          have HQ1 := Lib.hid hq1
          clear hlb hq1 hq2
          generalize Hd.hcode h = C at *
          by_cases hc0 : C = 0
          · have dc : ((C : Int) != 0) = false := by rw [hc0]; rfl
            clear hc0
            go_wp2_with fail
            refine (HKE.out _).mono ?_
            rintro e w3 ⟨rfl, b3⟩
            have B3 := Lib.hid (bthen B2'.out b3 (Nat.le_refl _))
            clear b3
            go_wp2_with fail
            refine (HL9.out _ (HP.out.on B3.out)).mono ?_
            rintro e w4 ⟨rfl, b4⟩
            have B4 := Lib.hid (bthen B3.out b4 (Nat.le_refl _))
            clear b4
            go_wp2_with fail
            refine (HCK.out _ (HP.out.on B4.out)).mono ?_
            rintro e w5 ⟨rfl, b5⟩
            have B5 := Lib.hid (bthen B4.out b5 (Nat.le_refl _))
            clear b5
            go_upto_region 6 with fail
            have HBX := Lib.hid (BkBox.new B5.out.size (fun g => g ≠ w5.heap.size) 28)
            have HBB := Lib.hid (bthen B5.out (rtOne w5 (.cells #[.slice none 0 0, .slice none 0 0] 28)) (Nat.le_refl _))
            generalize w5.alloc (.cells #[.slice none 0 0, .slice none 0 0] 28) = w6 at *
            generalize w5.heap.size = R at *
            go_wp2_with fail
            go_loopg [49] l.length (fun g i wr => RoSt w R l.length g i wr)
            case atStart => exact ⟨0, Bk.empty, by omega, rfl, Bk.Ok.empty, HBX.out, HBB.out⟩
            case round =>
              obtain ⟨k0, b, hk, rfl, hok, hbx, hbb⟩ := hrel
              have HK := Lib.hid hk
              have HOK := Lib.hid hok
              have HQX := Lib.hid hbx
              have HQB := Lib.hid hbb
              clear hk hok hbx hbb
              by_cases hlt : k0 < l.length
              · have hras := HA.out.on HQB.out
                obtain ⟨ba, off, rfl, hbl, hat⟩ := ras_get hras hlt
                have hin := hras.h l[k0] (List.getElem_mem hlt)
                have hfe := HF.out.2 l[k0] (List.getElem_mem hlt)
                generalize l[k0] = p at *
                obtain ⟨k, s, x, Ax, cx⟩ := p
                unfold raL actL at hat
                dsimp only at hat
                have c0 := hat 0 _ rfl
                have c1 := hat 1 _ rfl
                have c2 := hat 2 _ rfl
                have c3 := hat 3 _ rfl
                have c4 := hat 4 _ rfl
                have c5 := hat 5 _ rfl
                have c6 := hat 6 _ rfl
                have c7 := hat 7 _ rfl
                have c8 := hat 8 _ rfl
                have c9 := hat 9 _ rfl
                rw [Nat.add_zero] at c0
                have HA1 := Lib.hid (rtOne wr (.cells #[.int .u8 (k : Int), .string (ofL s.name), .int .u8 (s.sort : Int), .string (ofL s.to), .string (ofL x.shop), .string (ofL x.to), .bool x.up, .string (ofL x.key), .slice Ax x.want.length cx, .bool x.all] 39))
                have HB1 := Lib.hid (bthen HQB.out HA1.out (Nat.le_refl _))
                have HX1 := Lib.hid (HQX.out.on HA1.out)
                have HXO := Lib.hid (show BdOk wr x Ax cx from hfe.ok hin)
                have HN1 := Lib.hid (show s.name.length ≤ 90000 from by have : s.name.length ≤ 40 := hfe.s1; omega)
                have HN2 := Lib.hid (show s.to.length ≤ 90000 from by have : s.to.length ≤ 40 := hfe.s2; omega)
                have HDO := Lib.hid (fun A c B d ps W U hx hI hU hL => done14_any k s x Ax cx b Bk.empty A c B d ps none 0 none 0 [] W U (fun _ => False) HN1.out HN2.out hx HOK.out Bk.Ok.empty hI hU (BkAt.nil W) (BkU.nil _ W) hL)
                have HST := Lib.hid (HOK.out.act k s x)
                obtain ⟨A, c, B, d, ps, hx, hi, hu⟩ := HX1.out
                have HX := Lib.hid hx
                have HI := Lib.hid hi
                have HU := Lib.hid hu
                have x0 := hx.cs 0 _ rfl
                have x1 := hx.cs 1 _ rfl
                have xl := hx.lt
                clear hat hin hfe hras hx hi hu
                unfold DonePost bkV actV at HDO
                simp only [show Bk.empty.shops.length = 0 from rfl, show Bk.empty.binds.length = 0 from rfl] at HDO
                generalize b.act k s x = q2 at *
                generalize Bk.act k s x Bk.empty = q3 at *
                go_wp2_with fail
                refine (HDO.out _ _ _ _ _ _ _ (HXO.out.on HA1.out) HI.out HU.out (HL.out.on HB1.out)).mono ?_
                rintro en w7 ⟨A7, c7, B7, d7, ps7, C7, e7, D7, f7, qs7, rfl, hI7, hU7, -, -, hb7⟩
                have HX7 := Lib.hid (HX.out.on hb7)
                have HZ := Lib.hid (show R < (wr.alloc (.cells #[.int .u8 (k : Int), .string (ofL s.name), .int .u8 (s.sort : Int), .string (ofL s.to), .string (ofL x.shop), .string (ofL x.to), .bool x.up, .string (ofL x.key), .slice Ax x.want.length cx, .bool x.all] 39)).heap.size from xl)
                have htw := BkBox.set (P := fun g => g ≠ R) HX7.out hI7 hU7 (by simp) (fun g hg => by have := HZ.out; omega)
                have HTW := Lib.hid htw
                have hb8 := bthen HB1.out hb7 (Nat.le_refl _)
                have hb9 := (hb8.setCell (p := ⟨R, 0, none⟩) HX.out.ge (.slice A7 q2.1.shops.length c7)).setCell (p := ⟨R, 1, none⟩) HX.out.ge (.slice B7 q2.1.binds.length d7)
                have HB9 := Lib.hid hb9
                clear hI7 hU7 hb7 htw hb8 hb9 x0 x1 xl
                have x0 := HX7.out.cs 0 _ rfl
                have x1 := HX7.out.cs 1 _ rfl
                have xl := HX7.out.lt
                have xf := HX7.out.s
                unfold Soft at xf
                go_wp2_with fail
                go_roundg (gk - 1)
                case rel => exact ⟨k0 + 1, q2.1, by have := HK.out; omega, by go_num, HST.out, HTW.out, HB9.out⟩
                case measure => have := HK.out; omega
              · have HLQ := Lib.hid (fun A c B d ps W hI hp hL => rtLeadsF_any b A c B d ps shop key h Bh dh W (by have := HOK.out.len; omega) (by have := HOK.out.blen; omega) HOK.out.sort hI (by have := HKY.out; omega) (by have := HQ1.out; omega) hp hL)
                have HQL := Lib.hid (show (b.qs shop key h).length ≤ 100000 ∧ (b.pls shop key h).length ≤ 100000 from leads_few HOK.out shop key h)
                have HAK := Lib.hid (fun c (g : Bk.Alike shop b c) => g.qs key h)
                unfold LeadsPostF bkV at HLQ
                generalize b.qs shop key h = qz at *
                generalize b.pls shop key h = pl at *
                generalize b.lcode shop = lc at *
                obtain ⟨A, c, B, d, ps, hx, hi, hu⟩ := HQX.out
                have HX := Lib.hid hx
                have HI := Lib.hid hi
                have HU := Lib.hid hu
                have x0 := hx.cs 0 _ rfl
                have x1 := hx.cs 1 _ rfl
                have xl := hx.lt
                clear hx hi hu
                go_wp2_with fail
                refine (HLQ.out _ _ _ _ _ _ HI.out (HP.out.on HQB.out) (HL.out.on HQB.out)).mono ?_
                rintro en w7 ⟨A7, c7, B7, d7, rfl, hn7, hr7, hm7, hs7, hb7⟩
                have HB7 := Lib.hid (bthen HQB.out hb7 (Nat.le_refl _))
                have HX7 := Lib.hid ((show BkBox w R (fun g => g ≠ R) b wr from ⟨A, c, B, d, ps, HX.out, HI.out, HU.out⟩).on hb7)
                have HR7 := Lib.hid hr7
                have HS7 := Lib.hid hs7
                have HN7 := Lib.hid (show ∀ a, A7 = some a → a.block ≠ R from fun a e => by have := hn7 a e; omega)
                have HM7 := Lib.hid (show ∀ a, B7 = some a → a.block ≠ R from fun a e => by have := hm7 a e; omega)
                clear hr7 hs7 hb7 hn7 hm7 x0 x1 xl HX HI HU
                go_wp2_with fail
                go_loopg [73] more.length (fun g i wr => RpSt w R shop b A7 qz B7 pl more.length g i wr)
                case atStart => exact ⟨0, b, by omega, rfl, HOK.out, Bk.Alike.rfl, HX7.out, HR7.out, HS7.out, HB7.out⟩
                case round =>
                  obtain ⟨k1, b2, hk, rfl, hok, hal, hbx, hrr, hss, hbb⟩ := hrel
                  have HK := Lib.hid hk
                  have HOKB := Lib.hid hok
                  have HAL := Lib.hid hal
                  have HQX := Lib.hid hbx
                  have HRR := Lib.hid hrr
                  have HSS := Lib.hid hss
                  have HQB := Lib.hid hbb
                  clear hk hok hal hbx hrr hss hbb
                  by_cases hlt : k1 < more.length
                  · have hras := HM.out.on HQB.out
                    obtain ⟨ba, off, rfl, hbl, hat⟩ := ras_get hras hlt
                    have hin := hras.h more[k1] (List.getElem_mem hlt)
                    have hfe := HFM.out.2 more[k1] (List.getElem_mem hlt)
                    generalize more[k1] = p at *
                    obtain ⟨k, s, x, Ax, cx⟩ := p
                    unfold raL actL at hat
                    dsimp only at hat
                    have c0 := hat 0 _ rfl
                    have c1 := hat 1 _ rfl
                    have c2 := hat 2 _ rfl
                    have c3 := hat 3 _ rfl
                    have c4 := hat 4 _ rfl
                    have c5 := hat 5 _ rfl
                    have c6 := hat 6 _ rfl
                    have c7 := hat 7 _ rfl
                    have c8 := hat 8 _ rfl
                    have c9 := hat 9 _ rfl
                    rw [Nat.add_zero] at c0
                    have HA1 := Lib.hid (rtOne wr (.cells #[.int .u8 (k : Int), .string (ofL s.name), .int .u8 (s.sort : Int), .string (ofL s.to), .string (ofL x.shop), .string (ofL x.to), .bool x.up, .string (ofL x.key), .slice Ax x.want.length cx, .bool x.all] 39))
                    have HB1 := Lib.hid (bthen HQB.out HA1.out (Nat.le_refl _))
                    have HX1 := Lib.hid (HQX.out.on HA1.out)
                    obtain ⟨m5, hm5⟩ : ∃ m5 : Nat, m5 = k % 5 := ⟨_, rfl⟩
                    have hkm : (k : Int) % 5 = (m5 : Int) := by omega
                    have HM5 := Lib.hid hm5
                    clear hm5
                    by_cases hm4 : m5 < 4
                    · have d4 : decide ((m5 : Int) < 4) = true := decide_eq_true (by omega)
                      by_cases hmn : s.name = shop
                      · have dn := strs_eq hmn
                        clear hmn
                        go_wp2_with fail
                        go_roundg (gk - 1)
                        case rel => exact ⟨k1 + 1, b2, by have := HK.out; omega, by go_num, HOKB.out, HAL.out, HX1.out, Rws.on HRR.out HA1.out, Rws.on HSS.out HA1.out, HB1.out⟩
                        case measure => have := HK.out; omega
                      · have dn := strs_ne hmn
                        by_cases hmx : x.shop = shop
                        · have dx := strs_eq hmx
                          clear hmx
                          go_wp2_with fail
                          go_roundg (gk - 1)
                          case rel => exact ⟨k1 + 1, b2, by have := HK.out; omega, by go_num, HOKB.out, HAL.out, HX1.out, Rws.on HRR.out HA1.out, Rws.on HSS.out HA1.out, HB1.out⟩
                          case measure => have := HK.out; omega
                        · have dx := strs_ne hmx
                          have hmk : k % 5 < 4 := by have := HM5.out; omega
                          have HXO := Lib.hid (show BdOk wr x Ax cx from hfe.ok hin)
                          have HN1 := Lib.hid (show s.name.length ≤ 90000 from by have : s.name.length ≤ 40 := hfe.s1; omega)
                          have HN2 := Lib.hid (show s.to.length ≤ 90000 from by have : s.to.length ≤ 40 := hfe.s2; omega)
                          have HDO := Lib.hid (fun A c B d ps W U hx hI hU hL => done14_any k s x Ax cx b2 Bk.empty A c B d ps none 0 none 0 [] W U (fun _ => False) HN1.out HN2.out hx HOKB.out Bk.Ok.empty hI hU (BkAt.nil W) (BkU.nil _ W) hL)
                          have HALN := Lib.hid (HAL.out.trans (Bk.Alike.act (k := k) (s := s) (x := x) hmk hmn hmx))
                          have HST := Lib.hid (HOKB.out.act k s x)
                          obtain ⟨A, c, B, d, ps, hx, hi, hu⟩ := HX1.out
                          have HX := Lib.hid hx
                          have HI := Lib.hid hi
                          have HU := Lib.hid hu
                          have x0 := hx.cs 0 _ rfl
                          have x1 := hx.cs 1 _ rfl
                          have xl := hx.lt
                          clear hat hin hfe hras hx hi hu
                          unfold DonePost bkV actV at HDO
                          simp only [show Bk.empty.shops.length = 0 from rfl, show Bk.empty.binds.length = 0 from rfl] at HDO
                          generalize b2.act k s x = q2 at *
                          generalize Bk.act k s x Bk.empty = q3 at *
                          go_wp2_with fail
                          refine (HDO.out _ _ _ _ _ _ _ (HXO.out.on HA1.out) HI.out HU.out (HL.out.on HB1.out)).mono ?_
                          rintro en w9 ⟨A9, z9, B9, d9, ps9, C9, e9, D9, f9, qs9, rfl, hI9, hU9, -, -, hb9a⟩
                          have HX9 := Lib.hid (HX.out.on hb9a)
                          have HZ := Lib.hid (show R < (wr.alloc (.cells #[.int .u8 (k : Int), .string (ofL s.name), .int .u8 (s.sort : Int), .string (ofL s.to), .string (ofL x.shop), .string (ofL x.to), .bool x.up, .string (ofL x.key), .slice Ax x.want.length cx, .bool x.all] 39)).heap.size from xl)
                          have htw := BkBox.set (P := fun g => g ≠ R) HX9.out hI9 hU9 (by simp) (fun g hg => by have := HZ.out; omega)
                          have HTW := Lib.hid htw
                          have hb8 := bthen HB1.out hb9a (Nat.le_refl _)
                          have hb9 := (hb8.setCell (p := ⟨R, 0, none⟩) HX.out.ge (.slice A9 q2.1.shops.length z9)).setCell (p := ⟨R, 1, none⟩) HX.out.ge (.slice B9 q2.1.binds.length d9)
                          have HB9 := Lib.hid hb9
                          have HRR9 := Lib.hid (rwsPut (rwsPut (Rws.on (Rws.on HRR.out HA1.out) hb9a) HN7.out 0 (.slice A9 q2.1.shops.length z9)) HN7.out 1 (.slice B9 q2.1.binds.length d9))
                          have HSS9 := Lib.hid (rwsPut (rwsPut (Rws.on (Rws.on HSS.out HA1.out) hb9a) HM7.out 0 (.slice A9 q2.1.shops.length z9)) HM7.out 1 (.slice B9 q2.1.binds.length d9))
                          have HAL9 := Lib.hid HALN.out
                          clear hI9 hU9 hb9a htw hb8 hb9 x0 x1 xl
                          have x0 := HX9.out.cs 0 _ rfl
                          have x1 := HX9.out.cs 1 _ rfl
                          have xl := HX9.out.lt
                          have xf := HX9.out.s
                          unfold Soft at xf
                          go_wp2_with fail
                          go_roundg (gk - 1)
                          case rel => exact ⟨k1 + 1, q2.1, by have := HK.out; omega, by go_num, HST.out, HAL9.out, HTW.out, HRR9.out, HSS9.out, HB9.out⟩
                          case measure => have := HK.out; omega
                    · have d4 : decide ((m5 : Int) < 4) = false := decide_eq_false (by omega)
                      clear hm4
                      go_wp2_with fail
                      go_roundg (gk - 1)
                      case rel => exact ⟨k1 + 1, b2, by have := HK.out; omega, by go_num, HOKB.out, HAL.out, HX1.out, Rws.on HRR.out HA1.out, Rws.on HSS.out HA1.out, HB1.out⟩
                      case measure => have := HK.out; omega
                  · obtain ⟨a1, a2, a3⟩ := HAK.out b2 HAL.out
                    have HLQ2 := Lib.hid (fun A c B d ps W hI hp hL => rtLeads_any b2 A c B d ps shop key h Bh dh W (by have := HOKB.out.len; omega) (by have := HOKB.out.blen; omega) HOKB.out.sort hI (by have := HKY.out; omega) (by have := HQ1.out; omega) hp hL)
                    unfold LeadsPost bkV at HLQ2
                    rw [a1, a2, a3] at HLQ2
                    clear a1 a2 a3
                    obtain ⟨A, c, B, d, ps, hx, hi, hu⟩ := HQX.out
                    have HI := Lib.hid hi
                    have x0 := hx.cs 0 _ rfl
                    have x1 := hx.cs 1 _ rfl
                    have xl := hx.lt
                    clear hx hi hu
                    go_wp2_with fail
                    refine (HLQ2.out _ _ _ _ _ _ HI.out (HP.out.on HQB.out) (HL.out.on HQB.out)).mono ?_
                    rintro en w8 ⟨A8, c8, B8, d8, rfl, -, -, hr8, -, -, hs8, hb8⟩
                    have HB8 := Lib.hid (bthen HQB.out hb8 (Nat.le_refl _))
                    have HR8 := Lib.hid (Rws.on HRR.out hb8)
                    have HS8 := Lib.hid (Rws.on HSS.out hb8)
                    have HRR8 := Lib.hid hr8
                    have HSS8 := Lib.hid hs8
                    clear hr8 hs8 hb8 x0 x1 xl
                    go_wp2_with fail
                    refine (eqS_any qz qz A7 c7 A8 c8 _ HQL.out.1 HQL.out.1 HR8.out HRR8.out).mono ?_
                    rintro en w13 ⟨rfl, hb13⟩
                    have HB13 := Lib.hid (bthen HB8.out hb13 (Nat.le_refl _))
                    have HS13 := Lib.hid (Rws.on HS8.out hb13)
                    have HSS13 := Lib.hid (Rws.on HSS8.out hb13)
                    clear hb13
                    rw [show decide (qz = qz) = true from decide_eq_true rfl]
                    go_wp2_with fail
                    refine (eqS_any pl pl B7 d7 B8 d8 _ HQL.out.2 HQL.out.2 HS13.out HSS13.out).mono ?_
                    rintro en w14 ⟨rfl, hb14⟩
                    have HB14 := Lib.hid (bthen HB13.out hb14 (Nat.le_refl _))
                    clear hb14
                    rw [show decide (pl = pl) = true from decide_eq_true rfl]
                    go_wp2_with fail
                    go_ret
                    exact ⟨rfl, HB14.out⟩
          · have dc : ((C : Int) != 0) = true := by rw [bne_iff_ne]; omega
            clear hc0
            go_wp2_with fail
            refine (HKE.out _).mono ?_
            rintro e w3 ⟨rfl, b3⟩
            have B3 := Lib.hid (bthen B2'.out b3 (Nat.le_refl _))
            clear b3
            go_wp2_with fail
            refine (HL9.out _ (HP.out.on B3.out)).mono ?_
            rintro e w4 ⟨rfl, b4⟩
            have B4 := Lib.hid (bthen B3.out b4 (Nat.le_refl _))
            clear b4
            go_wp2_with fail
            refine (HCK.out _ (HP.out.on B4.out)).mono ?_
            rintro e w5 ⟨rfl, b5⟩
            have B5 := Lib.hid (bthen B4.out b5 (Nat.le_refl _))
            clear b5
            go_wp2_with fail
            go_ret
            exact ⟨rfl, B5.out⟩
        | false =>
          rw [hlb] at HL9
          clear hlb
          go_wp2_with fail
          refine (HKE.out _).mono ?_
          rintro e w3 ⟨rfl, b3⟩
          have B3 := Lib.hid (bthen B2'.out b3 (Nat.le_refl _))
          clear b3
          go_wp2_with fail
          refine (HL9.out _ (HP.out.on B3.out)).mono ?_
          rintro e w4 ⟨rfl, b4⟩
          have B4 := Lib.hid (bthen B3.out b4 (Nat.le_refl _))
          clear b4
          go_wp2_with fail
          go_ret
          exact ⟨rfl, B4.out⟩
      · have dk : ((K : Int) != 0) = true := by rw [bne_iff_ne]; omega
        clear hk0
        go_wp2_with fail
        refine (HKE.out _).mono ?_
        rintro e w3 ⟨rfl, b3⟩
        have B3 := Lib.hid (bthen B2'.out b3 (Nat.le_refl _))
        clear b3
        go_wp2_with fail
        go_ret
        exact ⟨rfl, B3.out⟩
    · go_wp2_with fail
      go_ret
      exact ⟨rfl, B2'.out⟩
  · go_wp2_with fail
    go_ret
    exact ⟨rfl, B2.out⟩
end Go.Proofs.YtopobliajgocaaaGreatDoor
end
