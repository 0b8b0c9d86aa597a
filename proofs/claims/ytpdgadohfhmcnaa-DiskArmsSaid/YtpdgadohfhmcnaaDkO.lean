/-
  THE LAW DiskArms: so many syncs are OK, and the power goes at the next one.
-/
import Derived.Test.YtpdgadohfhmcnaaDkN
namespace Go.Proofs.Ytpdgadohfhmcnaa
open Go.ChangeShapes Go.WideShapes Go.ChangeAt Go.RowKit

/-- a disk that is on, and armed -/
def ad (L : List UInt8) (q : List Dk.Wr) (s c : Nat) : Dk.St := { last := L, wait := q, on := true, arm := some (s, c) }
theorem ad_write (L : List UInt8) (q : List Dk.Wr) (s c : Nat) (a : Int) (d : List UInt8) : ∃ q', Dk.write 6 (ad L q s c) a d = ad L q' s c ∧ q'.length ≤ q.length + 1 := by
  unfold Dk.write
  split
  · exact ⟨q ++ [(a.toNat, d)], rfl, by simp⟩
  · exact ⟨q, rfl, by omega⟩
def ArSt (w : World) (D m c g : Nat) (v26 : Value) (wr : World) : Prop :=
  ∃ (k : Nat) (L : List UInt8), k + g = m ∧ v26 = .int .i64 (k : Int) ∧ One 6 w D (ad L [] (m - k) c) [] wr
def Ar2 (w : World) (D n s c : Nat) (L : List UInt8) (g : Nat) (v30 : Value) (wr : World) : Prop :=
  ∃ (k : Nat) (q : List Dk.Wr), k + g = n ∧ v30 = .int .i64 (k : Int) ∧ q.length ≤ k ∧ One 6 w D (ad L q s c) [] wr
set_option maxRecDepth 100000 in
set_option maxHeartbeats 8000000 in
theorem diskArms_walk (A : Option Addr) (ca : Nat) (l : List Ac) (syncs cut : Int) (w : World) (hl : l.length ≤ 9223372036854775807) (hA : ARow w A l) (hc : cut ≤ 9223372036854775807) :
    Calls Try.prog 6 #[.slice A l.length ca, .int .i64 syncs, .int .i64 cut] w (LawPost w) := by
  have HAW := Lib.hid (fun W => awake15_any W)
  have HLI := Lib.hid (fun W h => light15_any A ca l W hl h)
  have HA := Lib.hid hA
  have HCB := Lib.hid hc
  clear hA hc
  by_cases h20 : syncs > 20
  · have hb : decide (syncs > 20) = true := decide_eq_true h20
    clear h20
    go_enter Try.func6, Try.ntmps6
    go_wp2_with fail
    refine (HAW.out _).mono ?_
    rintro x w1 ⟨rfl, b1⟩
    have B1 := Lib.hid b1
    clear b1
    go_wp2_with fail
    refine (HLI.out _ (HA.out.on B1.out)).mono ?_
    rintro x w2 ⟨h2, b2⟩
    have B2 := Lib.hid (Below.trans B1.out (b2.mono B1.out.size))
    clear b2
    rcases h2 with ⟨rfl, -⟩ | rfl
    · go_wp2_with fail
      go_ret
      exact ⟨rfl, B2.out⟩
    · go_wp2_with fail
      go_ret
      exact ⟨rfl, B2.out⟩
  · have hb : decide (syncs > 20) = false := decide_eq_false h20
    have hmx : max 0 syncs = ((syncs.toNat : Nat) : Int) := by omega
    obtain ⟨m, hm⟩ : ∃ m, m = syncs.toNat := ⟨_, rfl⟩
    have HM := Lib.hid hm
    rw [← hm] at hmx
    have hm20 : m ≤ 20 := by omega
    clear h20 hm
    go_enter Try.func6, Try.ntmps6
    go_wp2_with fail
    refine (HAW.out _).mono ?_
    rintro x w1 ⟨rfl, b1⟩
    have B1 := Lib.hid b1
    clear b1
    go_wp2_with fail
    refine (HLI.out _ (HA.out.on B1.out)).mono ?_
    rintro x w2 ⟨h2, b2⟩
    have B2 := Lib.hid (Below.trans B1.out (b2.mono B1.out.size))
    clear b2
    rcases h2 with ⟨rfl, hf⟩ | rfl
    · have HF := Lib.hid hf
      clear hf
      go_wp2_with fail
      refine (one_new 6 w _ B2.out).mono ?_
      rintro x w3 ⟨D, rfl, h3⟩
      have H3 := Lib.hid h3
      clear h3
      have HAR := Lib.hid (H3.out.call (fun F hd => dkArm_any syncs cut _ hd))
      rw [show Dk.armed (Dk.new (nbl 6)) syncs cut = ad (Dk.new 6).last [] m cut.toNat by rw [HM.out]; rfl] at HAR
      have hcn : cut.toNat ≤ 9223372036854775807 := by have := HCB.out; omega
      have HCN := Lib.hid hcn
      generalize cut.toNat = c at *
      clear hcn
      go_wp2_with fail
      refine HAR.out.mono ?_
      rintro x w4 ⟨rfl, h4⟩
      have H4 := Lib.hid h4
      clear h4
      go_wp2_with fail
      go_loopg [26] m (fun g v26 wr => ArSt w D m c g v26 wr)
      case atStart => exact ⟨0, _, by omega, rfl, H4.out⟩
      case round =>
        obtain ⟨k, L, hk, rfl, h5⟩ := hrel
        have HK := Lib.hid hk
        have H5 := Lib.hid h5
        clear hk h5
        obtain ⟨gO, rfl⟩ : ∃ gO, gO = gk := ⟨gk, rfl⟩
        by_cases hlt : k < m
        · go_wp2_with fail
          go_loopg [30] l.length (fun g v30 wx => Ar2 w D l.length (m - k) c L g v30 wx)
          case atStart => exact ⟨0, [], by omega, rfl, Nat.le_refl _, H5.out⟩
          case round =>
            obtain ⟨j, q, hj, rfl, hq, h6⟩ := hrel
            have HJ := Lib.hid hj
            have HQ := Lib.hid hq
            have H6 := Lib.hid h6
            clear hj hq h6
            have h60 := HF.out.1
            by_cases hlj : j < l.length
            · obtain ⟨b, off, rfl, hbl, x0, x1, x2, x3⟩ := HA.out.at_ j hlj
              have y0 := (H6.out.below.cell (p := ⟨b, off + j * 4, none⟩) hbl).trans x0
              have y1 := (H6.out.below.cell (p := ⟨b, off + j * 4 + 1, none⟩) hbl).trans x1
              have y2 := (H6.out.below.cell (p := ⟨b, off + j * 4 + 2, none⟩) hbl).trans x2
              have y3 := (H6.out.below.cell (p := ⟨b, off + j * 4 + 3, none⟩) hbl).trans x3
              clear x0 x1 x2 x3 hbl
              have h80 := HF.out.2 j hlj
              generalize l.getD j ac0 = x at *
              obtain ⟨xw, xa, xc, xd⟩ := x
              dsimp only at *
              obtain ⟨q', hq', hql⟩ := ad_write L q (m - k) c xa xd
              have HQ' := Lib.hid hql
              have HWR := Lib.hid (fun W (h : One 6 w D (ad L q (m - k) c) [] W) => h.call (fun F hd => dkWrite_any xa xd W hd (by show q.length ≤ 100000; have := HQ.out; omega) (by omega)))
              rw [hq'] at HWR
              have HAL := Lib.hid (fun o => H6.out.keep ((Below.refl _ _).alloc (Nat.le_refl _) o))
              generalize Dk.wcode 6 (ad L q (m - k) c) xa xd = cd at *
              clear hq' hql h80 h60
              go_wp2_with fail
              refine (HWR.out _ (HAL.out _)).mono ?_
              rintro x w6 ⟨rfl, h7⟩
              have H7 := Lib.hid h7
              clear h7
              go_wp2_with fail
              go_roundg (gk - 1)
              case rel => exact ⟨j + 1, q', by have := HJ.out; omega, by go_num, by have := HQ.out; have := HQ'.out; omega, H7.out⟩
              case measure => have := HJ.out; omega
            · have hq' : q.length ≤ 100000 := by have := HQ.out; have := HJ.out; omega
              have HS := Lib.hid (fun W (h : One 6 w D (ad L q (m - k) c) [] W) => h.call (fun F hd => dkSync_any W hd hq' (fun s t e => by have := HCN.out; cases e; omega)))
              obtain ⟨s, hs⟩ : ∃ s, m - k = s + 1 := ⟨m - k - 1, by omega⟩
              have HSS := Lib.hid (show s = m - (k + 1) by omega)
              rw [hs] at HS
              rw [show Dk.sync (ad L q (s + 1) c) = ad (Dk.done L q (Dk.waits q)) [] s c from rfl, show Dk.scode (ad L q (s + 1) c) = 0 from rfl] at HS
              have HWT := Lib.hid (fun W (h : One 6 w D (ad (Dk.done L q (Dk.waits q)) [] s c) [] W) => h.read (fun F hd => dkWaits_any W hd (by show (0 : Nat) ≤ 100000; omega)))
              rw [show Dk.waits (ad (Dk.done L q (Dk.waits q)) [] s c).wait = 0 from rfl] at HWT
              have H6' := H6.out
              rw [hs] at H6'
              have H6' := Lib.hid H6'
              clear hs hq' h60
              go_wp2_with fail
              refine (HS.out _ H6'.out).mono ?_
              rintro x w7 ⟨rfl, h7⟩
              have H7 := Lib.hid h7
              clear h7
              go_wp2_with fail
              refine (HWT.out _ H7.out).mono ?_
              rintro x w8 ⟨rfl, h8⟩
              have H8 := Lib.hid h8
              clear h8
              go_wp2_with fail
              go_roundg (gO - 1)
              case rel => exact ⟨k + 1, _, by have := HK.out; omega, by go_num, by rw [← HSS.out]; exact H8.out⟩
              case measure => have := HK.out; omega
        · have hk0 : m - k = 0 := by omega
          have HS := Lib.hid (H5.out.call (fun F hd => dkSync_any _ hd (by show (0 : Nat) ≤ 100000; omega) (fun s t e => by have := HCN.out; cases e; omega)))
          rw [hk0] at HS
          rw [show Dk.sync (ad L [] 0 c) = { last := L, wait := [], on := false, arm := none } from rfl, show Dk.scode (ad L [] 0 c) = 16 from rfl] at HS
          have HON := Lib.hid (fun W (h : One 6 w D { last := L, wait := [], on := false, arm := none } [] W) => h.look (fun F hd => dkOn_any W hd))
          have HWR := Lib.hid (fun W (h : One 6 w D { last := L, wait := [], on := false, arm := none } [] W) => h.call (fun F hd => dkWrite_any 0 [] W hd (by show (0 : Nat) ≤ 100000; omega) (by decide)))
          rw [show Dk.write 6 { last := L, wait := [], on := false, arm := none } 0 [] = { last := L, wait := [], on := false, arm := none } from rfl, show Dk.wcode 6 { last := L, wait := [], on := false, arm := none } 0 [] = 16 from rfl, show ofL [] = ⟨#[]⟩ from rfl] at HWR
          have HUP := Lib.hid (fun W (h : One 6 w D { last := L, wait := [], on := false, arm := none } [] W) => h.call (fun F hd => dkUp_any W hd))
          rw [show Dk.up { last := L, wait := [], on := false, arm := none } = { last := L, wait := [], on := true, arm := none } from rfl] at HUP
          have HO2 := Lib.hid (fun W (h : One 6 w D { last := L, wait := [], on := true, arm := none } [] W) => h.look (fun F hd => dkOn_any W hd))
          have HS2 := Lib.hid (fun W (h : One 6 w D { last := L, wait := [], on := true, arm := none } [] W) => h.call (fun F hd => dkSync_any W hd (by show (0 : Nat) ≤ 100000; omega) (fun s t e => by cases e)))
          rw [show Dk.sync { last := L, wait := [], on := true, arm := none } = { last := L, wait := [], on := true, arm := none } from rfl, show Dk.scode { last := L, wait := [], on := true, arm := none } = 0 from rfl] at HS2
          dsimp only at HON HO2
          clear hk0
          go_wp2_with fail
          refine HS.out.mono ?_
          rintro x w6 ⟨rfl, h6⟩
          have H6 := Lib.hid h6
          clear h6
          go_wp2_with fail
          refine (HON.out _ H6.out).mono ?_
          rintro x w7 ⟨rfl, h7⟩
          have H7 := Lib.hid h7
          clear h7
          go_wp2_with fail
          refine (HWR.out _ H7.out).mono ?_
          rintro x w8 ⟨rfl, h8⟩
          have H8 := Lib.hid h8
          clear h8
          go_wp2_with fail
          refine (HUP.out _ H8.out).mono ?_
          rintro x w9 ⟨rfl, h9⟩
          have H9 := Lib.hid h9
          clear h9
          go_wp2_with fail
          refine (HO2.out _ H9.out).mono ?_
          rintro x wa ⟨rfl, ha⟩
          have H10 := Lib.hid ha
          clear ha
          go_wp2_with fail
          refine (HS2.out _ H10.out).mono ?_
          rintro x wb ⟨rfl, hb'⟩
          have H11 := Lib.hid hb'
          clear hb'
          go_wp2_with fail
          refine (HS2.out _ H11.out).mono ?_
          rintro x wc ⟨rfl, hc'⟩
          have H12 := Lib.hid hc'.below
          clear hc'
          go_wp2_with fail
          go_ret
          exact ⟨rfl, H12.out⟩
    · go_wp2_with fail
      go_ret
      exact ⟨rfl, B2.out⟩
end Go.Proofs.Ytpdgadohfhmcnaa
