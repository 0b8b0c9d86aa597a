/-
  A BOOK as the document's: walked.
-/
import Derived.Test.YtopobliajgocaaaGreatDoorZp48

section
namespace Go.Proofs.YtopobliajgocaaaGreatDoor
open Go.ChangeShapes Go.WideShapes Go.ChangeAt Go.RowKit
theorem ys_next {ms : List Bp} {k : Nat} (hk : k < ms.length) : ((ms.take k).map Bp.x) ++ [ms[k].x] = (ms.take (k + 1)).map Bp.x := by
  rw [List.take_succ_eq_append_getElem hk, List.map_append]; rfl
theorem sh_next {l : List Sh} {k : Nat} (hk : k < l.length) : l.take (k + 1) = l.take k ++ [l[k]] := List.take_succ_eq_append_getElem hk
theorem bp_one (p : Bp) : ∀ u ∈ bpL p, u.oneCell' = true := by
  intro u hu
  simp only [bpL, bdL, List.mem_cons, List.not_mem_nil, or_false] at hu
  rcases hu with rfl | rfl | rfl | rfl | rfl | rfl <;> rfl
theorem rw_at0 {W : World} {b j : Nat} {u : Value} (h : W.cell? ⟨b, j, none⟩ = some u) : W.cell? ((⟨b, 0, none⟩ : Addr).add j) = some u := by
  rw [rws_add, Nat.zero_add]
  exact h
theorem le_trans3 {a b c : Nat} (h : a ≤ b) (g : b ≤ c) : a ≤ c := Nat.le_trans h g
set_option maxRecDepth 100000 in
set_option maxHeartbeats 16000000 in
theorem of14_any (b : Bk) (A : Option Addr) (c : Nat) (B : Option Addr) (d : Nat) (ps : List Bp) (w : World) (h1 : b.shops.length ≤ 1000) (h2 : b.binds.length ≤ 1000) (hI : BkAt w A c B d b ps) :
    Calls Tryz.prog 10 #[bkV A c B d b] w (OfPost b w) := by
  have hm0 := Bm.new w #[.slice A b.shops.length c, .slice B b.binds.length d] #[.slice none 0 0, .slice none 0 0] #[.slice none 0 0, .slice none 0 0] 28 32 32
  have HM0 := Lib.hid hm0
  have HI := Lib.hid hI
  have HSH := Lib.hid (fun W h => rtShops_any b A c B d W (by omega) h)
  have HBN := Lib.hid (fun W h => rtBinds_any b A c B d ps W (by omega) h)
  have HTO := Lib.hid (fun x A c W h1 h2 h3 => to14_any x A c W h1 h2 h3)
  unfold ClSh at HSH
  unfold BndPost at HBN
  clear hI hm0
  unfold OfPost
  unfold bkV at *
  go_enter Tryz.func10, Tryz.ntmps10
  go_upto_region 2 with fail
  generalize ((w.alloc (.cells #[.slice A b.shops.length c, .slice B b.binds.length d] 28)).alloc (.cells #[.slice none 0 0, .slice none 0 0] 32)).alloc (.cells #[.slice none 0 0, .slice none 0 0] 32) = w1 at *
  have x0 := HM0.out.bx.cs 0 _ rfl
  have x1 := HM0.out.bx.cs 1 _ rfl
  have xl := HM0.out.bx.lt
  go_wp2_with fail
  refine (HSH.out _ (HI.out.shs.on HM0.out.B)).mono ?_
  rintro e w2 ⟨A1, c1, rfl, ho, hb2⟩
  have HM2 := Lib.hid (HM0.out.on hb2)
  have HRA := Lib.hid (Rws.of_own ho)
  have HN1 := Lib.hid (show w.heap.size + 3 ≤ w2.heap.size from Nat.le_trans HM0.out.n hb2.size)
  have HN0 := Lib.hid HM0.out.n
  have HI2 := Lib.hid (HI.out.on HM2.out.B)
  clear ho hb2 x0 x1 xl
  obtain ⟨A1', c1', e1, -, -, hra, hrb⟩ := HRA.out
  obtain ⟨rfl, -, rfl⟩ := Value.slice.inj e1
  have HR := Lib.hid hra
  have HRB := Lib.hid (show ∀ a, A1 = some a → w.heap.size + 3 ≤ a.block ∧ a.block < w2.heap.size from fun a ha => by have := hrb a ha; have := HN0.out; omega)
  clear e1 hra hrb HRA
  go_wp2_with fail
  go_loopg [11] b.shops.length (fun g i wr => O1St w [.slice A b.shops.length c, .slice B b.binds.length d] [.slice none 0 0, .slice none 0 0] b.shops A1 w2.heap.size g i wr)
  case atStart => exact ⟨0, none, 0, by omega, rfl, HM2.out, World.ownsRow_nil _ _ _ _, HR.out, Nat.le_refl _⟩
  case round =>
    obtain ⟨k, Ao, co, hk, rfl, hm, ho, hr, hn⟩ := hrel
    have HK := Lib.hid hk
    have HM := Lib.hid hm
    have HO := Lib.hid ho
    have HRW := Lib.hid hr
    have HN := Lib.hid hn
    clear hk hm ho hr hn
    by_cases hlt : k < b.shops.length
    · obtain ⟨bb, off, rfl, hbl, hat⟩ := shs_get HRW.out hlt
      have hnx := sh_next hlt
      have HKL := Lib.hid (show k ≤ 1000 by omega)
      generalize b.shops[k] = x at *
      have c0 := hat 0 _ rfl
      have c1 := hat 1 _ rfl
      have c2 := hat 2 _ rfl
      rw [Nat.add_zero] at c0
      have hb3 := rtTwo wr (.cells #[.string (ofL x.name), .int .u8 (x.sort : Int), .string (ofL x.to)] 34) (.cells #[.string (ofL x.name), .int .u8 (x.sort : Int), .string (ofL x.to)] 57)
      have hm3 := HM.out.on hb3
      have hnew := rtAt1 wr (.cells #[.string (ofL x.name), .int .u8 (x.sort : Int), .string (ofL x.to)] 34) #[.string (ofL x.name), .int .u8 (x.sort : Int), .string (ofL x.to)] 57
      obtain ⟨g, cap, w7, hrun, hown, hgr, hgg, hgl⟩ := appRSh_run (W := (wr.alloc (.cells #[.string (ofL x.name), .int .u8 (x.sort : Int), .string (ofL x.to)] 34)).alloc (.cells #[.string (ofL x.name), .int .u8 (x.sort : Int), .string (ofL x.to)] 57)) (B := w2.heap.size) (n := k) (cs := shs (b.shops.take k)) (xs := shL x) (A := Ao) (c := co) (b := wr.heap.size + 1) (by omega) (Rw.own_on HO.out hb3) (Nat.le_trans HN.out hb3.size) rfl (by intro u hu; simp only [shL, List.mem_cons, List.not_mem_nil, or_false] at hu; rcases hu with rfl | rfl | rfl <;> rfl) (fun j u hu => by
        rw [rws_add, Nat.zero_add]
        exact hnew.cs j u hu)
      have hz0 := hm3.bz.cs 0 _ rfl
      have hz1 := hm3.bz.cs 1 _ rfl
      have hm7 : Bm w [.slice A b.shops.length c, .slice B b.binds.length d] [.slice none 0 0, .slice none 0 0] [.slice Ao k co, .slice none 0 0] w7 := hm3.grown hgr (fun q hq => by have := HO.out.lt q hq; have := HN1.out; omega)
      have hm8 := hm7.putZ0 (u' := .slice (some ⟨g, 0, none⟩) (k + 1) cap)
      have ho8 := rtOwnPut hown (g := w.heap.size + 2) (by have := HN1.out; omega) 0 (.slice (some ⟨g, 0, none⟩) (k + 1) cap)
      rw [← shs_one1 x, ← shs_app, ← hnx] at ho8
      have hr8 : Rws (w7.setCell ⟨w.heap.size + 2, 0, none⟩ (.slice (some ⟨g, 0, none⟩) (k + 1) cap)) (some ⟨bb, off, none⟩) (shs b.shops) :=
        (((Kp.of (N := fun q => q = w.heap.size + 2 ∨ (Value.slice Ao k co).ownBlock = some q) hb3).trans (Kp.grown hgr (fun q hq => .inr hq))).trans (Kp.set (.inl rfl) _ _)).rws HRW.out (fun a ha e => by
          have h1 := HRB.out a ha
          rcases e with e | e
          · omega
          · have := (HO.out.lt _ e).1; omega)
      have HRUN := Lib.hid hrun
      have HM8 := Lib.hid hm8
      have HO8 := Lib.hid ho8
      have HR8 := Lib.hid hr8
      have HN8 := Lib.hid (show w2.heap.size ≤ (w7.setCell ⟨w.heap.size + 2, 0, none⟩ (.slice (some ⟨g, 0, none⟩) (k + 1) cap)).heap.size from by have := HN.out; have := hb3.size; have := hgr.size; simp only [World.size_setCell]; omega)
      have z0 := HM.out.bz.cs 0 _ rfl
      have z1 := HM.out.bz.cs 1 _ rfl
      have zl := HM.out.bz.lt
      have q0 := hm7.bz.cs 0 _ rfl
      have q1 := hm7.bz.cs 1 _ rfl
      have ql := hm7.bz.lt
      have qf := hm7.bz.s
      unfold Soft at qf
      have HM7 := Lib.hid hm7
      clear hat hnx hb3 hm3 hnew hrun hown hgr hgg hgl hz0 hz1 hm7 hm8 ho8 hr8
      go_wp2_with (first
        | (at_builtin; (refine wpList_append_run (by rfl) _ _ 29 (by rfl) _ _ (by rfl) (by rfl) HRUN.out ?_)))
      go_roundg (gk - 1)
      case rel => exact ⟨k + 1, some ⟨g, 0, none⟩, cap, by have := HK.out; omega, by go_num, HM8.out, HO8.out, HR8.out, HN8.out⟩
      case measure => have := HK.out; omega
    · have hkn : k = b.shops.length := by have := HK.out; omega
      subst hkn
      rw [List.take_length] at HO
      have HRO := Lib.hid (Rws.of_own HO.out)
      obtain ⟨Ao', co', e1, hco, hno, hra, hrb⟩ := HRO.out
      obtain ⟨rfl, -, rfl⟩ := Value.slice.inj e1
      have HAO := Lib.hid hra
      have HCO := Lib.hid hco
      have HNO := Lib.hid hno
      have HBO := Lib.hid hrb
      have x0 := HM.out.bx.cs 0 _ rfl
      have x1 := HM.out.bx.cs 1 _ rfl
      have xl := HM.out.bx.lt
      clear e1 hco hno hra hrb HRO HO
      go_wp2_with fail
      refine (HBN.out _ (HI.out.on HM.out.B)).mono ?_
      rintro e w5 ⟨A9, c9, ms, rfl, hms, hc9, hn9, hB9, hU9, hb5⟩
      have hml := bx_len hms
      have HMS := Lib.hid hms
      have HML := Lib.hid hml
      have HC9 := Lib.hid hc9
      have HN9 := Lib.hid hn9
      have HN5 := Lib.hid (show w.heap.size + 3 ≤ w5.heap.size from by have := HM.out.n; have := hb5.size; omega)
      have HA5 := Lib.hid (show ∀ a, Ao = some a → w.heap.size + 3 ≤ a.block ∧ a.block < w5.heap.size from fun a ha => by have := HBO.out a ha; have := HN1.out; have := hb5.size; omega)
      have HA9 := Lib.hid (show ∀ a, A9 = some a → w.heap.size + 3 ≤ a.block ∧ a.block < w5.heap.size from fun a ha => by have := hU9.b a ha; have := HM.out.n; omega)
      have HP9 := Lib.hid (show ∀ p ∈ ms, p.x.want ≠ [] → ∀ a, p.A = some a → w.heap.size + 3 ≤ a.block ∧ a.block < w5.heap.size from fun p hp hw a ha => by have := hU9.p p hp hw a ha; have := HM.out.n; omega)
      have HO2 := Lib.hid (show O2 w [.slice A b.shops.length c, .slice B b.binds.length d] [.slice none 0 0, .slice none 0 0] Ao b.shops.length co b.shops A9 ms w5.heap.size 0 none 0 [] w5 from ⟨HM.out.on hb5, Rws.on HAO.out hb5, hB9, by simp, World.ownsRow_nil _ _ _ _, fun p hp => by simp at hp, fun p hp => by simp at hp, Nat.le_refl _⟩)
      clear hms hc9 hn9 hB9 hU9 hb5 hml x0 x1 xl
      go_wp2_with fail
      go_loopg [25] ms.length (fun g i wr => O2St w [.slice A b.shops.length c, .slice B b.binds.length d] [.slice none 0 0, .slice none 0 0] Ao b.shops.length co b.shops A9 ms w5.heap.size g i wr)
      case atStart => exact ⟨0, none, 0, [], by omega, rfl, HO2.out⟩
      case round =>
        obtain ⟨k, Bo, dx, ys, hk, rfl, h2⟩ := hrel
        have HK2 := Lib.hid hk
        have HOO := Lib.hid h2
        clear hk h2
        by_cases hlt : k < b.binds.length
        · have hkm : k < ms.length := by have := HML.out; omega
          obtain ⟨bb, off, rfl, hbl, hat⟩ := bps_get HOO.out.s.row hkm
          have hok := HOO.out.s.ok ms[k] (List.getElem_mem hkm)
          have HYN := Lib.hid (ys_next hkm)
          have HKL := Lib.hid (show k ≤ 1000 by omega)
          generalize ms[k] = p at *
          obtain ⟨x, Ax, cx⟩ := p
          unfold bpL bdL at hat
          dsimp only at hat hok HYN
          have c0 := hat 0 _ rfl
          have c1 := hat 1 _ rfl
          have c2 := hat 2 _ rfl
          have c3 := hat 3 _ rfl
          have c4 := hat 4 _ rfl
          have c5 := hat 5 _ rfl
          rw [Nat.add_zero] at c0
          have HOK := Lib.hid hok
          have hb6 := rtOne wr (.cells #[.string (ofL x.shop), .string (ofL x.to), .bool x.up, .string (ofL x.key), .slice Ax x.want.length cx, .bool x.all] 37)
          have hb7 : Below wr.heap.size wr (wr.alloc (.cells #[.string (ofL x.shop), .string (ofL x.to), .bool x.up, .string (ofL x.key), .slice Ax x.want.length cx, .bool x.all] 37)).drew := hb6.drew
          have HB7 := Lib.hid hb7
          have HE7 := Lib.hid (rtDrew (rtAt0 wr #[.string (ofL x.shop), .string (ofL x.to), .bool x.up, .string (ofL x.key), .slice Ax x.want.length cx, .bool x.all] 37))
          have HM7 := Lib.hid (HOO.out.m.on hb7)
          have HSZ := Lib.hid (show wr.heap.size ≤ (wr.alloc (.cells #[.string (ofL x.shop), .string (ofL x.to), .bool x.up, .string (ofL x.key), .slice Ax x.want.length cx, .bool x.all] 37)).drew.heap.size from hb7.size)
          clear hat hok hb6 hb7
          go_upto_region 10 with fail
          generalize wr.alloc (.cells #[.string (ofL x.shop), .string (ofL x.to), .bool x.up, .string (ofL x.key), .slice Ax x.want.length cx, .bool x.all] 37) = wr1 at *
          have z0 := HM7.out.bz.cs 0 _ rfl
          have z1 := HM7.out.bz.cs 1 _ rfl
          have zl := HM7.out.bz.lt
          have e0 := HE7.out.cs 0 _ rfl
          have e1 := HE7.out.cs 1 _ rfl
          have e2 := HE7.out.cs 2 _ rfl
          have e3 := HE7.out.cs 3 _ rfl
          have e4 := HE7.out.cs 4 _ rfl
          have e5 := HE7.out.cs 5 _ rfl
          have el := HE7.out.lt
          have HT := Lib.hid (HTO.out x Ax cx wr1.drew HOK.out.len HOK.out.cap (HOK.out.row.on HB7.out))
          unfold ToBdPost at HT
          simp only [bdV] at HT
          go_region_law (first
            | (go_simp; go_at_call 28; refine HT.out.mono ?_; rintro e w8 ⟨A', c', rfl, hop, hb8⟩; have hopr := OwnPrs.row hop; have hb80 := bthen HB7.out hb8 (Nat.le_refl _); have hb9 := rtOne w8 (.cells #[.string (ofL x.shop), .string (ofL x.to), .bool x.up, .string (ofL x.key), .slice A' x.want.length c', .bool x.all] 69); have hb89 := bthen hb80 hb9 (Nat.le_refl _); have hnew := rtAt0 w8 #[.string (ofL x.shop), .string (ofL x.to), .bool x.up, .string (ofL x.key), .slice A' x.want.length c', .bool x.all] 69; obtain ⟨g9, cap, w9, hrun, hown, hgr, hgg, hgl⟩ := appRBd_run (W := w8.alloc (.cells #[.string (ofL x.shop), .string (ofL x.to), .bool x.up, .string (ofL x.key), .slice A' x.want.length c', .bool x.all] 69)) (B := w5.heap.size) (n := k) (cs := bps ys) (xs := bpL ⟨x, A', c'⟩) (A := Bo) (c := dx) (b := w8.heap.size) (by have := HKL.out; omega) (Rw.own_on HOO.out.o hb89) (Nat.le_trans HOO.out.n hb89.size) rfl (bp_one _) (fun j u hu => rw_at0 (hnew.cs j u hu)); have hm9 := (HOO.out.m.on hb89).grown hgr (fun q hq => le_trans3 HN5.out (HOO.out.o.lt q hq).1); rw [← bps_one1 ⟨x, A', c'⟩, ← bps_app] at hown; have HST := Lib.hid (O2.step HOO.out HN5.out HA5.out HA9.out HP9.out hb80 ⟨HOK.out.shop, HOK.out.tol, HOK.out.key, HOK.out.len, hopr.2.1, HOK.out.lite, hopr.1⟩ (fun a ha => ⟨Nat.le_trans HSZ.out (hopr.2.2 a ha).1, (hopr.2.2 a ha).2⟩) hb9 HYN.out hown hgr hgg); have HRUN := Lib.hid hrun; have hm8 := HOO.out.m.on hb80; clear z0 z1 zl e0 e1 e2 e3 e4 e5 el; have z0 := hm8.bz.cs 0 _ rfl; have z1 := hm8.bz.cs 1 _ rfl; have zl := hm8.bz.lt; have q0 := hm9.bz.cs 0 _ rfl; have q1 := hm9.bz.cs 1 _ rfl; have ql := hm9.bz.lt; have qf := hm9.bz.s; unfold Soft at qf; clear hop hopr hb8 hb80 hb9 hb89 hnew hrun hown hgr hgg hgl hm9 hm8)
            | (refine step_append_run (by rfl) _ _ 30 (by rfl) _ _ (by rfl) (by rfl) HRUN.out ?_))
          all_goals
            go_wp2_with fail
            go_roundg (gk - 1)
            case rel => exact ⟨k + 1, some ⟨g9, 0, none⟩, cap, ys ++ [⟨x, A', c'⟩], by have := HK2.out; omega, by go_num, HST.out⟩
            case measure => have := HK2.out; omega
        · have hkn : k = ms.length := by have := HK2.out; have := HML.out; omega
          subst hkn
          have HKX := Lib.hid HOO.out.x
          rw [List.take_length, HMS.out] at HKX
          have HRY := Lib.hid (Rws.of_own HOO.out.o)
          obtain ⟨Bo', dx', e1, hdx, hnb, hry, hyb⟩ := HRY.out
          obtain ⟨rfl, -, rfl⟩ := Value.slice.inj e1
          have HYL := Lib.hid (show ys.length = b.binds.length from bx_len HKX.out)
          have x0 := HOO.out.m.bz.cs 0 _ rfl
          have x1 := HOO.out.m.bz.cs 1 _ rfl
          have xl := HOO.out.m.bz.lt
          have r0 := HOO.out.m.bs.cs 0 _ rfl
          have r1 := HOO.out.m.bs.cs 1 _ rfl
          have rl := HOO.out.m.bs.lt
          have rf := HOO.out.m.bs.s
          unfold Soft at rf
          have HRW2 := Lib.hid hry
          have HDX := Lib.hid hdx
          have HNB := Lib.hid hnb
          have HYB := Lib.hid hyb
          clear e1 hdx hnb hry hyb HRY
          have hmb := HML.out
          go_wp2_with fail
          have hQ := HOO.out.m.bs.fill [.slice Ao b.shops.length co, .slice Bo b.binds.length dx] rfl
          have hB := below_putAll (w := w) (g := w.heap.size + 1) (by omega) [.slice Ao b.shops.length co, .slice Bo b.binds.length dx] 0 HOO.out.m.B
          simp only [putAll] at hQ hB
          have g0 := hQ.cs 0 _ rfl
          have g1 := hQ.cs 1 _ rfl
          have hk := ((Kp.set (N := fun q => q = w.heap.size + 1) (W := wr) (b := w.heap.size + 1) rfl 0 (.slice Ao b.shops.length co))).trans (Kp.set (N := fun q => q = w.heap.size + 1) (b := w.heap.size + 1) rfl 1 (.slice Bo b.binds.length dx))
          refine bodyPost_ret (v := .agg #[.slice Ao b.shops.length co, .slice Bo b.binds.length dx]) (by simp [results, Tryz.results10, go_sem, g0, g1]) rfl ⟨Ao, co, Bo, dx, ys, rfl, ⟨HKX.out, HCO.out, HNO.out, by have := HYL.out; have := HDX.out; omega, HNB.out, ⟨hk.rws HOO.out.r (fun a ha e => by have := HA5.out a ha; omega)⟩, ⟨hk.rws HRW2.out (fun a ha e => by have := HYB.out a ha; have := HN5.out; omega), fun p hp => hk.bd (HOO.out.y p hp) (fun hw a ha e => by have := HOO.out.z p hp hw a ha; omega)⟩⟩, hB⟩
end Go.Proofs.YtopobliajgocaaaGreatDoor
end
