/-
  THE LAW LineOf, walked.
-/
import Derived.Test.YtfbajmiiecmelabDoorLo29
import Derived.Test.YtfbajmiiecmelabDoorLo44
import Derived.Test.YtfbajmiiecmelabDoorLo48

section
namespace Go.Proofs.YtfbajmiiecmelabDoor
open Go.ChangeShapes Go.WideShapes Go.ChangeAt Go.RowKit
theorem OfR.len {l r : List It} {c : Nat} (h : OfR l r c) : r.length ≤ l.length := by
  rcases h with ⟨rfl, -, -⟩ | ⟨rfl, -⟩
  · exact Nat.le_refl _
  · exact Nat.zero_le _
/-- items that came in -/
structure ItIn (w : World) (A : Option Addr) (m : List ItP) : Prop where
  at_ : ∀ i (h : i < m.length), ∃ b off, A = some ⟨b, off, none⟩ ∧ b < w.heap.size ∧ ∀ j v, (itL m[i].x m[i].A m[i].c)[j]? = some v → w.cell? ⟨b, off + i * 9 + j, none⟩ = some v
  in_ : ∀ p ∈ m, MaIn w p.x.m p.A p.c
theorem ItIn.on {w w' : World} {A : Option Addr} {m : List ItP} (h : ItIn w A m) (hb : Below w.heap.size w w') : ItIn w' A m := ⟨fun i hi => by
  obtain ⟨b, off, hA, hlt, hc⟩ := h.at_ i hi
  exact ⟨b, off, hA, Nat.lt_of_lt_of_le hlt hb.size, fun j v hv => (hb.cell (p := ⟨b, off + i * 9 + j, none⟩) hlt).trans (hc j v hv)⟩, fun p hp => by
  have q := h.in_ p hp
  exact ⟨q.row.on hb, q.cap, q.big, q.txt, q.fits⟩⟩
theorem ItIn.its {w : World} {A : Option Addr} {m : List ItP} (h : ItIn w A m) (hl : ∀ p ∈ m, maLight p.x.m = true) : Its w A m :=
  ⟨h.at_, fun p hp => ⟨ml_light_Ok (hl p hp) (h.in_ p hp).cap (h.in_ p hp).row, (h.in_ p hp).fits⟩⟩
def LfSt (w : World) (m : List ItP) (g : Nat) (v i : Value) (wr : World) : Prop := ∃ (k : Nat) (A : Option Addr) (c : Nat), k + g = m.length ∧ v = .slice A k c ∧ i = .int .i64 (k : Int) ∧ wr.ownsRow w.heap.size 32 9 (.slice A k c) k (its (m.take k)) ∧ (∀ j (h : j < m.length), j < k → maLight m[j].x.m = true) ∧ Below w.heap.size w wr
set_option maxRecDepth 100000 in
set_option maxHeartbeats 8000000 in
theorem lineOf_walk (A0 : Option Addr) (c0 : Nat) (m : List ItP) (w : World) (hl : m.length ≤ 9223372036854775807) (hA : ItIn w A0 m) (hL : Len w) : Calls Tryd.prog 3 #[.slice A0 m.length c0] w fun e w' => e = .returned (.bool true) ∧ Below w.heap.size w w' := by
  have HAW := Lib.hid (awake18_any w hL)
  have HA := Lib.hid hA
  have HL := Lib.hid hL
  obtain ⟨i1, hi1, hz0, hz1, hz2⟩ := info_parts infoRit
  clear hA hL
  by_cases h70 : m.length ≤ 70
  · have d1 : decide ((m.length : Int) > 70) = false := decide_eq_false (by omega)
    go_enter Tryd.func3, Tryd.ntmps3
    go_wp2_with fail
    refine HAW.out.mono ?_
    rintro e w1 ⟨rfl, b1⟩
    have HB1 := Lib.hid b1
    have HA1 := Lib.hid (HA.out.on b1)
    clear b1
    go_wp2_with fail
    go_loopg [3, 19] m.length (fun g v i wr => LfSt w1 m g v i wr)
    case atStart => exact ⟨0, none, 0, by omega, rfl, rfl, World.ownsRow_nil _ _ _ _, fun j h hj => absurd hj (by omega), Below.refl _ _⟩
    case round =>
      obtain ⟨k, A', c', hk, rfl, rfl, ho, hall, hB⟩ := hrel
      have HK := Lib.hid hk
      have HO := Lib.hid ho
      have HALL := Lib.hid hall
      have HBK := Lib.hid hB
      clear hk ho hB hall
      by_cases hlt : k < m.length
      · obtain ⟨b, off, hAe, hbl, hat⟩ := (HA1.out.on HBK.out).at_ k hlt
        have hin := (HA1.out.on HBK.out).in_ _ (List.getElem_mem hlt)
        subst hAe
        have HTK := Lib.hid (its_succ hlt)
        have HNX := Lib.hid (show maLight m[k].x.m = true → ∀ j (h : j < m.length), j < k + 1 → maLight m[j].x.m = true from fun e j h hj => by
          by_cases e2 : j = k
          · subst e2; exact e
          · exact HALL.out j h (by omega))
        generalize m[k] = p at *
        obtain ⟨x, Ax, cx⟩ := p
        dsimp only at hat hin
        unfold itL at hat
        have cc0 := hat 0 _ rfl
        have cc1 := hat 1 _ rfl
        have cc2 := hat 2 _ rfl
        have cc3 := hat 3 _ rfl
        have cc4 := hat 4 _ rfl
        have cc5 := hat 5 _ rfl
        have cc6 := hat 6 _ rfl
        have cc7 := hat 7 _ rfl
        have cc8 := hat 8 _ rfl
        rw [Nat.add_zero] at cc0
        have hT := one_alloc wr (.cells #[.int .u64 (x.m.id : Int), .string (ofL x.m.shop), .string (ofL x.m.key), .slice Ax x.m.head.length cx, .string (ofL x.m.body), .int .u64 (x.m.due : Int), .int .u8 (x.m.hops : Int), .bool x.lent, .bool x.again] 30)
        have HT := Lib.hid hT
        have HX := Lib.hid (box_at0 wr #[.int .u64 (x.m.id : Int), .string (ofL x.m.shop), .string (ofL x.m.key), .slice Ax x.m.head.length cx, .string (ofL x.m.body), .int .u64 (x.m.due : Int), .int .u8 (x.m.hops : Int), .bool x.lent, .bool x.again] 30)
        have HLT := Lib.hid (ml_light_any x.m Ax cx _ hin.big (hin.row.on hT))
        simp only [maV] at HLT
        have HNX2 := Lib.hid (show maLight x.m = true → ∀ j (h : j < m.length), j < k + 1 → maLight m[j].x.m = true from HNX.out)
        clear hat hin hT HNX
        generalize maLight x.m = LX at *
        go_wp2_with fail
        refine HLT.out.mono ?_
        rintro e w5 ⟨rfl, b5⟩
        have HX5 := Lib.hid (HX.out.on b5)
        have HB5 := Lib.hid (bthen (bthen HBK.out HT.out (Nat.le_refl _)) b5 (Nat.le_refl _))
        have HO5 := Lib.hid (Rw.own_on (Rw.own_on HO.out HT.out) b5)
        clear b5 cc0 cc1 cc2 cc3 cc4 cc5 cc6 cc7 cc8
        cases LX with
        | false =>
          go_wp2_with fail
          go_ret
          exact ⟨rfl, bthen HB1.out HB5.out (Nat.le_refl _)⟩
        | true =>
          have x0 := HX5.out.cs 0 _ rfl
          have x1 := HX5.out.cs 1 _ rfl
          have x2 := HX5.out.cs 2 _ rfl
          have x3 := HX5.out.cs 3 _ rfl
          have x4 := HX5.out.cs 4 _ rfl
          have x5 := HX5.out.cs 5 _ rfl
          have x6 := HX5.out.cs 6 _ rfl
          have x7 := HX5.out.cs 7 _ rfl
          have x8 := HX5.out.cs 8 _ rfl
          have xl := HX5.out.lt
          have HT2 := Lib.hid (one_alloc w5 (.cells #[.int .u64 (x.m.id : Int), .string (ofL x.m.shop), .string (ofL x.m.key), .slice Ax x.m.head.length cx, .string (ofL x.m.body), .int .u64 (x.m.due : Int), .int .u8 (x.m.hops : Int), .bool x.lent, .bool x.again] 32))
          have HOX := Lib.hid (Rw.own_on HO5.out HT2.out)
          have HNW := Lib.hid (show Rws (w5.alloc (.cells #[.int .u64 (x.m.id : Int), .string (ofL x.m.shop), .string (ofL x.m.key), .slice Ax x.m.head.length cx, .string (ofL x.m.body), .int .u64 (x.m.due : Int), .int .u8 (x.m.hops : Int), .bool x.lent, .bool x.again] 32)) (some ⟨w5.heap.size, 0, none⟩) (its [(⟨x, Ax, cx⟩ : ItP)]) from Rws.of_news (fun j u hu => by rw [Nat.zero_add]; exact (World.cell?_alloc_new w5 #[.int .u64 (x.m.id : Int), .string (ofL x.m.shop), .string (ofL x.m.key), .slice Ax x.m.head.length cx, .string (ofL x.m.body), .int .u64 (x.m.due : Int), .int .u8 (x.m.hops : Int), .bool x.lent, .bool x.again] 32 j).trans (by simpa [its, itL] using hu)))
          have HS := Lib.hid (Nat.le_trans HB5.out.size HT2.out.size)
          have HBT := Lib.hid (bthen HB5.out HT2.out (Nat.le_refl _))
          go_wp2_with (at_builtin; refine wpList_append_rws _ rfl _ _ 24 rfl w1.heap.size 32 i1 _ 9 104 Tryd.underlying24 hi1 hz0 hz1 hz2 rfl (by decide) (by decide) (by rfl) HOX.out (by rfl) HNW.out (by rfl) (its_one _) (by omega) (fun e => by cases e) HS.out ?_; intro v6 w6 hown hgrow; rw [← HTK.out] at hown; have HB6 := Lib.hid (HBT.out.grown hgrow HS.out (fun kk hk => (HOX.out.lt kk hk).1)); obtain ⟨A6, c6, rfl, -, -⟩ := Rw.own_cells hown; have HO6 := Lib.hid hown; clear hown hgrow x0 x1 x2 x3 x4 x5 x6 x7 x8 xl)
          go_roundg (gk - 1)
          case rel => exact ⟨k + 1, A6, c6, by have := HK.out; omega, rfl, by go_num, HO6.out, HNX2.out trivial, HB6.out⟩
          case measure => have := HK.out; omega
      · have hkE : k = m.length := by have := HK.out; omega
        subst hkE
        have HLI := Lib.hid (show ∀ p ∈ m, maLight p.x.m = true from fun p hp => by
          obtain ⟨j, hj, rfl⟩ := List.getElem_of_mem hp
          exact HALL.out j hj hj)
        have hI := (HA1.out.on HBK.out).its HLI.out
        have ho := HO.out
        rw [List.take_length] at ho
        have HG := Lib.hid (Its.of_own ho (fun p hp => hI.ok p hp))
        have hml : (m.map (·.x)).length = m.length := by simp
        have HOF := Lib.hid (lnOf_any (m.map (·.x)) m A0 c0 wr rfl (by omega) hI (HL.out.on (bthen HB1.out HBK.out (Nat.le_refl _))))
        have HGF := Lib.hid (fun W h => r18Of_any (m.map (·.x)) m A' c' W rfl (by omega) h)
        have HBW := Lib.hid (bthen HB1.out HBK.out (Nat.le_refl _))
        unfold LnOfPost at HOF
        unfold OfPost at HGF
        have HML := Lib.hid hml
        clear hI ho hml
        generalize m.map (·.x) = l at *
        go_wp2_with fail
        refine HOF.out.mono ?_
        rintro e w5 ⟨v5, r, code, rfl, hof, hu5, hb5⟩
        obtain ⟨A5, c5, rfl, -⟩ := hu5.form
        have HT := Lib.hid (one_alloc w5 (.cells #[.slice A5 r.length c5] 34))
        have HX := Lib.hid (box_at0 w5 #[.slice A5 r.length c5] 34)
        have HV := Lib.hid (hu5.in.on HT.out)
        have HG6 := Lib.hid ((HG.out.on hb5).on HT.out)
        have HB6 := Lib.hid (bthen (bthen HBW.out hb5 (Nat.le_refl _)) HT.out (Nat.le_refl _))
        have HR := Lib.hid hof
        have hrl : r.length ≤ 70 := by have := hof.len; have := HML.out; omega
        clear hu5 hb5 hof
        go_wp2_with fail
        refine (HGF.out _ HG6.out).mono ?_
        rintro e w7 ⟨A7, c7, m7, code7, rfl, hof7, hc7, hn7, hI7, hb7⟩
        obtain ⟨hr7, hcd⟩ := HR.out.one hof7
        subst hcd
        have HR7 := Lib.hid hr7
        have HI7 := Lib.hid hI7
        have HX7 := Lib.hid (HX.out.on hb7)
        have HV7 := Lib.hid (HV.out.on hb7)
        have HB7 := Lib.hid (bthen HB6.out hb7 (Nat.le_refl _))
        have d2 : ((code : Int) != (code : Int)) = false := by simp
        have HOD := Lib.hid (of18_any (.agg #[.slice A5 r.length c5]) r w7 (by omega) HV7.out)
        unfold Of18Post at HOD
        have s0 := HX7.out.cs 0 _ rfl
        have sl := HX7.out.lt
        clear hof7 hr7 hc7 hn7 hI7 hb7
        go_wp2_with fail
        refine HOD.out.mono ?_
        rintro e w8 ⟨A8, c8, m8, rfl, hm8, hc8, hn8, hI8, hb8⟩
        have HSM := Lib.hid (r18Same_any r r m8 m7 A8 A7 c8 c7 w8 hm8 HR7.out.symm (by omega) (by omega) hI8 (HI7.out.on hb8))
        rw [decide_eq_true rfl] at HSM
        have HX8 := Lib.hid (HX7.out.on hb8)
        have HV8 := Lib.hid (HV7.out.on hb8)
        have HB8 := Lib.hid (bthen HB7.out hb8 (Nat.le_refl _))
        clear hm8 hc8 hn8 hI8 hb8 s0 sl
        go_wp2_with fail
        refine HSM.out.mono ?_
        rintro e w9 ⟨rfl, hb9⟩
        have HX9 := Lib.hid (HX8.out.on hb9)
        have HV9 := Lib.hid (HV8.out.on hb9)
        have HB9 := Lib.hid (bthen HB8.out hb9 (Nat.le_refl _))
        have HAL := Lib.hid (lnAll_any (.agg #[.slice A5 r.length c5]) r w9 (by omega) HV9.out)
        unfold AllPost at HAL
        have s0 := HX9.out.cs 0 _ rfl
        have sl := HX9.out.lt
        clear hb9
        go_wp2_with fail
        refine HAL.out.mono ?_
        rintro e w10 ⟨Aa, ca, rfl, hua, hb10⟩
        obtain ⟨A2, c2, ma, e2, hma, -, hIa⟩ := hua.in
        obtain ⟨rfl, rfl⟩ : Aa = A2 ∧ ca = c2 := by simpa using e2
        have HX10 := Lib.hid (HX9.out.on hb10)
        have HV10 := Lib.hid (HV9.out.on hb10)
        have HB10 := Lib.hid (bthen HB9.out hb10 (Nat.le_refl _))
        have hO2 := lnOf_any r ma Aa ca w10 hma (by omega) hIa (HL.out.on HB10.out)
        rw [xs_len hma] at hO2
        have HO2 := Lib.hid hO2
        unfold LnOfPost at HO2
        clear hua hma hIa e2 hb10 hO2 s0 sl
        go_wp2_with fail
        refine HO2.out.mono ?_
        rintro e w11 ⟨v11, r', code', rfl, hof', hu', hb'⟩
        obtain ⟨hr', hc'0⟩ := HR.out.again hof'
        subst hr'
        subst hc'0
        obtain ⟨A11, c11, rfl, -⟩ := hu'.form
        have HX11 := Lib.hid (HX10.out.on hb')
        have HB11 := Lib.hid (bthen HB10.out hb' (Nat.le_refl _))
        have HT11 := Lib.hid (one_alloc w11 (.cells #[.slice A11 r'.length c11] 34))
        have HX12 := Lib.hid (HX11.out.on HT11.out)
        have HQ := Lib.hid (lnSame_self _ _ r' _ (by omega) ((HV10.out.on hb').on HT11.out) (hu'.in.on HT11.out))
        have s0 := HX12.out.cs 0 _ rfl
        have sl := HX12.out.lt
        have HB12 := Lib.hid (bthen HB11.out HT11.out (Nat.le_refl _))
        clear hof' hu' hb'
        go_wp2_with fail
        refine HQ.out.mono ?_
        rintro e w13 ⟨rfl, hb13⟩
        have HBF := Lib.hid (bthen HB12.out hb13 (Nat.le_refl _))
        clear hb13 s0 sl
        go_wp2_with fail
        go_ret
        exact ⟨rfl, HBF.out⟩
  · have d1 : decide ((m.length : Int) > 70) = true := decide_eq_true (by omega)
    have d2 : decide (70 < m.length) = true := decide_eq_true (by omega)
    have d3 : 70 < m.length := by omega
    go_enter Tryd.func3, Tryd.ntmps3
    go_wp2_with fail
    refine HAW.out.mono ?_
    rintro e w1 ⟨rfl, b1⟩
    have HB1 := Lib.hid b1
    clear b1
    go_wp2_with fail
    go_ret
    exact ⟨rfl, HB1.out⟩
end Go.Proofs.YtfbajmiiecmelabDoor
end
