/-
  THE LAW DraftFull, walked.
-/
import Derived.Test.YtallnjhjhoaflaaGreatDoorDf26
import Derived.Test.YtallnjhjhoaflaaGreatDoorDf40
import Derived.Test.YtallnjhjhoaflaaGreatDoorDf49

section
namespace Go.Proofs.YtallnjhjhoaflaaGreatDoor
open Go.ChangeShapes Go.WideShapes Go.ChangeAt Go.RowKit
theorem min2_run {P : Program} (w : World) (ts : Array TypeId) (t : TypeId) (a b : Int) : (Builtin.min_ ts t #[.int .i64 a, .int .i64 b]).run P w = .ok (.int .i64 (min a b)) w := by
  have h : ∀ x y : Int, (if y < x then y else x) = min x y := fun x y => by
    rw [Int.min_def]
    split <;> split <;> omega
  simp [Builtin.min_, Builtin.min2, h]
theorem d6_put {w : World} {A : Option Addr} {x : De} {l : List Hp} (h : D6 w A x l) {g : Nat} (hA : ∀ a, A = some a → a.block ≠ g) (hl : ∀ p ∈ l, ∀ a, p.B = some a → a.block ≠ g) (j : Nat) (v : Value) : D6 (w.setCell ⟨g, j, none⟩ v) A x l :=
  ⟨rwsPut h.row hA j v, fun p hp => ⟨(h.ok p hp).1.aside (fun a ha e => hl p hp a ha e.symm) j v, (h.ok p hp).2⟩⟩
theorem drLife_b {P : Program} {f : FuncId} {a : Array Value} {v : Value} (W : World) (h : Calls P f a W fun e w' => e = .returned v ∧ W = w') : Calls P f a W fun e w' => e = .returned v ∧ Below W.heap.size W w' :=
  h.mono fun _ _ ⟨h1, h2⟩ => ⟨h1, h2 ▸ Below.refl _ _⟩
set_option maxRecDepth 100000 in
set_option maxHeartbeats 16000000 in
theorem draftFull_walk (m : Ml) (B : Option Addr) (d : Nat) (a T : Nat) (w : World) (hm : MaIn w m B d) (_ha : a < 256) (hT : T < 18446744073709551616) (hL : Len w) :
    Calls Tryz.prog 5 #[maV m B d, .int .u8 (a : Int), .int .u64 (T : Int)] w fun e w' => e = .returned (.bool true) ∧ Below w.heap.size w w' := by
  obtain ⟨N, hN⟩ : ∃ N, N = a % 40 := ⟨_, rfl⟩
  have hkm : (a : Int) % 40 = (N : Int) := by omega
  have HN40 := Lib.hid (show N < 40 by omega)
  clear hN
  have hmin : ∀ (W : World) (ts : Array TypeId) (t : TypeId), (Builtin.min_ ts t #[.int .i64 (N : Int), .int .i64 16]).run Tryz.prog W = .ok (.int .i64 ((min N 16 : Nat) : Int)) W := fun W ts t => by
    rw [min2_run, show min (N : Int) 16 = ((min N 16 : Nat) : Int) by omega]
  have HMIN := Lib.hid hmin
  clear hmin
  have HB1 := Lib.hid (rtOne w (.cells #[.int .u64 (m.id : Int), .string (ofL m.shop), .string (ofL m.key), .slice B m.head.length d, .string (ofL m.body), .int .u64 (m.due : Int), .int .u8 (m.hops : Int)] 37))
  have HM1 := Lib.hid (show BoxC w w.heap.size [.int .u64 (m.id : Int), .string (ofL m.shop), .string (ofL m.key), .slice B m.head.length d, .string (ofL m.body), .int .u64 (m.due : Int), .int .u8 (m.hops : Int)] (w.alloc (.cells #[.int .u64 (m.id : Int), .string (ofL m.shop), .string (ofL m.key), .slice B m.head.length d, .string (ofL m.body), .int .u64 (m.due : Int), .int .u8 (m.hops : Int)] 37)) from rtAt0 w #[.int .u64 (m.id : Int), .string (ofL m.shop), .string (ofL m.key), .slice B m.head.length d, .string (ofL m.body), .int .u64 (m.due : Int), .int .u8 (m.hops : Int)] 37)
  have HAW := Lib.hid (fun W g => awake26_any W g)
  have HLI := Lib.hid (fun W g => ml_light_any m B d W hm.big g)
  have HROW := Lib.hid hm.row
  have HFI := Lib.hid hm.fits
  have HL0 := Lib.hid hL
  have HOKM := Lib.hid (fun hl => ml_light_Ok (w := w) hl hm.cap hm.row)
  clear hm hL
  simp only [maV] at HLI ⊢
  go_enter Tryz.func5, Tryz.ntmps5
  go_upto_region 1 with fail
  generalize w.alloc (.cells #[.int .u64 (m.id : Int), .string (ofL m.shop), .string (ofL m.key), .slice B m.head.length d, .string (ofL m.body), .int .u64 (m.due : Int), .int .u8 (m.hops : Int)] 37) = W1 at *
  go_wp2_with fail
  refine (HAW.out _ (HL0.out.on HB1.out)).mono ?_
  rintro e w2 ⟨rfl, b2⟩
  have HB2 := Lib.hid (bthen HB1.out b2 (Nat.le_refl _))
  have HM2 := Lib.hid (HM1.out.on b2)
  clear b2 HM1 HB1
  have c0 := HM2.out.cs 0 _ rfl
  have c1 := HM2.out.cs 1 _ rfl
  have c2 := HM2.out.cs 2 _ rfl
  have c3 := HM2.out.cs 3 _ rfl
  have c4 := HM2.out.cs 4 _ rfl
  have c5 := HM2.out.cs 5 _ rfl
  have c6 := HM2.out.cs 6 _ rfl
  have cl := HM2.out.lt
  cases hlx : maLight m with
  | false =>
    rw [hlx] at HLI
    go_wp2_with fail
    refine (HLI.out _ (HROW.out.on HB2.out)).mono ?_
    rintro e w3 ⟨rfl, b3⟩
    have HB3 := Lib.hid (bthen HB2.out b3 (Nat.le_refl _))
    clear b3
    go_wp2_with fail
    go_ret
    exact ⟨rfl, HB3.out⟩
  | true =>
    have HMA := Lib.hid (HOKM.out hlx)
    rw [hlx] at HLI
    clear hlx
    go_wp2_with fail
    refine (HLI.out _ (HROW.out.on HB2.out)).mono ?_
    rintro e w3 ⟨rfl, b3⟩
    have HB3 := Lib.hid (bthen HB2.out b3 (Nat.le_refl _))
    have HM3 := Lib.hid (HM2.out.on b3)
    clear b3 HM2 HB2
    have HCK := Lib.hid (fun W g => r13Check_any m B d W g)
    simp only [maV] at HCK
    clear c0 c1 c2 c3 c4 c5 c6 cl
    have c0 := HM3.out.cs 0 _ rfl
    have c1 := HM3.out.cs 1 _ rfl
    have c2 := HM3.out.cs 2 _ rfl
    have c3 := HM3.out.cs 3 _ rfl
    have c4 := HM3.out.cs 4 _ rfl
    have c5 := HM3.out.cs 5 _ rfl
    have c6 := HM3.out.cs 6 _ rfl
    have cl := HM3.out.lt
    by_cases h0 : m.code = 0
    · rw [h0] at HCK
      have H0 := Lib.hid h0
      clear h0
      go_wp2_with fail
      refine (HCK.out _ (HMA.out.on HB3.out)).mono ?_
      rintro e w4 ⟨rfl, b4⟩
      have HB4 := Lib.hid (bthen HB3.out b4 (Nat.le_refl _))
      have HM4 := Lib.hid (HM3.out.on b4)
      clear b4 HM3 HB3
      clear c0 c1 c2 c3 c4 c5 c6 cl
      have HB5 := Lib.hid (bthen HB4.out (rtOne w4 (.cells #[.slice none 0 0] 27)) (Nat.le_refl _))
      have HM5 := Lib.hid (HM4.out.on (rtOne w4 (.cells #[.slice none 0 0] 27)))
      have HT5 := Lib.hid (BoxC.new (w := w) (W := w4) HB4.out.size #[.slice none 0 0] 27)
      have HNE := Lib.hid (show w.heap.size < w4.heap.size from HM4.out.lt)
      go_upto_region 6 with fail
      generalize w4.alloc (.cells #[.slice none 0 0] 27) = W5 at *
      generalize w4.heap.size = g7 at *
      go_wp2_with fail
      simp only [hkm]
      go_loopg [27] N (fun g i wr => ∃ k : Nat, k + g = N ∧ i = .int .i64 (k : Int) ∧ ∃ A c l, l.length = min k 16 ∧ l.length ≤ c ∧ BoxC w w.heap.size [.int .u64 (m.id : Int), .string (ofL m.shop), .string (ofL m.key), .slice B m.head.length d, .string (ofL m.body), .int .u64 (m.due : Int), .int .u8 (m.hops : Int)] wr ∧ BoxC w g7 [.slice A l.length c] wr ∧ D6 wr A (Df 0 m) l ∧ (∀ x, A = some x → x.block ≠ g7) ∧ (∀ p ∈ l, ∀ x, p.B = some x → x.block ≠ g7) ∧ Below w.heap.size w wr)
      case atStart => exact ⟨0, by omega, rfl, none, 0, [], rfl, Nat.le_refl _, HM5.out, HT5.out, D6.nil _ _ _, (fun x hx => by cases hx), (fun p hp => by simp at hp), HB5.out⟩
      case round =>
        obtain ⟨k, hk, rfl, A, c, l, hlen, hcap, hM, hT7, hD6, hnA, hnl, hB⟩ := hrel
        have HNA := Lib.hid hnA
        have HNL := Lib.hid hnl
        clear hnA hnl
        have HM := Lib.hid hM
        have HT7 := Lib.hid hT7
        have HD6 := Lib.hid hD6
        have HB := Lib.hid hB
        have HLEN := Lib.hid hlen
        have HCAP := Lib.hid hcap
        have HK := Lib.hid hk
        clear hM hT7 hD6 hB hlen hcap hk
        by_cases hlt : k < N
        · have hki : (k : Int) < (N : Int) := by omega
          have HNR := Lib.hid (BoxC.new (w := wr) (W := wr) (Nat.le_refl _) (deL (Df 0 m) none 0 B d).toArray 39)
          have HBR := Lib.hid (rtOne wr (.cells (deL (Df 0 m) none 0 B d).toArray 39))
          have HBN := Lib.hid (bthen HB.out HBR.out (Nat.le_refl _))
          have HADD := Lib.hid (drAdd6_any 0 m A c l B d wr.heap.size _ HCAP.out H0.out (HMA.out.on HBN.out) (HD6.out.on HBR.out) HNR.out.cs.range HNR.out.lt (by have := HLEN.out; omega) (HL0.out.on HBN.out))
          have c0 := HM.out.cs 0 _ rfl
          have c1 := HM.out.cs 1 _ rfl
          have c2 := HM.out.cs 2 _ rfl
          have c3 := HM.out.cs 3 _ rfl
          have c4 := HM.out.cs 4 _ rfl
          have c5 := HM.out.cs 5 _ rfl
          have c6 := HM.out.cs 6 _ rfl
          have cl := HM.out.lt
          have x0 := HT7.out.cs 0 _ rfl
          have xl := HT7.out.lt
          go_wp2_with (first
            | (refine wpList_buildTo (by rfl) 39 _ (by rfl) _ (by rfl) (deL (Df 0 m) none 0 B d).toArray (by kernel_rfl) ?_)
            | (refine wpList_plain (by rfl) (fun K hK => wp_buildDe _ (by rfl) (Df 0 m) none 0 B d (by kernel_rfl) (hK _ _ ?_))))
          refine HADD.out.mono ?_
          rintro e w7 (⟨hl16, A', c', p, rfl, hc', hD', hnA', hnp', b7⟩ | ⟨hl16, rfl, b7⟩)
          · have HB7 := Lib.hid (bthen HBN.out b7 (Nat.le_refl _))
            have HM7 := Lib.hid ((HM.out.on HBR.out).on b7)
            have HT8 := Lib.hid ((HT7.out.on HBR.out).on b7)
            have HD7 := Lib.hid hD'
            have HC7 := Lib.hid hc'
            have hk16 : k < 16 := by have := HLEN.out; omega
            have hd16 : decide ((k : Int) < 16) = true := decide_eq_true (by omega)
            clear b7 hD' hc' c0 c1 c2 c3 c4 c5 c6 cl x0 xl
            have x0 := HT8.out.cs 0 _ rfl
            have xl := HT8.out.lt
            have xf := HT8.out.s
            unfold Soft at xf
            go_wp2_with fail
            have hbs := rtOne (w7.setCell ⟨g7, 0, none⟩ (.slice A' (l.length + 1) c')) (.cells #[.slice A' (l.length + 1) c'] 27)
            have HT9 := Lib.hid ((HT8.out.put 0 (.slice A' (l.length + 1) c') (by simp)).on hbs)
            have hgl := HT7.out.lt
            have hD9 : D6 (w7.setCell ⟨g7, 0, none⟩ (.slice A' (l.length + 1) c')) A' (Df 0 m) (l ++ [p]) := d6_put HD7.out (fun x hx => by have := hnA' x hx; have := HBR.out.size; omega) (fun q hq x hx => by
              rcases List.mem_append.1 hq with hq | hq
              · exact HNL.out q hq x hx
              · obtain rfl := List.mem_singleton.1 hq
                have := hnp' x hx
                have := HBR.out.size
                omega) 0 _
            have HD9 := Lib.hid (hD9.on hbs)
            have HNA9 := Lib.hid (show ∀ x, A' = some x → x.block ≠ g7 from fun x hx => by have := hnA' x hx; have := HBR.out.size; omega)
            have HNL9 := Lib.hid (show ∀ q ∈ l ++ [p], ∀ x, q.B = some x → x.block ≠ g7 from fun q hq x hx => by
              rcases List.mem_append.1 hq with hq | hq
              · exact HNL.out q hq x hx
              · obtain rfl := List.mem_singleton.1 hq
                have := hnp' x hx
                have := HBR.out.size
                omega)
            have HM9 := Lib.hid ((HM7.out.aside (g := g7) (by have := HNE.out; omega) 0 (.slice A' (l.length + 1) c')).on hbs)
            have HB9 := Lib.hid (bthen (HB7.out.setCell (p := ⟨g7, 0, none⟩) (by show w.heap.size ≤ g7; have := HNE.out; omega) (.slice A' (l.length + 1) c')) hbs (Nat.le_refl _))
            have HLN9 := Lib.hid (show (l ++ [p]).length = min (k + 1) 16 by rw [List.length_append]; have := HLEN.out; simp only [List.length_cons, List.length_nil]; omega)
            have HLE9 := Lib.hid (show (l ++ [p]).length = l.length + 1 by simp)
            clear hD9 hgl hbs hnA' hnp' hl16 hk16 hd16 x0 xl xf
            go_roundg (gk - 1)
            case rel => exact ⟨k + 1, by have := HK.out; omega, by go_num, A', c', l ++ [p], HLN9.out, by rw [HLE9.out]; exact HC7.out, HM9.out, by rw [HLE9.out]; exact HT9.out, HD9.out, HNA9.out, HNL9.out, HB9.out⟩
            case measure => have := HK.out; omega
          · have HB7 := Lib.hid (bthen HBN.out b7 (Nat.le_refl _))
            have HM7 := Lib.hid ((HM.out.on HBR.out).on b7)
            have HT8 := Lib.hid ((HT7.out.on HBR.out).on b7)
            have HD7 := Lib.hid ((HD6.out.on HBR.out).on b7)
            have hk16 : ¬ k < 16 := by have := HLEN.out; omega
            have hd16 : decide ((k : Int) < 16) = false := decide_eq_false (by omega)
            clear b7 c0 c1 c2 c3 c4 c5 c6 cl x0 xl
            have x0 := HT8.out.cs 0 _ rfl
            have xl := HT8.out.lt
            have xf := HT8.out.s
            unfold Soft at xf
            go_wp2_with fail
            have hbs := rtOne (w7.setCell ⟨g7, 0, none⟩ (.slice A l.length c)) (.cells #[.slice A l.length c] 27)
            have HT9 := Lib.hid ((HT8.out.put 0 (.slice A l.length c) (by simp)).on hbs)
            have HD9 := Lib.hid ((d6_put HD7.out HNA.out HNL.out 0 (.slice A l.length c)).on hbs)
            have HM9 := Lib.hid ((HM7.out.aside (g := g7) (by have := HNE.out; omega) 0 (.slice A l.length c)).on hbs)
            have HB9 := Lib.hid (bthen (HB7.out.setCell (p := ⟨g7, 0, none⟩) (by show w.heap.size ≤ g7; have := HNE.out; omega) (.slice A l.length c)) hbs (Nat.le_refl _))
            have HLN9 := Lib.hid (show l.length = min (k + 1) 16 by have := HLEN.out; omega)
            clear hbs hl16 hk16 hd16 x0 xl xf
            go_roundg (gk - 1)
            case rel => exact ⟨k + 1, by have := HK.out; omega, by go_num, A, c, l, HLN9.out, HCAP.out, HM9.out, HT9.out, HD9.out, HNA.out, HNL.out, HB9.out⟩
            case measure => have := HK.out; omega
        · have hkN : k = N := by have := HK.out; omega
          have HMI := Lib.hid (show l.length = min N 16 by rw [← hkN]; exact HLEN.out)
          have hki : ¬ (k : Int) < (N : Int) := by omega
          have x0 := HT7.out.cs 0 _ rfl
          have xl := HT7.out.lt
          have HATC := Lib.hid (fun W g1 => drAt6_any T m A c l W HCAP.out g1 (by have := HMI.out; omega) HMA.out.len hT HFI.out.due)
          have HLF := Lib.hid (fun W => drLife_any T m.due W hT HFI.out.due)
          go_wp2_with fail
          refine (HATC.out _ HD6.out).mono ?_
          rintro e w8 ⟨A8, c8, q, rfl, hq8, hc8, hD8, b8⟩
          have HB8 := Lib.hid (bthen HB.out b8 (Nat.le_refl _))
          have HM8 := Lib.hid (HM.out.on b8)
          have HT8 := Lib.hid (HT7.out.on b8)
          have HD8 := Lib.hid hD8
          have HQ8 := Lib.hid hq8
          clear b8 hD8 hq8 hc8 x0 xl
          obtain ⟨n8, hn8⟩ : ∃ n8, n8 = l.length := ⟨_, rfl⟩
          have HN8 := Lib.hid hn8
          have HMIN8 := Lib.hid (show n8 = min N 16 by rw [hn8]; exact HMI.out)
          have hb16 : n8 ≤ 16 := by have := HMIN8.out; omega
          rw [← hn8] at HQ8 HT8
          rw [← hn8]
          clear hn8
          go_wp2_with fail
          go_loopg [58] n8 (fun g i wx => ∃ k : Nat, k + g = n8 ∧ i = .int .i64 (k : Int) ∧ BoxC w w.heap.size [.int .u64 (m.id : Int), .string (ofL m.shop), .string (ofL m.key), .slice B m.head.length d, .string (ofL m.body), .int .u64 (m.due : Int), .int .u8 (m.hops : Int)] wx ∧ BoxC w g7 [.slice A n8 c] wx ∧ D6 wx A8 (Df T (due T m)) q ∧ Below w.heap.size w wx)
          case atStart => exact ⟨0, by omega, rfl, HM8.out, HT8.out, HD8.out, HB8.out⟩
          case round =>
            obtain ⟨k2, hk2, rfl, hM9, hT9, hD9, hB9⟩ := hrel
            have HM9 := Lib.hid hM9
            have HT9 := Lib.hid hT9
            have HD9 := Lib.hid hD9
            have HB9 := Lib.hid hB9
            have HK2 := Lib.hid hk2
            clear hM9 hT9 hD9 hB9 hk2
            by_cases hlt2 : k2 < n8
            · have hq2 : k2 < q.length := by have := HQ8.out; omega
              obtain ⟨b, off, rfl, hbl, hat, -, -⟩ := d6_elt HD9.out hq2
              generalize (q[k2]'hq2).B = B9 at *
              generalize (q[k2]'hq2).d = d9 at *
              have HAT := Lib.hid hat
              clear hat
              have hki2 : (k2 : Int) < (n8 : Int) := by omega
              have HE9 := Lib.hid (BoxC.new (w := wr) (W := wr) (Nat.le_refl _) (deL (Df T (due T m)) none 0 B9 d9).toArray 39)
              have HBX := Lib.hid (rtOne wr (.cells (deL (Df T (due T m)) none 0 B9 d9).toArray 39))
              go_upto_region 18 with (first
                | (refine wpList_load_mid (by rfl) 39 _ (by rfl) b (off + k2 * 29) (by rfl) (deL (Df T (due T m)) none 0 B9 d9) _ HAT.out Tryz.underlying39 rfl (by rw [de_size, deL_len]) ?_)
                | (refine wpList_store_new2 (by rfl) 39 _ _ (by rfl) _ (deL (Df T (due T m)) none 0 B9 d9).toArray (by rfl) (by rfl) (by rw [de_size]; rfl) (by rfl) (de_all _ _ _ _ _) ?_))
              have HMB9 := Lib.hid (HM9.out.on HBX.out)
              have HTB9 := Lib.hid (HT9.out.on HBX.out)
              have HDB9 := Lib.hid (HD9.out.on HBX.out)
              have HBB9 := Lib.hid (bthen HB9.out HBX.out (Nat.le_refl _))
              generalize wr.alloc (.cells (deL (Df T (due T m)) none 0 B9 d9).toArray 39) = W9 at *
              have e1 : W9.cell? ⟨wr.heap.size, 1, none⟩ = some (.int .u64 (T : Int)) := HE9.out.cs 1 _ rfl
              have e25 : W9.cell? ⟨wr.heap.size, 25, none⟩ = some (.string (ofL m.body)) := HE9.out.cs 25 _ rfl
              have e26 : W9.cell? ⟨wr.heap.size, 26, none⟩ = some (.int .u64 (lifeN T m.due : Int)) := HE9.out.cs 26 _ rfl
              have el := HE9.out.lt
              have c4 := HMB9.out.cs 4 _ rfl
              have c5 := HMB9.out.cs 5 _ rfl
              have cl := HMB9.out.lt
              have hTT : ((T : Int) != (T : Int)) = false := by simp
              have hSS : ((ofL m.body).toList != (ofL m.body).toList) = false := by simp
              have hLL : ((lifeN T m.due : Int) != (lifeN T m.due : Int)) = false := by simp
              refine wp_region_held_drew (S := fun a => Below (W9.heap.size) W9 a) (by kernel_rfl) (by (try dsimp only); exact (Below.refl _ _).drew) (fun hHeld => ?_)
              refine wpAnyH_take (i := 0) (oi := { dst := some 62, op := Go.Op.fieldAddr 39 (Go.Operand.tmp 13) 1, type := 0, pos := "law.go:95", after := #[], guard := none }) (v := ?_) rfl (by kernel_rfl) (by kernel_rfl) (by kernel_rfl) (fun _ _ _ h => h) (Or.inl ⟨by rfl, ?_⟩) (by assumption) ?_
              rotate_left 1
              · intro wS hSw; (try dsimp only at hSw); go_simp; try with_reducible rfl
              try simp only [Act.put, List.setIfInBounds_toArray, List.set_cons_zero, List.set_cons_succ]
              refine wpAnyH_take (i := 1) (oi := { dst := some 63, op := Go.Op.load 23 (Go.Operand.tmp 62), type := 23, pos := "law.go:95", after := #[{ on := 0, ground := Go.Ground.data }], guard := none }) (v := ?_) rfl (by kernel_rfl) (by kernel_rfl) (by kernel_rfl) (fun _ _ _ h => h) (Or.inl ⟨by rfl, ?_⟩) (by assumption) ?_
              rotate_left 1
              · intro wS hSw; (try dsimp only at hSw); have e1 := cell_on hSw e1; have e25 := cell_on hSw e25; have e26 := cell_on hSw e26; have c4 := cell_on hSw c4; have c5 := cell_on hSw c5; go_simp; try with_reducible rfl
              try simp only [Act.put, List.setIfInBounds_toArray, List.set_cons_zero, List.set_cons_succ]
              refine wpAnyH_take (i := 2) (oi := { dst := some 64, op := Go.Op.move (Go.Operand.tmp 2), type := 23, pos := "law.go:95", after := #[], guard := none }) (v := ?_) rfl (by kernel_rfl) (by kernel_rfl) (by kernel_rfl) (fun _ _ _ h => h) (Or.inl ⟨by rfl, ?_⟩) (by assumption) ?_
              rotate_left 1
              · intro wS hSw; (try dsimp only at hSw); go_simp; try with_reducible rfl
              try simp only [Act.put, List.setIfInBounds_toArray, List.set_cons_zero, List.set_cons_succ]
              refine wpAnyH_take (i := 3) (oi := { dst := some 65, op := Go.Op.binOp Go.BinOp.neq 23 (Go.Operand.tmp 63) (Go.Operand.tmp 64) 23, type := 4, pos := "law.go:95", after := #[{ on := 1, ground := Go.Ground.data }, { on := 2, ground := Go.Ground.data }], guard := none }) (v := ?_) rfl (by kernel_rfl) (by kernel_rfl) (by kernel_rfl) (fun _ _ _ h => h) (Or.inl ⟨by rfl, ?_⟩) (by assumption) ?_
              rotate_left 1
              · intro wS hSw; (try dsimp only at hSw); go_simp; try with_reducible rfl
              try simp only [Act.put, List.setIfInBounds_toArray, List.set_cons_zero, List.set_cons_succ]
              refine wpAnyH_take (i := 4) (oi := { dst := some 66, op := Go.Op.move (Go.Operand.tmp 65), type := 4, pos := "law.go:95", after := #[{ on := 3, ground := Go.Ground.data }], guard := none }) (v := ?_) rfl (by kernel_rfl) (by kernel_rfl) (by kernel_rfl) (fun _ _ _ h => h) (Or.inl ⟨by rfl, ?_⟩) (by assumption) ?_
              rotate_left 1
              · intro wS hSw; (try dsimp only at hSw); go_simp; try with_reducible rfl
              try simp only [Act.put, List.setIfInBounds_toArray, List.set_cons_zero, List.set_cons_succ]
              refine wpAnyH_take (i := 5) (oi := { dst := some 67, op := Go.Op.fieldAddr 39 (Go.Operand.tmp 13) 11, type := 0, pos := "law.go:95", after := #[{ on := 4, ground := Go.Ground.guard }], guard := some (4, false) }) (v := ?_) rfl (by kernel_rfl) (by kernel_rfl) (by kernel_rfl) (fun _ _ _ h => h) (Or.inl ⟨by rfl, ?_⟩) (by assumption) ?_
              rotate_left 1
              · intro wS hSw; (try dsimp only at hSw); go_simp; try with_reducible rfl
              try simp only [Act.put, List.setIfInBounds_toArray, List.set_cons_zero, List.set_cons_succ]
              refine wpAnyH_take (i := 6) (oi := { dst := some 68, op := Go.Op.fieldAddr 37 (Go.Operand.tmp 67) 4, type := 0, pos := "law.go:95", after := #[{ on := 5, ground := Go.Ground.data }, { on := 4, ground := Go.Ground.guard }], guard := some (4, false) }) (v := ?_) rfl (by kernel_rfl) (by kernel_rfl) (by kernel_rfl) (fun _ _ _ h => h) (Or.inl ⟨by rfl, ?_⟩) (by assumption) ?_
              rotate_left 1
              · intro wS hSw; (try dsimp only at hSw); go_simp; try with_reducible rfl
              try simp only [Act.put, List.setIfInBounds_toArray, List.set_cons_zero, List.set_cons_succ]
              refine wpAnyH_take (i := 7) (oi := { dst := some 69, op := Go.Op.load 9 (Go.Operand.tmp 68), type := 9, pos := "law.go:95", after := #[{ on := 6, ground := Go.Ground.data }, { on := 4, ground := Go.Ground.guard }], guard := some (4, false) }) (v := ?_) rfl (by kernel_rfl) (by kernel_rfl) (by kernel_rfl) (fun _ _ _ h => h) (Or.inl ⟨by rfl, ?_⟩) (by assumption) ?_
              rotate_left 1
              · intro wS hSw; (try dsimp only at hSw); have e1 := cell_on hSw e1; have e25 := cell_on hSw e25; have e26 := cell_on hSw e26; have c4 := cell_on hSw c4; have c5 := cell_on hSw c5; go_simp; try with_reducible rfl
              try simp only [Act.put, List.setIfInBounds_toArray, List.set_cons_zero, List.set_cons_succ]
              refine wpAnyH_take (i := 8) (oi := { dst := some 70, op := Go.Op.fieldAddr 37 (Go.Operand.tmp 3) 4, type := 0, pos := "law.go:95", after := #[{ on := 4, ground := Go.Ground.guard }], guard := some (4, false) }) (v := ?_) rfl (by kernel_rfl) (by kernel_rfl) (by kernel_rfl) (fun _ _ _ h => h) (Or.inl ⟨by rfl, ?_⟩) (by assumption) ?_
              rotate_left 1
              · intro wS hSw; (try dsimp only at hSw); go_simp; try with_reducible rfl
              try simp only [Act.put, List.setIfInBounds_toArray, List.set_cons_zero, List.set_cons_succ]
              refine wpAnyH_take (i := 9) (oi := { dst := some 71, op := Go.Op.load 9 (Go.Operand.tmp 70), type := 9, pos := "law.go:95", after := #[{ on := 8, ground := Go.Ground.data }, { on := 4, ground := Go.Ground.guard }], guard := some (4, false) }) (v := ?_) rfl (by kernel_rfl) (by kernel_rfl) (by kernel_rfl) (fun _ _ _ h => h) (Or.inl ⟨by rfl, ?_⟩) (by assumption) ?_
              rotate_left 1
              · intro wS hSw; (try dsimp only at hSw); have e1 := cell_on hSw e1; have e25 := cell_on hSw e25; have e26 := cell_on hSw e26; have c4 := cell_on hSw c4; have c5 := cell_on hSw c5; go_simp; try with_reducible rfl
              try simp only [Act.put, List.setIfInBounds_toArray, List.set_cons_zero, List.set_cons_succ]
              refine wpAnyH_take (i := 10) (oi := { dst := some 72, op := Go.Op.binOp Go.BinOp.neq 9 (Go.Operand.tmp 69) (Go.Operand.tmp 71) 9, type := 4, pos := "law.go:95", after := #[{ on := 7, ground := Go.Ground.data }, { on := 9, ground := Go.Ground.data }, { on := 4, ground := Go.Ground.guard }], guard := some (4, false) }) (v := ?_) rfl (by kernel_rfl) (by kernel_rfl) (by kernel_rfl) (fun _ _ _ h => h) (Or.inl ⟨by rfl, ?_⟩) (by assumption) ?_
              rotate_left 1
              · intro wS hSw; (try dsimp only at hSw); go_simp; try with_reducible rfl
              try simp only [Act.put, List.setIfInBounds_toArray, List.set_cons_zero, List.set_cons_succ]
              refine wpAnyH_take (i := 11) (oi := { dst := some 73, op := Go.Op.pick (Go.Operand.tmp 66) (Go.Operand.const (Go.Value.bool true)) (Go.Operand.tmp 72), type := 4, pos := "law.go:95", after := #[{ on := 4, ground := Go.Ground.data }, { on := 10, ground := Go.Ground.data }], guard := none }) (v := ?_) rfl (by kernel_rfl) (by kernel_rfl) (by kernel_rfl) (fun _ _ _ h => h) (Or.inl ⟨by rfl, ?_⟩) (by assumption) ?_
              rotate_left 1
              · intro wS hSw; (try dsimp only at hSw); go_simp; try with_reducible rfl
              try simp only [Act.put, List.setIfInBounds_toArray, List.set_cons_zero, List.set_cons_succ]
              refine wpAnyH_take (i := 12) (oi := { dst := some 74, op := Go.Op.move (Go.Operand.tmp 73), type := 4, pos := "law.go:95", after := #[{ on := 11, ground := Go.Ground.data }, { on := 4, ground := Go.Ground.chain }], guard := none }) (v := ?_) rfl (by kernel_rfl) (by kernel_rfl) (by kernel_rfl) (fun _ _ _ h => h) (Or.inl ⟨by rfl, ?_⟩) (by assumption) ?_
              rotate_left 1
              · intro wS hSw; (try dsimp only at hSw); go_simp; try with_reducible rfl
              try simp only [Act.put, List.setIfInBounds_toArray, List.set_cons_zero, List.set_cons_succ]
              refine wpAnyH_take (i := 13) (oi := { dst := some 75, op := Go.Op.fieldAddr 39 (Go.Operand.tmp 13) 11, type := 0, pos := "law.go:95", after := #[{ on := 12, ground := Go.Ground.guard }], guard := some (12, false) }) (v := ?_) rfl (by kernel_rfl) (by kernel_rfl) (by kernel_rfl) (fun _ _ _ h => h) (Or.inl ⟨by rfl, ?_⟩) (by assumption) ?_
              rotate_left 1
              · intro wS hSw; (try dsimp only at hSw); go_simp; try with_reducible rfl
              try simp only [Act.put, List.setIfInBounds_toArray, List.set_cons_zero, List.set_cons_succ]
              refine wpAnyH_take (i := 14) (oi := { dst := some 76, op := Go.Op.fieldAddr 37 (Go.Operand.tmp 75) 5, type := 0, pos := "law.go:95", after := #[{ on := 13, ground := Go.Ground.data }, { on := 12, ground := Go.Ground.guard }], guard := some (12, false) }) (v := ?_) rfl (by kernel_rfl) (by kernel_rfl) (by kernel_rfl) (fun _ _ _ h => h) (Or.inl ⟨by rfl, ?_⟩) (by assumption) ?_
              rotate_left 1
              · intro wS hSw; (try dsimp only at hSw); go_simp; try with_reducible rfl
              try simp only [Act.put, List.setIfInBounds_toArray, List.set_cons_zero, List.set_cons_succ]
              refine wpAnyH_take (i := 15) (oi := { dst := some 77, op := Go.Op.load 23 (Go.Operand.tmp 76), type := 23, pos := "law.go:95", after := #[{ on := 14, ground := Go.Ground.data }, { on := 12, ground := Go.Ground.guard }], guard := some (12, false) }) (v := ?_) rfl (by kernel_rfl) (by kernel_rfl) (by kernel_rfl) (fun _ _ _ h => h) (Or.inl ⟨by rfl, ?_⟩) (by assumption) ?_
              rotate_left 1
              · intro wS hSw; (try dsimp only at hSw); have e1 := cell_on hSw e1; have e25 := cell_on hSw e25; have e26 := cell_on hSw e26; have c4 := cell_on hSw c4; have c5 := cell_on hSw c5; go_simp; try with_reducible rfl
              try simp only [Act.put, List.setIfInBounds_toArray, List.set_cons_zero, List.set_cons_succ]
              refine wpAnyH_take (i := 16) (oi := { dst := some 78, op := Go.Op.move (Go.Operand.tmp 2), type := 23, pos := "law.go:95", after := #[{ on := 12, ground := Go.Ground.guard }], guard := some (12, false) }) (v := ?_) rfl (by kernel_rfl) (by kernel_rfl) (by kernel_rfl) (fun _ _ _ h => h) (Or.inl ⟨by rfl, ?_⟩) (by assumption) ?_
              rotate_left 1
              · intro wS hSw; (try dsimp only at hSw); go_simp; try with_reducible rfl
              try simp only [Act.put, List.setIfInBounds_toArray, List.set_cons_zero, List.set_cons_succ]
              refine wpAnyH_take (i := 17) (oi := { dst := some 79, op := Go.Op.fieldAddr 37 (Go.Operand.tmp 3) 5, type := 0, pos := "law.go:95", after := #[{ on := 12, ground := Go.Ground.guard }], guard := some (12, false) }) (v := ?_) rfl (by kernel_rfl) (by kernel_rfl) (by kernel_rfl) (fun _ _ _ h => h) (Or.inl ⟨by rfl, ?_⟩) (by assumption) ?_
              rotate_left 1
              · intro wS hSw; (try dsimp only at hSw); go_simp; try with_reducible rfl
              try simp only [Act.put, List.setIfInBounds_toArray, List.set_cons_zero, List.set_cons_succ]
              refine wpAnyH_take (i := 18) (oi := { dst := some 80, op := Go.Op.load 23 (Go.Operand.tmp 79), type := 23, pos := "law.go:95", after := #[{ on := 17, ground := Go.Ground.data }, { on := 12, ground := Go.Ground.guard }], guard := some (12, false) }) (v := ?_) rfl (by kernel_rfl) (by kernel_rfl) (by kernel_rfl) (fun _ _ _ h => h) (Or.inl ⟨by rfl, ?_⟩) (by assumption) ?_
              rotate_left 1
              · intro wS hSw; (try dsimp only at hSw); have e1 := cell_on hSw e1; have e25 := cell_on hSw e25; have e26 := cell_on hSw e26; have c4 := cell_on hSw c4; have c5 := cell_on hSw c5; go_simp; try with_reducible rfl
              try simp only [Act.put, List.setIfInBounds_toArray, List.set_cons_zero, List.set_cons_succ]
              refine wpAnyH_ready (rs := [19]) (by kernel_rfl) (by simp) ?_
              refine AllReadyH.cons (o := { dst := some 81, op := Go.Op.call { callee := Go.Callee.value (Go.Operand.func 20), args := #[Go.Operand.tmp 78, Go.Operand.tmp 80], argTypes := #[23, 23] }, type := 23, pos := "law.go:95", after := #[{ on := 16, ground := Go.Ground.data }, { on := 18, ground := Go.Ground.data }, { on := 12, ground := Go.Ground.chain }, { on := 12, ground := Go.Ground.guard }], guard := some (12, false) }) rfl (fun K hK => ?_) (AllReadyH.nil)
              go_simp
              go_at_call 20
              refine (drLife_b _ (HLF.out _)).mono ?_
              rintro e wx ⟨rfl, hb2⟩
              refine hK.out _ _ (bthen hHeld hb2 (Nat.le_refl _)) (fun hHeld2 => ?_)
              clear hK K hHeld hb2
              have hHeld := hHeld2
              clear hHeld2
              try simp only [Act.put, List.setIfInBounds_toArray, List.set_cons_zero, List.set_cons_succ]
              refine wpAnyH_take (i := 20) (oi := { dst := some 82, op := Go.Op.binOp Go.BinOp.neq 23 (Go.Operand.tmp 77) (Go.Operand.tmp 81) 23, type := 4, pos := "law.go:95", after := #[{ on := 15, ground := Go.Ground.data }, { on := 19, ground := Go.Ground.data }, { on := 12, ground := Go.Ground.guard }], guard := some (12, false) }) (v := ?_) rfl (by kernel_rfl) (by kernel_rfl) (by kernel_rfl) (fun _ _ _ h => h) (Or.inl ⟨by rfl, ?_⟩) (by assumption) ?_
              rotate_left 1
              · intro wS hSw; (try dsimp only at hSw); go_simp; try with_reducible rfl
              try simp only [Act.put, List.setIfInBounds_toArray, List.set_cons_zero, List.set_cons_succ]
              refine wpAnyH_take (i := 21) (oi := { dst := some 83, op := Go.Op.pick (Go.Operand.tmp 74) (Go.Operand.const (Go.Value.bool true)) (Go.Operand.tmp 82), type := 4, pos := "law.go:95", after := #[{ on := 12, ground := Go.Ground.data }, { on := 20, ground := Go.Ground.data }], guard := none }) (v := ?_) rfl (by kernel_rfl) (by kernel_rfl) (by kernel_rfl) (fun _ _ _ h => h) (Or.inl ⟨by rfl, ?_⟩) (by assumption) ?_
              rotate_left 1
              · intro wS hSw; (try dsimp only at hSw); go_simp; try with_reducible rfl
              try simp only [Act.put, List.setIfInBounds_toArray, List.set_cons_zero, List.set_cons_succ]
              refine wpAnyH_done (by kernel_rfl) ?_ _
              have hZ := hHeld
              clear hHeld
              have HB10 := Lib.hid (bthen HBB9.out hZ (Nat.le_refl _))
              have HMB10 := Lib.hid (HMB9.out.on hZ)
              have HT10 := Lib.hid (HTB9.out.on hZ)
              have HQ10 := Lib.hid (HDB9.out.on hZ)
              clear hZ e1 e25 e26 c4 c5 el cl
              go_wp2_with fail
              go_roundg (gk - 1)
              case rel => exact ⟨k2 + 1, by have := HK2.out; omega, by go_num, HMB10.out, HT10.out, HQ10.out, HB10.out⟩
              case measure => have := HK2.out; omega
            · have hkk : k2 = n8 := by have := HK2.out; omega
              have x0 := HT9.out.cs 0 _ rfl
              have xl := HT9.out.lt
              have hmin := HMIN.out
              have hq : q.length = n8 := HQ8.out
              have hM16 := HMIN8.out
              generalize min N 16 = M16 at *
              subst hM16
              go_wp2_with fail
              refine (drLen_any A n8 c _).mono ?_
              rintro e w10 ⟨rfl, b10⟩
              have HB10 := Lib.hid (bthen HB9.out b10 (Nat.le_refl _))
              clear b10
              go_wp2_with fail
              go_ret
              exact ⟨rfl, HB10.out⟩
    · have hz : ((m.code : Int) != 0) = true := by rw [bne_iff_ne]; omega
      go_wp2_with fail
      refine (HCK.out _ (HMA.out.on HB3.out)).mono ?_
      rintro e w4 ⟨rfl, b4⟩
      have HB4 := Lib.hid (bthen HB3.out b4 (Nat.le_refl _))
      clear b4
      go_wp2_with fail
      go_ret
      exact ⟨rfl, HB4.out⟩
end Go.Proofs.YtallnjhjhoaflaaGreatDoor
end
