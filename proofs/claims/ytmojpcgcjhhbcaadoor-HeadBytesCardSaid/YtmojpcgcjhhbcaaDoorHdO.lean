/-
  THE LAW HeadBytes, walked: any head's bytes, or why it may not be; the pair of a key; read again it is that head, and nothing is left.
-/
import Derived.Test.YtmojpcgcjhhbcaaDoorHdN
import Derived.Test.YtmojpcgcjhhbcaaDoorOct4
namespace Go.Proofs.YtmojpcgcjhhbcaaDoor
open Go.ChangeShapes Go.WideShapes Go.ChangeAt Go.RowKit

/-! ### the first pair of a key, from behind -/
theorem there_cons (x : Hd.Pr) (l : List Hd.Pr) (key : List UInt8) : Hd.there (x :: l) key = ((x.key == key) || Hd.there l key) := by unfold Hd.there; rw [List.any_cons]
theorem first_cons (x : Hd.Pr) (l : List Hd.Pr) (key : List UInt8) : first (x :: l) key = if (x.key == key) = true then x else first l key := by
  unfold first
  rw [there_cons]
  cases hx : x.key == key with
  | true =>
    have hi : idx (fun y : Hd.Pr => y.key == key) (x :: l) = (0 : Nat) := idx_some Hd.Pr.zero (by simp) (fun i hi => absurd hi (by omega)) (by simpa using hx)
    rw [hi]
    simp [Hd.pr]
  | false =>
    rw [Bool.false_or]
    cases ht : Hd.there l key with
    | false => simp
    | true =>
      have h0 : 0 ≤ idx (fun y : Hd.Pr => y.key == key) l := by
        have := there_idx l key
        rw [ht] at this
        simpa using this.symm
      have hi : idx (fun y : Hd.Pr => y.key == key) (x :: l) = idx (fun y : Hd.Pr => y.key == key) l + 1 := by
        unfold idx
        rw [List.findIdx?_cons, hx]
        unfold idx at h0
        cases hf : List.findIdx? (fun y : Hd.Pr => y.key == key) l with
        | none => rw [hf] at h0; simp at h0
        | some i => simp
      rw [hi]
      have e : (idx (fun y : Hd.Pr => y.key == key) l + 1).toNat = (idx (fun y : Hd.Pr => y.key == key) l).toNat + 1 := by omega
      rw [e]
      simp [Hd.pr]
theorem from_next {l : List Hd.Pr} {key : List UInt8} {k : Nat} (h : k < l.length) : first (l.drop k) key = (if ((Hd.pr l k).key == key) = true then Hd.pr l k else first (l.drop (k + 1)) key) ∧ Hd.there (l.drop k) key = (((Hd.pr l k).key == key) || Hd.there (l.drop (k + 1)) key) := by
  rw [List.drop_eq_getElem_cons h, Hd.pr_at h]
  exact ⟨first_cons _ _ _, there_cons _ _ _⟩
theorem from_end {l : List Hd.Pr} {key : List UInt8} {k : Nat} (h : l.length ≤ k) : first (l.drop k) key = Hd.Pr.zero ∧ Hd.there (l.drop k) key = false := by
  rw [List.drop_eq_nil_iff.2 h]
  exact ⟨rfl, rfl⟩
/-- the two boxes of the law: what Find told, what its own loop found so far -/
structure HbS (w : World) (g h : Nat) (f x : Hd.Pr) (W : World) : Prop where
  p : PrAt W g 0 f
  q : PrAt W h 0 x
  sq : Soft W h
  lg : g < W.heap.size
  lh : h < W.heap.size
  ne : h ≠ g
  gg : w.heap.size ≤ g
  gh : w.heap.size ≤ h
  B : Below w.heap.size w W
theorem HbS.put {w : World} {g h : Nat} {f x : Hd.Pr} {W : World} (H : HbS w g h f x W) (y : Hd.Pr) : HbS w g h f y ((((W.setCell ⟨h, 0, none⟩ (.string (ofL y.key))).setCell ⟨h, 1, none⟩ (.int .u8 (y.kind : Int))).setCell ⟨h, 2, none⟩ (.int .i64 y.num)).setCell ⟨h, 3, none⟩ (.string (ofL y.txt))) :=
  ⟨prOf ((((prCels H.p).aside H.ne 0 _).aside H.ne 1 _).aside H.ne 2 _ |>.aside H.ne 3 _), pr_over H.q y, (((H.sq.put _ _).put _ _).put _ _).put _ _, by simpa [World.setCell] using H.lg, by simpa [World.setCell] using H.lh, H.ne, H.gg, H.gh, below_over H.B H.gh _ _ _ _⟩
theorem HbS.start {w W : World} (hB : Below w.heap.size w W) (f : Hd.Pr) : HbS w W.heap.size (W.heap.size + 1) f Hd.Pr.zero ((W.alloc (.cells #[.string (ofL f.key), .int .u8 (f.kind : Int), .int .i64 f.num, .string (ofL f.txt)] 31)).alloc (.cells #[.string ⟨#[]⟩, .int .u8 0, .int .i64 0, .string ⟨#[]⟩] 31)) := by
  have e1 : (W.alloc (.cells #[.string (ofL f.key), .int .u8 (f.kind : Int), .int .i64 f.num, .string (ofL f.txt)] 31)).heap.size = W.heap.size + 1 := by simp
  have hs := hB.size
  have hp := (PrAt.new f W).below ((Below.refl _ _).alloc (Nat.le_refl _) (.cells #[.string ⟨#[]⟩, .int .u8 0, .int .i64 0, .string ⟨#[]⟩] 31)) (by simp)
  refine ⟨hp, ?_, ?_, by simp; omega, by simp, by omega, hs, by omega, (hB.alloc hs _).alloc (by simp; omega) _⟩
  · rw [← e1]; exact PrAt.new Hd.Pr.zero _
  · rw [← e1]; exact Soft.new _ _ _
def HbL (w : World) (g h : Nat) (f : Hd.Pr) (l : List Hd.Pr) (key : List UInt8) (gk : Nat) (b i : Value) (wr : World) : Prop :=
  ∃ (j : Nat) (z : Int), j = gk ∧ z = (j : Int) - 1 ∧ j ≤ l.length ∧ i = .int .i64 z ∧ b = .bool (Hd.there (l.drop j) key) ∧ HbS w g h f (first (l.drop j) key) wr
theorem hread_own (l : List Hd.Pr) (hf : ∀ p ∈ l, Hd.Fits p) (h : Hd.hcode l = 0) : Hd.hread (Hd.henc l, 0) = (l, ([], 0)) := by
  have := Hd.hread_henc hf h []
  rw [List.append_nil] at this
  exact this
theorem Prs.far {w0 w w' : World} {A : Option Addr} {l : List Hd.Pr} {b : Nat} (h0 : Prs w0 A l) (h : Prs w A l) (hg : w.grownBy w' (some b)) (hb : w0.heap.size ≤ b) : Prs w' A l := ⟨fun i hi => by
  obtain ⟨b0, off0, hA0, hlt0, -⟩ := h0.at_ i hi
  exact (h.grown hg (fun a ha => by
    rw [hA0] at ha
    obtain rfl := Option.some.inj ha
    intro e
    have : b0 = b := Option.some.inj e
    omega)).at_ i hi⟩
attribute [local go_sem] guardP
set_option maxRecDepth 100000 in
set_option maxHeartbeats 16000000 in
theorem headBytes_walk (l : List Hd.Pr) (key : List UInt8) (A : Option Addr) (c : Nat) (w : World) (hn : l.length ≤ 9223372036854775807) (hc : l.length ≤ c) (hf : ∀ p ∈ l, Hd.Fits p) (hp : Prs w A l) (hL : Len w) :
    Calls Tryd.prog 3 #[.slice A l.length c, .string (ofL key)] w fun e w' => e = .returned (.bool true) ∧ Below w.heap.size w w' := by
  have HAW := Lib.hid (awake9_any w hL)
  have HLA := Lib.hid (fun W h => light9_any l A c W hn h)
  have HP := Lib.hid hp
  have hks : (ofL key).size = key.length := ofL_size key
  clear hp hL
  cases hla : lightB l with
  | false =>
    rw [hla] at HLA
    clear hla
    go_enter Tryd.func3, Tryd.ntmps3
    go_wp2_with fail
    refine HAW.out.mono ?_
    rintro e w1 ⟨rfl, b1⟩
    have HP1 := Lib.hid (HP.out.on b1)
    have HB1 := Lib.hid b1
    clear b1
    go_wp2_with fail
    refine (HLA.out _ HP1.out).mono ?_
    rintro e w2 ⟨rfl, b2⟩
    have HB2 := Lib.hid (bthen HB1.out b2 (Nat.le_refl _))
    clear b2
    go_wp2_with fail
    go_ret
    exact ⟨rfl, HB2.out⟩
  | true =>
    obtain ⟨h12, hLt, hsm⟩ := light_lite hla
    rw [hla] at HLA
    clear hla
    by_cases hk40 : 40 < key.length
    · have hk0 : 40 < (ofL key).size := by omega
      go_enter Tryd.func3, Tryd.ntmps3
      go_wp2_with fail
      refine HAW.out.mono ?_
      rintro e w1 ⟨rfl, b1⟩
      have HP1 := Lib.hid (HP.out.on b1)
      have HB1 := Lib.hid b1
      clear b1
      go_wp2_with fail
      refine (HLA.out _ HP1.out).mono ?_
      rintro e w2 ⟨rfl, b2⟩
      have HB2 := Lib.hid (bthen HB1.out b2 (Nat.le_refl _))
      clear b2
      go_wp2_with fail
      go_ret
      exact ⟨rfl, HB2.out⟩
    · have hk0 : ¬ 40 < (ofL key).size := by omega
      have hl100 : l.length ≤ 100000 := by omega
      have HRC := Lib.hid (fun W h => rCheck9_any l A c W hl100 hc hLt h)
      have HBY := Lib.hid (fun W h => hbytes_any l A c W hl100 hc hLt h)
      have HPC := Lib.hid (fun W h => hCheck_any l A c W hl100 hc hLt h)
      have HFI := Lib.hid (fun W h => hfind_any l A c key W hl100 h)
      obtain ⟨f0, hf0⟩ : ∃ f0, first l key = f0 := ⟨_, rfl⟩
      obtain ⟨T, hT⟩ : ∃ T, Hd.there l key = T := ⟨_, rfl⟩
      have hfv : findV l key = .tuple #[prV f0, .bool T] := by unfold findV; rw [hf0, hT]
      rw [hfv] at HFI
      have HFF := Lib.hid hf0
      have HTT := Lib.hid hT
      have HFT := Lib.hid hf
      obtain ⟨f1, f2, f3, f4⟩ := f0
      simp only [prV] at HFI
      obtain ⟨n, hn2⟩ : ∃ n, n = l.length := ⟨_, rfl⟩
      have HN := Lib.hid hn2
      have hnn : n ≤ 12 := by omega
      clear hfv hf0 hT hsm hn hc hLt h12 hf hl100
      by_cases h0 : Hd.hcode l = 0
      · have hbv : hbytesV l = .tuple #[.string (ofL (Hd.henc l)), .int .i64 0] := by unfold hbytesV; rw [if_pos h0]
        rw [hbv] at HBY
        rw [h0] at HRC HPC
        have HH0 := Lib.hid h0
        rw [← hn2] at HRC HBY HPC HFI HLA ⊢
        clear hbv h0 hn2
        go_enter Tryd.func3, Tryd.ntmps3
        go_wp2_with fail
        refine HAW.out.mono ?_
        rintro e w1 ⟨rfl, b1⟩
        have HP1 := Lib.hid (HP.out.on b1)
        have HB1 := Lib.hid b1
        clear b1
        go_wp2_with fail
        refine (HLA.out _ HP1.out).mono ?_
        rintro e w2 ⟨rfl, b2⟩
        have HP2 := Lib.hid (HP1.out.on b2)
        have HB2 := Lib.hid (bthen HB1.out b2 (Nat.le_refl _))
        clear b2
        go_wp2_with fail
        refine (HRC.out _ HP2.out).mono ?_
        rintro e w3 ⟨rfl, b3⟩
        have HP3 := Lib.hid (HP2.out.on b3)
        have HB3 := Lib.hid (bthen HB2.out b3 (Nat.le_refl _))
        clear b3
        go_wp2_with fail
        refine (HBY.out _ HP3.out).mono ?_
        rintro e w4 ⟨rfl, b4⟩
        have HP4 := Lib.hid (HP3.out.on b4)
        have HB4 := Lib.hid (bthen HB3.out b4 (Nat.le_refl _))
        clear b4
        go_wp2_with fail
        refine (HPC.out _ HP4.out).mono ?_
        rintro e w5 ⟨rfl, b5⟩
        have HP5 := Lib.hid (HP4.out.on b5)
        have HB5 := Lib.hid (bthen HB4.out b5 (Nat.le_refl _))
        clear b5
        go_wp2_with fail
        refine (HFI.out _ HP5.out).mono ?_
        rintro e w6 ⟨rfl, b6⟩
        have HB6 := Lib.hid (bthen HB5.out b6 (Nat.le_refl _))
        have HS := Lib.hid (HbS.start HB6.out ⟨f1, f2, f3, f4⟩)
        clear b6 HP1 HP2 HP3 HP4 HP5 HB1 HB2 HB3 HB4 HB5 HAW HLA HRC HBY HPC HFI
        go_wp2_with fail
        generalize (w6.alloc (.cells #[.string (ofL f1), .int .u8 (f2 : Int), .int .i64 f3, .string (ofL f4)] 31)).alloc (.cells #[.string ⟨#[]⟩, .int .u8 0, .int .i64 0, .string ⟨#[]⟩] 31) = w7 at *
        generalize w6.heap.size + 1 = gq at *
        generalize w6.heap.size = gp at *
        go_loopg [11, 12] n (fun g b i wr => HbL w gp gq ⟨f1, f2, f3, f4⟩ l key g b i wr)
        case atStart =>
          obtain ⟨e1, e2⟩ := from_end (l := l) (key := key) (k := n) (by have := HN.out; omega)
          exact ⟨n, (n : Int) - 1, rfl, rfl, by have := HN.out; omega, rfl, by rw [e2], by rw [e1]; exact HS.out⟩
        case round =>
          obtain ⟨j, z, rfl, hz, hjn, rfl, rfl, hS⟩ := hrel
          have HSJ := Lib.hid hS
          have HJN := Lib.hid hjn
          clear hS hjn
          cases j with
          | succ m =>
            obtain rfl : z = (m : Int) := by omega
            have hml : m < l.length := by have := HJN.out; omega
            have hmn : m < n := by have := HJN.out; have := HN.out; omega
            obtain ⟨E1, E2⟩ := from_next (key := key) hml
            obtain ⟨b, off, rfl, hbl, hat⟩ := (HP.out.on HSJ.out.B).at_ m hml
            obtain ⟨x, hx⟩ : ∃ x, Hd.pr l m = x := ⟨_, rfl⟩
            rw [hx] at hat E1 E2
            have HE1 := Lib.hid E1
            have HE2 := Lib.hid E2
            have HPU := Lib.hid (HSJ.out.put x)
            clear hx hml E1 E2 hz
            obtain ⟨x1, x2, x3, x4⟩ := x
            obtain ⟨c0, c1, c2, c3⟩ := hat
            simp only at c0 c1 c2 c3
            have hq := str_same x1 key
            obtain ⟨-, ⟨q0, q1, q2, q3⟩, qf, -, ql, -, -, -, -⟩ := HSJ.out
            have qf2 : ∀ i, wr.frozen? ⟨gq, i, none⟩ = false := qf
            simp only [Nat.zero_add] at q0 q1 q2 q3
            clear qf
            cases hk : x1 == key with
            | true =>
              have HT1 := Lib.hid (show first (l.drop m) key = ⟨x1, x2, x3, x4⟩ by rw [HE1.out]; simp only; rw [hk]; rfl)
              have HT2 := Lib.hid (show Hd.there (l.drop m) key = true by rw [HE2.out]; simp only; rw [hk]; rfl)
              rw [hk] at hq
              clear hk
              go_wp2_with fail
              go_roundg m
              case rel => exact ⟨m, (m : Int) - 1, rfl, rfl, by have := HJN.out; omega, rfl, by rw [HT2.out], by rw [HT1.out]; exact HPU.out⟩
              case measure => omega
            | false =>
              have HT1 := Lib.hid (show first (l.drop m) key = first (l.drop (m + 1)) key by rw [HE1.out]; simp only; rw [hk]; rfl)
              have HT2 := Lib.hid (show Hd.there (l.drop m) key = Hd.there (l.drop (m + 1)) key by rw [HE2.out]; simp only; rw [hk]; rfl)
              rw [hk] at hq
              clear hk
              go_wp2_with fail
              go_roundg m
              case rel => exact ⟨m, (m : Int) - 1, rfl, rfl, by have := HJN.out; omega, rfl, by rw [HT2.out], by rw [HT1.out]; exact HSJ.out⟩
              case measure => omega
          | zero =>
            have hz1 : z = -1 := by omega
            subst hz1
            have HS0 := Lib.hid (show HbS w gp gq ⟨f1, f2, f3, f4⟩ ⟨f1, f2, f3, f4⟩ wr by have := HSJ.out; rw [List.drop_zero, HFF.out] at this; exact this)
            rw [List.drop_zero, HTT.out]
            clear hz
            obtain ⟨⟨p0, p1, p2, p3⟩, ⟨q0, q1, q2, q3⟩, -, pl, ql, -, -, -, -⟩ := HS0.out
            simp only [Nat.zero_add] at p0 p1 p2 p3 q0 q1 q2 q3
            have hpe := fun W => pr_eq ⟨f1, f2, f3, f4⟩ ⟨f1, f2, f3, f4⟩ W
            rw [show prEq ⟨f1, f2, f3, f4⟩ ⟨f1, f2, f3, f4⟩ = true by rw [prEq_iff]; simp] at hpe
            simp only [prV] at hpe
            have htt : (T != T) = false := by simp
            have HPR := Lib.hid (HP.out.on HS0.out.B)
            have HB9 := Lib.hid HS0.out.B
            have hee : ((ofL (Hd.henc l)).toList == (ofL (Hd.henc l)).toList) = true := by simp
            have HOWN := Lib.hid (hread_own l HFT.out HH0.out)
            go_wp2_with fail
            clear p0 p1 p2 p3 q0 q1 q2 q3 pl ql hpe htt
            refine (inew_l (Hd.henc l) wr).mono ?_
            rintro e w8 ⟨rfl, hi8, b8⟩
            have HI8 := Lib.hid hi8
            have HP8 := Lib.hid (HPR.out.on b8)
            have HB8 := Lib.hid (bthen HB9.out b8 (Nat.le_refl _))
            clear hi8 b8
            rw [HN.out]
            go_wp2_with fail
            refine (rbytes9_any l A c w8 HH0.out HP8.out).mono ?_
            rintro e w9 ⟨rfl, b9⟩
            have HI9 := Lib.hid ((rdr_in wr.heap.size).on HI8.out b9)
            have HP9 := Lib.hid (HP8.out.on b9)
            have HB10 := Lib.hid (bthen HB8.out b9 (Nat.le_refl _))
            clear b9
            go_wp2_with fail
            refine (hread_any wr.heap.size (Hd.henc l, 0) w9 HI9.out (lOk_new _)).mono ?_
            rintro e wa ⟨A1, c1, rfl, hc1, hp1, hi1, hg1, hA1⟩
            rw [HOWN.out] at hp1 hi1
            rw [HOWN.out]
            have HP1 := Lib.hid hp1
            have HI1 := Lib.hid hi1
            have HPA := Lib.hid (HP.out.far HP9.out hg1 HB9.out.size)
            have HBA := Lib.hid (below_in HB10.out hg1 HB10.out.size HB9.out.size)
            clear hp1 hi1 hg1 hA1 hc1
            go_wp2_with fail
            refine (rsame9_self l A1 c1 A c wa (by have := HN.out; omega) HP1.out HPA.out).mono ?_
            rintro e wb ⟨rfl, b10⟩
            have HI2 := Lib.hid ((rdr_in wr.heap.size).on HI1.out b10)
            have HBB := Lib.hid (bthen HBA.out b10 (Nat.le_refl _))
            clear b10
            have HEN := Lib.hid (iend_l wr.heap.size ([], 0) wb HI2.out)
            go_wp2_with fail
            refine HEN.out.mono ?_
            rintro e wc ⟨rfl, rfl⟩
            go_wp2_with fail
            go_ret
            exact ⟨rfl, HBB.out⟩
      · have hbv : hbytesV l = .tuple #[.string ⟨#[]⟩, .int .i64 (Hd.hcode l : Int)] := by unfold hbytesV; rw [if_neg h0]
        rw [hbv] at HBY
        have hne := code_ne h0
        rw [← hn2] at HRC HBY HPC HFI HLA ⊢
        clear hbv h0 hn2
        generalize Hd.hcode l = C at *
        have hcc : ((C : Int) != (C : Int)) = false := by simp
        go_enter Tryd.func3, Tryd.ntmps3
        go_wp2_with fail
        refine HAW.out.mono ?_
        rintro e w1 ⟨rfl, b1⟩
        have HP1 := Lib.hid (HP.out.on b1)
        have HB1 := Lib.hid b1
        clear b1
        go_wp2_with fail
        refine (HLA.out _ HP1.out).mono ?_
        rintro e w2 ⟨rfl, b2⟩
        have HP2 := Lib.hid (HP1.out.on b2)
        have HB2 := Lib.hid (bthen HB1.out b2 (Nat.le_refl _))
        clear b2
        go_wp2_with fail
        refine (HRC.out _ HP2.out).mono ?_
        rintro e w3 ⟨rfl, b3⟩
        have HP3 := Lib.hid (HP2.out.on b3)
        have HB3 := Lib.hid (bthen HB2.out b3 (Nat.le_refl _))
        clear b3
        go_wp2_with fail
        refine (HBY.out _ HP3.out).mono ?_
        rintro e w4 ⟨rfl, b4⟩
        have HP4 := Lib.hid (HP3.out.on b4)
        have HB4 := Lib.hid (bthen HB3.out b4 (Nat.le_refl _))
        clear b4
        go_wp2_with fail
        refine (HPC.out _ HP4.out).mono ?_
        rintro e w5 ⟨rfl, b5⟩
        have HP5 := Lib.hid (HP4.out.on b5)
        have HB5 := Lib.hid (bthen HB4.out b5 (Nat.le_refl _))
        clear b5
        go_wp2_with fail
        refine (HFI.out _ HP5.out).mono ?_
        rintro e w6 ⟨rfl, b6⟩
        have HB6 := Lib.hid (bthen HB5.out b6 (Nat.le_refl _))
        have HS := Lib.hid (HbS.start HB6.out ⟨f1, f2, f3, f4⟩)
        clear b6 HP1 HP2 HP3 HP4 HP5 HB1 HB2 HB3 HB4 HB5 HAW HLA HRC HBY HPC HFI
        go_wp2_with fail
        generalize (w6.alloc (.cells #[.string (ofL f1), .int .u8 (f2 : Int), .int .i64 f3, .string (ofL f4)] 31)).alloc (.cells #[.string ⟨#[]⟩, .int .u8 0, .int .i64 0, .string ⟨#[]⟩] 31) = w7 at *
        generalize w6.heap.size + 1 = gq at *
        generalize w6.heap.size = gp at *
        go_loopg [11, 12] n (fun g b i wr => HbL w gp gq ⟨f1, f2, f3, f4⟩ l key g b i wr)
        case atStart =>
          obtain ⟨e1, e2⟩ := from_end (l := l) (key := key) (k := n) (by have := HN.out; omega)
          exact ⟨n, (n : Int) - 1, rfl, rfl, by have := HN.out; omega, rfl, by rw [e2], by rw [e1]; exact HS.out⟩
        case round =>
          obtain ⟨j, z, rfl, hz, hjn, rfl, rfl, hS⟩ := hrel
          have HSJ := Lib.hid hS
          have HJN := Lib.hid hjn
          clear hS hjn
          cases j with
          | succ m =>
            obtain rfl : z = (m : Int) := by omega
            have hml : m < l.length := by have := HJN.out; omega
            have hmn : m < n := by have := HJN.out; have := HN.out; omega
            obtain ⟨E1, E2⟩ := from_next (key := key) hml
            obtain ⟨b, off, rfl, hbl, hat⟩ := (HP.out.on HSJ.out.B).at_ m hml
            obtain ⟨x, hx⟩ : ∃ x, Hd.pr l m = x := ⟨_, rfl⟩
            rw [hx] at hat E1 E2
            have HE1 := Lib.hid E1
            have HE2 := Lib.hid E2
            have HPU := Lib.hid (HSJ.out.put x)
            clear hx hml E1 E2 hz
            obtain ⟨x1, x2, x3, x4⟩ := x
            obtain ⟨c0, c1, c2, c3⟩ := hat
            simp only at c0 c1 c2 c3
            have hq := str_same x1 key
            obtain ⟨-, ⟨q0, q1, q2, q3⟩, qf, -, ql, -, -, -, -⟩ := HSJ.out
            have qf2 : ∀ i, wr.frozen? ⟨gq, i, none⟩ = false := qf
            simp only [Nat.zero_add] at q0 q1 q2 q3
            clear qf
            cases hk : x1 == key with
            | true =>
              have HT1 := Lib.hid (show first (l.drop m) key = ⟨x1, x2, x3, x4⟩ by rw [HE1.out]; simp only; rw [hk]; rfl)
              have HT2 := Lib.hid (show Hd.there (l.drop m) key = true by rw [HE2.out]; simp only; rw [hk]; rfl)
              rw [hk] at hq
              clear hk
              go_wp2_with fail
              go_roundg m
              case rel => exact ⟨m, (m : Int) - 1, rfl, rfl, by have := HJN.out; omega, rfl, by rw [HT2.out], by rw [HT1.out]; exact HPU.out⟩
              case measure => omega
            | false =>
              have HT1 := Lib.hid (show first (l.drop m) key = first (l.drop (m + 1)) key by rw [HE1.out]; simp only; rw [hk]; rfl)
              have HT2 := Lib.hid (show Hd.there (l.drop m) key = Hd.there (l.drop (m + 1)) key by rw [HE2.out]; simp only; rw [hk]; rfl)
              rw [hk] at hq
              clear hk
              go_wp2_with fail
              go_roundg m
              case rel => exact ⟨m, (m : Int) - 1, rfl, rfl, by have := HJN.out; omega, rfl, by rw [HT2.out], by rw [HT1.out]; exact HSJ.out⟩
              case measure => omega
          | zero =>
            have hz1 : z = -1 := by omega
            subst hz1
            have HS0 := Lib.hid (show HbS w gp gq ⟨f1, f2, f3, f4⟩ ⟨f1, f2, f3, f4⟩ wr by have := HSJ.out; rw [List.drop_zero, HFF.out] at this; exact this)
            rw [List.drop_zero, HTT.out]
            clear hz
            obtain ⟨⟨p0, p1, p2, p3⟩, ⟨q0, q1, q2, q3⟩, -, pl, ql, -, -, -, -⟩ := HS0.out
            simp only [Nat.zero_add] at p0 p1 p2 p3 q0 q1 q2 q3
            have hpe := fun W => pr_eq ⟨f1, f2, f3, f4⟩ ⟨f1, f2, f3, f4⟩ W
            rw [show prEq ⟨f1, f2, f3, f4⟩ ⟨f1, f2, f3, f4⟩ = true by rw [prEq_iff]; simp] at hpe
            simp only [prV] at hpe
            have htt : (T != T) = false := by simp
            have HB9 := Lib.hid HS0.out.B
            go_wp2_with fail
            go_ret
            exact ⟨rfl, HB9.out⟩
end Go.Proofs.YtmojpcgcjhhbcaaDoor
