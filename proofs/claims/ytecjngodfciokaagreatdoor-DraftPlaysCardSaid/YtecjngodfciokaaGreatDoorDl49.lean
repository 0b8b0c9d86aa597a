/-
  THE LAW DraftPlays: walked.
-/
import Derived.Test.YtecjngodfciokaaGreatDoorDl44
import Derived.Test.YtecjngodfciokaaGreatDoorDl48
import Derived.Deep.RegionHeld3
import Derived.Deep.DeepCutAuto
section
namespace Go.Proofs.YtecjngodfciokaaGreatDoor
open Go.ChangeShapes Go.WideShapes Go.ChangeAt Go.RowKit
theorem qdl49a (l : List Value) (i : Nat) (v : Value) : l.toArray.setIfInBounds i v = (l.set i v).toArray := by simp
theorem qdl49b (v u : Value) (l : List Value) : (v :: l).set 0 u = u :: l := rfl
theorem qdl49c (v u : Value) (n : Nat) (l : List Value) : (v :: l).set (n + 1) u = v :: l.set n u := rfl
theorem at_rat {T : Nat} {x : De} (h : Dr.own x = x) : at1 T x = rat1 T x := by
  unfold at1 rat1 at6 at8 rat6 rat8
  rw [h]
theorem map_at_rat {T : Nat} {l : List De} (h : ∀ x ∈ l, Dr.own x = x) : l.map (at1 T) = l.map (rat1 T) := List.map_congr_left fun x hx => at_rat (h x hx)
theorem map_own {l : List De} (h : ∀ x ∈ l, Dr.own x = x) : l.map Dr.own = l := by
  conv => rhs; rw [← List.map_id l]
  exact List.map_congr_left fun x hx => h x hx
theorem own_want {x : De} (h : Dr.own x = x) : x.bind.want = [] := by
  rw [← h]
  rfl
theorem r26At_n {l : List Dp} {n : Nat} (hn : l.length = n) (T : Nat) (A : Option Addr) (c : Nat) (w : World) (hD : Dps w A l) (hl : n ≤ 16) (hT : T < 18446744073709551616) (hd : ∀ p ∈ l, p.x.mail.due < 18446744073709551616) :
    Calls Tryz.prog 14 #[.slice A n c, .int .u64 (T : Int)] w (AtRPost T l w) := by
  subst hn
  exact r26At_any T A c l w hD hl hT hd
theorem r26Settles_n {l : List Dp} {n : Nat} (hn : l.length = n) (n0 : List UInt8) (i0 : Nat) (A : Option Addr) (c : Nat) (w : World) (hl : n ≤ 100000) (hp : Dps w A l) {X : List De} (hX : l.map Dp.x = X) :
    Calls Tryz.prog 17 #[.slice A n c, .string (ofL n0), .int .u64 (i0 : Int)] w fun e w' => e = .returned (.bool (Dr.settles X n0 i0)) ∧ Below w.heap.size w w' := by
  subst hn hX
  have := r26Settles_any n0 i0 l A c w hl hp
  rw [setl_eq] at this
  exact this
theorem drSettles_n {l : List Dp} {n : Nat} (hn : l.length = n) (n0 : List UInt8) (i0 : Nat) (A : Option Addr) (c : Nat) (w : World) (hl : n ≤ 100000) (hp : Dps w A l) {X : List De} (hX : l.map Dp.x = X) :
    Calls Tryz.prog 16 #[.agg #[.slice A n c], .string (ofL n0), .int .u64 (i0 : Int)] w fun e w' => e = .returned (.bool (Dr.settles X n0 i0)) ∧ Below w.heap.size w w' := by
  subst hn hX
  have := drSettles_any n0 i0 l A c w hl hp
  rw [setl_eq] at this
  exact this
theorem drAt_n {l : List Dp} {n : Nat} (hn : l.length = n) (T : Nat) (A : Option Addr) (c : Nat) (w : World) (hD : Dps w A l) (hl : n ≤ 16) (hT : T < 18446744073709551616) (hd : ∀ p ∈ l, p.x.mail.due < 18446744073709551616) :
    Calls Tryz.prog 12 #[.agg #[.slice A n c], .int .u64 (T : Int)] w (AtGPost T l w) := by
  subst hn
  exact drAtG_any T A c l w hD hl hT hd
theorem dsSame_maps {q2 q3 : List Dp} {L M : List De} {T : Nat} (h2 : q2.map Dp.x = L.map (at1 T)) (h3 : q3.map Dp.x = M.map (rat1 T)) (h : L.map (at1 T) = M.map (rat1 T)) : dsSame q2 q3 = true := by
  unfold dsSame
  exact decide_eq_true (by rw [h2, h3, h])
theorem len_maps {q3 : List Dp} {M : List De} {f : De → De} (h3 : q3.map Dp.x = M.map f) (h : M.length ≤ 100000) : q3.length ≤ 100000 := by
  have e := congrArg List.length h3
  simp only [List.length_map] at e
  omega
/-- a row that lies apart from a box -/
theorem dpsPut {W : World} {A : Option Addr} {l : List Dp} {G : Nat} (h : Dps W A l) (hn : InP (fun b => b ≠ G) A l) (j : Nat) (v : Value) : Dps (W.setCell ⟨G, j, none⟩ v) A l :=
  ⟨rwsPut h.row (fun a ha => hn.row a ha) j v, fun p hp => (h.ok p hp).aside (fun a ha e => hn.a p hp a ha e.symm) (fun a ha e => hn.b p hp a ha e.symm) j v⟩
/-- the document's deeds: no wants; heads that came in -/
def ElQ (w : World) (l : List Dp) : Prop := ∀ p ∈ l, p.x.bind.want = [] ∧ Prs w p.B p.x.mail.head
theorem dpsPutQ {w W0 W : World} {A : Option Addr} {l : List Dp} {G : Nat} (hr : Rws W A (l.flatMap dpL)) (hA : ∀ a, A = some a → a.block ≠ G) (hd : Dps W0 A l) (hq : ElQ w l) {j : Nat} {v : Value} (hb : Below w.heap.size w (W.setCell ⟨G, j, none⟩ v)) : Dps (W.setCell ⟨G, j, none⟩ v) A l :=
  ⟨rwsPut hr hA j v, fun p hp => by
    have h := hd.ok p hp
    obtain ⟨q1, q2⟩ := hq p hp
    exact ⟨h.sn, h.st, h.qn, h.qd, ⟨h.bind.shop, h.bind.tol, h.bind.key, h.bind.len, h.bind.cap, h.bind.lite, by rw [q1]; exact Prs.nil _ _⟩, h.name, ⟨h.mail.shop, h.mail.key, h.mail.body, h.mail.len, h.mail.cap, h.mail.lite, q2.on hb⟩, h.text⟩⟩
theorem drAddI_n {l : List Dp} {n : Nat} (hn : l.length = n) (ys : List Dp) (A : Option Addr) (c : Nat) (Y : Option Addr) (yc m : Nat) (hm : ys.length = m) (w : World) (hcap : n ≤ c) (hD : Dps w A l) (hI : InD w.heap.size A l) (hY : Dps w Y ys) (hl : n ≤ 16) (hys : m ≤ 100000) (hL : Len w) :
    Calls Tryz.prog 8 #[.agg #[.slice A n c], .slice Y m yc] w (AddIPost l ys A c w) := by
  subst hn hm
  exact drAddI_any l ys A c Y yc w hcap hD hI hY hl hys hL
theorem r26Add_n {l : List Dp} {n : Nat} (hn : l.length = n) (ys : List Dp) (A : Option Addr) (c : Nat) (Y : Option Addr) (yc m : Nat) (hm : ys.length = m) (w : World) (hD : Dps w A l) (hY : Dps w Y ys) (hl : n ≤ 16) (hys : m ≤ 100000) :
    Calls Tryz.prog 9 #[.slice A n c, .slice Y m yc] w (RAddPost l ys A c w) := by
  subst hn hm
  exact r26Add_any l ys A c Y yc w hD hY hl hys
theorem maps_eq {F : Nat} {X M : List De} {my mp mq ys : List Dp} (hmy : my.map Dp.x = if F = 0 then X ++ M.map Dr.own else X) (hmp : mp = if F = 0 then mq ++ ys else mq) (hq : mq.map Dp.x = X) (hys : ys.map Dp.x = M) (ho : F = 0 → ∀ x ∈ M, Dr.own x = x) : my.map Dp.x = mp.map Dp.x := by
  subst hq hys
  rw [hmy, hmp]
  split
  · rename_i h
    rw [map_own (ho h), List.map_append]
  · rfl
theorem own_all {F : Nat} {X M Y : List De} (hmy : Y = if F = 0 then X ++ M.map Dr.own else X) (hX : ∀ x ∈ X, Dr.own x = x) (ho : F = 0 → ∀ x ∈ M, Dr.own x = x) : ∀ x ∈ Y, Dr.own x = x := by
  subst hmy
  split
  · rename_i h
    rw [map_own (ho h)]
    intro x hx
    rcases List.mem_append.1 hx with hx | hx
    · exact hX x hx
    · exact ho h x hx
  · exact hX
theorem good_add {F : Nat} {X M Y : List De} (hmy : Y = if F = 0 then X ++ M.map Dr.own else X) (hX : Good X) (hM : Good M) : Good Y := by
  subst hmy
  split
  · exact good_append hX (good_own hM)
  · exact hX
theorem elq_add {w : World} {F : Nat} {mp mq : List Dp} {p : Dp} (hmp : mp = if F = 0 then mq ++ [p] else mq) (hq : ElQ w mq) (ho : F = 0 → Dr.own p.x = p.x) (hp : Prs w p.B p.x.mail.head) : ElQ w mp := by
  subst hmp
  split
  · rename_i h
    intro q hq2
    rcases List.mem_append.1 hq2 with h2 | h2
    · exact hq q h2
    · obtain rfl := List.mem_singleton.1 h2
      exact ⟨own_want (ho h), hp⟩
  · exact hq
theorem radd_flat {l ys : List Dp} {A : Option Addr} {c : Nat} {w : World} {e : Ending} {w' : World} {G : Nat} (h : RAddPost l ys A c w e w') (hD : Dps w A l) (hG : G < w.heap.size) (hA : ∀ a, A = some a → a.block ≠ G) (hl : l.length ≤ 16) {L M : List De} (hL : l.map Dp.x = L) (hM : ys.map Dp.x = M) :
    ∃ mp AP cP, ∃ n : Nat, e = .returned (.tuple #[.slice AP n cP, .int .i64 ((Dr.addN L M : Nat) : Int)]) ∧ mp.length = n ∧ n ≤ 16 ∧ mp = (if Dr.addN L M = 0 then l ++ ys else l) ∧ (Dr.addN L M = 0 → ∀ x ∈ M, Dr.own x = x) ∧ Dps w' AP mp ∧ (∀ a, AP = some a → a.block ≠ G) ∧ Below w.heap.size w w' := by
  subst hL hM
  rcases h with ⟨h0, rfl, b⟩ | ⟨h0, A', c', rfl, h1, h2, h3, h4, h5, b⟩
  · exact ⟨l, A, c, l.length, rfl, rfl, hl, by rw [if_neg h0], fun h => absurd h h0, hD.on b, hA, b⟩
  · exact ⟨l ++ ys, A', c', l.length + ys.length, by rw [h0]; rfl, List.length_append, h2, by rw [if_pos h0], fun _ x hx => by obtain ⟨p, hp, rfl⟩ := List.mem_map.1 hx; exact h4 p hp, h3, fun a ha => by have := h5 a ha; omega, b⟩
/-- what each round keeps: the draft's box G -/
def PlSt (w : World) (G N g : Nat) (vq i : Value) (wr : World) : Prop :=
  ∃ k : Nat, k + g = N ∧ i = .int .i64 (k : Int) ∧ ∃ n mx mq AX cX AQ cQ, vq = .slice AQ n cQ ∧ BoxC w G [.slice AX n cX] wr ∧ mx.map Dp.x = mq.map Dp.x ∧ mx.length = n ∧ mq.length = n ∧ n ≤ 16 ∧ n ≤ cX ∧ Dps wr AX mx ∧ InD wr.heap.size AX mx ∧ InP (fun b => b ≠ G) AX mx ∧ Dps wr AQ mq ∧ (∀ a, AQ = some a → a.block ≠ G) ∧ ElQ w mq ∧ Good (mx.map Dp.x) ∧ (∀ x ∈ mx.map Dp.x, Dr.own x = x) ∧ Below w.heap.size w wr
set_option maxRecDepth 100000 in
set_option maxHeartbeats 64000000 in
theorem draftPlays_walk (A0 : Option Addr) (c0 : Nat) (l : List Dp) (A1 : Option Addr) (c1 : Nat) (more : List Dp) (T : Nat) (w : World) (hl : l.length ≤ 9223372036854775807) (hI : Din w A0 l) (hm : more.length ≤ 9223372036854775807) (hJ : Din w A1 more) (hT : T < 18446744073709551616) (hL : Len w) :
    Calls Tryz.prog 3 #[.slice A0 l.length c0, .slice A1 more.length c1, .int .u64 (T : Int)] w fun e w' => e = .returned (.bool true) ∧ Below w.heap.size w w' := by
  have HAW := Lib.hid (fun W g => awake26_any W g)
  have HLI := Lib.hid (fun W g => law23Light_any l A0 c0 W hl g)
  have HLM := Lib.hid (fun W g => law23Light_any more A1 c1 W hm g)
  have HI := Lib.hid hI
  have HJ := Lib.hid hJ
  have HT := Lib.hid hT
  have HL0 := Lib.hid hL
  clear hI hJ hT hL hl hm
  go_enter Tryz.func3, Tryz.ntmps3
  go_wp2_with fail
  refine (HAW.out _ HL0.out).mono ?_
  rintro e w1 ⟨rfl, b1⟩
  have HB1 := Lib.hid b1
  clear b1
  cases h1 : dsLight l with
  | false =>
    rw [h1] at HLI
    clear h1
    go_wp2_with fail
    refine (HLI.out _ (din_on HI.out HB1.out)).mono ?_
    rintro e w2 ⟨rfl, b2⟩
    have HB2 := Lib.hid (bthen HB1.out b2 (Nat.le_refl _))
    clear b2
    go_wp2_with fail
    go_ret
    exact ⟨rfl, HB2.out⟩
  | true =>
    have hl1 := dsLight_yes h1
    rw [h1] at HLI
    clear h1
    go_wp2_with fail
    refine (HLI.out _ (din_on HI.out HB1.out)).mono ?_
    rintro e w2 ⟨rfl, b2⟩
    have HB2 := Lib.hid (bthen HB1.out b2 (Nat.le_refl _))
    clear b2
    cases h2 : dsLight more with
    | false =>
      rw [h2] at HLM
      clear h2 hl1
      go_wp2_with fail
      refine (HLM.out _ (din_on HJ.out HB2.out)).mono ?_
      rintro e w3 ⟨rfl, b3⟩
      have HB3 := Lib.hid (bthen HB2.out b3 (Nat.le_refl _))
      clear b3
      go_wp2_with fail
      go_ret
      exact ⟨rfl, HB3.out⟩
    | true =>
      have hl2 := dsLight_yes h2
      rw [h2] at HLM
      clear h2
      go_wp2_with fail
      refine (HLM.out _ (din_on HJ.out HB2.out)).mono ?_
      rintro e w3 ⟨rfl, b3⟩
      have HB3 := Lib.hid (bthen HB2.out b3 (Nat.le_refl _))
      clear b3
      have HDI := Lib.hid (dps_of_din HI.out hl1.2)
      have HDJ := Lib.hid (dps_of_din HJ.out hl2.2)
      have HGI := Lib.hid (good_of HI.out hl1.2)
      have HGJ := Lib.hid (good_of HJ.out hl2.2)
      have HN1 := Lib.hid hl1.1
      have HN2 := Lib.hid hl2.1
      clear hl1 hl2 HB1 HB2 HLI HLM HAW
      have HG3 := Lib.hid (BoxC.new (w := w) (W := w3) HB3.out.size #[.slice none 0 0] 27)
      have HB4 := Lib.hid (bthen HB3.out (rtOne w3 (.cells #[.slice none 0 0] 27)) (Nat.le_refl _))
      have HG0 := Lib.hid HB3.out.size
      obtain ⟨N, hN⟩ : ∃ N, N = l.length := ⟨_, rfl⟩
      rw [← hN] at HN1
      rw [← hN]
      have HNL := Lib.hid hN
      have hN40 : N ≤ 40 := HN1.out
      clear hN
      generalize hg3 : w3.heap.size = G at *
      have HS0 := Lib.hid (show PlSt w G N N (.slice none 0 0) (.int .i64 ((0 : Nat) : Int)) (w3.alloc (.cells #[.slice none 0 0] 27)) from ⟨0, by omega, rfl, 0, [], [], none, 0, none, 0, rfl, HG3.out, rfl, rfl, rfl, by omega, by omega, Dps.nil _ _, InD.none _, InP.none _, Dps.nil _ _, (fun a ha => by cases ha), (fun p hp => by simp at hp), good_nil, (fun x hx => by simp at hx), HB4.out⟩)
      go_upto_region 6 with fail
      try rw [hg3]
      generalize w3.alloc (.cells #[.slice none 0 0] 27) = w4 at *
      go_wp2_with fail
      go_loopg [8, 12, 13, 14, 15, 16, 37] N (fun g vq _ _ _ _ _ i wr => PlSt w G N g vq i wr)
      case atStart => exact HS0.out
      case round =>
        obtain ⟨k, hk, rfl, n, mx, mq, AX, cX, AQ, cQ, rfl, hbx, hmm, hnx, hnq, hn16, hncx, hdx, hix, hox, hdq, hoq, heq, hgx, howx, hB⟩ := hrel
        have HK := Lib.hid hk
        have HXb := Lib.hid hbx
        have HMM := Lib.hid hmm
        have HNX := Lib.hid hnx
        have HNQ := Lib.hid hnq
        have HNC := Lib.hid hncx
        have HDX := Lib.hid hdx
        have HIX := Lib.hid hix
        have HOX := Lib.hid hox
        have HDQ := Lib.hid hdq
        have HOQ := Lib.hid hoq
        have HEQ := Lib.hid heq
        have HGX := Lib.hid hgx
        have HOWX := Lib.hid howx
        have HB := Lib.hid hB
        have HN16 := Lib.hid hn16
        clear hk hbx hmm hnx hnq hncx hdx hix hox hdq hoq heq hgx howx hB HS0
        have x0 := HXb.out.cs 0 _ rfl
        have xl := HXb.out.lt
        by_cases hlt : k < N
        · have hki : (k : Int) < (N : Int) := by omega
          have hkl : k < l.length := by have := HNL.out; omega
          obtain ⟨b, off, rfl, hbl, hat, _⟩ := din_elt (din_on HI.out HB.out) hkl
          have hin : DeIn w (l.getD k Dp0).x (l.getD k Dp0).A (l.getD k Dp0).c (l.getD k Dp0).B (l.getD k Dp0).d := by
            obtain ⟨_, _, _, _, _, h⟩ := din_elt HI.out hkl
            exact h
          have hok : DeOk w (l.getD k Dp0).x (l.getD k Dp0).A (l.getD k Dp0).c (l.getD k Dp0).B (l.getD k Dp0).d := by
            obtain ⟨_, _, _, _, _, h⟩ := dps_elt HDI.out hkl
            exact h
          have hgd : deLight (l.getD k Dp0).x = true ∧ De.Fits (l.getD k Dp0).x := by
            rw [← dp_get hkl]
            exact HGI.out _ (List.mem_map_of_mem (List.getElem_mem hkl))
          generalize l.getD k Dp0 = p at *
          obtain ⟨x, XA, xc, XB, xd⟩ := p
          dsimp only at hin hok hgd
          have HAT := Lib.hid (show wr.rangeAt b (off + k * 29) (deL x XA xc XB xd) from hat)
          have HIN := Lib.hid hin
          have HOK := Lib.hid hok
          have HGD := Lib.hid hgd
          clear hat hin hok hgd
          have HE5 := Lib.hid (BoxC.new (w := wr) (W := wr) (Nat.le_refl _) (deL x XA xc XB xd).toArray 39)
          have HBX5 := Lib.hid (rtOne wr (.cells (deL x XA xc XB xd).toArray 39))
          have HXb5 := Lib.hid (HXb.out.on HBX5.out)
          have HB5 := Lib.hid (bthen HB.out HBX5.out (Nat.le_refl _))
          go_upto_region 10 with (first
            | (refine wpList_load_mid (by rfl) 39 _ (by rfl) b (off + k * 29) (by rfl) (deL x XA xc XB xd) _ HAT.out Tryz.underlying39 rfl (by rw [de_size, deL_len]) ?_)
            | (refine wpList_store_new2 (by rfl) 39 _ _ (by rfl) _ (deL x XA xc XB xd).toArray (by rfl) (by rfl) (by rw [de_size]; rfl) (by rfl) (de_all _ _ _ _ _) ?_))
          generalize wr.alloc (.cells (deL x XA xc XB xd).toArray 39) = W5 at *
          have HX6 := Lib.hid (rtOne W5 (.cells (deL x XA xc XB xd).toArray 39))
          have HN6 := Lib.hid (BoxC.new (w := W5) (W := W5) (Nat.le_refl _) (deL x XA xc XB xd).toArray 39)
          have HB6 := Lib.hid (bthen HB5.out HX6.out (Nat.le_refl _))
          clear x0 xl
          have x0 := HXb5.out.cs 0 _ rfl
          have xl := HXb5.out.lt
          have HYS := Lib.hid (show Dps (W5.alloc (.cells (deL x XA xc XB xd).toArray 39)) (some ⟨W5.heap.size, 0, none⟩) [⟨x, XA, xc, XB, xd⟩] from ⟨Rws.of_news (fun j u hu => by rw [Nat.zero_add]; exact HN6.out.cs j u (by simpa [dpL] using hu)), fun p hp => by obtain rfl := List.mem_singleton.1 hp; exact HOK.out.on HB6.out⟩)
          have HSZ6 := Lib.hid (show G < (W5.alloc (.cells (deL x XA xc XB xd).toArray 39)).heap.size from Nat.lt_of_lt_of_le HXb5.out.lt HX6.out.size)
          have HE6 := Lib.hid (HE5.out.on HX6.out)
          have HXb6 := Lib.hid (HXb5.out.on HX6.out)
          have HBR6 := Lib.hid (bthen HBX5.out HX6.out (Nat.le_refl _))
          go_wp2_with (first
            | (refine wpList_load_mid (by rfl) 39 _ (by rfl) wr.heap.size 0 (by rfl) (deL x XA xc XB xd) _ HE5.out.cs.range Tryz.underlying39 rfl (by rw [de_size, deL_len]) ?_)
            | (refine wpList_plain (by rfl) (fun K hK => wp_buildDe _ (by rfl) x XA xc XB xd (by kernel_rfl) (hK _ _ ?_))))
          generalize W5.alloc (.cells (deL x XA xc XB xd).toArray 39) = W6 at *
          refine (drAddI_n HNX.out [⟨x, XA, xc, XB, xd⟩] AX cX (some ⟨W5.heap.size, 0, none⟩) 1 1 rfl W6 HNC.out (HDX.out.on HBR6.out) (HIX.out.mono HBR6.out.size) HYS.out HN16.out (by omega) (HL0.out.on HB6.out)).mono ?_
          intro e w7 h7
          obtain ⟨my, AY, cY, rfl, hmy, hy16, hyc, hDy, hIy, hOy, b7⟩ := addI_flat2 h7 (HDX.out.on HBR6.out) (HIX.out.mono HBR6.out.size) HSZ6.out HOX.out (by rw [HNX.out]; exact HNC.out) (by rw [HNX.out]; exact HN16.out) rfl
          simp only [List.map_cons, List.map_nil] at hmy
          simp only [List.map_cons, List.map_nil]
          have HNF : Hid (∀ ys : List De, Dr.addN (List.map Dp.x mq) ys = Dr.addN (List.map Dp.x mx) ys) := fun ys => by rw [HMM.out]
          generalize hF : Dr.addN (List.map Dp.x mx) [x] = F at *
          have HF := Lib.hid hF
          clear hF
          have HMY0 := Lib.hid hmy
          have HNY16 := Lib.hid hy16
          have HNYC := Lib.hid hyc
          have HOY := Lib.hid hOy
          have HB7 := Lib.hid (bthen HB6.out b7 (Nat.le_refl _))
          have HYb8 := Lib.hid (BoxC.new (w := w) (W := w7) HB7.out.size #[.slice AY my.length cY] 27)
          have HX8 := Lib.hid (rtOne w7 (.cells #[.slice AY my.length cY] 27))
          have HB8 := Lib.hid (bthen HB7.out HX8.out (Nat.le_refl _))
          have HDY8 := Lib.hid (hDy.on HX8.out)
          have HIY8 := Lib.hid (hIy.mono HX8.out.size)
          have HE8 := Lib.hid ((HE6.out.on b7).on HX8.out)
          have HXb8 := Lib.hid ((HXb6.out.on b7).on HX8.out)
          have HBR8 := Lib.hid (bthen (bthen HBR6.out b7 (Nat.le_refl _)) HX8.out (Nat.le_refl _))
          clear h7 hmy hy16 hyc hDy hIy hOy b7 x0 xl
          have HNY := Lib.hid (rfl : my.length = my.length)
          generalize hny : my.length = ny at HNY HNY16 HNYC HYb8 HX8 HB8 HDY8 HIY8 HE8 HXb8 HBR8 ⊢
          replace HNY := Lib.hid hny
          clear hny
          generalize hgy : w7.heap.size = gY at *
          go_upto_region 11 with fail
          try rw [hgy]
          generalize w7.alloc (.cells #[.slice AY ny cY] 27) = W8 at *
          go_wp2_with (refine wpList_load_mid (by rfl) 39 _ (by rfl) wr.heap.size 0 (by rfl) (deL x XA xc XB xd) _ HE8.out.cs.range Tryz.underlying39 rfl (by rw [de_size, deL_len]) ?_)
          refine (to22o_any x XA xc XB xd _ HOK.out.bind.len HOK.out.bind.cap (HOK.out.bind.row.on HB8.out)).mono ?_
          rintro e w9 ⟨A8, c8, rfl, ho8, b9⟩
          have HX10 := Lib.hid (rtOne w9 (.cells (deL x A8 c8 XB xd).toArray 49))
          have HN10 := Lib.hid (BoxC.new (w := w9) (W := w9) (Nat.le_refl _) (deL x A8 c8 XB xd).toArray 49)
          have HB9 := Lib.hid (bthen HB8.out b9 (Nat.le_refl _))
          have HB10 := Lib.hid (bthen HB9.out HX10.out (Nat.le_refl _))
          have HBR10 := Lib.hid (bthen (bthen HBR8.out b9 (Nat.le_refl _)) HX10.out (Nat.le_refl _))
          have HSZ10 := Lib.hid (show G < (w9.alloc (.cells (deL x A8 c8 XB xd).toArray 49)).heap.size from Nat.lt_of_lt_of_le (Nat.lt_of_lt_of_le HXb8.out.lt b9.size) HX10.out.size)
          have HYS2 := Lib.hid (show Dps (w9.alloc (.cells (deL x A8 c8 XB xd).toArray 49)) (some ⟨w9.heap.size, 0, none⟩) [⟨x, A8, c8, XB, xd⟩] from ⟨Rws.of_news (fun j u hu => by rw [Nat.zero_add]; exact HN10.out.cs j u (by simpa [dpL] using hu)), fun p hp => by
            obtain rfl := List.mem_singleton.1 hp
            have h := HOK.out.on HB10.out
            have h2 := OwnPrs.row ho8
            exact ⟨h.sn, h.st, h.qn, h.qd, ⟨h.bind.shop, h.bind.tol, h.bind.key, h.bind.len, h2.2.1, h.bind.lite, h2.1.on HX10.out⟩, h.name, h.mail, h.text⟩⟩)
          have HE10 := Lib.hid ((HE8.out.on b9).on HX10.out)
          have HXb10 := Lib.hid ((HXb8.out.on b9).on HX10.out)
          have HYb10 := Lib.hid ((HYb8.out.on b9).on HX10.out)
          have HDY10 := Lib.hid ((HDY8.out.on b9).on HX10.out)
          have HIY10 := Lib.hid (HIY8.out.mono (Nat.le_trans b9.size HX10.out.size))
          clear ho8 b9
          go_wp2_with (refine wpList_plain (by rfl) (fun K hK => wp_buildRDe _ (by rfl) x A8 c8 XB xd (by kernel_rfl) (hK _ _ ?_)))
          generalize w9.alloc (.cells (deL x A8 c8 XB xd).toArray 49) = W10 at *
          refine (r26Add_n HNQ.out [⟨x, A8, c8, XB, xd⟩] AQ cQ (some ⟨w9.heap.size, 0, none⟩) 1 1 rfl W10 (HDQ.out.on HBR10.out) HYS2.out HN16.out (by omega)).mono ?_
          intro e w11 h11
          obtain ⟨mp, AP, cP, np, rfl, hnp, hp16, hmp, hop, hDp, hAp, b11⟩ := radd_flat h11 (HDQ.out.on HBR10.out) HSZ10.out HOQ.out (by rw [HNQ.out]; exact HN16.out) HMM.out.symm (rfl : _ = [x])
          rw [HF.out] at hmp hop
          rw [HF.out]
          have hmaps := maps_eq HMY0.out hmp HMM.out.symm (rfl : List.map Dp.x [(⟨x, A8, c8, XB, xd⟩ : Dp)] = [x]) hop
          have hnn : np = ny := by
            have h := congrArg List.length hmaps
            rw [List.length_map, List.length_map, HNY.out, hnp] at h
            exact h.symm
          subst hnn
          have hownY := own_all HMY0.out HOWX.out hop
          have hgoodY := good_add HMY0.out HGX.out (fun y hy => by obtain rfl := List.mem_singleton.1 hy; exact HGD.out)
          have HPQ := Lib.hid (elq_add (w := w) hmp HEQ.out (fun h => hop h x (List.mem_singleton.2 rfl)) HIN.out.rb)
          have HMY := Lib.hid hmaps
          have HNP := Lib.hid hnp
          have HPO := Lib.hid hAp
          have HOWY := Lib.hid hownY
          have HGY := Lib.hid hgoodY
          have HMAP := Lib.hid (show (my.map Dp.x).map (at1 T) = (mp.map Dp.x).map (rat1 T) by rw [map_at_rat HOWY.out, HMY.out])
          have HB11 := Lib.hid (bthen HB10.out b11 (Nat.le_refl _))
          have HE11 := Lib.hid (HE10.out.on b11)
          have HXb11 := Lib.hid (HXb10.out.on b11)
          have HYb11 := Lib.hid (HYb10.out.on b11)
          have HDY11 := Lib.hid (HDY10.out.on b11)
          have HIY11 := Lib.hid (HIY10.out.mono b11.size)
          have HPD11 := Lib.hid hDp
          clear h11 hmaps hnp hp16 hmp hop hDp hAp b11 hownY hgoodY
          have y0 := HYb11.out.cs 0 _ rfl
          have yl := HYb11.out.lt
          go_wp2_with fail
          refine (drAt_n HNY.out T AY cY _ HDY11.out HNY16.out HT.out (good_due HGY.out rfl)).mono ?_
          rintro e w12 ⟨Aq, cq, q1, rfl, hcq, hq1, hDq, b12⟩
          have hl1 : q1.length ≤ 100000 := len_maps hq1 (by rw [List.length_map, HNY.out]; have := HNY16.out; omega)
          have hga := good_at HT.out HGY.out
          have HALL1 := Lib.hid (fun W h => law22All_any q1 Aq cq W hl1 h)
          have hlt1 := good_all hga hq1
          have HDN1 := Lib.hid (good_din hDq hga hq1)
          have HQ1 := Lib.hid hq1
          have HB12 := Lib.hid (bthen HB11.out b12 (Nat.le_refl _))
          have HE12 := Lib.hid (HE11.out.on b12)
          have HXb12 := Lib.hid (HXb11.out.on b12)
          have HYb12 := Lib.hid (HYb11.out.on b12)
          have HDY12 := Lib.hid (HDY11.out.on b12)
          have HIY12 := Lib.hid (HIY11.out.mono b12.size)
          have HPD12 := Lib.hid (HPD11.out.on b12)
          clear hcq hq1 hDq b12 hl1 hga y0 yl
          go_wp2_with fail
          refine (HALL1.out _ HDN1.out).mono ?_
          rintro e w13 ⟨A2, c2, q2, rfl, hc2, hq2, hD2, b13⟩
          rw [hlt1]
          have HQ2 := Lib.hid ((hq2 hlt1).trans HQ1.out)
          have HD2 := Lib.hid hD2
          have HB13 := Lib.hid (bthen HB12.out b13 (Nat.le_refl _))
          have HE13 := Lib.hid (HE12.out.on b13)
          have HXb13 := Lib.hid (HXb12.out.on b13)
          have HYb13 := Lib.hid (HYb12.out.on b13)
          have HDY := Lib.hid (HDY12.out.on b13)
          have HIY := Lib.hid (HIY12.out.mono b13.size)
          have HPD := Lib.hid (HPD12.out.on b13)
          clear hc2 hq2 hD2 b13 hlt1 HALL1 HDN1
          have HN2P := Lib.hid (show (mp.map Dp.x).length ≤ 100000 by rw [List.length_map, HNP.out]; have := HNY16.out; omega)
          have HN2Q := Lib.hid (len_maps HQ2.out (show (my.map Dp.x).length ≤ 100000 by rw [List.length_map, HNY.out]; have := HNY16.out; omega))
          have HRT := Lib.hid (fun W h => r26At_n HNP.out T AP cP W h HNY16.out HT.out (good_due (HMY.out ▸ HGY.out) rfl))
          have HS1 := Lib.hid (fun W h => drSettles_n HNY.out x.name x.id AY cY W (by have := HNY16.out; omega) h rfl)
          have HS2 := Lib.hid (fun W h => r26Settles_n HNP.out x.name x.id AP cP W (by have := HNY16.out; omega) h HMY.out.symm)
          have hff : ((F : Int) != (F : Int)) = false := by simp
          have hnyy : ((np : Int) != (np : Int)) = false := by simp
          have hnnn : ((n : Int) != (n : Int)) = false := by simp
          have hbb : (Dr.settles (List.map Dp.x my) x.name x.id != Dr.settles (List.map Dp.x my) x.name x.id) = false := by simp
          generalize Dr.settles (List.map Dp.x my) x.name x.id = SB at *
          have y0 := HYb13.out.cs 0 _ rfl
          have yl := HYb13.out.lt
          have x0 := HXb13.out.cs 0 _ rfl
          have xl := HXb13.out.lt
          have e15 : w13.cell? ⟨wr.heap.size, 15, none⟩ = some (.string (ofL x.name)) := HE13.out.cs 15 _ rfl
          have e16 : w13.cell? ⟨wr.heap.size, 16, none⟩ = some (.int .u64 (x.id : Int)) := HE13.out.cs 16 _ rfl
          have el := HE13.out.lt
          go_upto_region 13 with fail
          refine wp_region_held_drew (S := fun a => Below (w13.heap.size) w13 a) (by kernel_rfl) (by (try dsimp only); exact (Below.refl _ _).drew) (fun hHeld => ?_)
          refine wpAnyH_take (i := 0) (oi := ⟨some 63, .move (.tmp 12), 40, "law.go:38", #[], none⟩) (v := ?_) rfl (by kernel_rfl) (by kernel_rfl) (by kernel_rfl) (fun _ _ _ h => h) (Or.inl ⟨by rfl, ?_⟩) (by assumption) ?_
          rotate_left 1
          · intro wS hSw; (try dsimp only at hSw); go_simp; try with_reducible rfl
          try simp only [Act.put, qdl49a, qdl49b, qdl49c]
          refine wpAnyH_take (i := 1) (oi := ⟨some 64, .move (.tmp 14), 3, "law.go:38", #[], none⟩) (v := ?_) rfl (by kernel_rfl) (by kernel_rfl) (by kernel_rfl) (fun _ _ _ h => h) (Or.inl ⟨by rfl, ?_⟩) (by assumption) ?_
          rotate_left 1
          · intro wS hSw; (try dsimp only at hSw); go_simp; try with_reducible rfl
          try simp only [Act.put, qdl49a, qdl49b, qdl49c]
          refine wpAnyH_take (i := 2) (oi := ⟨some 65, .binOp .neq 3 (.tmp 63) (.tmp 64) 3, 4, "law.go:38", #[⟨0, .data⟩, ⟨1, .data⟩], none⟩) (v := ?_) rfl (by kernel_rfl) (by kernel_rfl) (by kernel_rfl) (fun _ _ _ h => h) (Or.inl ⟨by rfl, ?_⟩) (by assumption) ?_
          rotate_left 1
          · intro wS hSw; (try dsimp only at hSw); go_simp; try with_reducible rfl
          try simp only [Act.put, qdl49a, qdl49b, qdl49c]
          refine wpAnyH_take (i := 3) (oi := ⟨some 66, .move (.tmp 65), 4, "law.go:38", #[⟨2, .data⟩], none⟩) (v := ?_) rfl (by kernel_rfl) (by kernel_rfl) (by kernel_rfl) (fun _ _ _ h => h) (Or.inl ⟨by rfl, ?_⟩) (by assumption) ?_
          rotate_left 1
          · intro wS hSw; (try dsimp only at hSw); go_simp; try with_reducible rfl
          try simp only [Act.put, qdl49a, qdl49b, qdl49c]
          refine wpAnyH_take (i := 4) (oi := ⟨some 67, .move (.tmp 15), 28, "law.go:38", #[⟨3, .guard⟩], some (3, false)⟩) (v := ?_) rfl (by kernel_rfl) (by kernel_rfl) (by kernel_rfl) (fun _ _ _ h => h) (Or.inl ⟨by rfl, ?_⟩) (by assumption) ?_
          rotate_left 1
          · intro wS hSw; (try dsimp only at hSw); go_simp; try with_reducible rfl
          try simp only [Act.put, qdl49a, qdl49b, qdl49c]
          refine wpAnyH_take (i := 5) (oi := ⟨some 68, .move (.tmp 13), 28, "law.go:38", #[⟨3, .guard⟩], some (3, false)⟩) (v := ?_) rfl (by kernel_rfl) (by kernel_rfl) (by kernel_rfl) (fun _ _ _ h => h) (Or.inl ⟨by rfl, ?_⟩) (by assumption) ?_
          rotate_left 1
          · intro wS hSw; (try dsimp only at hSw); go_simp; try with_reducible rfl
          try simp only [Act.put, qdl49a, qdl49b, qdl49c]
          refine wpAnyH_take (i := 6) (oi := ⟨some 69, .move (.tmp 2), 23, "law.go:38", #[⟨3, .guard⟩], some (3, false)⟩) (v := ?_) rfl (by kernel_rfl) (by kernel_rfl) (by kernel_rfl) (fun _ _ _ h => h) (Or.inl ⟨by rfl, ?_⟩) (by assumption) ?_
          rotate_left 1
          · intro wS hSw; (try dsimp only at hSw); go_simp; try with_reducible rfl
          try simp only [Act.put, qdl49a, qdl49b, qdl49c]
          refine wpAnyH_ready (rs := [7]) (by kernel_rfl) (by simp) ?_
          refine AllReadyH.cons (o := ⟨some 70, .call { callee := .value (.func 14), args := #[.tmp 68, .tmp 69], argTypes := #[28, 23] }, 28, "law.go:38", #[⟨5, .data⟩, ⟨6, .data⟩, ⟨3, .chain⟩, ⟨3, .guard⟩], some (3, false)⟩) rfl (fun K hK => ?_) (AllReadyH.nil)
          go_simp
          go_at_call 14
          refine (HRT.out _ (HPD.out.on hHeld)).mono ?_
          rintro e wx ⟨Ar, cr, q3, rfl, hcr, hq3, hDr, hb2⟩
          have hq3s := dsSame_maps HQ2.out hq3 HMAP.out
          have HSA := Lib.hid (fun W g1 g2 => r22SameAll_any q2 q3 A2 c2 Ar cr W HN2Q.out (len_maps hq3 HN2P.out) g1 g2)
          rw [hq3s] at HSA
          have HDR3 := Lib.hid hDr
          have HD2X := Lib.hid ((HD2.out.on hHeld).on hb2)
          clear hcr hq3 hDr hq3s
          refine hK.out _ _ (bthen hHeld hb2 (Nat.le_refl _)) (fun hHeld2 => ?_)
          clear hK K hHeld hb2
          have hHeld := hHeld2
          clear hHeld2
          try simp only [Act.put, qdl49a, qdl49b, qdl49c]
          refine wpAnyH_ready (rs := [8]) (by kernel_rfl) (by simp) ?_
          refine AllReadyH.cons (o := ⟨some 71, .call { callee := .value (.func 13), args := #[.tmp 67, .tmp 70], argTypes := #[28, 28] }, 4, "law.go:38", #[⟨4, .data⟩, ⟨7, .data⟩, ⟨7, .chain⟩, ⟨3, .guard⟩], some (3, false)⟩) rfl (fun K hK => ?_) (AllReadyH.nil)
          go_simp
          go_at_call 13
          refine (HSA.out _ HD2X.out HDR3.out).mono ?_
          rintro e wx ⟨rfl, hb2⟩
          clear HSA HD2X HDR3
          refine hK.out _ _ (bthen hHeld hb2 (Nat.le_refl _)) (fun hHeld2 => ?_)
          clear hK K hHeld hb2
          have hHeld := hHeld2
          clear hHeld2
          try simp only [Act.put, qdl49a, qdl49b, qdl49c]
          refine wpAnyH_take (i := 9) (oi := ⟨some 72, .unOp .not 4 (.tmp 71), 4, "law.go:38", #[⟨8, .data⟩, ⟨3, .guard⟩], some (3, false)⟩) (v := ?_) rfl (by kernel_rfl) (by kernel_rfl) (by kernel_rfl) (fun _ _ _ h => h) (Or.inl ⟨by rfl, ?_⟩) (by assumption) ?_
          rotate_left 1
          · intro wS hSw; (try dsimp only at hSw); go_simp; try with_reducible rfl
          try simp only [Act.put, qdl49a, qdl49b, qdl49c]
          refine wpAnyH_take (i := 10) (oi := ⟨some 73, .pick (.tmp 66) (.const (.bool true)) (.tmp 72), 4, "law.go:38", #[⟨3, .data⟩, ⟨9, .data⟩], none⟩) (v := ?_) rfl (by kernel_rfl) (by kernel_rfl) (by kernel_rfl) (fun _ _ _ h => h) (Or.inl ⟨by rfl, ?_⟩) (by assumption) ?_
          rotate_left 1
          · intro wS hSw; (try dsimp only at hSw); go_simp; try with_reducible rfl
          try simp only [Act.put, qdl49a, qdl49b, qdl49c]
          refine wpAnyH_take (i := 11) (oi := ⟨some 74, .move (.tmp 73), 4, "law.go:38", #[⟨10, .data⟩, ⟨8, .chain⟩], none⟩) (v := ?_) rfl (by kernel_rfl) (by kernel_rfl) (by kernel_rfl) (fun _ _ _ h => h) (Or.inl ⟨by rfl, ?_⟩) (by assumption) ?_
          rotate_left 1
          · intro wS hSw; (try dsimp only at hSw); go_simp; try with_reducible rfl
          try simp only [Act.put, qdl49a, qdl49b, qdl49c]
          refine wpAnyH_take (i := 12) (oi := ⟨some 75, .load 27 (.tmp 11), 27, "law.go:38", #[⟨11, .guard⟩], some (11, false)⟩) (v := ?_) rfl (by kernel_rfl) (by kernel_rfl) (by kernel_rfl) (fun _ _ _ h => h) (Or.inl ⟨by rfl, ?_⟩) (by assumption) ?_
          rotate_left 1
          · intro wS hSw; (try dsimp only at hSw); have y0 := cell_on hSw y0; have x0 := cell_on hSw x0; have e15 := cell_on hSw e15; have e16 := cell_on hSw e16; go_simp; try with_reducible rfl
          try simp only [Act.put, qdl49a, qdl49b, qdl49c]
          refine wpAnyH_take (i := 14) (oi := ⟨some 77, .move (.tmp 13), 28, "law.go:38", #[⟨11, .guard⟩], some (11, false)⟩) (v := ?_) rfl (by kernel_rfl) (by kernel_rfl) (by kernel_rfl) (fun _ _ _ h => h) (Or.inl ⟨by rfl, ?_⟩) (by assumption) ?_
          rotate_left 1
          · intro wS hSw; (try dsimp only at hSw); go_simp; try with_reducible rfl
          try simp only [Act.put, qdl49a, qdl49b, qdl49c]
          refine wpAnyH_take (i := 15) (oi := ⟨some 78, .call { callee := .builtin .len, args := #[.tmp 77], argTypes := #[28] }, 3, "law.go:38", #[⟨14, .data⟩, ⟨11, .guard⟩], some (11, false)⟩) (v := ?_) rfl (by kernel_rfl) (by kernel_rfl) (by kernel_rfl) (fun _ _ _ h => h) (Or.inl ⟨by rfl, ?_⟩) (by assumption) ?_
          rotate_left 1
          · intro wS hSw; (try dsimp only at hSw); go_simp; try with_reducible rfl
          try simp only [Act.put, qdl49a, qdl49b, qdl49c]
          refine wpAnyH_ready (rs := [13]) (by kernel_rfl) (by simp) ?_
          refine AllReadyH.cons (o := ⟨some 76, .call { callee := .value (.func 15), args := #[.tmp 75], argTypes := #[27] }, 3, "law.go:38", #[⟨12, .data⟩, ⟨11, .chain⟩, ⟨11, .guard⟩], some (11, false)⟩) rfl (fun K hK => ?_) (AllReadyH.nil)
          go_simp
          go_at_call 15
          refine (drLen_any AY np cY _).mono ?_
          rintro e wx ⟨rfl, hb2⟩
          refine hK.out _ _ (bthen hHeld hb2 (Nat.le_refl _)) (fun hHeld2 => ?_)
          clear hK K hHeld hb2
          have hHeld := hHeld2
          clear hHeld2
          try simp only [Act.put, qdl49a, qdl49b, qdl49c]
          refine wpAnyH_take (i := 16) (oi := ⟨some 79, .binOp .neq 3 (.tmp 76) (.tmp 78) 3, 4, "law.go:38", #[⟨13, .data⟩, ⟨15, .data⟩, ⟨11, .guard⟩], some (11, false)⟩) (v := ?_) rfl (by kernel_rfl) (by kernel_rfl) (by kernel_rfl) (fun _ _ _ h => h) (Or.inl ⟨by rfl, ?_⟩) (by assumption) ?_
          rotate_left 1
          · intro wS hSw; (try dsimp only at hSw); go_simp; try with_reducible rfl
          try simp only [Act.put, qdl49a, qdl49b, qdl49c]
          refine wpAnyH_take (i := 17) (oi := ⟨some 80, .pick (.tmp 74) (.const (.bool true)) (.tmp 79), 4, "law.go:38", #[⟨11, .data⟩, ⟨16, .data⟩], none⟩) (v := ?_) rfl (by kernel_rfl) (by kernel_rfl) (by kernel_rfl) (fun _ _ _ h => h) (Or.inl ⟨by rfl, ?_⟩) (by assumption) ?_
          rotate_left 1
          · intro wS hSw; (try dsimp only at hSw); go_simp; try with_reducible rfl
          try simp only [Act.put, qdl49a, qdl49b, qdl49c]
          refine wpAnyH_take (i := 18) (oi := ⟨some 81, .move (.tmp 80), 4, "law.go:38", #[⟨17, .data⟩, ⟨13, .chain⟩], none⟩) (v := ?_) rfl (by kernel_rfl) (by kernel_rfl) (by kernel_rfl) (fun _ _ _ h => h) (Or.inl ⟨by rfl, ?_⟩) (by assumption) ?_
          rotate_left 1
          · intro wS hSw; (try dsimp only at hSw); go_simp; try with_reducible rfl
          try simp only [Act.put, qdl49a, qdl49b, qdl49c]
          refine wpAnyH_take (i := 19) (oi := ⟨some 82, .load 27 (.tmp 7), 27, "law.go:38", #[⟨18, .guard⟩], some (18, false)⟩) (v := ?_) rfl (by kernel_rfl) (by kernel_rfl) (by kernel_rfl) (fun _ _ _ h => h) (Or.inl ⟨by rfl, ?_⟩) (by assumption) ?_
          rotate_left 1
          · intro wS hSw; (try dsimp only at hSw); have y0 := cell_on hSw y0; have x0 := cell_on hSw x0; have e15 := cell_on hSw e15; have e16 := cell_on hSw e16; go_simp; try with_reducible rfl
          try simp only [Act.put, qdl49a, qdl49b, qdl49c]
          refine wpAnyH_take (i := 21) (oi := ⟨some 84, .move (.tmp 8), 28, "law.go:38", #[⟨18, .guard⟩], some (18, false)⟩) (v := ?_) rfl (by kernel_rfl) (by kernel_rfl) (by kernel_rfl) (fun _ _ _ h => h) (Or.inl ⟨by rfl, ?_⟩) (by assumption) ?_
          rotate_left 1
          · intro wS hSw; (try dsimp only at hSw); go_simp; try with_reducible rfl
          try simp only [Act.put, qdl49a, qdl49b, qdl49c]
          refine wpAnyH_take (i := 22) (oi := ⟨some 85, .call { callee := .builtin .len, args := #[.tmp 84], argTypes := #[28] }, 3, "law.go:38", #[⟨21, .data⟩, ⟨18, .guard⟩], some (18, false)⟩) (v := ?_) rfl (by kernel_rfl) (by kernel_rfl) (by kernel_rfl) (fun _ _ _ h => h) (Or.inl ⟨by rfl, ?_⟩) (by assumption) ?_
          rotate_left 1
          · intro wS hSw; (try dsimp only at hSw); go_simp; try with_reducible rfl
          try simp only [Act.put, qdl49a, qdl49b, qdl49c]
          refine wpAnyH_ready (rs := [20]) (by kernel_rfl) (by simp) ?_
          refine AllReadyH.cons (o := ⟨some 83, .call { callee := .value (.func 15), args := #[.tmp 82], argTypes := #[27] }, 3, "law.go:38", #[⟨19, .data⟩, ⟨18, .chain⟩, ⟨18, .guard⟩], some (18, false)⟩) rfl (fun K hK => ?_) (AllReadyH.nil)
          go_simp
          go_at_call 15
          refine (drLen_any AX n cX _).mono ?_
          rintro e wx ⟨rfl, hb2⟩
          refine hK.out _ _ (bthen hHeld hb2 (Nat.le_refl _)) (fun hHeld2 => ?_)
          clear hK K hHeld hb2
          have hHeld := hHeld2
          clear hHeld2
          try simp only [Act.put, qdl49a, qdl49b, qdl49c]
          refine wpAnyH_take (i := 23) (oi := ⟨some 86, .binOp .neq 3 (.tmp 83) (.tmp 85) 3, 4, "law.go:38", #[⟨20, .data⟩, ⟨22, .data⟩, ⟨18, .guard⟩], some (18, false)⟩) (v := ?_) rfl (by kernel_rfl) (by kernel_rfl) (by kernel_rfl) (fun _ _ _ h => h) (Or.inl ⟨by rfl, ?_⟩) (by assumption) ?_
          rotate_left 1
          · intro wS hSw; (try dsimp only at hSw); go_simp; try with_reducible rfl
          try simp only [Act.put, qdl49a, qdl49b, qdl49c]
          refine wpAnyH_take (i := 24) (oi := ⟨some 87, .pick (.tmp 81) (.const (.bool true)) (.tmp 86), 4, "law.go:38", #[⟨18, .data⟩, ⟨23, .data⟩], none⟩) (v := ?_) rfl (by kernel_rfl) (by kernel_rfl) (by kernel_rfl) (fun _ _ _ h => h) (Or.inl ⟨by rfl, ?_⟩) (by assumption) ?_
          rotate_left 1
          · intro wS hSw; (try dsimp only at hSw); go_simp; try with_reducible rfl
          try simp only [Act.put, qdl49a, qdl49b, qdl49c]
          refine wpAnyH_take (i := 25) (oi := ⟨some 88, .move (.tmp 87), 4, "law.go:38", #[⟨24, .data⟩, ⟨20, .chain⟩], none⟩) (v := ?_) rfl (by kernel_rfl) (by kernel_rfl) (by kernel_rfl) (fun _ _ _ h => h) (Or.inl ⟨by rfl, ?_⟩) (by assumption) ?_
          rotate_left 1
          · intro wS hSw; (try dsimp only at hSw); go_simp; try with_reducible rfl
          try simp only [Act.put, qdl49a, qdl49b, qdl49c]
          refine wpAnyH_take (i := 26) (oi := ⟨some 89, .load 27 (.tmp 11), 27, "law.go:38", #[⟨25, .guard⟩], some (25, false)⟩) (v := ?_) rfl (by kernel_rfl) (by kernel_rfl) (by kernel_rfl) (fun _ _ _ h => h) (Or.inl ⟨by rfl, ?_⟩) (by assumption) ?_
          rotate_left 1
          · intro wS hSw; (try dsimp only at hSw); have y0 := cell_on hSw y0; have x0 := cell_on hSw x0; have e15 := cell_on hSw e15; have e16 := cell_on hSw e16; go_simp; try with_reducible rfl
          try simp only [Act.put, qdl49a, qdl49b, qdl49c]
          refine wpAnyH_take (i := 27) (oi := ⟨some 90, .fieldAddr 39 (.tmp 10) 5, 0, "law.go:38", #[⟨25, .guard⟩], some (25, false)⟩) (v := ?_) rfl (by kernel_rfl) (by kernel_rfl) (by kernel_rfl) (fun _ _ _ h => h) (Or.inl ⟨by rfl, ?_⟩) (by assumption) ?_
          rotate_left 1
          · intro wS hSw; (try dsimp only at hSw); go_simp; try with_reducible rfl
          try simp only [Act.put, qdl49a, qdl49b, qdl49c]
          refine wpAnyH_take (i := 28) (oi := ⟨some 91, .load 9 (.tmp 90), 9, "law.go:38", #[⟨27, .data⟩, ⟨25, .guard⟩], some (25, false)⟩) (v := ?_) rfl (by kernel_rfl) (by kernel_rfl) (by kernel_rfl) (fun _ _ _ h => h) (Or.inl ⟨by rfl, ?_⟩) (by assumption) ?_
          rotate_left 1
          · intro wS hSw; (try dsimp only at hSw); have y0 := cell_on hSw y0; have x0 := cell_on hSw x0; have e15 := cell_on hSw e15; have e16 := cell_on hSw e16; go_simp; try with_reducible rfl
          try simp only [Act.put, qdl49a, qdl49b, qdl49c]
          refine wpAnyH_take (i := 29) (oi := ⟨some 92, .fieldAddr 39 (.tmp 10) 6, 0, "law.go:38", #[⟨25, .guard⟩], some (25, false)⟩) (v := ?_) rfl (by kernel_rfl) (by kernel_rfl) (by kernel_rfl) (fun _ _ _ h => h) (Or.inl ⟨by rfl, ?_⟩) (by assumption) ?_
          rotate_left 1
          · intro wS hSw; (try dsimp only at hSw); go_simp; try with_reducible rfl
          try simp only [Act.put, qdl49a, qdl49b, qdl49c]
          refine wpAnyH_take (i := 30) (oi := ⟨some 93, .load 23 (.tmp 92), 23, "law.go:38", #[⟨29, .data⟩, ⟨25, .guard⟩], some (25, false)⟩) (v := ?_) rfl (by kernel_rfl) (by kernel_rfl) (by kernel_rfl) (fun _ _ _ h => h) (Or.inl ⟨by rfl, ?_⟩) (by assumption) ?_
          rotate_left 1
          · intro wS hSw; (try dsimp only at hSw); have y0 := cell_on hSw y0; have x0 := cell_on hSw x0; have e15 := cell_on hSw e15; have e16 := cell_on hSw e16; go_simp; try with_reducible rfl
          try simp only [Act.put, qdl49a, qdl49b, qdl49c]
          refine wpAnyH_take (i := 32) (oi := ⟨some 95, .move (.tmp 13), 28, "law.go:38", #[⟨25, .guard⟩], some (25, false)⟩) (v := ?_) rfl (by kernel_rfl) (by kernel_rfl) (by kernel_rfl) (fun _ _ _ h => h) (Or.inl ⟨by rfl, ?_⟩) (by assumption) ?_
          rotate_left 1
          · intro wS hSw; (try dsimp only at hSw); go_simp; try with_reducible rfl
          try simp only [Act.put, qdl49a, qdl49b, qdl49c]
          refine wpAnyH_take (i := 33) (oi := ⟨some 96, .fieldAddr 39 (.tmp 10) 5, 0, "law.go:38", #[⟨25, .guard⟩], some (25, false)⟩) (v := ?_) rfl (by kernel_rfl) (by kernel_rfl) (by kernel_rfl) (fun _ _ _ h => h) (Or.inl ⟨by rfl, ?_⟩) (by assumption) ?_
          rotate_left 1
          · intro wS hSw; (try dsimp only at hSw); go_simp; try with_reducible rfl
          try simp only [Act.put, qdl49a, qdl49b, qdl49c]
          refine wpAnyH_take (i := 34) (oi := ⟨some 97, .load 9 (.tmp 96), 9, "law.go:38", #[⟨33, .data⟩, ⟨25, .guard⟩], some (25, false)⟩) (v := ?_) rfl (by kernel_rfl) (by kernel_rfl) (by kernel_rfl) (fun _ _ _ h => h) (Or.inl ⟨by rfl, ?_⟩) (by assumption) ?_
          rotate_left 1
          · intro wS hSw; (try dsimp only at hSw); have y0 := cell_on hSw y0; have x0 := cell_on hSw x0; have e15 := cell_on hSw e15; have e16 := cell_on hSw e16; go_simp; try with_reducible rfl
          try simp only [Act.put, qdl49a, qdl49b, qdl49c]
          refine wpAnyH_take (i := 35) (oi := ⟨some 98, .fieldAddr 39 (.tmp 10) 6, 0, "law.go:38", #[⟨25, .guard⟩], some (25, false)⟩) (v := ?_) rfl (by kernel_rfl) (by kernel_rfl) (by kernel_rfl) (fun _ _ _ h => h) (Or.inl ⟨by rfl, ?_⟩) (by assumption) ?_
          rotate_left 1
          · intro wS hSw; (try dsimp only at hSw); go_simp; try with_reducible rfl
          try simp only [Act.put, qdl49a, qdl49b, qdl49c]
          refine wpAnyH_take (i := 36) (oi := ⟨some 99, .load 23 (.tmp 98), 23, "law.go:38", #[⟨35, .data⟩, ⟨25, .guard⟩], some (25, false)⟩) (v := ?_) rfl (by kernel_rfl) (by kernel_rfl) (by kernel_rfl) (fun _ _ _ h => h) (Or.inl ⟨by rfl, ?_⟩) (by assumption) ?_
          rotate_left 1
          · intro wS hSw; (try dsimp only at hSw); have y0 := cell_on hSw y0; have x0 := cell_on hSw x0; have e15 := cell_on hSw e15; have e16 := cell_on hSw e16; go_simp; try with_reducible rfl
          try simp only [Act.put, qdl49a, qdl49b, qdl49c]
          refine wpAnyH_ready (rs := [31]) (by kernel_rfl) (by simp) ?_
          refine AllReadyH.cons (o := ⟨some 94, .call { callee := .value (.func 16), args := #[.tmp 89, .tmp 91, .tmp 93], argTypes := #[27, 9, 23] }, 4, "law.go:38", #[⟨26, .data⟩, ⟨28, .data⟩, ⟨30, .data⟩, ⟨25, .chain⟩, ⟨25, .guard⟩], some (25, false)⟩) rfl (fun K hK => ?_) (AllReadyH.nil)
          go_simp
          go_at_call 16
          refine (HS1.out _ (HDY.out.on hHeld)).mono ?_
          rintro e wx ⟨rfl, hb2⟩
          refine hK.out _ _ (bthen hHeld hb2 (Nat.le_refl _)) (fun hHeld2 => ?_)
          clear hK K hHeld hb2
          have hHeld := hHeld2
          clear hHeld2
          try simp only [Act.put, qdl49a, qdl49b, qdl49c]
          refine wpAnyH_ready (rs := [37]) (by kernel_rfl) (by simp) ?_
          refine AllReadyH.cons (o := ⟨some 100, .call { callee := .value (.func 17), args := #[.tmp 95, .tmp 97, .tmp 99], argTypes := #[28, 9, 23] }, 4, "law.go:38", #[⟨32, .data⟩, ⟨34, .data⟩, ⟨36, .data⟩, ⟨31, .chain⟩, ⟨25, .guard⟩], some (25, false)⟩) rfl (fun K hK => ?_) (AllReadyH.nil)
          go_simp
          go_at_call 17
          refine (HS2.out _ (HPD.out.on hHeld)).mono ?_
          rintro e wx ⟨rfl, hb2⟩
          refine hK.out _ _ (bthen hHeld hb2 (Nat.le_refl _)) (fun hHeld2 => ?_)
          clear hK K hHeld hb2
          have hHeld := hHeld2
          clear hHeld2
          try simp only [Act.put, qdl49a, qdl49b, qdl49c]
          refine wpAnyH_take (i := 38) (oi := ⟨some 101, .binOp .neq 4 (.tmp 94) (.tmp 100) 4, 4, "law.go:38", #[⟨31, .data⟩, ⟨37, .data⟩, ⟨25, .guard⟩], some (25, false)⟩) (v := ?_) rfl (by kernel_rfl) (by kernel_rfl) (by kernel_rfl) (fun _ _ _ h => h) (Or.inl ⟨by rfl, ?_⟩) (by assumption) ?_
          rotate_left 1
          · intro wS hSw; (try dsimp only at hSw); go_simp; try with_reducible rfl
          try simp only [Act.put, qdl49a, qdl49b, qdl49c]
          refine wpAnyH_take (i := 39) (oi := ⟨some 102, .pick (.tmp 88) (.const (.bool true)) (.tmp 101), 4, "law.go:38", #[⟨25, .data⟩, ⟨38, .data⟩], none⟩) (v := ?_) rfl (by kernel_rfl) (by kernel_rfl) (by kernel_rfl) (fun _ _ _ h => h) (Or.inl ⟨by rfl, ?_⟩) (by assumption) ?_
          rotate_left 1
          · intro wS hSw; (try dsimp only at hSw); go_simp; try with_reducible rfl
          try simp only [Act.put, qdl49a, qdl49b, qdl49c]
          refine wpAnyH_done (by kernel_rfl) ?_ _
          have hZ := hHeld
          clear hHeld
          have HB14 := Lib.hid (bthen HB13.out hZ (Nat.le_refl _))
          have HXb14 := Lib.hid (HXb13.out.on hZ)
          have HYb14 := Lib.hid (HYb13.out.on hZ)
          have HDY14 := Lib.hid (HDY.out.on hZ)
          have HPR14 := Lib.hid (Rws.on HPD.out.row hZ)
          have HSZ14 := Lib.hid hZ.size
          clear hZ y0 x0 e15 e16 yl xl el
          have y0 := HYb14.out.cs 0 _ rfl
          have yl := HYb14.out.lt
          have x0 := HXb14.out.cs 0 _ rfl
          have xl := HXb14.out.lt
          have xf := HXb14.out.s
          unfold Soft at xf
          go_wp2_with fail
          have hst : PlSt w G N (gk - 1) (.slice AP np cP) (.int .i64 ((k + 1 : Nat) : Int)) (wx.setCell ⟨G, 0, none⟩ (.slice AY np cY)) := ⟨k + 1, by have := HK.out; omega, rfl, np, my, mp, AY, cY, AP, cP, rfl, HXb14.out.put 0 (.slice AY np cY) (by simp), HMY.out, HNY.out, HNP.out, HNY16.out, HNYC.out, dpsPut HDY14.out HOY.out _ _, by simpa using HIY.out.mono HSZ14.out, HOY.out, dpsPutQ HPR14.out HPO.out HPD.out HPQ.out (HB14.out.setCell (p := ⟨G, 0, none⟩) HG0.out _), HPO.out, HPQ.out, HGY.out, HOWY.out, HB14.out.setCell (p := ⟨G, 0, none⟩) HG0.out _⟩
          have HST := Lib.hid hst
          clear hst
          go_roundg (gk - 1)
          case rel => exact HST.out
          case measure => have := HK.out; omega
        · have hkn : k = N := by have := HK.out; omega
          subst hkn
          have HALLM := Lib.hid (fun W h => law22All_any more A1 c1 W (by have := HN2.out; omega) h)
          have hlm := good_all HGJ.out (rfl : more.map Dp.x = more.map Dp.x)
          have HDNM := Lib.hid (din_on HJ.out HB.out)
          go_wp2_with fail
          refine (HALLM.out _ HDNM.out).mono ?_
          rintro e w5 ⟨A5, c5, q5, rfl, hc5, hq5, hD5, b5⟩
          rw [hlm]
          have HQ5 := Lib.hid (hq5 hlm)
          have HD5 := Lib.hid hD5
          have HL5 := Lib.hid (show q5.length ≤ 100000 by have h := congrArg List.length (hq5 hlm); rw [List.length_map, List.length_map] at h; have := HN2.out; omega)
          have HB5 := Lib.hid (bthen HB.out b5 (Nat.le_refl _))
          have HXb5 := Lib.hid (HXb.out.on b5)
          have HDX5 := Lib.hid (HDX.out.on b5)
          have HIX5 := Lib.hid (HIX.out.mono b5.size)
          have HDQ5 := Lib.hid (HDQ.out.on b5)
          have HSZ5 := Lib.hid (show G < w5.heap.size from Nat.lt_of_lt_of_le HXb.out.lt b5.size)
          clear hc5 hq5 hD5 b5 hlm HALLM HDNM x0 xl
          have x0 := HXb5.out.cs 0 _ rfl
          have xl := HXb5.out.lt
          go_wp2_with fail
          refine (drAddI_n HNX.out more AX cX A1 c1 more.length rfl _ HNC.out HDX5.out HIX5.out (HDJ.out.on HB5.out) HN16.out (by have := HN2.out; omega) (HL0.out.on HB5.out)).mono ?_
          intro e w7 h7
          obtain ⟨my, AY, cY, rfl, hmy, hy16, hyc, hDy, hIy, hOy, b7⟩ := addI_flat2 h7 HDX5.out HIX5.out HSZ5.out HOX.out (by rw [HNX.out]; exact HNC.out) (by rw [HNX.out]; exact HN16.out) rfl
          generalize hF : Dr.addN (List.map Dp.x mx) (List.map Dp.x more) = F at *
          have HF := Lib.hid hF
          clear hF
          have HMY0 := Lib.hid hmy
          have HNY16 := Lib.hid hy16
          have HB7 := Lib.hid (bthen HB5.out b7 (Nat.le_refl _))
          have HYb8 := Lib.hid (BoxC.new (w := w) (W := w7) HB7.out.size #[.slice AY my.length cY] 27)
          have HX8 := Lib.hid (rtOne w7 (.cells #[.slice AY my.length cY] 27))
          have HB8 := Lib.hid (bthen HB7.out HX8.out (Nat.le_refl _))
          have HDY8 := Lib.hid (hDy.on HX8.out)
          have HDQ8 := Lib.hid ((HDQ5.out.on b7).on HX8.out)
          have HD58 := Lib.hid ((HD5.out.on b7).on HX8.out)
          have HSZ8 := Lib.hid (Nat.lt_of_lt_of_le HSZ5.out (Nat.le_trans b7.size HX8.out.size))
          clear h7 hmy hy16 hyc hDy hIy hOy b7 x0 xl
          obtain ⟨ny, hny⟩ : ∃ ny, my.length = ny := ⟨_, rfl⟩
          rw [hny] at HNY16 HYb8 HX8 HB8 HDY8 HDQ8 HD58 HSZ8
          rw [hny]
          have HNY := Lib.hid hny
          clear hny
          generalize hgy : w7.heap.size = gY at *
          go_upto_region 19 with fail
          try rw [hgy]
          generalize w7.alloc (.cells #[.slice AY ny cY] 27) = W8 at *
          go_wp2_with fail
          refine (r26Add_n HNQ.out q5 AQ cQ A5 c5 q5.length rfl _ HDQ8.out HD58.out HN16.out HL5.out).mono ?_
          intro e w11 h11
          obtain ⟨mp, AP, cP, np, rfl, hnp, hp16, hmp, hop, hDp, hAp, b11⟩ := radd_flat h11 HDQ8.out HSZ8.out HOQ.out (by rw [HNQ.out]; exact HN16.out) HMM.out.symm HQ5.out
          rw [HF.out] at hmp hop
          rw [HF.out]
          have hmaps := maps_eq HMY0.out hmp HMM.out.symm HQ5.out hop
          have hnn : np = ny := by
            have h := congrArg List.length hmaps
            rw [List.length_map, List.length_map, HNY.out, hnp] at h
            exact h.symm
          subst hnn
          have hownY := own_all HMY0.out HOWX.out hop
          have hgoodY := good_add HMY0.out HGX.out HGJ.out
          have HMY := Lib.hid hmaps
          have HNP := Lib.hid hnp
          have HOWY := Lib.hid hownY
          have HGY := Lib.hid hgoodY
          have HMAP := Lib.hid (show (my.map Dp.x).map (at1 T) = (mp.map Dp.x).map (rat1 T) by rw [map_at_rat HOWY.out, HMY.out])
          have HB11 := Lib.hid (bthen HB8.out b11 (Nat.le_refl _))
          have HYb11 := Lib.hid (HYb8.out.on b11)
          have HDY11 := Lib.hid (HDY8.out.on b11)
          have HPD11 := Lib.hid hDp
          clear h11 hmaps hnp hp16 hmp hop hDp hAp b11 hownY hgoodY
          have y0 := HYb11.out.cs 0 _ rfl
          have yl := HYb11.out.lt
          go_wp2_with fail
          refine (drAt_n HNY.out T AY cY _ HDY11.out HNY16.out HT.out (good_due HGY.out rfl)).mono ?_
          rintro e w12 ⟨Aq, cq, q1, rfl, hcq, hq1, hDq, b12⟩
          have hl1 : q1.length ≤ 100000 := len_maps hq1 (by rw [List.length_map, HNY.out]; have := HNY16.out; omega)
          have hga := good_at HT.out HGY.out
          have HALL1 := Lib.hid (fun W h => law22All_any q1 Aq cq W hl1 h)
          have hlt1 := good_all hga hq1
          have HDN1 := Lib.hid (good_din hDq hga hq1)
          have HQ1 := Lib.hid hq1
          have HB12 := Lib.hid (bthen HB11.out b12 (Nat.le_refl _))
          have HPD12 := Lib.hid (HPD11.out.on b12)
          clear hcq hq1 hDq b12 hl1 hga y0 yl
          go_wp2_with fail
          refine (HALL1.out _ HDN1.out).mono ?_
          rintro e w13 ⟨A2, c2, q2, rfl, hc2, hq2, hD2, b13⟩
          rw [hlt1]
          have HQ2 := Lib.hid ((hq2 hlt1).trans HQ1.out)
          have HD2 := Lib.hid hD2
          have HB13 := Lib.hid (bthen HB12.out b13 (Nat.le_refl _))
          have HPD := Lib.hid (HPD12.out.on b13)
          clear hc2 hq2 hD2 b13 hlt1 HALL1 HDN1
          have HN2P := Lib.hid (show (mp.map Dp.x).length ≤ 100000 by rw [List.length_map, HNP.out]; have := HNY16.out; omega)
          have HN2Q := Lib.hid (len_maps HQ2.out (show (my.map Dp.x).length ≤ 100000 by rw [List.length_map, HNY.out]; have := HNY16.out; omega))
          have HRT := Lib.hid (fun W h => r26At_n HNP.out T AP cP W h HNY16.out HT.out (good_due (HMY.out ▸ HGY.out) rfl))
          have hff : ((F : Int) == (F : Int)) = true := by simp
          go_wp2_with fail
          refine (HRT.out _ HPD.out).mono ?_
          rintro e w14 ⟨Ar, cr, q3, rfl, hcr, hq3, hDr, b14⟩
          have hq3s := dsSame_maps HQ2.out hq3 HMAP.out
          have HSA := Lib.hid (fun W g1 g2 => r22SameAll_any q2 q3 A2 c2 Ar cr W HN2Q.out (len_maps hq3 HN2P.out) g1 g2)
          rw [hq3s] at HSA
          have HDR3 := Lib.hid hDr
          have HD2X := Lib.hid (HD2.out.on b14)
          have HB14 := Lib.hid (bthen HB13.out b14 (Nat.le_refl _))
          clear hcr hq3 hDr hq3s b14
          go_wp2_with fail
          refine (HSA.out _ HD2X.out HDR3.out).mono ?_
          rintro e w15 ⟨rfl, b15⟩
          have HB15 := Lib.hid (bthen HB14.out b15 (Nat.le_refl _))
          clear b15
          go_wp2_with fail
          go_ret
          exact ⟨rfl, HB15.out⟩
end Go.Proofs.YtecjngodfciokaaGreatDoor
end
