/-
  A QUEUE FORGOTTEN, a binding taken out, the document's: walked.
-/
import Derived.Test.YtopobliajgocaaaGreatDoorZp25

section
namespace Go.Proofs.YtopobliajgocaaaGreatDoor
open Go.ChangeShapes Go.WideShapes Go.ChangeAt Go.RowKit
def RKpSt (q : Bd → Bool) (ps : List Bp) (w1 : World) (n g : Nat) (v i : Value) (wr : World) : Prop :=
  ∃ k : Nat, k + g = n ∧ i = .int .i64 (k : Int) ∧ wr.ownsRow w1.heap.size 69 6 v ((ps.take k).filter fun p => q p.x).length (bps ((ps.take k).filter fun p => q p.x)) ∧ Below w1.heap.size w1 wr
set_option maxRecDepth 100000 in
set_option maxHeartbeats 8000000 in
theorem r14Forget_any (b : Bk) (A : Option Addr) (c : Nat) (B : Option Addr) (d : Nat) (ps : List Bp) (n : List UInt8) (w : World) (U : Nat → Prop) (hl : b.binds.length ≤ 1000) (hI : BkAt w A c B d b ps) (hU : BkU U w A B ps) :
    Calls Tryz.prog 32 #[bkV A c B d b, .string (ofL n)] w (BkPost1 U (b.forget n) w) := by
  obtain ⟨q, hq⟩ : ∃ q : Bd → Bool, q = fun y => y.up || !(y.to == n) := ⟨_, rfl⟩
  have hfg : b.forget n = ⟨b.shops, b.binds.filter q⟩ := by rw [hq]; rfl
  have HQF : Hid (∀ y, q y = (y.up || !(y.to == n))) := fun y => by rw [hq]
  rw [hfg]
  clear hfg hq
  obtain ⟨shops, binds⟩ := b
  dsimp only at hl ⊢
  obtain ⟨iN, hiN, hzN0, hzN1, hzN2⟩ := info_parts infoRBd
  have hml := hI.len
  dsimp only at hml
  have hb0 := rtTwo w (.cells #[.slice A shops.length c, .slice B binds.length d] 32) (.cells #[.slice none 0 0, .slice none 0 0] 32)
  have HX0 := Lib.hid (rtNext (rtAt0 w #[.slice A shops.length c, .slice B binds.length d] 32) (.cells #[.slice none 0 0, .slice none 0 0] 32))
  have HR0 := Lib.hid (rtAt1 w (.cells #[.slice A shops.length c, .slice B binds.length d] 32) #[.slice none 0 0, .slice none 0 0] 32)
  have HSZ := Lib.hid (show ((w.alloc (.cells #[.slice A shops.length c, .slice B binds.length d] 32)).alloc (.cells #[.slice none 0 0, .slice none 0 0] 32)).heap.size = w.heap.size + 2 by simp)
  have HB0 := Lib.hid hb0
  have HI0 := Lib.hid hI
  have HU := Lib.hid hU
  have HML := Lib.hid hml
  unfold bkV
  dsimp only
  rw [← hml] at HX0 HR0 HSZ HB0 hl ⊢
  clear hml hI hU hb0
  go_enter Tryz.func32, Tryz.ntmps32
  go_wp2_with fail
  generalize (w.alloc (.cells #[.slice A shops.length c, .slice B ps.length d] 32)).alloc (.cells #[.slice none 0 0, .slice none 0 0] 32) = w1 at *
  go_loopg [5, 11] ps.length (fun g v i wr => RKpSt q ps w1 ps.length g v i wr)
  case atStart => exact ⟨0, by omega, rfl, World.ownsRow_nil _ _ _ _, Below.refl _ _⟩
  case round =>
    obtain ⟨k, hk, rfl, hown, hB⟩ := hrel
    have HK := Lib.hid hk
    have HB := Lib.hid hB
    have HOWN := Lib.hid hown
    obtain ⟨Av, cv, rfl, -, -⟩ := Rw.own_cells hown
    clear hk hB hown
    have HBW := Lib.hid (bthen HB0.out HB.out (Nat.le_refl _))
    by_cases hlt : k < ps.length
    · have hbd := HI0.out.bds.on HBW.out
      obtain ⟨bb, off, rfl, hbl, hat⟩ := bps_get hbd.row hlt
      have hok := hbd.ok ps[k] (List.getElem_mem hlt)
      have HLEN := Lib.hid (kp_len (q := q) ps k)
      have HY := Lib.hid (fun h => kp_yes (q := q) hlt h)
      have HNO := Lib.hid (fun h => kp_no (q := q) hlt h)
      generalize hys : (ps.take k).filter (fun p => q p.x) = ys at *
      have hyl : ys.length ≤ 1000 := by have := HLEN.out; omega
      generalize ps[k] = p at *
      obtain ⟨x, Ax, cx⟩ := p
      unfold bpL bdL at hat
      dsimp only at hat hok HY HNO
      have c0 := hat 0 _ rfl
      have c1 := hat 1 _ rfl
      have c2 := hat 2 _ rfl
      have c3 := hat 3 _ rfl
      have c4 := hat 4 _ rfl
      have c5 := hat 5 _ rfl
      rw [Nat.add_zero] at c0
      have HW1 := Lib.hid HB.out.size
      clear hat hok hbd
      have HA := Lib.hid (rtOne wr (.cells #[.string (ofL x.shop), .string (ofL x.to), .bool x.up, .string (ofL x.key), .slice Ax x.want.length cx, .bool x.all] 69))
      have hqx := HQF.out x
      have e5 := str_same x.to n
      have e6 : ((ofL x.to).toList != (ofL n).toList) = !(x.to == n) := by rw [bne, e5]
      cases hu : x.up with
      | true =>
        rw [hu, Bool.true_or] at hqx
        rw [hu] at c2 HA
        have hu0 := hu
        have HNX := Lib.hid (HY.out hqx)
        clear hqx e5 e6
        have HU0 := Lib.hid hu0
        clear hu0 hu
        have HA4 := Lib.hid (rtOne (wr.alloc (.cells #[.string (ofL x.shop), .string (ofL x.to), .bool true, .string (ofL x.key), .slice Ax x.want.length cx, .bool x.all] 69)) (.cells #[.string (ofL x.shop), .string (ofL x.to), .bool true, .string (ofL x.key), .slice Ax x.want.length cx, .bool x.all] 69))
        have HOW := Lib.hid (Rw.own_on (Rw.own_on HOWN.out HA.out) HA4.out)
        have HNW := Lib.hid (Rws.of_news (w := (wr.alloc (.cells #[.string (ofL x.shop), .string (ofL x.to), .bool true, .string (ofL x.key), .slice Ax x.want.length cx, .bool x.all] 69)).alloc (.cells #[.string (ofL x.shop), .string (ofL x.to), .bool true, .string (ofL x.key), .slice Ax x.want.length cx, .bool x.all] 69)) (b := wr.heap.size + 1) (off := 0) (cs := bps [⟨x, Ax, cx⟩]) (fun j u hu => by
          rw [bps_one1] at hu
          rw [Nat.zero_add]
          unfold bpL bdL at hu
          dsimp only at hu
          rw [HU0.out] at hu
          exact (rtAt1 wr (.cells #[.string (ofL x.shop), .string (ofL x.to), .bool true, .string (ofL x.key), .slice Ax x.want.length cx, .bool x.all] 69) #[.string (ofL x.shop), .string (ofL x.to), .bool true, .string (ofL x.key), .slice Ax x.want.length cx, .bool x.all] 69).cs j u hu))
        have hsz : w1.heap.size ≤ ((wr.alloc (.cells #[.string (ofL x.shop), .string (ofL x.to), .bool true, .string (ofL x.key), .slice Ax x.want.length cx, .bool x.all] 69)).alloc (.cells #[.string (ofL x.shop), .string (ofL x.to), .bool true, .string (ofL x.key), .slice Ax x.want.length cx, .bool x.all] 69)).heap.size := by have := HW1.out; have := HA.out.size; have := HA4.out.size; omega
        go_wp2_with (at_builtin; refine wpList_append_rws _ rfl _ _ 30 rfl w1.heap.size 69 iN _ 6 88 Tryz.underlying30 hiN hzN0 hzN1 hzN2 rfl (by decide) (by decide) (by rfl) HOW.out (by rfl) HNW.out (by rfl) (bps_one _) (by omega) (fun e => by cases e) hsz ?_; intro v' w4 hown hgrow; have HO4 := Lib.hid hown; have HG4 := Lib.hid hgrow; obtain ⟨A5, c5', rfl, -, -⟩ := Rw.own_cells hown; clear hown hgrow)
        go_roundg (gk - 1)
        case rel => exact ⟨k + 1, by have := HK.out; omega, by go_num, by rw [HNX.out, List.length_append, bps_app]; exact HO4.out, (bthen (bthen HB.out HA.out (Nat.le_refl _)) HA4.out (Nat.le_refl _)).grown HG4.out hsz (fun k hk => (HOW.out.lt k hk).1)⟩
        case measure => have := HK.out; omega
      | false =>
        rw [hu, Bool.false_or] at hqx
        rw [hu] at c2 HA
        have hu0 := hu
        cases he : x.to == n with
        | false =>
          rw [he] at hqx e5 e6
          rw [Bool.not_false] at hqx e6
          have HNX := Lib.hid (HY.out hqx)
          clear hqx he
          have HU0 := Lib.hid hu0
          clear hu0 hu
          have HA4 := Lib.hid (rtOne (wr.alloc (.cells #[.string (ofL x.shop), .string (ofL x.to), .bool false, .string (ofL x.key), .slice Ax x.want.length cx, .bool x.all] 69)) (.cells #[.string (ofL x.shop), .string (ofL x.to), .bool false, .string (ofL x.key), .slice Ax x.want.length cx, .bool x.all] 69))
          have HOW := Lib.hid (Rw.own_on (Rw.own_on HOWN.out HA.out) HA4.out)
          have HNW := Lib.hid (Rws.of_news (w := (wr.alloc (.cells #[.string (ofL x.shop), .string (ofL x.to), .bool false, .string (ofL x.key), .slice Ax x.want.length cx, .bool x.all] 69)).alloc (.cells #[.string (ofL x.shop), .string (ofL x.to), .bool false, .string (ofL x.key), .slice Ax x.want.length cx, .bool x.all] 69)) (b := wr.heap.size + 1) (off := 0) (cs := bps [⟨x, Ax, cx⟩]) (fun j u hu => by
            rw [bps_one1] at hu
            rw [Nat.zero_add]
            unfold bpL bdL at hu
            dsimp only at hu
            rw [HU0.out] at hu
            exact (rtAt1 wr (.cells #[.string (ofL x.shop), .string (ofL x.to), .bool false, .string (ofL x.key), .slice Ax x.want.length cx, .bool x.all] 69) #[.string (ofL x.shop), .string (ofL x.to), .bool false, .string (ofL x.key), .slice Ax x.want.length cx, .bool x.all] 69).cs j u hu))
          have hsz : w1.heap.size ≤ ((wr.alloc (.cells #[.string (ofL x.shop), .string (ofL x.to), .bool false, .string (ofL x.key), .slice Ax x.want.length cx, .bool x.all] 69)).alloc (.cells #[.string (ofL x.shop), .string (ofL x.to), .bool false, .string (ofL x.key), .slice Ax x.want.length cx, .bool x.all] 69)).heap.size := by have := HW1.out; have := HA.out.size; have := HA4.out.size; omega
          go_wp2_with (at_builtin; refine wpList_append_rws _ rfl _ _ 30 rfl w1.heap.size 69 iN _ 6 88 Tryz.underlying30 hiN hzN0 hzN1 hzN2 rfl (by decide) (by decide) (by rfl) HOW.out (by rfl) HNW.out (by rfl) (bps_one _) (by omega) (fun e => by cases e) hsz ?_; intro v' w4 hown hgrow; have HO4 := Lib.hid hown; have HG4 := Lib.hid hgrow; obtain ⟨A5, c5', rfl, -, -⟩ := Rw.own_cells hown; clear hown hgrow)
          go_roundg (gk - 1)
          case rel => exact ⟨k + 1, by have := HK.out; omega, by go_num, by rw [HNX.out, List.length_append, bps_app]; exact HO4.out, (bthen (bthen HB.out HA.out (Nat.le_refl _)) HA4.out (Nat.le_refl _)).grown HG4.out hsz (fun k hk => (HOW.out.lt k hk).1)⟩
          case measure => have := HK.out; omega
        | true =>
          rw [he] at hqx e5 e6
          rw [Bool.not_true] at hqx e6
          have HNX := Lib.hid (HNO.out hqx)
          clear hqx he
          go_wp2_with fail
          go_roundg (gk - 1)
          case rel => exact ⟨k + 1, by have := HK.out; omega, by go_num, by rw [HNX.out]; exact Rw.own_on HOWN.out HA.out, bthen HB.out HA.out (Nat.le_refl _)⟩
          case measure => have := HK.out; omega
    · have hkn : k = ps.length := by have := HK.out; omega
      have HKE := Lib.hid (show (ps.take k).filter (fun p => q p.x) = ps.filter (fun p => q p.x) by rw [hkn, List.take_length])
      rw [HKE.out] at HOWN ⊢
      clear hkn
      have HX2 := Lib.hid (HX0.out.on HB.out)
      have HR2 := Lib.hid (HR0.out.on HB.out)
      have x0 := HX2.out.cs 0 _ rfl
      have x1 := HX2.out.cs 1 _ rfl
      have xl := HX2.out.lt
      have xf : ∀ j, wr.frozen? ⟨w.heap.size, j, none⟩ = false := HX2.out.s
      have r0 := HR2.out.cs 0 _ rfl
      have r1 := HR2.out.cs 1 _ rfl
      have rl := HR2.out.lt
      have rf : ∀ j, wr.frozen? ⟨w.heap.size + 1, j, none⟩ = false := HR2.out.s
      have hmp := kp_map (q := q) ps
      rw [HI0.out.xs] at hmp
      have HMP := Lib.hid hmp
      clear hmp
      have HMM := Lib.hid (fun p (hp : p ∈ ps.filter (fun p => q p.x)) => And.intro (HI0.out.bds.ok p (List.mem_filter.1 hp).1) (HU.out.p p (List.mem_filter.1 hp).1))
      generalize ps.filter (fun p => q p.x) = ys at *
      have HYL := Lib.hid (show (binds.filter q).length = ys.length by rw [← HMP.out, List.length_map])
      go_wp2_with fail
      have hQ := (HR2.out.aside (g := w.heap.size) (by omega) 1 (.slice Av ys.length cv)).fill [.slice A shops.length c, .slice Av ys.length cv] rfl
      have hB := below_putAll (g := w.heap.size + 1) (by omega) [.slice A shops.length c, .slice Av ys.length cv] 0 (HBW.out.setCell (p := ⟨w.heap.size, 1, none⟩) (Nat.le_refl _) (.slice Av ys.length cv))
      simp only [putAll] at hQ hB
      have g0 := hQ.cs 0 _ rfl
      have g1 := hQ.cs 1 _ rfl
      have hO := rtOwnPut (rtOwnPut (rtOwnPut HOWN.out (g := w.heap.size) (by have := HSZ.out; omega) 1 (.slice Av ys.length cv)) (g := w.heap.size + 1) (by have := HSZ.out; omega) 0 (.slice A shops.length c)) (g := w.heap.size + 1) (by have := HSZ.out; omega) 1 (.slice Av ys.length cv)
      refine bodyPost_ret (v := .agg #[.slice A shops.length c, .slice Av ys.length cv]) (by simp [results, Tryz.results32, go_sem, g0, g1]) rfl ?_
      obtain ⟨A9, c9, e9, hc9, hn9, hr9, hb9⟩ := Rws.of_own hO
      obtain ⟨rfl, -, rfl⟩ := Value.slice.inj e9
      exact ⟨A, c, Av, cv, ys, by unfold bkV; rw [HYL.out], ⟨HMP.out, HI0.out.capA, HI0.out.nilA, hc9, hn9, HI0.out.shs.on hB, ⟨hr9, fun p hp => (HMM.out p hp).1.on hB⟩⟩, ⟨fun x hx => ⟨.inl (HU.out.a x hx).1, Nat.lt_of_lt_of_le (HU.out.a x hx).2 hB.size⟩, fun x hx => ⟨.inr (by have := (hb9 x hx).1; have := HSZ.out; omega), (hb9 x hx).2⟩, fun p hp hw x hx => ⟨.inl ((HMM.out p hp).2 hw x hx).1, Nat.lt_of_lt_of_le ((HMM.out p hp).2 hw x hx).2 hB.size⟩⟩, hB⟩
def unT (x : Bd) (l : List Bd) : Nat := if x ∈ l then 0 else 10
theorem unT_yes {x : Bd} {l : List Bd} (h : x ∈ l) : unT x l = 0 := if_pos h
theorem unT_no {x : Bd} {l : List Bd} (h : ¬ x ∈ l) : unT x l = 10 := if_neg h
theorem unT_eq {x : Bd} {l m : List Bd} (h : x ∈ l ↔ x ∈ m) : unT x l = unT x m := by
  by_cases g : x ∈ m
  · rw [unT_yes g, unT_yes (h.2 g)]
  · rw [unT_no g, unT_no (fun k => g (h.1 k))]
def RUnSt (x : Bd) (q : Bd → Bool) (ps : List Bp) (w1 : World) (n g : Nat) (v t i : Value) (wr : World) : Prop :=
  ∃ k : Nat, k + g = n ∧ i = .int .i64 (k : Int) ∧ t = .int .i64 (unT x ((ps.take k).map Bp.x) : Int) ∧ wr.ownsRow w1.heap.size 69 6 v ((ps.take k).filter fun p => q p.x).length (bps ((ps.take k).filter fun p => q p.x)) ∧ Below w1.heap.size w1 wr
theorem un_yes {x : Bd} {ps : List Bp} {k : Nat} (hk : k < ps.length) (h : bdEq x ps[k].x = true) : x ∈ (ps.take (k + 1)).map Bp.x := by
  rw [bdEq_dec] at h
  rw [List.take_succ_eq_append_getElem hk, List.map_append, List.mem_append]
  exact .inr (by rw [of_decide_eq_true h]; simp)
theorem un_no {x : Bd} {ps : List Bp} {k : Nat} (hk : k < ps.length) (h : bdEq x ps[k].x = false) : (x ∈ (ps.take (k + 1)).map Bp.x) ↔ (x ∈ (ps.take k).map Bp.x) := by
  rw [bdEq_dec] at h
  rw [List.take_succ_eq_append_getElem hk, List.map_append, List.mem_append]
  constructor
  · rintro (h1 | h1)
    · exact h1
    · simp at h1
      exact absurd h1 (of_decide_eq_false h)
  · exact .inl
set_option maxRecDepth 100000 in
set_option maxHeartbeats 8000000 in
theorem r14Unbind_any (b : Bk) (A : Option Addr) (c : Nat) (B : Option Addr) (d : Nat) (ps : List Bp) (y : Bd) (Ay : Option Addr) (cy : Nat) (w : World) (U : Nat → Prop) (hl : b.binds.length ≤ 1000) (hI : BkAt w A c B d b ps) (hU : BkU U w A B ps) (hy : BdOk w y Ay cy) :
    Calls Tryz.prog 30 #[bkV A c B d b, bdV y Ay cy] w (BkPost U (b.unbind y).1 (b.unbind y).2 w) := by
  obtain ⟨q, hq⟩ : ∃ q : Bd → Bool, q = fun p => !bdEq y p := ⟨_, rfl⟩
  have hub : b.unbind y = if y ∈ b.binds then (⟨b.shops, b.binds.filter q⟩, 0) else (b, 10) := by
    rw [hq]; unfold Bk.unbind
    have e4 : (b.binds.filter fun p => !bdEq y p) = b.binds.filter fun p => !(decide (y = p)) := by congr 1; funext p; rw [bdEq_dec]
    rw [e4]
  have HQF : Hid (∀ p, q p = !bdEq y p) := fun p => by rw [hq]
  clear hq
  obtain ⟨shops, binds⟩ := b
  dsimp only at hl hub
  obtain ⟨iN, hiN, hzN0, hzN1, hzN2⟩ := info_parts infoRBd
  have hml := hI.len
  dsimp only at hml
  have hb0 := rtThree w (.cells #[.slice A shops.length c, .slice B binds.length d] 32) (.cells #[.string (ofL y.shop), .string (ofL y.to), .bool y.up, .string (ofL y.key), .slice Ay y.want.length cy, .bool y.all] 69) (.cells #[.slice none 0 0, .slice none 0 0] 32)
  have HX0 := Lib.hid (rtNext (rtNext (rtAt0 w #[.slice A shops.length c, .slice B binds.length d] 32) (.cells #[.string (ofL y.shop), .string (ofL y.to), .bool y.up, .string (ofL y.key), .slice Ay y.want.length cy, .bool y.all] 69)) (.cells #[.slice none 0 0, .slice none 0 0] 32))
  have HY0 := Lib.hid (rtNext (rtAt1 w (.cells #[.slice A shops.length c, .slice B binds.length d] 32) #[.string (ofL y.shop), .string (ofL y.to), .bool y.up, .string (ofL y.key), .slice Ay y.want.length cy, .bool y.all] 69) (.cells #[.slice none 0 0, .slice none 0 0] 32))
  have HR0 := Lib.hid (rtAt2 w (.cells #[.slice A shops.length c, .slice B binds.length d] 32) (.cells #[.string (ofL y.shop), .string (ofL y.to), .bool y.up, .string (ofL y.key), .slice Ay y.want.length cy, .bool y.all] 69) #[.slice none 0 0, .slice none 0 0] 32)
  have HSZ := Lib.hid (show (((w.alloc (.cells #[.slice A shops.length c, .slice B binds.length d] 32)).alloc (.cells #[.string (ofL y.shop), .string (ofL y.to), .bool y.up, .string (ofL y.key), .slice Ay y.want.length cy, .bool y.all] 69)).alloc (.cells #[.slice none 0 0, .slice none 0 0] 32)).heap.size = w.heap.size + 3 by simp)
  have HB0 := Lib.hid hb0
  have HI0 := Lib.hid hI
  have HU := Lib.hid hU
  have HYO := Lib.hid hy
  have HML := Lib.hid hml
  unfold bkV bdV
  dsimp only
  rw [← hml] at HX0 HY0 HR0 HSZ HB0 hl ⊢
  clear hml hI hU hb0 hy
  have HUB := Lib.hid hub
  clear hub
  go_enter Tryz.func30, Tryz.ntmps30
  go_wp2_with fail
  generalize ((w.alloc (.cells #[.slice A shops.length c, .slice B ps.length d] 32)).alloc (.cells #[.string (ofL y.shop), .string (ofL y.to), .bool y.up, .string (ofL y.key), .slice Ay y.want.length cy, .bool y.all] 69)).alloc (.cells #[.slice none 0 0, .slice none 0 0] 32) = w1 at *
  go_loopg [6, 7, 13] ps.length (fun g v t i wr => RUnSt y q ps w1 ps.length g v t i wr)
  case atStart => exact ⟨0, by omega, rfl, rfl, World.ownsRow_nil _ _ _ _, Below.refl _ _⟩
  case round =>
    obtain ⟨k, hk, rfl, rfl, hown, hB⟩ := hrel
    have HK := Lib.hid hk
    have HB := Lib.hid hB
    have HOWN := Lib.hid hown
    obtain ⟨Av, cv, rfl, -, -⟩ := Rw.own_cells hown
    clear hk hB hown
    have HBW := Lib.hid (bthen HB0.out HB.out (Nat.le_refl _))
    by_cases hlt : k < ps.length
    · have HUY := Lib.hid (fun h => un_yes (x := y) hlt h)
      have HUN := Lib.hid (fun h => un_no (x := y) hlt h)
      have hokp := (HI0.out.bds.on HBW.out).ok ps[k] (List.getElem_mem hlt)
      have hbd := HI0.out.bds.on HBW.out
      obtain ⟨bb, off, rfl, hbl, hat⟩ := bps_get hbd.row hlt
      have hok := hbd.ok ps[k] (List.getElem_mem hlt)
      have HLEN := Lib.hid (kp_len (q := q) ps k)
      have HY := Lib.hid (fun h => kp_yes (q := q) hlt h)
      have HNO := Lib.hid (fun h => kp_no (q := q) hlt h)
      generalize hys : (ps.take k).filter (fun p => q p.x) = ys at *
      have hyl : ys.length ≤ 1000 := by have := HLEN.out; omega
      generalize ps[k] = p at *
      obtain ⟨x, Ax, cx⟩ := p
      unfold bpL bdL at hat
      dsimp only at hat hok HY HNO
      have c0 := hat 0 _ rfl
      have c1 := hat 1 _ rfl
      have c2 := hat 2 _ rfl
      have c3 := hat 3 _ rfl
      have c4 := hat 4 _ rfl
      have c5 := hat 5 _ rfl
      rw [Nat.add_zero] at c0
      have HW1 := Lib.hid HB.out.size
      clear hat hok hbd
      have HA := Lib.hid (rtOne wr (.cells #[.string (ofL x.shop), .string (ofL x.to), .bool x.up, .string (ofL x.key), .slice Ax x.want.length cx, .bool x.all] 69))
      have HSB := Lib.hid (r14SameBind_any y x Ay cy Ax cx _ HYO.out.len hokp.len ((HYO.out.on (bthen HBW.out HA.out (Nat.le_refl _))).row) ((hokp.on HA.out).row))
      have HY3 := Lib.hid (HY0.out.on HB.out)
      have y0 := HY3.out.cs 0 _ rfl
      have y1 := HY3.out.cs 1 _ rfl
      have y2 := HY3.out.cs 2 _ rfl
      have y3 := HY3.out.cs 3 _ rfl
      have y4 := HY3.out.cs 4 _ rfl
      have y5 := HY3.out.cs 5 _ rfl
      have yl := HY3.out.lt
      have hqx := HQF.out x
      clear hokp
      simp only [bdV] at HSB
      cases hs : bdEq y x with
      | true =>
        rw [hs, Bool.not_true] at hqx
        have HNX := Lib.hid (HNO.out hqx)
        have HM := Lib.hid (unT_yes (HUY.out hs))
        rw [hs] at HSB
        clear hqx hs
        go_wp2_with fail
        refine HSB.out.mono ?_
        rintro e w3 ⟨rfl, b3⟩
        have HA3 := Lib.hid (bthen HA.out b3 (Nat.le_refl _))
        clear b3
        go_wp2_with fail
        go_roundg (gk - 1)
        case rel => exact ⟨k + 1, by have := HK.out; omega, by go_num, by rw [HM.out]; rfl, by rw [HNX.out]; exact Rw.own_on HOWN.out HA3.out, bthen HB.out HA3.out (Nat.le_refl _)⟩
        case measure => have := HK.out; omega
      | false =>
        rw [hs, Bool.not_false] at hqx
        have HNX := Lib.hid (HY.out hqx)
        have HM := Lib.hid (unT_eq (HUN.out hs))
        rw [hs] at HSB
        generalize unT y ((ps.take k).map Bp.x) = T at *
        clear hqx hs
        go_wp2_with fail
        refine HSB.out.mono ?_
        rintro e w3 ⟨rfl, b3⟩
        have HB3 := Lib.hid (bthen HA.out b3 (Nat.le_refl _))
        have HE3 := (rtAt0 wr #[.string (ofL x.shop), .string (ofL x.to), .bool x.up, .string (ofL x.key), .slice Ax x.want.length cx, .bool x.all] 69).on b3
        have z0 := HE3.cs 0 _ rfl
        have z1 := HE3.cs 1 _ rfl
        have z2 := HE3.cs 2 _ rfl
        have z3 := HE3.cs 3 _ rfl
        have z4 := HE3.cs 4 _ rfl
        have z5 := HE3.cs 5 _ rfl
        have zl := HE3.lt
        have HA4 := Lib.hid (rtOne w3 (.cells #[.string (ofL x.shop), .string (ofL x.to), .bool x.up, .string (ofL x.key), .slice Ax x.want.length cx, .bool x.all] 69))
        have HOW := Lib.hid (Rw.own_on (Rw.own_on HOWN.out HB3.out) HA4.out)
        have HNW := Lib.hid (Rws.of_news (w := w3.alloc (.cells #[.string (ofL x.shop), .string (ofL x.to), .bool x.up, .string (ofL x.key), .slice Ax x.want.length cx, .bool x.all] 69)) (b := w3.heap.size) (off := 0) (cs := bps [⟨x, Ax, cx⟩]) (fun j u hu => by
          rw [bps_one1] at hu
          rw [Nat.zero_add]
          exact (BoxC.new (w := w3) (Nat.le_refl _) #[.string (ofL x.shop), .string (ofL x.to), .bool x.up, .string (ofL x.key), .slice Ax x.want.length cx, .bool x.all] 69).cs j u hu))
        have hsz : w1.heap.size ≤ (w3.alloc (.cells #[.string (ofL x.shop), .string (ofL x.to), .bool x.up, .string (ofL x.key), .slice Ax x.want.length cx, .bool x.all] 69)).heap.size := by have := HW1.out; have := HB3.out.size; have := HA4.out.size; omega
        clear b3 HE3 y0 y1 y2 y3 y4 y5 yl
        go_wp2_with (at_builtin; refine wpList_append_rws _ rfl _ _ 30 rfl w1.heap.size 69 iN _ 6 88 Tryz.underlying30 hiN hzN0 hzN1 hzN2 rfl (by decide) (by decide) (by rfl) HOW.out (by rfl) HNW.out (by rfl) (bps_one _) (by omega) (fun e => by cases e) hsz ?_; intro v' w4 hown hgrow; have HO4 := Lib.hid hown; have HG4 := Lib.hid hgrow; obtain ⟨A5, c5', rfl, -, -⟩ := Rw.own_cells hown; clear hown hgrow)
        go_roundg (gk - 1)
        case rel => exact ⟨k + 1, by have := HK.out; omega, by go_num, by rw [HM.out], by rw [HNX.out, List.length_append, bps_app]; exact HO4.out, (bthen (bthen HB.out HB3.out (Nat.le_refl _)) HA4.out (Nat.le_refl _)).grown HG4.out hsz (fun k hk => (HOW.out.lt k hk).1)⟩
        case measure => have := HK.out; omega
    · have hkn : k = ps.length := by have := HK.out; omega
      have hmem : (y ∈ (ps.take k).map Bp.x) ↔ y ∈ binds := by rw [hkn, List.take_length, HI0.out.xs]
      rw [unT_eq hmem]
      clear hmem hkn
      have hub := HUB.out
      by_cases hm : y ∈ binds
      · rw [if_pos hm] at hub
        rw [unT_yes hm]
        have HUX := Lib.hid hub
        clear hm hub HUB
        have hkn : k = ps.length := by have := HK.out; omega
        have HKE := Lib.hid (show (ps.take k).filter (fun p => q p.x) = ps.filter (fun p => q p.x) by rw [hkn, List.take_length])
        rw [HKE.out] at HOWN ⊢
        clear hkn
        have HX2 := Lib.hid (HX0.out.on HB.out)
        have HR2 := Lib.hid (HR0.out.on HB.out)
        have x0 := HX2.out.cs 0 _ rfl
        have x1 := HX2.out.cs 1 _ rfl
        have xl := HX2.out.lt
        have xf : ∀ j, wr.frozen? ⟨w.heap.size, j, none⟩ = false := HX2.out.s
        have r0 := HR2.out.cs 0 _ rfl
        have r1 := HR2.out.cs 1 _ rfl
        have rl := HR2.out.lt
        have rf : ∀ j, wr.frozen? ⟨w.heap.size + 2, j, none⟩ = false := HR2.out.s
        have hmp := kp_map (q := q) ps
        rw [HI0.out.xs] at hmp
        have HMP := Lib.hid hmp
        clear hmp
        have HMM := Lib.hid (fun p (hp : p ∈ ps.filter (fun p => q p.x)) => And.intro (HI0.out.bds.ok p (List.mem_filter.1 hp).1) (HU.out.p p (List.mem_filter.1 hp).1))
        generalize ps.filter (fun p => q p.x) = ys at *
        have HYL := Lib.hid (show (binds.filter q).length = ys.length by rw [← HMP.out, List.length_map])
        go_wp2_with fail
        have hQ := (HR2.out.aside (g := w.heap.size) (by omega) 1 (.slice Av ys.length cv)).fill [.slice A shops.length c, .slice Av ys.length cv] rfl
        have hB := below_putAll (g := w.heap.size + 2) (by omega) [.slice A shops.length c, .slice Av ys.length cv] 0 (HBW.out.setCell (p := ⟨w.heap.size, 1, none⟩) (Nat.le_refl _) (.slice Av ys.length cv))
        simp only [putAll] at hQ hB
        have g0 := hQ.cs 0 _ rfl
        have g1 := hQ.cs 1 _ rfl
        have hO := rtOwnPut (rtOwnPut (rtOwnPut HOWN.out (g := w.heap.size) (by have := HSZ.out; omega) 1 (.slice Av ys.length cv)) (g := w.heap.size + 2) (by have := HSZ.out; omega) 0 (.slice A shops.length c)) (g := w.heap.size + 2) (by have := HSZ.out; omega) 1 (.slice Av ys.length cv)
        refine bodyPost_ret (v := .tuple #[.agg #[.slice A shops.length c, .slice Av ys.length cv], .int .i64 0]) (by simp [results, Tryz.results30, go_sem, g0, g1]) rfl ?_
        obtain ⟨A9, c9, e9, hc9, hn9, hr9, hb9⟩ := Rws.of_own hO
        obtain ⟨rfl, -, rfl⟩ := Value.slice.inj e9
        unfold BkPost
        rw [HUX.out]
        exact ⟨A, c, Av, cv, ys, by unfold bkV; rw [HYL.out]; rfl, ⟨HMP.out, HI0.out.capA, HI0.out.nilA, hc9, hn9, HI0.out.shs.on hB, ⟨hr9, fun p hp => (HMM.out p hp).1.on hB⟩⟩, ⟨fun x hx => ⟨.inl (HU.out.a x hx).1, Nat.lt_of_lt_of_le (HU.out.a x hx).2 hB.size⟩, fun x hx => ⟨.inr (by have := (hb9 x hx).1; have := HSZ.out; omega), (hb9 x hx).2⟩, fun p hp hw x hx => ⟨.inl ((HMM.out p hp).2 hw x hx).1, Nat.lt_of_lt_of_le ((HMM.out p hp).2 hw x hx).2 hB.size⟩⟩, hB⟩
      · rw [if_neg hm] at hub
        rw [unT_no hm]
        have HUX := Lib.hid hub
        clear hm hub HUB
        have HX2 := Lib.hid (HX0.out.on HB.out)
        have HR2 := Lib.hid (HR0.out.on HB.out)
        have x0 := HX2.out.cs 0 _ rfl
        have x1 := HX2.out.cs 1 _ rfl
        have xl := HX2.out.lt
        have r0 := HR2.out.cs 0 _ rfl
        have r1 := HR2.out.cs 1 _ rfl
        have rl := HR2.out.lt
        have rf : ∀ j, wr.frozen? ⟨w.heap.size + 2, j, none⟩ = false := HR2.out.s
        have HLN := Lib.hid HML.out
        generalize (ps.take k).filter (fun p => q p.x) = ys at *
        go_wp2_with fail
        have hQ := HR2.out.fill [.slice A shops.length c, .slice B ps.length d] rfl
        have hB := below_putAll (g := w.heap.size + 2) (by omega) [.slice A shops.length c, .slice B ps.length d] 0 HBW.out
        simp only [putAll] at hQ hB
        have g0 := hQ.cs 0 _ rfl
        have g1 := hQ.cs 1 _ rfl
        refine bodyPost_ret (v := .tuple #[.agg #[.slice A shops.length c, .slice B ps.length d], .int .i64 10]) (by simp [results, Tryz.results30, go_sem, g0, g1]) rfl ?_
        unfold BkPost
        rw [HUX.out]
        exact ⟨A, c, B, d, ps, by unfold bkV; rw [HLN.out]; rfl, HI0.out.on hB, (HU.out.mono (fun g h => .inl h)).on hB.size, hB⟩
end Go.Proofs.YtopobliajgocaaaGreatDoor
end
