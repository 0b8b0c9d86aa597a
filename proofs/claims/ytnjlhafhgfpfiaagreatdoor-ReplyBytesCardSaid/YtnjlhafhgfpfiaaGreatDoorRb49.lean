/-
  THE LAW ReplyBytes: walked.
-/
import Derived.Test.YtnjlhafhgfpfiaaGreatDoorRb30
import Derived.Test.YtnjlhafhgfpfiaaGreatDoorRb42
import Derived.Test.YtnjlhafhgfpfiaaGreatDoorRb43
import Derived.Test.YtnjlhafhgfpfiaaGreatDoorRb47
import Derived.Test.YtnjlhafhgfpfiaaGreatDoorRb48
import Derived.Deep.RegionWith
import Derived.Deep.RegionHeld3
import Derived.Deep.MidRow
import Derived.Deep.WholeRow
import Derived.Deep.DeepCutAuto
import Derived.Lib.Walk
import Derived.Lib.SliceRun
import Derived.Lib.AppendZerosOnto
section
namespace Go.Proofs.YtnjlhafhgfpfiaaGreatDoor
open Go.ChangeShapes Go.WideShapes Go.ChangeAt Go.RowKit
theorem qrb49a (l : List Value) (i : Nat) (v : Value) : l.toArray.setIfInBounds i v = (l.set i v).toArray := by simp
theorem qrb49b (v u : Value) (l : List Value) : (v :: l).set 0 u = u :: l := rfl
theorem qrb49c (v u : Value) (n : Nat) (l : List Value) : (v :: l).set (n + 1) u = v :: l.set n u := rfl
theorem infoRe12 : (Tryz.prog.info? 30).map (fun i => (i.zero, i.size, i.bytes)) = some (some (.agg #[.int .u8 0, .int .u8 0, .int .u64 0, .int .u64 0, .bool false, .string ⟨#[]⟩, .int .u64 0, .string ⟨#[]⟩, .string ⟨#[]⟩, .slice none 0 0, .string ⟨#[]⟩, .int .u64 0, .int .u8 0]), 13, 144) := by kernel_rfl
/-- behind the second Take: its feed, its frames -/
structure FcY (wq : World) (F3 : Nat) (x y : Value) (A3 : Option Addr) (f3 : List Fr.Frame) (wr : World) : Prop where
  d3 : Duo F3 x y wr
  a3 : Frms wr A3 f3
  ge : wq.heap.size ≤ F3
  below : Below wq.heap.size wq wr
theorem FcY.on {wq wr w' : World} {F3 : Nat} {x y : Value} {A3 : Option Addr} {f3 : List Fr.Frame} (h : FcY wq F3 x y A3 f3 wr) (hb : Below wr.heap.size wr w') : FcY wq F3 x y A3 f3 w' := ⟨h.d3.on hb h.d3.lt, h.a3.on hb, h.ge, bthen h.below hb (Nat.le_refl _)⟩
theorem FcY.finA {wq w4 : World} {A3 : Option Addr} {f3 : List Fr.Frame} (hb : Below wq.heap.size wq w4) (h3 : Frms w4 A3 f3) (x y : Value) (t : TypeId) : FcY wq w4.heap.size x y A3 f3 (w4.alloc (.cells #[x, y] t)) :=
  ⟨Duo.new w4 x y t, h3.on ((Below.refl _ _).alloc (Nat.le_refl _) _), hb.size, bthen hb ((Below.refl _ _).alloc (Nat.le_refl _) _) (Nat.le_refl _)⟩
theorem FcY.finB {wq w4 : World} {A3 : Option Addr} {f3 : List Fr.Frame} {z1 z2 : Value} (hb : Below wq.heap.size wq w4) (hd : Duo wq.heap.size z1 z2 w4) (h3 : Frms w4 A3 f3) (hn : ∀ a, A3 = some a → a.block ≠ wq.heap.size) (x' y' : Value) : FcY wq wq.heap.size x' y' A3 f3 ((w4.setCell ⟨wq.heap.size, 0, none⟩ x').setCell ⟨wq.heap.size, 1, none⟩ y') :=
  ⟨(hd.set0 _).set1 _, (h3.set hn _).set hn _, Nat.le_refl _, (hb.setCell (Nat.le_refl _) x').setCell (Nat.le_refl _) y'⟩
theorem rtOneR (w : World) (o : Obj) : Below w.heap.size w (w.alloc o) := (Below.refl _ _).alloc (Nat.le_refl _) _
theorem frms_rws {w : World} {A : Option Addr} {l : List Fr.Frame} (h : Frms w A l) : Rws w A (fcs l) := ⟨fun j v hv => by
  have hj : j < l.length * 3 := by
    have := (List.getElem?_eq_some_iff.1 hv).1
    rwa [fcs_len] at this
  have hi : j / 3 < l.length := by omega
  obtain ⟨b, off, hA, hlt, hc⟩ := h.at_ (j / 3) hi
  refine ⟨b, off, hA, hlt, ?_⟩
  have hat := Rw.flat_get frmL 3 (fun _ => rfl) (by omega) l (j / 3) (j % 3) hi (by omega)
  rw [show j / 3 * 3 + j % 3 = j by omega] at hat
  have e : frm l (j / 3) = l[j / 3] := by unfold frm; rw [List.getD_eq_getElem?_getD, List.getElem?_eq_getElem hi]; rfl
  rw [e] at hc
  have hv2 : (l.flatMap frmL)[j]? = some v := hv
  rw [hat] at hv2
  have h3 : j % 3 = 0 ∨ j % 3 = 1 ∨ j % 3 = 2 := by omega
  rcases h3 with h0 | h0 | h0 <;> rw [h0] at hv2 <;> obtain rfl := Option.some.inj hv2
  · have := hc.c0
    rwa [show off + j / 3 * 3 = off + j by omega] at this
  · have := hc.c1
    rwa [show off + j / 3 * 3 + 1 = off + j by omega] at this
  · have := hc.c2
    rwa [show off + j / 3 * 3 + 2 = off + j by omega] at this⟩
/-- a row of one's own, as a row of replies -/
theorem own_rpls {W : World} {B c : Nat} {A : Option Addr} {m : List Rp} (h : W.ownsRow B 30 13 (.slice A m.length c) m.length (rcs m)) (ho : ∀ p ∈ m, ReOk W p.x p.A p.c ∧ Re.Fits p.x ∧ (p.x.code = 0 → p.x.enc.length ≤ 2048)) : Rpls W A m := by
  obtain ⟨A2, c2, e, -, -, hcl⟩ := Rw.own_cells h
  obtain ⟨rfl, -, rfl⟩ := Value.slice.inj e
  refine ⟨fun i hi => ?_, ho⟩
  obtain ⟨g, rfl, hg, hc⟩ := hcl (by omega)
  refine ⟨g, 0, rfl, hg, fun j v hv => ?_⟩
  have hj : j < 13 := by
    have := (List.getElem?_eq_some_iff.1 hv).1
    rwa [reL_len] at this
  rw [Nat.zero_add, hc _ (by omega), rcs_at hi hj]
  exact hv
def RymSt (w : World) (l : List Rp) (g : Nat) (v i : Value) (wr : World) : Prop :=
  ∃ k : Nat, k + g = l.length ∧ i = .int .i64 (k : Int) ∧ (∀ p ∈ l.take k, reLight p.x = true) ∧ wr.ownsRow w.heap.size 30 13 v (mays (l.take k)).length (rcs (mays (l.take k))) ∧ Below w.heap.size w wr
theorem wpList_store_newR {P : Program} {ops : Array Oper} {rest : List Oper} {op : Oper} {a : Act} {w : World} {Q : Exit → Act → World → Prop} (hgd : op.guard = none) (ty : TypeId) (x y : Operand) (ho : op.op = .store ty x y)
    (c c' : Array Value) (hx : a.eval x = .pointer (some ⟨w.heap.size, 0, none⟩)) (hy : a.eval y = .agg c') (hi : (P.info? ty).map (·.size) = some c'.size) (hcc : c.size = c'.size) (h1 : c'.all (·.oneCell') = true)
    (h : wpList P ops Q rest (a.put op.dst undef) (w.alloc (.cells c' ty))) : wpList P ops Q (op :: rest) a (w.alloc (.cells c ty)) :=
  wpList_plain hgd fun _ hK => by
    unfold Oper.wp execOp
    simp only [ho, hx, hy, Sem.run_bind, Sem.run_pure, Result.andThen_ok, run_storeAt_new w ty c c' hi hcc h1]
    exact hK _ _ h
theorem re_sizeS : (Tryz.prog.info? 30).map (·.size) = some 13 := by kernel_rfl
theorem re_allS (y : Re) (A : Option Addr) (c : Nat) : (reL y A c).toArray.all (·.oneCell') = true := by simp [reL, Value.oneCell']
/-- a frame that was written, read -/
theorem reOf_ok {x : Re} (hf : Re.Fits x) (h : x.code = 0) (W : World) (hL : Len W) : Calls Tryz.prog 14 #[.agg #[.int .u8 (x.ch.toNat : Int), .int .u8 ((Re.up x.kd).toNat : Int), .string (ofL x.enc)]] W fun e w' => ∃ A c, e = .returned (.tuple #[.agg (reL x A c).toArray, .int .i64 0]) ∧ Prs w' A x.head ∧ Below W.heap.size W w' := by
  obtain ⟨h1, h2⟩ := re_back hf h
  refine (re_Of_any x.ch (Re.up x.kd) x.enc W hL).mono ?_
  rintro e w' ⟨A, c, rfl, -, hp, hb, -⟩
  rw [h2] at hp
  rw [h1, h2]
  exact ⟨A, c, rfl, hp, hb⟩
set_option maxRecDepth 100000 in
set_option maxHeartbeats 32000000 in
theorem replyBytes_walk (A : Option Addr) (ca : Nat) (l : List Rp) (at' : Nat) (w : World) (hlb : l.length ≤ 9223372036854775807) (_ha : at' < 65536) (hA : RpIn w A l) (hT : Tab w) (hL : Len w) :
    Calls Tryz.prog 3 #[.slice A l.length ca, .int .u16 (at' : Int)] w fun e w' => e = .returned (.bool true) ∧ Below w.heap.size w w' := by
  have HAW := Lib.hid (awake12_any w hT hL)
  have HT0 := Lib.hid hT
  have HL0 := Lib.hid hL
  have HA := Lib.hid hA
  clear hT hL hA
  obtain ⟨i1, hi1, hz0, hz1, hz2⟩ := info_parts infoRe12
  by_cases h6 : 6 < l.length
  · have hd : decide ((l.length : Int) > 6) = true := decide_eq_true (by omega)
    have hdn : decide (6 < l.length) = true := decide_eq_true h6
    go_enter Tryz.func3, Tryz.ntmps3
    go_wp2_with fail
    refine HAW.out.mono ?_
    rintro e w1 ⟨rfl, b1⟩
    have HB1 := Lib.hid b1
    clear b1
    go_wp2_with fail
    go_ret
    exact ⟨rfl, HB1.out⟩
  · have hd : decide ((l.length : Int) > 6) = false := decide_eq_false (by omega)
    have hdn : decide (6 < l.length) = false := decide_eq_false h6
    go_enter Tryz.func3, Tryz.ntmps3
    go_wp2_with fail
    refine HAW.out.mono ?_
    rintro e w1 ⟨rfl, b1⟩
    have HB1 := Lib.hid b1
    clear b1
    go_wp2_with fail
    go_loopg [5, 24] l.length (fun g v i wr => RymSt w l g v i wr)
    case atStart => exact ⟨0, by omega, rfl, (fun p hp => by simp at hp), World.ownsRow_nil _ _ _ _, HB1.out⟩
    case round =>
      obtain ⟨k, hk, rfl, hlk, hO, hb⟩ := hrel
      have HK := Lib.hid hk
      have HB := Lib.hid hb
      have HLK := Lib.hid hlk
      obtain ⟨Aq, cp, rfl, hcp, -, -⟩ := Rw.own_cells hO
      have HO := Lib.hid hO
      have hml : (mays (l.take k)).length ≤ 6 := by have := mays_len (l.take k); rw [List.length_take] at this; omega
      clear hk hb hlk hO
      by_cases hlt : k < l.length
      · obtain ⟨b, off, rfl, hbl, hc⟩ := HA.out.at_ k hlt
        have HIN := Lib.hid (HA.out.in_ l[k] (List.getElem_mem hlt))
        have HMT := Lib.hid (mays_take hlt)
        have HTK := Lib.hid (List.take_succ_eq_append_getElem hlt)
        generalize l[k] = p at *
        obtain ⟨x, Ah, ch⟩ := p
        dsimp only at hc HIN HMT HTK
        have c0 := (HB.out.cell (p := ⟨b, off + k * 13 + 0, none⟩) hbl).trans (hc 0 _ rfl)
        have c1 := (HB.out.cell (p := ⟨b, off + k * 13 + 1, none⟩) hbl).trans (hc 1 _ rfl)
        have c2 := (HB.out.cell (p := ⟨b, off + k * 13 + 2, none⟩) hbl).trans (hc 2 _ rfl)
        have c3 := (HB.out.cell (p := ⟨b, off + k * 13 + 3, none⟩) hbl).trans (hc 3 _ rfl)
        have c4 := (HB.out.cell (p := ⟨b, off + k * 13 + 4, none⟩) hbl).trans (hc 4 _ rfl)
        have c5 := (HB.out.cell (p := ⟨b, off + k * 13 + 5, none⟩) hbl).trans (hc 5 _ rfl)
        have c6 := (HB.out.cell (p := ⟨b, off + k * 13 + 6, none⟩) hbl).trans (hc 6 _ rfl)
        have c7 := (HB.out.cell (p := ⟨b, off + k * 13 + 7, none⟩) hbl).trans (hc 7 _ rfl)
        have c8 := (HB.out.cell (p := ⟨b, off + k * 13 + 8, none⟩) hbl).trans (hc 8 _ rfl)
        have c9 := (HB.out.cell (p := ⟨b, off + k * 13 + 9, none⟩) hbl).trans (hc 9 _ rfl)
        have c10 := (HB.out.cell (p := ⟨b, off + k * 13 + 10, none⟩) hbl).trans (hc 10 _ rfl)
        have c11 := (HB.out.cell (p := ⟨b, off + k * 13 + 11, none⟩) hbl).trans (hc 11 _ rfl)
        have c12 := (HB.out.cell (p := ⟨b, off + k * 13 + 12, none⟩) hbl).trans (hc 12 _ rfl)
        rw [Nat.add_zero] at c0
        have hX := show Below w.heap.size w (wr.alloc (.cells (reL x Ah ch).toArray 30)) from HB.out.alloc HB.out.size _
        have HX := Lib.hid hX
        have HBX := Lib.hid (reBox x Ah ch wr 30)
        have HPR := Lib.hid (HIN.out.row.on hX)
        have HLI := Lib.hid (re_light_any x Ah ch (wr.alloc (.cells (reL x Ah ch).toArray 30)) HIN.out.big (HIN.out.row.on hX))
        have HO1 := Lib.hid (HO.out.alloc (.cells (reL x Ah ch).toArray 30))
        simp only [reV] at HLI
        clear hc hbl hX
        have hk1 : k + 1 ≤ 1000 := by omega
        go_wp2_with fail
        refine HLI.out.mono ?_
        rintro y w2 ⟨rfl, b2⟩
        have HB2 := Lib.hid (bthen HX.out b2 (Nat.le_refl _))
        have HO2 := Lib.hid (Rw.own_on HO1.out b2)
        have lt1 : wr.heap.size < w2.heap.size := by have := b2.size; simp at this; omega
        have HBX2 := Lib.hid (HBX.out.on b2 (by simp))
        clear b2 c0 c1 c2 c3 c4 c5 c6 c7 c8 c9 c10 c11 c12
        cases hlx : reLight x with
        | false =>
          go_wp2_with fail
          go_ret
          exact ⟨rfl, HB2.out⟩
        | true =>
          have HLX := Lib.hid hlx
          have hOK0 := re_light_Ok hlx HIN.out.cap HIN.out.row
          have HOK := Lib.hid (hOK0.on HB2.out)
          have HTO := Lib.hid (re_To_any x Ah ch w2 hOK0.len hOK0.cap (hOK0.on HB2.out).row)
          have d0 := HBX2.out 0 _ rfl
          have d1 := HBX2.out 1 _ rfl
          have d2 := HBX2.out 2 _ rfl
          have d3 := HBX2.out 3 _ rfl
          have d4 := HBX2.out 4 _ rfl
          have d5 := HBX2.out 5 _ rfl
          have d6 := HBX2.out 6 _ rfl
          have d7 := HBX2.out 7 _ rfl
          have d8 := HBX2.out 8 _ rfl
          have d9 := HBX2.out 9 _ rfl
          have d10 := HBX2.out 10 _ rfl
          have d11 := HBX2.out 11 _ rfl
          have d12 := HBX2.out 12 _ rfl
          clear hlx hOK0
          unfold ReToPost at HTO
          simp only [reV] at HTO
          go_wp2_with fail
          refine HTO.out.mono ?_
          rintro y w3 ⟨A', c', rfl, hcc, hps, b3⟩
          have HCK := Lib.hid (r12Check_any x A' c' w3 ⟨HOK.out.name, HOK.out.shop, HOK.out.key, HOK.out.body, HOK.out.len, hcc, HOK.out.lite, hps⟩)
          simp only [reV] at HCK
          have HB3 := Lib.hid (bthen HB2.out b3 (Nat.le_refl _))
          have HO3 := Lib.hid (Rw.own_on HO2.out b3)
          have HBX3 := Lib.hid (HBX2.out.on b3 lt1)
          have lt2 : wr.heap.size < w3.heap.size := by have := b3.size; omega
          clear b3 hcc hps d0 d1 d2 d3 d4 d5 d6 d7 d8 d9 d10 d11 d12
          go_wp2_with fail
          refine HCK.out.mono ?_
          rintro y w4 ⟨rfl, b4⟩
          have HB4 := Lib.hid (bthen HB3.out b4 (Nat.le_refl _))
          have HO4 := Lib.hid (Rw.own_on HO3.out b4)
          have HBX4 := Lib.hid (HBX3.out.on b4 lt2)
          clear b4
          have HLN := Lib.hid (show ∀ p ∈ l.take (k + 1), reLight p.x = true from fun p hp => by
            rw [HTK.out] at hp
            rcases List.mem_append.1 hp with h | h
            · exact HLK.out p h
            · obtain rfl := List.mem_singleton.1 h; exact HLX.out)
          by_cases h0 : x.code = 0
          · have hc0 : ((x.code : Int) == 0) = true := by rw [h0]; rfl
            have hm1 : mays (l.take (k + 1)) = mays (l.take k) ++ [⟨x, Ah, ch⟩] := by rw [HMT.out, if_pos h0]
            have HM1 := Lib.hid hm1
            have d0 := HBX4.out 0 _ rfl
            have d1 := HBX4.out 1 _ rfl
            have d2 := HBX4.out 2 _ rfl
            have d3 := HBX4.out 3 _ rfl
            have d4 := HBX4.out 4 _ rfl
            have d5 := HBX4.out 5 _ rfl
            have d6 := HBX4.out 6 _ rfl
            have d7 := HBX4.out 7 _ rfl
            have d8 := HBX4.out 8 _ rfl
            have d9 := HBX4.out 9 _ rfl
            have d10 := HBX4.out 10 _ rfl
            have d11 := HBX4.out 11 _ rfl
            have d12 := HBX4.out 12 _ rfl
            have HBA := Lib.hid (HB4.out.alloc HB4.out.size (.cells (reL x Ah ch).toArray 30))
            clear hm1
            generalize mays (l.take k) = m at *
            go_wp2_with (first
              | (at_builtin; refine wpList_append_lies _ rfl _ _ 22 rfl w.heap.size 30 i1 _ 13 144 Tryz.underlying22 hi1 hz0 hz1 hz2 rfl (by omega) (.slice Aq m.length cp) m.length (rcs m) (by rfl) (HO4.out.alloc _) ⟨w4.heap.size, 0, none⟩ 1 1 (reL x Ah ch) (by rfl) (by rfl) (World.news_of_block (heap_alloc_new w4 _)) (by simp [Value.oneCell', reL]) (by omega) (by unfold maxLen; omega) (by omega) HBA.out.size _ rfl ?_; intro gg cap w5 hown1 hgrow hat hlt'; have HW := Lib.hid hown1; have HG := Lib.hid hgrow; clear hown1 hgrow hat hlt'))
            have HB5 := Lib.hid (HBA.out.grown HG.out HBA.out.size (fun q hq => (HO4.out.lt q hq).1))
            go_roundg (gk - 1)
            case rel => exact ⟨k + 1, by have := HK.out; omega, by go_num, HLN.out, by rw [HM1.out, List.length_append, show rcs (m ++ [⟨x, Ah, ch⟩]) = rcs m ++ reL x Ah ch by simp [rcs]]; exact HW.out, HB5.out⟩
            case measure => have := HK.out; omega
          · have hc0 : ((x.code : Int) == 0) = false := by rw [beq_eq_false_iff_ne]; omega
            have HM1 := Lib.hid (show mays (l.take (k + 1)) = mays (l.take k) by rw [HMT.out, if_neg h0, List.append_nil])
            go_wp2_with fail
            go_roundg (gk - 1)
            case rel => exact ⟨k + 1, by have := HK.out; omega, by go_num, HLN.out, by rw [HM1.out]; exact HO4.out, HB4.out⟩
            case measure => have := HK.out; omega
      · have hkl : k = l.length := by have := HK.out; omega
        subst hkl
        rw [List.take_length] at HO HLK hml
        have HRP := Lib.hid (HA.out.rpls HLK.out)
        have HRP1 := Lib.hid (HRP.out.on HB.out)
        have hl1 : l.length ≤ 1000 := by omega
        have HBY := Lib.hid (reBytes_any A ca l wr hl1 HRP1.out (HT0.out.below HB.out HT0.out.pos) (HL0.out.on HB.out))
        have hbl := rBytes_le (l := l) fun p hp => (HRP.out.ok p hp).2.2
        have hbl2 : (rBytes l).length ≤ 18000 := by have : l.length * 3000 ≤ 6 * 3000 := Nat.mul_le_mul_right _ (by omega); omega
        have hfe := rBytes_feed l
        have HRB := Lib.hid (fun m h => rBytes_of (l := m) (m := l) h)
        have hzs : (ofL (rBytes l)).size = (rBytes l).length := ofL_size _
        generalize hS : rBytes l = s at *
        clear hS
        obtain ⟨K, hK, hKl⟩ : ∃ K : Nat, (at' : Int) % ((s.length : Int) + 1) = (K : Int) ∧ K < s.length + 1 := ⟨at' % (s.length + 1), by rw [Int.natCast_emod, Int.natCast_add]; rfl, Nat.mod_lt _ (by omega)⟩
        have s1 := fun W => slice_to_l (P := Tryz.prog) Tryz.underlying9 s .i64 (K : Int) K rfl (by omega) W
        have s2 := fun W => slice_from_l (P := Tryz.prog) Tryz.underlying9 s .i64 (K : Int) K rfl (by omega) W
        have T2 := Lib.hid (fun W h => takeOwn_ok [] (s.take K) W (by simp; omega) h)
        have hrl := Fr.feed_rest_le (s.take K)
        have hrl2 : (s.take K).length ≤ 18000 := by rw [List.length_take]; omega
        have hdl2 : (s.drop K).length ≤ 18000 := by rw [List.length_drop]; omega
        have T3 := Lib.hid (fun W h => take_any (Fr.feed (s.take K)).2.1 (s.drop K) (Fr.feed (s.take K)).2.2 W (by omega) h)
        have hTF := Fr.take_feed (s.take K) (s.drop K)
        rw [List.take_append_drop, hfe] at hTF
        rw [List.nil_append, show ofL [] = ⟨#[]⟩ from rfl] at T2
        have hz1 : (ofL (s.take K)).size ≤ 18000 := by rw [ofL_size]; exact hrl2
        have hz2 : (ofL (s.drop K)).size ≤ 18000 := by rw [ofL_size]; exact hdl2
        clear hrl hrl2 hdl2 hbl hfe
        generalize hTT : Fr.take (Fr.feed (s.take K)).2.1 (Fr.feed (s.take K)).2.2 (s.drop K) = T at *
        clear hTT
        generalize Fr.feed (s.take K) = FS at *
        generalize s.take K = sa at *
        generalize s.drop K = sb at *
        obtain ⟨f2, r2, e2⟩ := FS
        obtain ⟨f3, r, e⟩ := T
        simp only [Prod.mk.injEq] at hTF
        obtain ⟨hff, rfl, rfl⟩ := hTF
        simp only at T2 T3
        go_wp2_with fail
        refine HBY.out.mono ?_
        rintro y w1b ⟨rfl, b1⟩
        have HB1b := Lib.hid (bthen HB.out b1 (Nat.le_refl _))
        have HO1 := Lib.hid (Rw.own_on HO.out b1)
        have HRP2 := Lib.hid (HRP1.out.on b1)
        clear b1
        have HALL := Lib.hid (all12_any A ca l w1b hl1 HRP2.out)
        go_wp2_with fail
        refine HALL.out.mono ?_
        rintro y w2 ⟨⟨A2, c2, m2, rfl, hm2l, hm2x, hm2⟩, b2⟩
        have HB2 := Lib.hid (bthen HB1b.out b2 (Nat.le_refl _))
        have HO2 := Lib.hid (Rw.own_on HO1.out b2)
        have HR12 := Lib.hid (r12Bytes_any A2 c2 m2 w2 (by omega) hm2)
        rw [hm2l, HRB.out m2 hm2x] at HR12
        clear b2 hm2l hm2x hm2
        go_wp2_with fail
        refine HR12.out.mono ?_
        rintro y w3 ⟨rfl, b3⟩
        have HB3 := Lib.hid (bthen HB2.out b3 (Nat.le_refl _))
        have HO3 := Lib.hid (Rw.own_on HO2.out b3)
        clear b3
        have hss : ((ofL s).toList == (ofL s).toList) = true := by rw [str_same]; exact beq_self_eq_true s
        have hsn : ((ofL s).toList != (ofL s).toList) = false := by rw [bne, hss]; rfl
        go_wp2_with fail
        have hm0 : Rpls w3 Aq (mays l) := own_rpls HO3.out (fun p hp => by
          obtain ⟨h1, h2, h3⟩ := HRP.out.ok p (mays_mem hp).1
          exact ⟨h1.on HB3.out, h2, h3⟩)
        have HMY := Lib.hid hm0
        have HT3 := Lib.hid (HT0.out.below HB3.out HT0.out.pos)
        have HL3 := Lib.hid (HL0.out.on HB3.out)
        clear hm0 HR12 HALL HBY HO HO1 HO2 HO3 hcp
        refine (T2.out _ HT3.out).mono ?_
        rintro y w4 ⟨A4, c4, rfl, hO4, b4, hs4⟩
        simp only [TakeV]
        have HOA := Lib.hid (hO4.alloc (.cells #[.string (ofL r2), .int .i64 (e2 : Int)] 41))
        have HBQ := Lib.hid (b4.alloc b4.size (.cells #[.string (ofL r2), .int .i64 (e2 : Int)] 41))
        have HTQ := Lib.hid ((HT3.out.below b4 HT3.out.pos).alloc (.cells #[.string (ofL r2), .int .i64 (e2 : Int)] 41))
        have DQ := Lib.hid (Duo.new w4 (.string (ofL r2)) (.int .i64 (e2 : Int)) 41)
        clear hO4 b4
        go_upto_region 19 with fail
        generalize hwq : w4.alloc (.cells #[.string (ofL r2), .int .i64 (e2 : Int)] 41) = wq at *
        have HF4 := Lib.hid (show w4.heap.size < wq.heap.size from DQ.out.lt)
        have HS4 := Lib.hid (show w3.heap.size + 1 + 1 ≤ wq.heap.size by have := HF4.out; omega)
        clear hs4
        clear hwq
        generalize w4.heap.size = F2 at *
        go_cut [9, 12, 13] (fun s9 s12 s13 wx => ∃ F3 A3 c3, s9 = .int .i64 (K : Int) ∧ s12 = .pointer (some ⟨F3, 0, none⟩) ∧ s13 = .slice A3 f3.length c3 ∧ FcY wq F3 (.string ⟨#[]⟩) (.int .i64 0) A3 f3 wx)
        case first =>
          have hlt := DQ.out.lt
          have q0 := DQ.out.c0
          have q1 := DQ.out.c1
          have HTd := Lib.hid (show Tab wq.drew from fun i hi => (HTQ.out i hi : wq.drew.cell? _ = _))
          have hTe := HTQ.out.alloc (.cells #[.string ⟨#[]⟩, .int .i64 0] 41)
          have HTe := Lib.hid (show Tab (wq.alloc (.cells #[.string ⟨#[]⟩, .int .i64 0] 41)).drew from fun i hi => (hTe i hi : (wq.alloc (.cells #[.string ⟨#[]⟩, .int .i64 0] 41)).drew.cell? _ = _))
          have HZ := Lib.hid ((Duo.new wq (.string ⟨#[]⟩) (.int .i64 0) 41).drew)
          have HC := Lib.hid (fun W h => (T3.out W h).mono (R' := fun e' w' => ∃ A c, e' = .returned (.tuple #[.agg #[.string ⟨#[]⟩, .int .i64 0], .slice A f3.length c]) ∧ Frms w' A f3 ∧ (∀ a, A = some a → W.heap.size ≤ a.block) ∧ Below W.heap.size W w') (fun e' w' ⟨A, c, he, _, hn, hF, hb, b⟩ => ⟨A, c, he, hF, hb, b⟩))
          clear hTe
          go_region_with (first
            | (go_at_call 11; refine (HC.out wq.drew HTd.out).mono ?_; rintro e' w5 ⟨A3, c3, rfl, hF3, -, b5⟩; have HIn := Lib.hid (fun x' y' t => FcY.finA (wq := wq) (((Below.refl _ _).drew).trans b5) hF3 x' y' t); clear hF3 b5)
            | (go_at_call 11; refine (HC.out (wq.alloc (.cells #[.string ⟨#[]⟩, .int .i64 0] 41)).drew HTe.out).mono ?_; rintro e' w5 ⟨A3, c3, rfl, hF3, hb3, b5⟩; have hd4 := HZ.out.on b5 HZ.out.lt; have p0 := hd4.c0; have p1 := hd4.c1; have p2 := hd4.fz 0; have p3 := hd4.fz 1; have p4 := hd4.lt; have HIn := Lib.hid (fun x' y' => FcY.finB (wq := wq) ((((Below.refl _ _).alloc (Nat.le_refl _) (.cells #[.string ⟨#[]⟩, .int .i64 0] 41)).drew).trans (b5.mono (by simp))) hd4 hF3 (fun a ha => by have := hb3 a ha; simp at this; omega) x' y'); clear hF3 hb3 hd4 b5))
          all_goals
            go_wp2_with fail
            go_meet
            first
              | exact ⟨_, A3, c3, rfl, rfl, rfl, HIn.out _ _ _⟩
              | exact ⟨_, A3, c3, rfl, rfl, rfl, HIn.out _ _⟩
        case rest =>
          obtain ⟨F3, A3, c3, rfl, rfl, rfl, hX⟩ := hcut
          have HX0 := Lib.hid hX
          clear hX
          clear T2 T3 s1 s2 HAW HT0 HTQ DQ
          have HBX := Lib.hid (bthen HBQ.out HX0.out.below (Nat.le_refl _))
          have hox := Rw.own_on HOA.out HX0.out.below
          have hrf := frms_rws HX0.out.a3
          have hrl := refs_len l
          have hnn : f2.length + f3.length = (mays l).length := by rw [← hrl, hff, List.length_append]
          have hsx := HX0.out.below.size
          have hsq := HS4.out
          obtain ⟨iD, hiD, hzD, hsD, hbD⟩ := info_parts infoF
          obtain ⟨v10, w10, hr10, ho10, hg10, -⟩ := appAny_run (P := Tryz.prog) 42 50 iD _ 3 24 Tryz.underlying42 hiD hzD hsD hbD (by rfl) (by decide) (by decide) hox (A := A3) (n := f3.length) (c := c3) hrf (fcs_len f3) (fcs_one f3) (by (try dsimp only); omega) (by omega)
          have HB10 := Lib.hid (HBX.out.grown hg10 HBX.out.size (fun q hq => by have := (hox.lt q hq).1; omega))
          have HD10 := Lib.hid (HX0.out.d3.kept hg10 (fun e => by have := (HOA.out.lt _ e.symm).2; have := HX0.out.ge; omega))
          rw [← fcs_app, ← List.length_append, ← hff] at ho10
          obtain ⟨A10, c10, rfl, -, -, hF10⟩ := rown_frms ho10
          rw [hrl] at hr10
          have HF10 := Lib.hid hF10
          have HR10 := Lib.hid hr10
          have HMY10 := Lib.hid (HMY.out.on HB10.out)
          clear hox hrf hnn hsx hsq hiD hzD hsD hbD hr10 ho10 hg10 hF10 hff
          have HTT := Lib.hid (show Below w.heap.size w w10 from bthen HB3.out HB10.out (Nat.le_refl _))
          clear HX0 HOA HBQ HBX HMY HF4 HS4
          have hq0 := HD10.out.c0
          have hq1 := HD10.out.c1
          go_wp2_with (first
            | (at_builtin; refine wpList_append_run (by rfl) _ _ 42 (by rfl) _ _ (by rfl) (by rfl) HR10.out ?_))
          refine (frest_any _ _ _).mono ?_
          rintro e11 w11 ⟨rfl, b11⟩
          have HD11 := Lib.hid (HD10.out.on b11 HD10.out.lt)
          have HT11 := Lib.hid b11
          have hq2 := HD11.out.c0
          have hq3 := HD11.out.c1
          clear b11
          go_wp2_with fail
          refine (ferr_any _ _ _).mono ?_
          rintro e12 w12 ⟨rfl, b12⟩
          have HB12 := Lib.hid (bthen HT11.out b12 (Nat.le_refl _))
          clear b12
          go_wp2_with fail
          have HL12 := Lib.hid (HL0.out.on (bthen HTT.out HB12.out (Nat.le_refl _)))
          have HF12 := Lib.hid (HF10.out.on HB12.out)
          have HM12 := Lib.hid (HMY10.out.on HB12.out)
          have HEND := Lib.hid (bthen HTT.out HB12.out (Nat.le_refl _))
          obtain ⟨N, hN⟩ : ∃ N, N = (mays l).length := ⟨_, rfl⟩
          have HNN := Lib.hid hN
          rw [← hN] at hrl hml
          have HRL := Lib.hid hrl
          try rw [← hN]
          clear HB12 HF10 HMY10 HT11 HD10 HD11 HB10 HTT hq0 hq1 hq2 hq3 hN hrl
          have HS0 := Lib.hid (show (fun (g : Nat) (i : Value) (wr : World) => ∃ k : Nat, k + g = N ∧ i = .int .i64 (k : Int) ∧ Below w12.heap.size w12 wr) N (.int .i64 ((0 : Nat) : Int)) w12 from ⟨0, by omega, rfl, Below.refl _ _⟩)
          go_loopg [14, 89] N (fun g _ i wr => ∃ k : Nat, k + g = N ∧ i = .int .i64 (k : Int) ∧ Below w12.heap.size w12 wr)
          case atStart => exact HS0.out
          case round =>
            obtain ⟨k, hk, rfl, hBW⟩ := hrel
            have HK := Lib.hid hk
            have HBW := Lib.hid hBW
            clear hk hBW HS0
            by_cases hlt : k < N
            · have hki : (k : Int) < (N : Int) := by omega
              have hkm : k < (mays l).length := by rw [← HNN.out]; exact hlt
              have hkr : k < (refs l).length := by rw [HRL.out]; exact hlt
              obtain ⟨b1, o1, rfl, hb1, hfc⟩ := (HF12.out.on HBW.out).at_ k hkr
              obtain ⟨b0, o0, rfl, hb0, hat0⟩ := (HM12.out.on HBW.out).at_ k hkm
              obtain ⟨hok, hfi, -⟩ := (HM12.out.on HBW.out).ok _ (List.getElem_mem hkm)
              have hcd := (mays_mem (List.getElem_mem hkm)).2
              have hfr : frm (refs l) k = ⟨(mays l)[k].x.ch, Re.up (mays l)[k].x.kd, (mays l)[k].x.enc⟩ := by
                unfold frm
                rw [List.getD_eq_getElem?_getD, List.getElem?_eq_getElem hkr]
                simp [refs]
              rw [hfr] at hfc
              clear hfr
              generalize (mays l)[k] = p at *
              obtain ⟨x, Ax, cx⟩ := p
              dsimp only at hfc hat0 hok hfi hcd
              have HAT0 := Lib.hid (show wr.rangeAt b0 (o0 + k * 13) (reL x Ax cx) from hat0)
              have f0 := hfc.c0
              have f1 := hfc.c1
              have f2c := hfc.c2
              have HOF := Lib.hid (reOf_ok hfi hcd wr (HL12.out.on HBW.out))
              have HOKL := Lib.hid hok.len
              have HPZ0 := Lib.hid hok.row
              have HB0L0 := Lib.hid hb0
              clear hfc hat0 hok hfi hcd
              go_wp2_with fail
              refine HOF.out.mono ?_
              rintro y w8 ⟨A1, c1, rfl, hp8, hb8⟩
              have HX9 := Lib.hid (rtOneR w8 (.cells (reL x A1 c1).toArray 30))
              have HB89 := Lib.hid (bthen hb8 HX9.out (Nat.le_refl _))
              have HPX := Lib.hid (hp8.on HX9.out)
              have HPZ := Lib.hid (HPZ0.out.on HB89.out)
              have hne9 := BoxC.new (w := w8) (W := w8) (Nat.le_refl _) (reL x A1 c1).toArray 30
              have HG9 := Lib.hid hne9.lt
              have HE9 := Lib.hid (show (w8.alloc (.cells (reL x A1 c1).toArray 30)).rangeAt w8.heap.size 0 (reL x A1 c1) from fun j v hj => by rw [Nat.zero_add]; exact hne9.cs j v hj)
              have HY9 := Lib.hid (show (w8.alloc (.cells (reL x A1 c1).toArray 30)).rangeAt b0 (o0 + k * 13) (reL x Ax cx) from fun j v hj => (HB89.out.cell (p := ⟨b0, o0 + k * 13 + j, none⟩) HB0L0.out).trans (HAT0.out j v hj))
              have HB0L := Lib.hid (Nat.lt_of_lt_of_le HB0L0.out HB89.out.size)
              have HBW9 := Lib.hid (bthen HBW.out HB89.out (Nat.le_refl _))
              have hHSM := fun W h1 h2 => re_Same_any x x A1 c1 Ax cx W HOKL.out HOKL.out h1 h2
              rw [reEq_self] at hHSM
              have HSM := Lib.hid (show ∀ W, Prs W A1 x.head → Prs W Ax x.head → Calls Tryz.prog 15 #[.agg (reL x A1 c1).toArray, .agg (reL x Ax cx).toArray] W fun e w' => e = .returned (.bool true) ∧ Below W.heap.size W w' from hHSM)
              clear hp8 hb8 hne9 hHSM f0 f1 f2c
              go_upto_region 27 with (first
                | (refine wpList_store_newR (by rfl) 30 _ _ (by rfl) _ (reL x A1 c1).toArray (by rfl) (by rfl) (by rw [re_sizeS]; rfl) (by rfl) (re_allS _ _ _) ?_))
              clear HX9 HB89
              generalize hg9 : w8.heap.size = g9 at *
              try rw [hg9]
              generalize w8.alloc (.cells (reL x A1 c1).toArray 30) = w9 at *
              refine wp_region_held_drew (S := fun a => Below (w9.heap.size) w9 a) (by kernel_rfl) (by (try dsimp only); exact (Below.refl _ _).drew) (fun hHeld => ?_)
              refine wpAnyH_take (i := 0) (oi := ⟨some 100, .move (.tmp 16), 39, "law.go:114", #[], none⟩) (v := ?_) rfl (by kernel_rfl) (by kernel_rfl) (by kernel_rfl) (fun _ _ _ h => h) (Or.inl ⟨by rfl, ?_⟩) (by assumption) ?_
              rotate_left 1
              · intro wS hSw; (try dsimp only at hSw); go_simp; try with_reducible rfl
              try simp only [Act.put, qrb49a, qrb49b, qrb49c]
              refine wpAnyH_take (i := 1) (oi := ⟨some 101, .binOp .neq 39 (.tmp 100) (.const (.int .i64 0)) 39, 4, "law.go:114", #[⟨0, .data⟩], none⟩) (v := ?_) rfl (by kernel_rfl) (by kernel_rfl) (by kernel_rfl) (fun _ _ _ h => h) (Or.inl ⟨by rfl, ?_⟩) (by assumption) ?_
              rotate_left 1
              · intro wS hSw; (try dsimp only at hSw); go_simp; try with_reducible rfl
              try simp only [Act.put, qrb49a, qrb49b, qrb49c]
              refine wpAnyH_take (i := 2) (oi := ⟨some 102, .move (.tmp 101), 4, "law.go:114", #[⟨1, .data⟩], none⟩) (v := ?_) rfl (by kernel_rfl) (by kernel_rfl) (by kernel_rfl) (fun _ _ _ h => h) (Or.inl ⟨by rfl, ?_⟩) (by assumption) ?_
              rotate_left 1
              · intro wS hSw; (try dsimp only at hSw); go_simp; try with_reducible rfl
              try simp only [Act.put, qrb49a, qrb49b, qrb49c]
              refine wpAnyH_take (i := 3) (oi := ⟨some 103, .load 30 (.tmp 15), 30, "law.go:114", #[⟨2, .guard⟩], some (2, false)⟩) (v := .agg (reL x A1 c1).toArray) rfl (by kernel_rfl) (by kernel_rfl) (by kernel_rfl) (fun _ _ _ h => h) (yieldsIf_load_mid (by rfl) 30 _ (by rfl) g9 (0) (by rfl) (reL x A1 c1) _ (fun W9 h9 j v hj => (h9.cell (p := ⟨g9, 0 + j, none⟩) HG9.out).trans (HE9.out j v hj)) Tryz.underlying30 rfl (by rw [re_sizeS]; rfl)) (by assumption) ?_
              try simp only [Act.put, qrb49a, qrb49b, qrb49c]
              refine wpAnyH_take (i := 4) (oi := ⟨some 104, .move (.tmp 5), 22, "law.go:114", #[⟨2, .guard⟩], some (2, false)⟩) (v := ?_) rfl (by kernel_rfl) (by kernel_rfl) (by kernel_rfl) (fun _ _ _ h => h) (Or.inl ⟨by rfl, ?_⟩) (by assumption) ?_
              rotate_left 1
              · intro wS hSw; (try dsimp only at hSw); go_simp; try with_reducible rfl
              try simp only [Act.put, qrb49a, qrb49b, qrb49c]
              refine wpAnyH_take (i := 5) (oi := ⟨some 105, .move (.tmp 14), 3, "law.go:114", #[⟨2, .guard⟩], some (2, false)⟩) (v := ?_) rfl (by kernel_rfl) (by kernel_rfl) (by kernel_rfl) (fun _ _ _ h => h) (Or.inl ⟨by rfl, ?_⟩) (by assumption) ?_
              rotate_left 1
              · intro wS hSw; (try dsimp only at hSw); go_simp; try with_reducible rfl
              try simp only [Act.put, qrb49a, qrb49b, qrb49c]
              refine wpAnyH_take (i := 6) (oi := ⟨some 106, .indexAddr 22 (.tmp 104) (.tmp 105), 0, "law.go:114", #[⟨4, .data⟩, ⟨5, .data⟩, ⟨2, .guard⟩], some (2, false)⟩) (v := ?_) rfl (by kernel_rfl) (by kernel_rfl) (by kernel_rfl) (fun _ _ _ h => h) (Or.inl ⟨by rfl, ?_⟩) (by assumption) ?_
              rotate_left 1
              · intro wS hSw; (try dsimp only at hSw); go_simp; try with_reducible rfl
              try simp only [Act.put, qrb49a, qrb49b, qrb49c]
              refine wpAnyH_take (i := 7) (oi := ⟨some 107, .load 30 (.tmp 106), 30, "law.go:114", #[⟨6, .data⟩, ⟨2, .guard⟩], some (2, false)⟩) (v := .agg (reL x Ax cx).toArray) rfl (by kernel_rfl) (by kernel_rfl) (by kernel_rfl) (fun _ _ _ h => h) (yieldsIf_load_mid (by rfl) 30 _ (by rfl) b0 (o0 + k * 13) (by rfl) (reL x Ax cx) _ (fun W9 h9 j v hj => (h9.cell (p := ⟨b0, o0 + k * 13 + j, none⟩) HB0L.out).trans (HY9.out j v hj)) Tryz.underlying30 rfl (by rw [re_sizeS]; rfl)) (by assumption) ?_
              try simp only [Act.put, qrb49a, qrb49b, qrb49c]
              refine wpAnyH_ready (rs := [8]) (by kernel_rfl) (by simp) ?_
              refine AllReadyH.cons (o := ⟨some 108, .call { callee := .value (.func 15), args := #[.tmp 103, .tmp 107], argTypes := #[30, 30] }, 4, "law.go:114", #[⟨3, .data⟩, ⟨7, .data⟩, ⟨2, .chain⟩, ⟨2, .guard⟩], some (2, false)⟩) rfl (fun K hK => ?_) (AllReadyH.nil)
              go_simp
              go_at_call 15
              refine (HSM.out _ (HPX.out.on hHeld) (HPZ.out.on hHeld)).mono ?_
              rintro e wx ⟨rfl, hb2⟩
              refine hK.out _ _ (bthen hHeld hb2 (Nat.le_refl _)) (fun hHeld2 => ?_)
              clear hK K hHeld hb2
              have hHeld := hHeld2
              clear hHeld2
              try simp only [Act.put, qrb49a, qrb49b, qrb49c]
              refine wpAnyH_take (i := 9) (oi := ⟨some 109, .unOp .not 4 (.tmp 108), 4, "law.go:114", #[⟨8, .data⟩, ⟨2, .guard⟩], some (2, false)⟩) (v := ?_) rfl (by kernel_rfl) (by kernel_rfl) (by kernel_rfl) (fun _ _ _ h => h) (Or.inl ⟨by rfl, ?_⟩) (by assumption) ?_
              rotate_left 1
              · intro wS hSw; (try dsimp only at hSw); go_simp; try with_reducible rfl
              try simp only [Act.put, qrb49a, qrb49b, qrb49c]
              refine wpAnyH_take (i := 10) (oi := ⟨some 110, .pick (.tmp 102) (.const (.bool true)) (.tmp 109), 4, "law.go:114", #[⟨2, .data⟩, ⟨9, .data⟩], none⟩) (v := ?_) rfl (by kernel_rfl) (by kernel_rfl) (by kernel_rfl) (fun _ _ _ h => h) (Or.inl ⟨by rfl, ?_⟩) (by assumption) ?_
              rotate_left 1
              · intro wS hSw; (try dsimp only at hSw); go_simp; try with_reducible rfl
              try simp only [Act.put]
              refine wpAnyH_done (by kernel_rfl) ?_ _
              have hZ := hHeld
              clear hHeld
              have HBW10 := Lib.hid (bthen HBW9.out hZ (Nat.le_refl _))
              clear hZ
              go_wp2_with fail
              go_roundg (gk - 1)
              case rel => exact ⟨k + 1, by have := HK.out; omega, by go_num, HBW10.out⟩
              case measure => have := HK.out; omega
            · have hkn : k = N := by have := HK.out; omega
              subst hkn
              go_wp2_with fail
              go_ret
              exact ⟨rfl, bthen HEND.out HBW.out (Nat.le_refl _)⟩
end Go.Proofs.YtnjlhafhgfpfiaaGreatDoor
end
