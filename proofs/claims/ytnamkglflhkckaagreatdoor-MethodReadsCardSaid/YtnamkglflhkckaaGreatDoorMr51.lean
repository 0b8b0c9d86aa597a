/-
  THE LAW MethodReads, walked: the method of any frame, or why it is none; what is read would be written so. WHAT COMES IN, opened: numbers and bytes. What all rows ask of the program alike. A FRAME that comes in, opened. THE SUM's TABLE, as a listed variable: what the rows say of it; a world for the witness.
-/
import Derived.Test.YtnamkglflhkckaaGreatDoorMr03
import Derived.Test.YtnamkglflhkckaaGreatDoorMr45
import Derived.Test.YtnamkglflhkckaaGreatDoorMr49
import Derived.Test.YtnamkglflhkckaaGreatDoorMr50
import Derived.Deep.RegionHeld3
import Derived.Deep.DeepCutAuto
import Derived.Test.YtnamkglflhkckaaGreatDoorRows
import Derived.WalkKit
import Derived.ProofKit
import Derived.OpenShut
import Derived.Deep.DeepHandedRow
import Derived.Laws.IdiomArrays
import Derived.Lib.SmallJoins
section
namespace Go.Proofs.YtnamkglflhkckaaGreatDoor
open Go.ChangeShapes Go.WideShapes Go.ChangeAt Go.RowKit
theorem me_got_low (c k : UInt8) (body : List UInt8) : MeLow (Me.got c k body) := by
  unfold Me.got
  split
  · exact me_rdl_low _ _ (me_zero_low c _)
  · exact me_zero_low 0 0
theorem me_got_ok {c k : UInt8} {body : List UInt8} (h : Me.rcode c k body = 0) : (Me.got c k body).ch = c ∧ (Me.got c k body).kd = k ∧ (Me.got c k body).enc = body ∧ (Me.got c k body).code = 0 ∧ Me.Fits (Me.got c k body) := by
  have hg : Me.got c k body = (Me.rd c k body).1 := by unfold Me.got; rw [if_pos h]
  unfold Me.rcode at h
  by_cases hk : 20 < k.toNat
  · rw [if_pos hk] at h; exact absurd h (by decide)
  · rw [if_neg hk] at h
    unfold Me.tail at h
    by_cases he : lEnd (Me.rd c k body).2 = 0
    · rw [if_neg (by rw [he]; decide)] at h
      obtain ⟨h1, h2⟩ := Me.rd_kd c k body
      rw [hg]
      refine ⟨h1, h2, Me.enc_rd he, by omega, Me.rd_fits _ _ _⟩
    · rw [if_pos he] at h; exact absurd h he
/-- the law's boxes: the frame, the program's method, the document's -/
structure MrC (w : World) (c k : UInt8) (body : List UInt8) (y : Me) (A1 : Option Addr) (q1 g1 : Nat) (A2 : Option Addr) (q2 g2 : Nat) (W : World) : Prop where
  f : BoxC w w.heap.size [.int .u8 (c.toNat : Int), .int .u8 (k.toNat : Int), .string (ofL body)] W
  a : BoxC w g1 (meL y A1 q1) W
  b : BoxC w g2 (meL y A2 q2) W
  ra : Prs W A1 y.head
  rb : Prs W A2 y.head
  B : Below w.heap.size w W
theorem MrC.on {w : World} {c k : UInt8} {body : List UInt8} {y : Me} {A1 : Option Addr} {q1 g1 : Nat} {A2 : Option Addr} {q2 g2 : Nat} {W W' : World} (h : MrC w c k body y A1 q1 g1 A2 q2 g2 W) (hb : Below W.heap.size W W') : MrC w c k body y A1 q1 g1 A2 q2 g2 W' :=
  ⟨h.f.on hb, h.a.on hb, h.b.on hb, h.ra.on hb, h.rb.on hb, bthen h.B hb (Nat.le_refl _)⟩
abbrev MrS (w : World) (c k : UInt8) (body : List UInt8) (y : Me) (A1 : Option Addr) (q1 g1 : Nat) (A2 : Option Addr) (q2 g2 : Nat) (W : World) : Prop :=
  ((W.cell? ⟨g1, 0, none⟩ = some (.int .u8 (y.ch.toNat : Int)) ∧ W.cell? ⟨g1, 1, none⟩ = some (.int .u8 (y.kd.toNat : Int)) ∧ W.cell? ⟨g1, 2, none⟩ = some (.string (ofL y.name)) ∧ W.cell? ⟨g1, 3, none⟩ = some (.string (ofL y.other)) ∧ W.cell? ⟨g1, 4, none⟩ = some (.string (ofL y.key)) ∧ W.cell? ⟨g1, 5, none⟩ = some (.slice A1 y.head.length q1) ∧ W.cell? ⟨g1, 6, none⟩ = some (.string (ofL y.body)) ∧ W.cell? ⟨g1, 7, none⟩ = some (.int .u64 (y.n : Int)) ∧ W.cell? ⟨g1, 8, none⟩ = some (.int .u64 (y.m : Int)) ∧ W.cell? ⟨g1, 9, none⟩ = some (.bool y.yes)) ∧ g1 < W.heap.size ∧ (W.cell? ⟨g2, 0, none⟩ = some (.int .u8 (y.ch.toNat : Int)) ∧ W.cell? ⟨g2, 1, none⟩ = some (.int .u8 (y.kd.toNat : Int)) ∧ W.cell? ⟨g2, 2, none⟩ = some (.string (ofL y.name)) ∧ W.cell? ⟨g2, 3, none⟩ = some (.string (ofL y.other)) ∧ W.cell? ⟨g2, 4, none⟩ = some (.string (ofL y.key)) ∧ W.cell? ⟨g2, 5, none⟩ = some (.slice A2 y.head.length q2) ∧ W.cell? ⟨g2, 6, none⟩ = some (.string (ofL y.body)) ∧ W.cell? ⟨g2, 7, none⟩ = some (.int .u64 (y.n : Int)) ∧ W.cell? ⟨g2, 8, none⟩ = some (.int .u64 (y.m : Int)) ∧ W.cell? ⟨g2, 9, none⟩ = some (.bool y.yes)) ∧ g2 < W.heap.size) ∧ MrC w c k body y A1 q1 g1 A2 q2 g2 W
theorem MrC.s {w : World} {c k : UInt8} {body : List UInt8} {y : Me} {A1 : Option Addr} {q1 g1 : Nat} {A2 : Option Addr} {q2 g2 : Nat} {W : World} (h : MrC w c k body y A1 q1 g1 A2 q2 g2 W) : MrS w c k body y A1 q1 g1 A2 q2 g2 W :=
  ⟨⟨⟨h.a.cs 0 _ rfl, h.a.cs 1 _ rfl, h.a.cs 2 _ rfl, h.a.cs 3 _ rfl, h.a.cs 4 _ rfl, h.a.cs 5 _ rfl, h.a.cs 6 _ rfl, h.a.cs 7 _ rfl, h.a.cs 8 _ rfl, h.a.cs 9 _ rfl⟩, h.a.lt, ⟨h.b.cs 0 _ rfl, h.b.cs 1 _ rfl, h.b.cs 2 _ rfl, h.b.cs 3 _ rfl, h.b.cs 4 _ rfl, h.b.cs 5 _ rfl, h.b.cs 6 _ rfl, h.b.cs 7 _ rfl, h.b.cs 8 _ rfl, h.b.cs 9 _ rfl⟩, h.b.lt⟩, h⟩
theorem MrC.start {w W1 W2 : World} {c k : UInt8} {body : List UInt8} {y : Me} {A1 : Option Addr} {q1 : Nat} {A2 : Option Addr} {q2 : Nat} (hf : BoxC w w.heap.size [.int .u8 (c.toNat : Int), .int .u8 (k.toNat : Int), .string (ofL body)] W1) (h1 : Prs W1 A1 y.head) (hB : Below w.heap.size w W1) (hb : Below (W1.alloc (.cells #[.int .u8 (y.ch.toNat : Int), .int .u8 (y.kd.toNat : Int), .string (ofL y.name), .string (ofL y.other), .string (ofL y.key), .slice A1 y.head.length q1, .string (ofL y.body), .int .u64 (y.n : Int), .int .u64 (y.m : Int), .bool y.yes] 25)).heap.size (W1.alloc (.cells #[.int .u8 (y.ch.toNat : Int), .int .u8 (y.kd.toNat : Int), .string (ofL y.name), .string (ofL y.other), .string (ofL y.key), .slice A1 y.head.length q1, .string (ofL y.body), .int .u64 (y.n : Int), .int .u64 (y.m : Int), .bool y.yes] 25)) W2) (h2 : Prs W2 A2 y.head) :
    MrC w c k body y A1 q1 W1.heap.size A2 q2 W2.heap.size (W2.alloc (.cells #[.int .u8 (y.ch.toNat : Int), .int .u8 (y.kd.toNat : Int), .string (ofL y.name), .string (ofL y.other), .string (ofL y.key), .slice A2 y.head.length q2, .string (ofL y.body), .int .u64 (y.n : Int), .int .u64 (y.m : Int), .bool y.yes] 29)) := by
  have a0 : Below W1.heap.size W1 (W1.alloc (.cells #[.int .u8 (y.ch.toNat : Int), .int .u8 (y.kd.toNat : Int), .string (ofL y.name), .string (ofL y.other), .string (ofL y.key), .slice A1 y.head.length q1, .string (ofL y.body), .int .u64 (y.n : Int), .int .u64 (y.m : Int), .bool y.yes] 25)) := (Below.refl _ _).alloc (Nat.le_refl _) _
  have a2 : Below W2.heap.size W2 (W2.alloc (.cells #[.int .u8 (y.ch.toNat : Int), .int .u8 (y.kd.toNat : Int), .string (ofL y.name), .string (ofL y.other), .string (ofL y.key), .slice A2 y.head.length q2, .string (ofL y.body), .int .u64 (y.n : Int), .int .u64 (y.m : Int), .bool y.yes] 29)) := (Below.refl _ _).alloc (Nat.le_refl _) _
  have b1 : Below w.heap.size w W2 := bthen (bthen hB a0 (Nat.le_refl _)) hb (Nat.le_refl _)
  exact ⟨((hf.on a0).on hb).on a2, ((BoxC.new hB.size #[.int .u8 (y.ch.toNat : Int), .int .u8 (y.kd.toNat : Int), .string (ofL y.name), .string (ofL y.other), .string (ofL y.key), .slice A1 y.head.length q1, .string (ofL y.body), .int .u64 (y.n : Int), .int .u64 (y.m : Int), .bool y.yes] 25).on hb).on a2, BoxC.new b1.size #[.int .u8 (y.ch.toNat : Int), .int .u8 (y.kd.toNat : Int), .string (ofL y.name), .string (ofL y.other), .string (ofL y.key), .slice A2 y.head.length q2, .string (ofL y.body), .int .u64 (y.n : Int), .int .u64 (y.m : Int), .bool y.yes] 29, ((h1.on a0).on hb).on a2, h2.on a2, bthen b1 a2 (Nat.le_refl _)⟩
set_option maxRecDepth 100000 in
set_option maxHeartbeats 16000000 in
theorem methodReads_walk (c k : UInt8) (body : List UInt8) (w : World) (hb : body.length ≤ 9223372036854775807) (hT : Tab w) (hL : Len w) :
    Calls Tryz.prog 4 #[.agg #[.int .u8 (c.toNat : Int), .int .u8 (k.toNat : Int), .string (ofL body)]] w fun e w' => e = .returned (.bool true) ∧ Below w.heap.size w w' := by
  have HF0 := Lib.hid (show BoxC w w.heap.size [.int .u8 (c.toNat : Int), .int .u8 (k.toNat : Int), .string (ofL body)] (w.alloc (.cells #[.int .u8 (c.toNat : Int), .int .u8 (k.toNat : Int), .string (ofL body)] 32)) from BoxC.new (Nat.le_refl _) #[.int .u8 (c.toNat : Int), .int .u8 (k.toNat : Int), .string (ofL body)] 32)
  have HB0 := Lib.hid (show Below w.heap.size w (w.alloc (.cells #[.int .u8 (c.toNat : Int), .int .u8 (k.toNat : Int), .string (ofL body)] 32)) from (Below.refl _ _).alloc (Nat.le_refl _) _)
  have HAW := Lib.hid (awake11_any _ (hT.below HB0.out hT.pos) (hL.on HB0.out))
  have HLL := Lib.hid hL
  have hz : (ofL body).size = body.length := ofL_size _
  clear hL hT
  by_cases h6 : 600 < body.length
  · have h60 : 600 < (ofL body).size := by omega
    clear hz h6
    go_enter Tryz.func4, Tryz.ntmps4
    go_wp2_with fail
    refine HAW.out.mono ?_
    rintro e w1 ⟨rfl, b1⟩
    have HF1 := Lib.hid (HF0.out.on b1)
    have HB1 := Lib.hid (bthen HB0.out b1 (Nat.le_refl _))
    clear b1
    have f0 := HF1.out.cs 0 _ rfl
    have f1 := HF1.out.cs 1 _ rfl
    have f2 := HF1.out.cs 2 _ rfl
    have fl := HF1.out.lt
    go_wp2_with fail
    go_ret
    exact ⟨rfl, HB1.out⟩
  · have h60 : ¬ 600 < (ofL body).size := by omega
    have hS : (ofL body).size ≤ 1000000 := by omega
    have HOF := Lib.hid (fun W h => me_Of_any c k body W h)
    have HPA := Lib.hid (fun W => r11Parse_any c k body W hS)
    have HLOW := Lib.hid (me_got_low c k body)
    have HOKS := Lib.hid (fun h => me_got_ok (c := c) (k := k) (body := body) h)
    unfold MeOfPost at HOF HPA
    generalize Me.got c k body = y at *
    generalize Me.rcode c k body = RC at *
    have hl8 := HLOW.out.len
    have HTO := Lib.hid (fun A1 q1 W (hc : y.head.length ≤ q1) h1 => me_To_any y A1 q1 W (by omega) hc h1)
    unfold MeToPost at HTO
    have HSM := Lib.hid (fun A3 q3 A2 q2 W h1 h2 => r11Same_any y y A3 q3 A2 q2 W (by omega) (by omega) h1 h2)
    rw [meEq_self] at HSM
    have HFR := Lib.hid (fun A1 q1 W (hc : y.head.length ≤ q1) (hp : Prs W A1 y.head) hf hl => me_Frame_any y A1 q1 W (HLOW.out.ok hc hp) hf hl)
    clear hz h6 hS hl8
    simp only [meV] at HOF HPA HTO HSM HFR
    go_enter Tryz.func4, Tryz.ntmps4
    go_wp2_with fail
    refine HAW.out.mono ?_
    rintro e w1 ⟨rfl, b1⟩
    have HF1 := Lib.hid (HF0.out.on b1)
    have HB1 := Lib.hid (bthen HB0.out b1 (Nat.le_refl _))
    clear b1
    have f0 := HF1.out.cs 0 _ rfl
    have f1 := HF1.out.cs 1 _ rfl
    have f2 := HF1.out.cs 2 _ rfl
    have fl := HF1.out.lt
    go_wp2_with fail
    refine (HOF.out _ (HLL.out.on HB1.out)).mono ?_
    rintro e w2 ⟨A1, q1, rfl, hc1, hp1, b2, -⟩
    have HF2 := Lib.hid (HF1.out.on b2)
    have HB2 := Lib.hid (bthen HB1.out b2 (Nat.le_refl _))
    have HP1 := Lib.hid hp1
    have HC1 := Lib.hid hc1
    clear b2 hp1 hc1 f0 f1 f2 fl
    have b3 : Below w2.heap.size w2 (w2.alloc (.cells #[.int .u8 (y.ch.toNat : Int), .int .u8 (y.kd.toNat : Int), .string (ofL y.name), .string (ofL y.other), .string (ofL y.key), .slice A1 y.head.length q1, .string (ofL y.body), .int .u64 (y.n : Int), .int .u64 (y.m : Int), .bool y.yes] 25)) := (Below.refl _ _).alloc (Nat.le_refl _) _
    have HF3 := Lib.hid (HF2.out.on b3)
    clear b3
    have f0 := HF3.out.cs 0 _ rfl
    have f1 := HF3.out.cs 1 _ rfl
    have f2 := HF3.out.cs 2 _ rfl
    have fl := HF3.out.lt
    go_wp2_with fail
    refine (HPA.out _).mono ?_
    rintro e w4 ⟨A2, q2, rfl, -, hp2, b4, -⟩
    have HS := Lib.hid (MrC.start (q1 := q1) (q2 := q2) HF2.out HP1.out HB2.out b4 hp2)
    clear b4 hp2 f0 f1 f2 fl
    go_upto_region 7 with fail
    generalize w4.alloc (.cells #[.int .u8 (y.ch.toNat : Int), .int .u8 (y.kd.toNat : Int), .string (ofL y.name), .string (ofL y.other), .string (ofL y.key), .slice A2 y.head.length q2, .string (ofL y.body), .int .u64 (y.n : Int), .int .u64 (y.m : Int), .bool y.yes] 29) = w5 at *
    generalize w4.heap.size = g2 at *
    generalize w2.heap.size = g1 at *
    have HX := Lib.hid ((HS.out.on (Below.refl _ _).drew).s)
    clear HS HF0 HF1 HF2 HF3 HB0 HB1 HB2 HAW HOF HPA HP1
    have hrr : (RC == RC) = true := by simp
    have hrn : (RC != RC) = false := by simp
    refine wp_region_noPanic ?_
    refine wp_region_held_drew (S := MrS w c k body y A1 q1 g1 A2 q2 g2) (by kernel_rfl) ?_ (fun hHeld => ?_)
    · (try dsimp only); (first | assumption | exact HX.out | exact (hHeld.2.on hb2).s)
    refine wpAnyH_take (i := 0) (v := ?_) rfl (by kernel_rfl) (by kernel_rfl) (by kernel_rfl) (fun _ _ _ h => h) (Or.inl ⟨by rfl, ?_⟩) (by assumption) ?_
    rotate_left
    · intro w hSw; (try dsimp only at hSw); go_simp; try with_reducible rfl
    (try simp only [List.getElem_toArray, List.getElem_cons_zero, Act.put, List.setIfInBounds_toArray, List.set_cons_zero, List.set_cons_succ])
    refine wpAnyH_take (i := 2) (v := ?_) rfl (by kernel_rfl) (by kernel_rfl) (by kernel_rfl) (fun _ _ _ h => h) (Or.inl ⟨by rfl, ?_⟩) (by assumption) ?_
    rotate_left
    · intro w hSw; (try dsimp only at hSw); go_simp; try with_reducible rfl
    (try simp only [List.getElem_toArray, List.getElem_cons_succ, List.getElem_cons_zero, Act.put, List.setIfInBounds_toArray, List.set_cons_zero, List.set_cons_succ])
    refine wpAnyH_ready (rs := [1]) (by kernel_rfl) (by simp) ?_
    refine AllReadyH.cons rfl (fun K hK => ?_) (AllReadyH.nil)
    · go_simp
      (go_at_call 12; ((refine (HTO.out _ _ _ HC1.out hHeld.2.ra).mono ?_); rintro e' wz ⟨A3, q3, rfl, -, hp3, hb2⟩); have HP3 := Lib.hid hp3; clear hp3)
      refine hK.out _ _ ?_ (fun hHeld => ?_)
      · (try dsimp only); (first | assumption | exact HX.out | exact (hHeld.2.on hb2).s)
      clear hK K
      (try simp only [List.getElem_toArray, List.getElem_cons_succ, List.getElem_cons_zero, Act.put, List.setIfInBounds_toArray, List.set_cons_zero, List.set_cons_succ])
      refine wpAnyH_ready (rs := [3]) (by kernel_rfl) (by simp) ?_
      refine AllReadyH.cons rfl (fun K hK => ?_) (AllReadyH.nil)
      · go_simp
        (go_at_call 20; ((refine (HSM.out A3 q3 _ _ _ HP3.out hHeld.2.rb).mono ?_); rintro e' wz ⟨rfl, hb2⟩))
        refine hK.out _ _ ?_ (fun hHeld => ?_)
        · (try dsimp only); (first | assumption | exact HX.out | exact (hHeld.2.on hb2).s)
        clear hK K
        (try simp only [List.getElem_toArray, List.getElem_cons_succ, List.getElem_cons_zero, Act.put, List.setIfInBounds_toArray, List.set_cons_zero, List.set_cons_succ])
        refine wpAnyH_take (i := 4) (v := ?_) rfl (by kernel_rfl) (by kernel_rfl) (by kernel_rfl) (fun _ _ _ h => h) (Or.inl ⟨by rfl, ?_⟩) (by assumption) ?_
        rotate_left
        · intro w hSw; (try dsimp only at hSw); go_simp; try with_reducible rfl
        (try simp only [List.getElem_toArray, List.getElem_cons_succ, List.getElem_cons_zero, Act.put, List.setIfInBounds_toArray, List.set_cons_zero, List.set_cons_succ])
        refine wpAnyH_take (i := 5) (v := ?_) rfl (by kernel_rfl) (by kernel_rfl) (by kernel_rfl) (fun _ _ _ h => h) (Or.inl ⟨by rfl, ?_⟩) (by assumption) ?_
        rotate_left
        · intro w hSw; (try dsimp only at hSw); go_simp; try with_reducible rfl
        (try simp only [List.getElem_toArray, List.getElem_cons_succ, List.getElem_cons_zero, Act.put, List.setIfInBounds_toArray, List.set_cons_zero, List.set_cons_succ])
        refine wpAnyH_take (i := 6) (v := ?_) rfl (by kernel_rfl) (by kernel_rfl) (by kernel_rfl) (fun _ _ _ h => h) (Or.inl ⟨by rfl, ?_⟩) (by assumption) ?_
        rotate_left
        · intro w hSw; (try dsimp only at hSw); go_simp; try with_reducible rfl
        (try simp only [List.getElem_toArray, List.getElem_cons_succ, List.getElem_cons_zero, Act.put, List.setIfInBounds_toArray, List.set_cons_zero, List.set_cons_succ])
        refine wpAnyH_take (i := 7) (v := ?_) rfl (by kernel_rfl) (by kernel_rfl) (by kernel_rfl) (fun _ _ _ h => h) (Or.inl ⟨by rfl, ?_⟩) (by assumption) ?_
        rotate_left
        · intro w hSw; (try dsimp only at hSw); go_simp; try with_reducible rfl
        (try simp only [List.getElem_toArray, List.getElem_cons_succ, List.getElem_cons_zero, Act.put, List.setIfInBounds_toArray, List.set_cons_zero, List.set_cons_succ])
        refine wpAnyH_take (i := 8) (v := ?_) rfl (by kernel_rfl) (by kernel_rfl) (by kernel_rfl) (fun _ _ _ h => h) (Or.inl ⟨by rfl, ?_⟩) (by assumption) ?_
        rotate_left
        · intro w hSw; (try dsimp only at hSw); go_simp; try with_reducible rfl
        (try simp only [List.getElem_toArray, List.getElem_cons_succ, List.getElem_cons_zero, Act.put, List.setIfInBounds_toArray, List.set_cons_zero, List.set_cons_succ])
        refine wpAnyH_take (i := 9) (v := ?_) rfl (by kernel_rfl) (by kernel_rfl) (by kernel_rfl) (fun _ _ _ h => h) (Or.inl ⟨by rfl, ?_⟩) (by assumption) ?_
        rotate_left
        · intro w hSw; (try dsimp only at hSw); go_simp; try with_reducible rfl
        (try simp only [List.getElem_toArray, List.getElem_cons_succ, List.getElem_cons_zero, Act.put, List.setIfInBounds_toArray, List.set_cons_zero, List.set_cons_succ])
        refine wpAnyH_done (by kernel_rfl) ?_ _
        refine NoPanic.normal ?_
        have HZ := Lib.hid hHeld.2
        clear hHeld
        have c0 := HZ.out.a.cs 0 _ rfl
        have c1 := HZ.out.a.cs 1 _ rfl
        have c2 := HZ.out.a.cs 2 _ rfl
        have c3 := HZ.out.a.cs 3 _ rfl
        have c4 := HZ.out.a.cs 4 _ rfl
        have c5 := HZ.out.a.cs 5 _ rfl
        have c6 := HZ.out.a.cs 6 _ rfl
        have c7 := HZ.out.a.cs 7 _ rfl
        have c8 := HZ.out.a.cs 8 _ rfl
        have c9 := HZ.out.a.cs 9 _ rfl
        have cl := HZ.out.a.lt
        have f0 := HZ.out.f.cs 0 _ rfl
        have f1 := HZ.out.f.cs 1 _ rfl
        have f2 := HZ.out.f.cs 2 _ rfl
        have fl := HZ.out.f.lt
        by_cases h0 : RC = 0
        · have hk0 : (RC != 0) = false := by rw [h0]; rfl
          obtain ⟨r1, r2, r3, r4, r5⟩ := HOKS.out h0
          have HFV := Lib.hid (HFR.out A1 q1 wz HC1.out HZ.out.ra r5 (HLL.out.on HZ.out.B))
          rw [show meFrameV y = .tuple #[.agg #[.int .u8 (c.toNat : Int), .int .u8 (k.toNat : Int), .string (ofL body)], .int .i64 0] by unfold meFrameV; rw [if_pos r4, r1, r2, r3]] at HFV
          have HFS := Lib.hid (fun W => fsame_any (c.toNat : Int) (k.toNat : Int) (ofL body) (c.toNat : Int) (k.toNat : Int) (ofL body) W)
          rw [frmEq_self] at HFS
          clear r1 r2 r3 r4 r5 h0
          go_wp2_with fail
          refine HFV.out.mono ?_
          rintro e w6 ⟨rfl, b6⟩
          have HZ6 := Lib.hid (HZ.out.on b6)
          clear b6 c0 c1 c2 c3 c4 c5 c6 c7 c8 c9 cl f0 f1 f2 fl
          have b7 : Below w6.heap.size w6 (w6.alloc (.cells #[.int .u8 (c.toNat : Int), .int .u8 (k.toNat : Int), .string (ofL body)] 32)) := (Below.refl _ _).alloc (Nat.le_refl _) _
          have HZ7 := Lib.hid (HZ6.out.on b7)
          clear b7
          have f0 := HZ6.out.f.cs 0 _ rfl
          have f1 := HZ6.out.f.cs 1 _ rfl
          have f2 := HZ6.out.f.cs 2 _ rfl
          have fl := HZ6.out.f.lt
          go_wp2_with fail
          refine (HFS.out _).mono ?_
          rintro e w8 ⟨rfl, b8⟩
          have HZ8 := Lib.hid (HZ7.out.on b8)
          clear b8 f0 f1 f2 fl
          go_wp2_with fail
          go_ret
          exact ⟨rfl, HZ8.out.B⟩
        · have hk0 : (RC != 0) = true := by rw [bne_iff_ne]; exact h0
          clear h0
          go_wp2_with fail
          go_ret
          exact ⟨rfl, HZ.out.B⟩
end Go.Proofs.YtnamkglflhkckaaGreatDoor
end
section
namespace Go.Proofs.YtnamkglflhkckaaGreatDoor
open Go.ChangeShapes Go.WideShapes Go.ChangeAt Go.RowKit
theorem own : ownKnob Tryz.prog.godebug = none := by kernel_rfl
theorem laidOut : laidOutB Tryz.prog = true := by kernel_rfl
theorem byte_of_u8 {n : Int} (h : (Lit.int .u8 n).wf = true) : ∃ b : UInt8, n = ((b.toNat : Nat) : Int) := by
  have hx : 0 ≤ n ∧ n ≤ 255 := by simpa [Lit.wf, IntKind.min, IntKind.max, IntKind.signed, IntKind.bits] using h
  refine ⟨UInt8.ofNat n.toNat, ?_⟩
  simp only [UInt8.toNat_ofNat']
  omega
end Go.Proofs.YtnamkglflhkckaaGreatDoor
end
section
namespace Go.Proofs.YtnamkglflhkckaaGreatDoor
open Go.ChangeShapes Go.WideShapes Go.ChangeAt Go.RowKit
set_option maxRecDepth 100000 in
theorem frame_open {H : Type} {enc : TypeId × Value → H} {W : World} {base : Nat} {v : Value} {d : DataW H} {ps : List MemPlace} (hv : Value.okWide Tryz.prog W .any base 32 v)
    (h : DataW.Trod enc Tryz.prog W 0 (fun _ => true) true 32 v d ps) : ∃ (c k : UInt8) (b : List UInt8), b.length ≤ 9223372036854775807 ∧ v = .agg #[.int .u8 (c.toNat : Int), .int .u8 (k.toNat : Int), .string (ofL b)] := by
  obtain ⟨v0, v1, v2, y0, y1, y2, n, rfl, -, -, h0, h1, h2⟩ := Joins.open_agg3 Tryz.underlying32 (by kernel_rfl) (by kernel_rfl) hv h
  obtain ⟨x0, e0, rfl, w0⟩ := DataW.trod_int Tryz.underlying5 h0
  obtain ⟨x1, e1, rfl, w1⟩ := DataW.trod_int Tryz.underlying5 h1
  obtain ⟨s, e2, rfl, w2⟩ := DataW.trod_string Tryz.underlying9 h2
  simp at e0 e1 e2
  subst e0 e1 e2
  obtain ⟨c, rfl⟩ := byte_of_u8 w0
  obtain ⟨k, rfl⟩ := byte_of_u8 w1
  refine ⟨c, k, s.data.toList, ?_, by rw [ofL_toList]⟩
  have hz := ofL_size s.data.toList
  rw [ofL_toList] at hz
  unfold maxLen at w2
  omega
end Go.Proofs.YtnamkglflhkckaaGreatDoor
end
section
namespace Go.Proofs.YtnamkglflhkckaaGreatDoor
open Go.ChangeShapes Go.WideShapes Go.ChangeAt Go.RowKit
theorem gTab : Tryz.prog.globalNamed "stairwell/crc.laid" = some 0 := by kernel_rfl
theorem gTabType : (Tryz.prog.globals[(0 : Nat)]?).map (·.type) = some 238 := by kernel_rfl
theorem cells16 : Tryz.prog.cellsOf 238 = 16 := by kernel_rfl
theorem cells32 : Tryz.prog.cellsOf 198 = 1 := by kernel_rfl
theorem tab_of {W : World} (h : laidMetH Tryz.prog [("stairwell/crc.laid", Rows.laid_stairwell_crc_laid)] W) : Tab W :=
  have t : Lib.TabIs Tryz.prog W "stairwell/crc.laid" .u32 Crc.table := Lib.tabIs_of_head (rest := []) gTab gTabType Tryz.underlying238 Tryz.underlying198 cells32 cells16 h
  fun i hi => t.cell gTab i (by simpa [Crc.table] using hi)
/-- the table's block, filled -/
def crcFilled : Obj → Obj
  | .cells _ t frozen => .cells #[.int .u32 0, .int .u32 498536548, .int .u32 997073096, .int .u32 651767980, .int .u32 1994146192, .int .u32 1802195444, .int .u32 1303535960, .int .u32 1342533948, .int .u32 3988292384, .int .u32 4027552580, .int .u32 3604390888, .int .u32 3412177804, .int .u32 2607071920, .int .u32 2262029012, .int .u32 2685067896, .int .u32 3183342108] t frozen
  | o => o
end Go.Proofs.YtnamkglflhkckaaGreatDoor
end
