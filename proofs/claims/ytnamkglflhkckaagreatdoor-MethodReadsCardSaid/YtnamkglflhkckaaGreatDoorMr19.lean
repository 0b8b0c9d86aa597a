/-
  A METHOD READ OF A FRAME, as the document has it: its boxes. A METHOD READ OF A FRAME, as the document has it: one class of kinds.
-/
import Derived.Test.YtnamkglflhkckaaGreatDoorMr17
import Derived.Test.YtnamkglflhkckaaGreatDoorMr18
import Derived.Deep.DeepCutAuto
section
namespace Go.Proofs.YtnamkglflhkckaaGreatDoor
open Go.ChangeShapes Go.WideShapes Go.ChangeAt Go.RowKit
theorem MeOf.moved {w : World} {R : LSt → World → Prop} {b g : Nat} {y : Me} {s s' : LSt} {A : Option Addr} {c : Nat} {W W' : World} (h : MeOf w R b g y s A c W) (hi : R s' W') (hg : W.grownBy W' (some b)) : MeOf w R b g y s' A c W' :=
  have hgb := h.gb
  have hgq := h.gq
  ⟨hi, h.m.grown hg (by omega), h.q.grown hg (by omega), h.hc, h.hp.grown hg (fun a ha e => (h.hA a ha).1 (Option.some.inj e)), h.hA, h.gb, h.gq, below_in h.B hg h.B.size (by omega)⟩
theorem MeOf.put {w : World} {R : LSt → World → Prop} {b g : Nat} (hR : Rder b R) {y : Me} {s : LSt} {A : Option Addr} {c : Nat} {W : World} (h : MeOf w R b g y s A c W) (y' : Me) (j : Nat) (v : Value) (hj : j < 10) (he : (meL y A c).set j v = meL y' A c) (hh : y'.head = y.head) : MeOf w R b g y' s A c (W.setCell ⟨g, j, none⟩ v) :=
  have hgb := h.gb
  have hgq := h.gq
  ⟨hR.put h.ri (by omega) j v, by rw [← he]; exact h.m.put j v hj, h.q.aside (by omega) j v, by rw [hh]; exact h.hc, by rw [hh]; exact h.hp.aside (fun a ha e => (h.hA a ha).2.1 e.symm) j v, h.hA, h.gb, h.gq, h.B.setCell h.m.ge v⟩
theorem MeOf.putH {w : World} {R : LSt → World → Prop} {b g : Nat} (hR : Rder b R) {y : Me} {s : LSt} {A : Option Addr} {c : Nat} {W : World} (h : MeOf w R b g y s A c W) (l : List Hd.Pr) (A' : Option Addr) (c' : Nat) (hc : l.length ≤ c') (hp : Prs W A' l) (hA : ∀ a, A' = some a → b < a.block) : MeOf w R b g {y with head := l} s A' c' (W.setCell ⟨g, 5, none⟩ (.slice A' l.length c')) :=
  have hgb := h.gb
  have hgq := h.gq
  have hA2 : ∀ a, A' = some a → a.block ≠ b ∧ a.block ≠ g ∧ a.block ≠ w.heap.size + 1 ∧ w.heap.size ≤ a.block := fun a ha => by have := hA a ha; omega
  ⟨hR.put h.ri (by omega) 5 _, h.m.put 5 (.slice A' l.length c') (by simp [meL]), h.q.aside (by omega) 5 _, hc, hp.aside (fun a ha e => (hA2 a ha).2.1 e.symm) 5 _, hA2, h.gb, h.gq, h.B.setCell h.m.ge _⟩
/-- with the box of what its kind tells -/
structure MpC (w : World) (R : LSt → World → Prop) (b g z : Nat) (hs : List Value) (y : Me) (s : LSt) (A : Option Addr) (c : Nat) (W : World) : Prop where
  o : MeOf w R b g y s A c W
  h : BoxC w z hs W
  hg : z < g
  hq : w.heap.size + 1 < z
theorem MpC.moved {w : World} {R : LSt → World → Prop} {b g z : Nat} {hs : List Value} {y : Me} {s s' : LSt} {A : Option Addr} {c : Nat} {W W' : World} (H : MpC w R b g z hs y s A c W) (hi : R s' W') (hg : W.grownBy W' (some b)) : MpC w R b g z hs y s' A c W' :=
  have h1 := H.o.gb
  have h2 := H.hg
  ⟨H.o.moved hi hg, H.h.grown hg (by omega), H.hg, H.hq⟩
theorem MpC.put {w : World} {R : LSt → World → Prop} {b g z : Nat} {hs : List Value} (hR : Rder b R) {y : Me} {s : LSt} {A : Option Addr} {c : Nat} {W : World} (H : MpC w R b g z hs y s A c W) (y' : Me) (j : Nat) (v : Value) (hj : j < 10) (he : (meL y A c).set j v = meL y' A c) (hh : y'.head = y.head) : MpC w R b g z hs y' s A c (W.setCell ⟨g, j, none⟩ v) :=
  have h2 := H.hg
  ⟨H.o.put hR y' j v hj he hh, H.h.aside (by omega) j v, H.hg, H.hq⟩
theorem MpC.putH {w : World} {R : LSt → World → Prop} {b g z : Nat} {hs : List Value} (hR : Rder b R) {y : Me} {s : LSt} {A : Option Addr} {c : Nat} {W : World} (H : MpC w R b g z hs y s A c W) (l : List Hd.Pr) (A' : Option Addr) (c' : Nat) (hc : l.length ≤ c') (hp : Prs W A' l) (hA : ∀ a, A' = some a → b < a.block) : MpC w R b g z hs {y with head := l} s A' c' (W.setCell ⟨g, 5, none⟩ (.slice A' l.length c')) :=
  have h2 := H.hg
  ⟨H.o.putH hR l A' c' hc hp hA, H.h.aside (by omega) 5 _, H.hg, H.hq⟩
theorem MpC.on {w : World} {R : LSt → World → Prop} {b g z : Nat} {hs : List Value} (hR : Rder b R) {y : Me} {s : LSt} {A : Option Addr} {c : Nat} {W W' : World} (H : MpC w R b g z hs y s A c W) (hb : Below W.heap.size W W') : MpC w R b g z hs y s A c W' :=
  ⟨H.o.on hR hb, H.h.on hb, H.hg, H.hq⟩
theorem MpC.start (c k : UInt8) (body : List UInt8) (w W : World) (hb : Below ((w.alloc (.cells #[.int .u8 (c.toNat : Int), .int .u8 (k.toNat : Int), .string (ofL body)] 40)).alloc (.cells #[.int .u8 0, .int .u8 0, .string ⟨#[]⟩, .string ⟨#[]⟩, .string ⟨#[]⟩, .slice none 0 0, .string ⟨#[]⟩, .int .u64 0, .int .u64 0, .bool false] 29)).heap.size ((w.alloc (.cells #[.int .u8 (c.toNat : Int), .int .u8 (k.toNat : Int), .string (ofL body)] 40)).alloc (.cells #[.int .u8 0, .int .u8 0, .string ⟨#[]⟩, .string ⟨#[]⟩, .string ⟨#[]⟩, .slice none 0 0, .string ⟨#[]⟩, .int .u64 0, .int .u64 0, .bool false] 29)) W) (hs : Array Value) (t : TypeId) :
    MpC w (RefL (W.heap.size + 1 + 1) (ofL body)) (W.heap.size + 1 + 1) (W.heap.size + 1) W.heap.size hs.toList (Me.zero c k) (body, 0) none 0 (((W.alloc (.cells hs t)).alloc (.cells #[.int .u8 (c.toNat : Int), .int .u8 (k.toNat : Int), .string ⟨#[]⟩, .string ⟨#[]⟩, .string ⟨#[]⟩, .slice none 0 0, .string ⟨#[]⟩, .int .u64 0, .int .u64 0, .bool false] 29)).alloc (.cells #[.string (ofL body), .int .i64 0, .int .i64 0] 129)) := by
  have e1 : (W.alloc (.cells hs t)).heap.size = W.heap.size + 1 := by simp
  have e2 : ((W.alloc (.cells hs t)).alloc (.cells #[.int .u8 (c.toNat : Int), .int .u8 (k.toNat : Int), .string ⟨#[]⟩, .string ⟨#[]⟩, .string ⟨#[]⟩, .slice none 0 0, .string ⟨#[]⟩, .int .u64 0, .int .u64 0, .bool false] 29)).heap.size = W.heap.size + 1 + 1 := by simp
  have a0 : Below w.heap.size w (w.alloc (.cells #[.int .u8 (c.toNat : Int), .int .u8 (k.toNat : Int), .string (ofL body)] 40)) := (Below.refl _ _).alloc (Nat.le_refl _) _
  have a1 : Below (w.alloc (.cells #[.int .u8 (c.toNat : Int), .int .u8 (k.toNat : Int), .string (ofL body)] 40)).heap.size (w.alloc (.cells #[.int .u8 (c.toNat : Int), .int .u8 (k.toNat : Int), .string (ofL body)] 40)) ((w.alloc (.cells #[.int .u8 (c.toNat : Int), .int .u8 (k.toNat : Int), .string (ofL body)] 40)).alloc (.cells #[.int .u8 0, .int .u8 0, .string ⟨#[]⟩, .string ⟨#[]⟩, .string ⟨#[]⟩, .slice none 0 0, .string ⟨#[]⟩, .int .u64 0, .int .u64 0, .bool false] 29)) := (Below.refl _ _).alloc (Nat.le_refl _) _
  have b2 : Below w.heap.size w W := bthen (bthen a0 a1 (Nat.le_refl _)) hb (Nat.le_refl _)
  have c1 : Below W.heap.size W (W.alloc (.cells hs t)) := (Below.refl _ _).alloc (Nat.le_refl _) _
  have c2 : Below (W.alloc (.cells hs t)).heap.size (W.alloc (.cells hs t)) ((W.alloc (.cells hs t)).alloc (.cells #[.int .u8 (c.toNat : Int), .int .u8 (k.toNat : Int), .string ⟨#[]⟩, .string ⟨#[]⟩, .string ⟨#[]⟩, .slice none 0 0, .string ⟨#[]⟩, .int .u64 0, .int .u64 0, .bool false] 29)) := (Below.refl _ _).alloc (Nat.le_refl _) _
  have c3 : Below ((W.alloc (.cells hs t)).alloc (.cells #[.int .u8 (c.toNat : Int), .int .u8 (k.toNat : Int), .string ⟨#[]⟩, .string ⟨#[]⟩, .string ⟨#[]⟩, .slice none 0 0, .string ⟨#[]⟩, .int .u64 0, .int .u64 0, .bool false] 29)).heap.size ((W.alloc (.cells hs t)).alloc (.cells #[.int .u8 (c.toNat : Int), .int .u8 (k.toNat : Int), .string ⟨#[]⟩, .string ⟨#[]⟩, .string ⟨#[]⟩, .slice none 0 0, .string ⟨#[]⟩, .int .u64 0, .int .u64 0, .bool false] 29)) (((W.alloc (.cells hs t)).alloc (.cells #[.int .u8 (c.toNat : Int), .int .u8 (k.toNat : Int), .string ⟨#[]⟩, .string ⟨#[]⟩, .string ⟨#[]⟩, .slice none 0 0, .string ⟨#[]⟩, .int .u64 0, .int .u64 0, .bool false] 29)).alloc (.cells #[.string (ofL body), .int .i64 0, .int .i64 0] 129)) := (Below.refl _ _).alloc (Nat.le_refl _) _
  have hq0 : BoxC w (w.heap.size + 1) [.int .u8 0, .int .u8 0, .string ⟨#[]⟩, .string ⟨#[]⟩, .string ⟨#[]⟩, .slice none 0 0, .string ⟨#[]⟩, .int .u64 0, .int .u64 0, .bool false] ((w.alloc (.cells #[.int .u8 (c.toNat : Int), .int .u8 (k.toNat : Int), .string (ofL body)] 40)).alloc (.cells #[.int .u8 0, .int .u8 0, .string ⟨#[]⟩, .string ⟨#[]⟩, .string ⟨#[]⟩, .slice none 0 0, .string ⟨#[]⟩, .int .u64 0, .int .u64 0, .bool false] 29)) := by
    have := BoxC.new (w := w) (W := (w.alloc (.cells #[.int .u8 (c.toNat : Int), .int .u8 (k.toNat : Int), .string (ofL body)] 40))) (by simp) #[.int .u8 0, .int .u8 0, .string ⟨#[]⟩, .string ⟨#[]⟩, .string ⟨#[]⟩, .slice none 0 0, .string ⟨#[]⟩, .int .u64 0, .int .u64 0, .bool false] 29
    simpa using this
  have hs2 : w.heap.size + 1 < W.heap.size := by have := hb.size; simp at this; omega
  have hm : BoxC w (W.heap.size + 1) (meL (Me.zero c k) none 0) ((W.alloc (.cells hs t)).alloc (.cells #[.int .u8 (c.toNat : Int), .int .u8 (k.toNat : Int), .string ⟨#[]⟩, .string ⟨#[]⟩, .string ⟨#[]⟩, .slice none 0 0, .string ⟨#[]⟩, .int .u64 0, .int .u64 0, .bool false] 29)) := by
    have := BoxC.new (w := w) (W := W.alloc (.cells hs t)) (by rw [e1]; omega) #[.int .u8 (c.toNat : Int), .int .u8 (k.toNat : Int), .string ⟨#[]⟩, .string ⟨#[]⟩, .string ⟨#[]⟩, .slice none 0 0, .string ⟨#[]⟩, .int .u64 0, .int .u64 0, .bool false] 29
    rw [e1] at this
    exact this
  have hr := RefL.new body ((W.alloc (.cells hs t)).alloc (.cells #[.int .u8 (c.toNat : Int), .int .u8 (k.toNat : Int), .string ⟨#[]⟩, .string ⟨#[]⟩, .string ⟨#[]⟩, .slice none 0 0, .string ⟨#[]⟩, .int .u64 0, .int .u64 0, .bool false] 29)) 129
  rw [e2] at hr
  exact ⟨⟨hr, hm.on c3, (((hq0.on hb).on c1).on c2).on c3, Nat.zero_le _, Prs.nil _ _, (fun a ha => by cases ha), by omega, by omega, bthen (bthen (bthen b2 c1 (Nat.le_refl _)) c2 (Nat.le_refl _)) c3 (Nat.le_refl _)⟩, (((BoxC.new b2.size hs t).on c2).on c3), by omega, hs2⟩
end Go.Proofs.YtnamkglflhkckaaGreatDoor
end
section
namespace Go.Proofs.YtnamkglflhkckaaGreatDoor
open Go.ChangeShapes Go.WideShapes Go.ChangeAt Go.RowKit
set_option maxRecDepth 100000 in
set_option maxHeartbeats 8000000 in
theorem r11Parse_n_core (c k : UInt8) (body : List UInt8) (w : World) (R : Nat → LSt → World → Prop) (hR : ∀ b, Rder b (R b)) (s0 s1 : LSt) (N : Nat) (EC C RC : Int) (GT y : Me) (hy : ⟨c, k, [], [], [], [], [], N, 0, false⟩ = y)
    (hk : decide ((20 : Int) < (k.toNat : Int)) = false)
    (r0 : ∀ b W, R b s0 W → Calls Tryz.prog 65 #[.pointer (some ⟨b, 0, none⟩), .int .i64 8] W (fun e w' => e = .returned (.int .u64 (N : Int)) ∧ R b s1 w' ∧ W.grownBy w' (some b)))
    (hE : ∀ b W, R b s1 W → Calls Tryz.prog 68 #[.pointer (some ⟨b, 0, none⟩)] W (fun e w' => e = .returned (.int .i64 EC) ∧ ∃ n, w' = W.drewN n))
    (hC : ∀ A q W, y.head.length ≤ q → Prs W A y.head → Calls Tryz.prog 11 #[meV y A q] W (fun e w' => e = .returned (.int .i64 C) ∧ Below W.heap.size W w'))
    (hRC : RC = if EC ≠ 0 then EC else C) (hGT : GT = if RC = 0 then y else Me.zero 0 0)
    (hOF : Calls Tryz.prog 49 #[.int .u8 (k.toNat : Int)] ((w.alloc (.cells #[.int .u8 (c.toNat : Int), .int .u8 (k.toNat : Int), .string (ofL body)] 40)).alloc (.cells #[.int .u8 0, .int .u8 0, .string ⟨#[]⟩, .string ⟨#[]⟩, .string ⟨#[]⟩, .slice none 0 0, .string ⟨#[]⟩, .int .u64 0, .int .u64 0, .bool false] 29)) fun e w' => e = .returned (.agg #[.bool false, .bool false, .bool false, .bool false, .bool false, .bool false, .bool false, .bool true, .bool false, .bool false]) ∧ Below ((w.alloc (.cells #[.int .u8 (c.toNat : Int), .int .u8 (k.toNat : Int), .string (ofL body)] 40)).alloc (.cells #[.int .u8 0, .int .u8 0, .string ⟨#[]⟩, .string ⟨#[]⟩, .string ⟨#[]⟩, .slice none 0 0, .string ⟨#[]⟩, .int .u64 0, .int .u64 0, .bool false] 29)).heap.size ((w.alloc (.cells #[.int .u8 (c.toNat : Int), .int .u8 (k.toNat : Int), .string (ofL body)] 40)).alloc (.cells #[.int .u8 0, .int .u8 0, .string ⟨#[]⟩, .string ⟨#[]⟩, .string ⟨#[]⟩, .slice none 0 0, .string ⟨#[]⟩, .int .u64 0, .int .u64 0, .bool false] 29)) w')
    (hF : ∀ w1, Below ((w.alloc (.cells #[.int .u8 (c.toNat : Int), .int .u8 (k.toNat : Int), .string (ofL body)] 40)).alloc (.cells #[.int .u8 0, .int .u8 0, .string ⟨#[]⟩, .string ⟨#[]⟩, .string ⟨#[]⟩, .slice none 0 0, .string ⟨#[]⟩, .int .u64 0, .int .u64 0, .bool false] 29)).heap.size ((w.alloc (.cells #[.int .u8 (c.toNat : Int), .int .u8 (k.toNat : Int), .string (ofL body)] 40)).alloc (.cells #[.int .u8 0, .int .u8 0, .string ⟨#[]⟩, .string ⟨#[]⟩, .string ⟨#[]⟩, .slice none 0 0, .string ⟨#[]⟩, .int .u64 0, .int .u64 0, .bool false] 29)) w1 → w1.cell? ⟨w.heap.size, 0, none⟩ = some (.int .u8 (c.toNat : Int)) ∧ w1.cell? ⟨w.heap.size, 1, none⟩ = some (.int .u8 (k.toNat : Int)) ∧ w1.cell? ⟨w.heap.size, 2, none⟩ = some (.string (ofL body)))
    (hS0 : ∀ w1, Below ((w.alloc (.cells #[.int .u8 (c.toNat : Int), .int .u8 (k.toNat : Int), .string (ofL body)] 40)).alloc (.cells #[.int .u8 0, .int .u8 0, .string ⟨#[]⟩, .string ⟨#[]⟩, .string ⟨#[]⟩, .slice none 0 0, .string ⟨#[]⟩, .int .u64 0, .int .u64 0, .bool false] 29)).heap.size ((w.alloc (.cells #[.int .u8 (c.toNat : Int), .int .u8 (k.toNat : Int), .string (ofL body)] 40)).alloc (.cells #[.int .u8 0, .int .u8 0, .string ⟨#[]⟩, .string ⟨#[]⟩, .string ⟨#[]⟩, .slice none 0 0, .string ⟨#[]⟩, .int .u64 0, .int .u64 0, .bool false] 29)) w1 → MpC w (R (w1.heap.size + 1 + 1)) (w1.heap.size + 1 + 1) (w1.heap.size + 1) w1.heap.size [.bool false, .bool false, .bool false, .bool false, .bool false, .bool false, .bool false, .bool true, .bool false, .bool false] (Me.zero c k) s0 none 0 (((w1.alloc (.cells #[.bool false, .bool false, .bool false, .bool false, .bool false, .bool false, .bool false, .bool true, .bool false, .bool false] 108)).alloc (.cells #[.int .u8 (c.toNat : Int), .int .u8 (k.toNat : Int), .string ⟨#[]⟩, .string ⟨#[]⟩, .string ⟨#[]⟩, .slice none 0 0, .string ⟨#[]⟩, .int .u64 0, .int .u64 0, .bool false] 29)).alloc (.cells #[.string (ofL body), .int .i64 0, .int .i64 0] 129))) :
    Calls Tryz.prog 19 #[.agg #[.int .u8 (c.toNat : Int), .int .u8 (k.toNat : Int), .string (ofL body)]] w (MeOfPost GT RC w) := by
  have HYX := Lib.hid hy
  have R0X := Lib.hid r0
  have HEX := Lib.hid hE
  have HCX := Lib.hid hC
  have HRCX := Lib.hid hRC
  have HGTX := Lib.hid hGT
  have HOFX := Lib.hid hOF
  have HFX := Lib.hid hF
  have HS0X := Lib.hid hS0
  have HRX := Lib.hid hR
  clear hy r0 hE hC hRC hGT hOF hS0 hF hR
  go_enter Tryz.func19, Tryz.ntmps19
  go_wp2_with fail
  refine HOFX.out.mono ?_
  rintro e w1 ⟨rfl, b1⟩
  have HF := Lib.hid (HFX.out w1 b1)
  have HS0 := Lib.hid (HS0X.out w1 b1)
  have R0Z := Lib.hid (fun W h => R0X.out (w1.heap.size + 1 + 1) W h)
  clear R0X
  have HE := Lib.hid (fun W h => HEX.out (w1.heap.size + 1 + 1) W h)
  have HRR := Lib.hid (HRX.out (w1.heap.size + 1 + 1))
  clear b1 HFX HS0X HEX HRX
  generalize R (w1.heap.size + 1 + 1) = Rb at *
  have hz1 : w.heap.size < w1.heap.size := by have h1 := HS0.out.hq; omega
  have f0 : w1.cell? ⟨w.heap.size, 0, none⟩ = some (.int .u8 (c.toNat : Int)) := HF.out.1
  have f1 : w1.cell? ⟨w.heap.size, 1, none⟩ = some (.int .u8 (k.toNat : Int)) := HF.out.2.1
  have f2 : w1.cell? ⟨w.heap.size, 2, none⟩ = some (.string (ofL body)) := HF.out.2.2
  go_upto_if 26 with fail
  clear f0 f1 f2 HOFX HF
  generalize (((w1.alloc (.cells #[.bool false, .bool false, .bool false, .bool false, .bool false, .bool false, .bool false, .bool true, .bool false, .bool false] 108)).alloc (.cells #[.int .u8 (c.toNat : Int), .int .u8 (k.toNat : Int), .string ⟨#[]⟩, .string ⟨#[]⟩, .string ⟨#[]⟩, .slice none 0 0, .string ⟨#[]⟩, .int .u64 0, .int .u64 0, .bool false] 29)).alloc (.cells #[.string (ofL body), .int .i64 0, .int .i64 0] 129)) = v0 at *
  generalize hg1 : w1.heap.size + 1 = g at *
  have hgg := HS0.out.o.gb
  have c0 := HS0.out.o.m.cs 0 _ rfl
  have c1 := HS0.out.o.m.cs 1 _ rfl
  have c2 := HS0.out.o.m.cs 2 _ rfl
  have c3 := HS0.out.o.m.cs 3 _ rfl
  have c4 := HS0.out.o.m.cs 4 _ rfl
  have c5 := HS0.out.o.m.cs 5 _ rfl
  have c6 := HS0.out.o.m.cs 6 _ rfl
  have c7 := HS0.out.o.m.cs 7 _ rfl
  have c8 := HS0.out.o.m.cs 8 _ rfl
  have c9 := HS0.out.o.m.cs 9 _ rfl
  have cl := HS0.out.o.m.lt
  have cf : ∀ j, v0.frozen? ⟨g, j, none⟩ = false := HS0.out.o.m.s
  have h0 := HS0.out.h.cs 0 _ rfl
  have h1 := HS0.out.h.cs 1 _ rfl
  have h2 := HS0.out.h.cs 2 _ rfl
  have h3 := HS0.out.h.cs 3 _ rfl
  have h4 := HS0.out.h.cs 4 _ rfl
  have h5 := HS0.out.h.cs 5 _ rfl
  have h6 := HS0.out.h.cs 6 _ rfl
  have h7 := HS0.out.h.cs 7 _ rfl
  have h8 := HS0.out.h.cs 8 _ rfl
  have h9 := HS0.out.h.cs 9 _ rfl
  have hl := HS0.out.h.lt
  go_wp2_with fail
  refine (R0Z.out _ HS0.out.o.ri).mono ?_
  rintro e u0 ⟨rfl, hi, hg⟩
  have HM0 := Lib.hid (HS0.out.moved hi hg)
  have HP0 := Lib.hid (HM0.out.put HRR.out ⟨c, k, [], [], [], [], [], N, 0, false⟩ 7 (.int .u64 (N : Int)) (by decide) rfl rfl)
  clear hi hg c0 c1 c2 c3 c4 c5 c6 c7 c8 c9 cl cf h0 h1 h2 h3 h4 h5 h6 h7 h8 h9 hl
  have c0 := HM0.out.o.m.cs 0 _ rfl
  have c1 := HM0.out.o.m.cs 1 _ rfl
  have c2 := HM0.out.o.m.cs 2 _ rfl
  have c3 := HM0.out.o.m.cs 3 _ rfl
  have c4 := HM0.out.o.m.cs 4 _ rfl
  have c5 := HM0.out.o.m.cs 5 _ rfl
  have c6 := HM0.out.o.m.cs 6 _ rfl
  have c7 := HM0.out.o.m.cs 7 _ rfl
  have c8 := HM0.out.o.m.cs 8 _ rfl
  have c9 := HM0.out.o.m.cs 9 _ rfl
  have cl := HM0.out.o.m.lt
  have cf : ∀ j, u0.frozen? ⟨g, j, none⟩ = false := HM0.out.o.m.s
  have h0 := HM0.out.h.cs 0 _ rfl
  have h1 := HM0.out.h.cs 1 _ rfl
  have h2 := HM0.out.h.cs 2 _ rfl
  have h3 := HM0.out.h.cs 3 _ rfl
  have h4 := HM0.out.h.cs 4 _ rfl
  have h5 := HM0.out.h.cs 5 _ rfl
  have h6 := HM0.out.h.cs 6 _ rfl
  have h7 := HM0.out.h.cs 7 _ rfl
  have h8 := HM0.out.h.cs 8 _ rfl
  have h9 := HM0.out.h.cs 9 _ rfl
  have hl := HM0.out.h.lt
  go_wp2_with fail
  generalize u0.setCell ⟨g, 7, none⟩ (.int .u64 (N : Int)) = v0 at *
  clear c0 c1 c2 c3 c4 c5 c6 c7 c8 c9 cl cf h0 h1 h2 h3 h4 h5 h6 h7 h8 h9 hl
  have c0 := HP0.out.o.m.cs 0 _ rfl
  have c1 := HP0.out.o.m.cs 1 _ rfl
  have c2 := HP0.out.o.m.cs 2 _ rfl
  have c3 := HP0.out.o.m.cs 3 _ rfl
  have c4 := HP0.out.o.m.cs 4 _ rfl
  have c5 := HP0.out.o.m.cs 5 _ rfl
  have c6 := HP0.out.o.m.cs 6 _ rfl
  have c7 := HP0.out.o.m.cs 7 _ rfl
  have c8 := HP0.out.o.m.cs 8 _ rfl
  have c9 := HP0.out.o.m.cs 9 _ rfl
  have cl := HP0.out.o.m.lt
  have cf : ∀ j, v0.frozen? ⟨g, j, none⟩ = false := HP0.out.o.m.s
  have h0 := HP0.out.h.cs 0 _ rfl
  have h1 := HP0.out.h.cs 1 _ rfl
  have h2 := HP0.out.h.cs 2 _ rfl
  have h3 := HP0.out.h.cs 3 _ rfl
  have h4 := HP0.out.h.cs 4 _ rfl
  have h5 := HP0.out.h.cs 5 _ rfl
  have h6 := HP0.out.h.cs 6 _ rfl
  have h7 := HP0.out.h.cs 7 _ rfl
  have h8 := HP0.out.h.cs 8 _ rfl
  have h9 := HP0.out.h.cs 9 _ rfl
  have hl := HP0.out.h.lt
  clear c0 c1 c2 c3 c4 c5 c6 c7 c8 c9 cl cf h0 h1 h2 h3 h4 h5 h6 h7 h8 h9 hl
  rw [HYX.out] at HP0
  refine (HE.out _ HP0.out.o.ri).mono ?_
  rintro e x9 ⟨rfl, nq, hw9⟩
  have HP90 := Lib.hid (HP0.out.on HRR.out (show Below v0.heap.size v0 x9 by rw [hw9]; exact drewN_below (Below.refl _ _) nq))
  clear hw9
  by_cases e0 : EC = 0
  · by_cases c0 : C = 0
    · have hrc : RC = 0 := by rw [HRCX.out, if_neg (by omega), c0]
      have hgt : GT = y := by rw [HGTX.out, if_pos hrc]
      have HCK := Lib.hid (HCX.out none 0 x9 HP90.out.o.hc HP90.out.o.hp)
      rw [c0] at HCK
      rw [e0]
      clear e0 c0
      simp only [meV] at HCK
      have c0 := HP90.out.o.m.cs 0 _ rfl
      have c1 := HP90.out.o.m.cs 1 _ rfl
      have c2 := HP90.out.o.m.cs 2 _ rfl
      have c3 := HP90.out.o.m.cs 3 _ rfl
      have c4 := HP90.out.o.m.cs 4 _ rfl
      have c5 := HP90.out.o.m.cs 5 _ rfl
      have c6 := HP90.out.o.m.cs 6 _ rfl
      have c7 := HP90.out.o.m.cs 7 _ rfl
      have c8 := HP90.out.o.m.cs 8 _ rfl
      have c9 := HP90.out.o.m.cs 9 _ rfl
      have cl := HP90.out.o.m.lt
      have cf : ∀ j, x9.frozen? ⟨g, j, none⟩ = false := HP90.out.o.m.s
      have h0 := HP90.out.h.cs 0 _ rfl
      have h1 := HP90.out.h.cs 1 _ rfl
      have h2 := HP90.out.h.cs 2 _ rfl
      have h3 := HP90.out.h.cs 3 _ rfl
      have h4 := HP90.out.h.cs 4 _ rfl
      have h5 := HP90.out.h.cs 5 _ rfl
      have h6 := HP90.out.h.cs 6 _ rfl
      have h7 := HP90.out.h.cs 7 _ rfl
      have h8 := HP90.out.h.cs 8 _ rfl
      have h9 := HP90.out.h.cs 9 _ rfl
      have hl := HP90.out.h.lt
      go_wp2_with fail
      refine HCK.out.mono ?_
      rintro e x10 ⟨rfl, hb⟩
      have HP91 := Lib.hid (HP90.out.on HRR.out hb)
      clear hb c0 c1 c2 c3 c4 c5 c6 c7 c8 c9 cl cf h0 h1 h2 h3 h4 h5 h6 h7 h8 h9 hl
      have c0 := HP91.out.o.m.cs 0 _ rfl
      have c1 := HP91.out.o.m.cs 1 _ rfl
      have c2 := HP91.out.o.m.cs 2 _ rfl
      have c3 := HP91.out.o.m.cs 3 _ rfl
      have c4 := HP91.out.o.m.cs 4 _ rfl
      have c5 := HP91.out.o.m.cs 5 _ rfl
      have c6 := HP91.out.o.m.cs 6 _ rfl
      have c7 := HP91.out.o.m.cs 7 _ rfl
      have c8 := HP91.out.o.m.cs 8 _ rfl
      have c9 := HP91.out.o.m.cs 9 _ rfl
      have cl := HP91.out.o.m.lt
      have cf : ∀ j, x10.frozen? ⟨g, j, none⟩ = false := HP91.out.o.m.s
      have h0 := HP91.out.h.cs 0 _ rfl
      have h1 := HP91.out.h.cs 1 _ rfl
      have h2 := HP91.out.h.cs 2 _ rfl
      have h3 := HP91.out.h.cs 3 _ rfl
      have h4 := HP91.out.h.cs 4 _ rfl
      have h5 := HP91.out.h.cs 5 _ rfl
      have h6 := HP91.out.h.cs 6 _ rfl
      have h7 := HP91.out.h.cs 7 _ rfl
      have h8 := HP91.out.h.cs 8 _ rfl
      have h9 := HP91.out.h.cs 9 _ rfl
      have hl := HP91.out.h.lt
      have z0 := HP91.out.o.q.cs 0 _ rfl
      have z1 := HP91.out.o.q.cs 1 _ rfl
      have z2 := HP91.out.o.q.cs 2 _ rfl
      have z3 := HP91.out.o.q.cs 3 _ rfl
      have z4 := HP91.out.o.q.cs 4 _ rfl
      have z5 := HP91.out.o.q.cs 5 _ rfl
      have z6 := HP91.out.o.q.cs 6 _ rfl
      have z7 := HP91.out.o.q.cs 7 _ rfl
      have z8 := HP91.out.o.q.cs 8 _ rfl
      have z9 := HP91.out.o.q.cs 9 _ rfl
      have zf : ∀ j, x10.frozen? ⟨w.heap.size + 1, j, none⟩ = false := HP91.out.o.q.s
      have zl := HP91.out.o.q.lt
      go_wp2_with fail
      have hF := HP91.out.o.q.fill (meL y none 0) rfl
      have hBF := below_putAll HP91.out.o.q.ge (meL y none 0) 0 HP91.out.o.B
      have hPF := Prs.putAll (g := w.heap.size + 1) (fun a ha => fun e => (HP91.out.o.hA a ha).2.2.1 e.symm) (meL y none 0) 0 HP91.out.o.hp
      simp only [putAll, meL] at hF hBF hPF
      have g0 := hF.cs 0 _ rfl
      have g1 := hF.cs 1 _ rfl
      have g2 := hF.cs 2 _ rfl
      have g3 := hF.cs 3 _ rfl
      have g4 := hF.cs 4 _ rfl
      have g5 := hF.cs 5 _ rfl
      have g6 := hF.cs 6 _ rfl
      have g7 := hF.cs 7 _ rfl
      have g8 := hF.cs 8 _ rfl
      have g9 := hF.cs 9 _ rfl
      refine bodyPost_ret (v := .tuple #[meV y none 0, .int .i64 0]) (by simp [results, Tryz.results19, meV, go_sem, g0, g1, g2, g3, g4, g5, g6, g7, g8, g9]) rfl ?_
      rw [hrc, hgt]
      exact ⟨none, 0, rfl, HP91.out.o.hc, hPF, hBF, fun a ha => (HP91.out.o.hA a ha).2.2.2⟩
    · have hrc : RC = C := by rw [HRCX.out, if_neg (by omega)]
      have hgt : GT = Me.zero 0 0 := by rw [HGTX.out, if_neg (by rw [hrc]; exact c0)]
      have HCK := Lib.hid (HCX.out none 0 x9 HP90.out.o.hc HP90.out.o.hp)
      have hk0 : (C != 0) = true := by rw [bne_iff_ne]; exact c0
      rw [e0]
      clear e0 c0
      simp only [meV] at HCK
      have c0 := HP90.out.o.m.cs 0 _ rfl
      have c1 := HP90.out.o.m.cs 1 _ rfl
      have c2 := HP90.out.o.m.cs 2 _ rfl
      have c3 := HP90.out.o.m.cs 3 _ rfl
      have c4 := HP90.out.o.m.cs 4 _ rfl
      have c5 := HP90.out.o.m.cs 5 _ rfl
      have c6 := HP90.out.o.m.cs 6 _ rfl
      have c7 := HP90.out.o.m.cs 7 _ rfl
      have c8 := HP90.out.o.m.cs 8 _ rfl
      have c9 := HP90.out.o.m.cs 9 _ rfl
      have cl := HP90.out.o.m.lt
      have cf : ∀ j, x9.frozen? ⟨g, j, none⟩ = false := HP90.out.o.m.s
      have h0 := HP90.out.h.cs 0 _ rfl
      have h1 := HP90.out.h.cs 1 _ rfl
      have h2 := HP90.out.h.cs 2 _ rfl
      have h3 := HP90.out.h.cs 3 _ rfl
      have h4 := HP90.out.h.cs 4 _ rfl
      have h5 := HP90.out.h.cs 5 _ rfl
      have h6 := HP90.out.h.cs 6 _ rfl
      have h7 := HP90.out.h.cs 7 _ rfl
      have h8 := HP90.out.h.cs 8 _ rfl
      have h9 := HP90.out.h.cs 9 _ rfl
      have hl := HP90.out.h.lt
      go_wp2_with fail
      refine HCK.out.mono ?_
      rintro e x10 ⟨rfl, hb⟩
      have HP91 := Lib.hid (HP90.out.on HRR.out hb)
      clear hb c0 c1 c2 c3 c4 c5 c6 c7 c8 c9 cl cf h0 h1 h2 h3 h4 h5 h6 h7 h8 h9 hl
      have z0 := HP91.out.o.q.cs 0 _ rfl
      have z1 := HP91.out.o.q.cs 1 _ rfl
      have z2 := HP91.out.o.q.cs 2 _ rfl
      have z3 := HP91.out.o.q.cs 3 _ rfl
      have z4 := HP91.out.o.q.cs 4 _ rfl
      have z5 := HP91.out.o.q.cs 5 _ rfl
      have z6 := HP91.out.o.q.cs 6 _ rfl
      have z7 := HP91.out.o.q.cs 7 _ rfl
      have z8 := HP91.out.o.q.cs 8 _ rfl
      have z9 := HP91.out.o.q.cs 9 _ rfl
      have zf : ∀ j, x10.frozen? ⟨w.heap.size + 1, j, none⟩ = false := HP91.out.o.q.s
      have zl := HP91.out.o.q.lt
      go_wp2_with fail
      have hF := HP91.out.o.q.fill [.int .u8 0, .int .u8 0, .string ⟨#[]⟩, .string ⟨#[]⟩, .string ⟨#[]⟩, .slice none 0 0, .string ⟨#[]⟩, .int .u64 0, .int .u64 0, .bool false] rfl
      have hBF := below_putAll HP91.out.o.q.ge [.int .u8 0, .int .u8 0, .string ⟨#[]⟩, .string ⟨#[]⟩, .string ⟨#[]⟩, .slice none 0 0, .string ⟨#[]⟩, .int .u64 0, .int .u64 0, .bool false] 0 HP91.out.o.B
      simp only [putAll] at hF hBF
      have g0 := hF.cs 0 _ rfl
      have g1 := hF.cs 1 _ rfl
      have g2 := hF.cs 2 _ rfl
      have g3 := hF.cs 3 _ rfl
      have g4 := hF.cs 4 _ rfl
      have g5 := hF.cs 5 _ rfl
      have g6 := hF.cs 6 _ rfl
      have g7 := hF.cs 7 _ rfl
      have g8 := hF.cs 8 _ rfl
      have g9 := hF.cs 9 _ rfl
      refine bodyPost_ret (v := .tuple #[.agg #[.int .u8 0, .int .u8 0, .string ⟨#[]⟩, .string ⟨#[]⟩, .string ⟨#[]⟩, .slice none 0 0, .string ⟨#[]⟩, .int .u64 0, .int .u64 0, .bool false], .int .i64 C]) (by simp [results, Tryz.results19, go_sem, g0, g1, g2, g3, g4, g5, g6, g7, g8, g9]) rfl ?_
      rw [hrc, hgt]
      exact me_zero_post hBF
  · have hrc : RC = EC := by rw [HRCX.out, if_pos e0]
    have hgt : GT = Me.zero 0 0 := by rw [HGTX.out, if_neg (by rw [hrc]; exact e0)]
    have hk0 : (EC != 0) = true := by rw [bne_iff_ne]; exact e0
    have hk1 : (EC == 0) = false := by rw [beq_eq_false_iff_ne]; exact e0
    clear e0
    have z0 := HP90.out.o.q.cs 0 _ rfl
    have z1 := HP90.out.o.q.cs 1 _ rfl
    have z2 := HP90.out.o.q.cs 2 _ rfl
    have z3 := HP90.out.o.q.cs 3 _ rfl
    have z4 := HP90.out.o.q.cs 4 _ rfl
    have z5 := HP90.out.o.q.cs 5 _ rfl
    have z6 := HP90.out.o.q.cs 6 _ rfl
    have z7 := HP90.out.o.q.cs 7 _ rfl
    have z8 := HP90.out.o.q.cs 8 _ rfl
    have z9 := HP90.out.o.q.cs 9 _ rfl
    have zf : ∀ j, x9.frozen? ⟨w.heap.size + 1, j, none⟩ = false := HP90.out.o.q.s
    have zl := HP90.out.o.q.lt
    go_wp2_with fail
    have hF := HP90.out.o.q.fill [.int .u8 0, .int .u8 0, .string ⟨#[]⟩, .string ⟨#[]⟩, .string ⟨#[]⟩, .slice none 0 0, .string ⟨#[]⟩, .int .u64 0, .int .u64 0, .bool false] rfl
    have hBF := below_putAll HP90.out.o.q.ge [.int .u8 0, .int .u8 0, .string ⟨#[]⟩, .string ⟨#[]⟩, .string ⟨#[]⟩, .slice none 0 0, .string ⟨#[]⟩, .int .u64 0, .int .u64 0, .bool false] 0 HP90.out.o.B
    simp only [putAll] at hF hBF
    have g0 := hF.cs 0 _ rfl
    have g1 := hF.cs 1 _ rfl
    have g2 := hF.cs 2 _ rfl
    have g3 := hF.cs 3 _ rfl
    have g4 := hF.cs 4 _ rfl
    have g5 := hF.cs 5 _ rfl
    have g6 := hF.cs 6 _ rfl
    have g7 := hF.cs 7 _ rfl
    have g8 := hF.cs 8 _ rfl
    have g9 := hF.cs 9 _ rfl
    refine bodyPost_ret (v := .tuple #[.agg #[.int .u8 0, .int .u8 0, .string ⟨#[]⟩, .string ⟨#[]⟩, .string ⟨#[]⟩, .slice none 0 0, .string ⟨#[]⟩, .int .u64 0, .int .u64 0, .bool false], .int .i64 EC]) (by simp [results, Tryz.results19, go_sem, g0, g1, g2, g3, g4, g5, g6, g7, g8, g9]) rfl ?_
    rw [hrc, hgt]
    exact me_zero_post hBF
end Go.Proofs.YtnamkglflhkckaaGreatDoor
end
