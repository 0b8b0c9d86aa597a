/-
  A REPLY READ OF A FRAME, as the document has it: walked.
-/
import Derived.Test.YtnamkglflhkckaaDoorRr21
import Derived.Test.YtnamkglflhkckaaDoorRr32
import Derived.Test.YtnamkglflhkckaaDoorRr33
import Derived.Test.YtnamkglflhkckaaDoorRr34
import Derived.Deep.DeepCutAuto
section
namespace Go.Proofs.YtnamkglflhkckaaDoor
open Go.ChangeShapes Go.WideShapes Go.ChangeAt Go.RowKit
theorem ReOf.moved {w : World} {R : LSt → World → Prop} {b g : Nat} {y : Re} {s s' : LSt} {A : Option Addr} {c : Nat} {W W' : World} (h : ReOf w R b g y s A c W) (hi : R s' W') (hg : W.grownBy W' (some b)) : ReOf w R b g y s' A c W' :=
  have hgb := h.gb
  have hgq := h.gq
  ⟨hi, h.m.grown hg (by omega), h.q.grown hg (by omega), h.hc, h.hp.grown hg (fun a ha e => (h.hA a ha).1 (Option.some.inj e)), h.hA, h.gb, h.gq, below_in h.B hg h.B.size (by omega)⟩
theorem ReOf.put {w : World} {R : LSt → World → Prop} {b g : Nat} (hR : Rder b R) {y : Re} {s : LSt} {A : Option Addr} {c : Nat} {W : World} (h : ReOf w R b g y s A c W) (y' : Re) (j : Nat) (v : Value) (hj : j < 13) (he : (reL y A c).set j v = reL y' A c) (hh : y'.head = y.head) : ReOf w R b g y' s A c (W.setCell ⟨g, j, none⟩ v) :=
  have hgb := h.gb
  have hgq := h.gq
  ⟨hR.put h.ri (by omega) j v, by rw [← he]; exact h.m.put j v hj, h.q.aside (by omega) j v, by rw [hh]; exact h.hc, by rw [hh]; exact h.hp.aside (fun a ha e => (h.hA a ha).2.1 e.symm) j v, h.hA, h.gb, h.gq, h.B.setCell h.m.ge v⟩
theorem ReOf.putH {w : World} {R : LSt → World → Prop} {b g : Nat} (hR : Rder b R) {y : Re} {s : LSt} {A : Option Addr} {c : Nat} {W : World} (h : ReOf w R b g y s A c W) (l : List Hd.Pr) (A' : Option Addr) (c' : Nat) (hc : l.length ≤ c') (hp : Prs W A' l) (hA : ∀ a, A' = some a → b < a.block) : ReOf w R b g {y with head := l} s A' c' (W.setCell ⟨g, 9, none⟩ (.slice A' l.length c')) :=
  have hgb := h.gb
  have hgq := h.gq
  have hA2 : ∀ a, A' = some a → a.block ≠ b ∧ a.block ≠ g ∧ a.block ≠ w.heap.size + 1 ∧ w.heap.size ≤ a.block := fun a ha => by have := hA a ha; omega
  ⟨hR.put h.ri (by omega) 9 _, h.m.put 9 (.slice A' l.length c') (by simp [reL]), h.q.aside (by omega) 9 _, hc, hp.aside (fun a ha e => (hA2 a ha).2.1 e.symm) 9 _, hA2, h.gb, h.gq, h.B.setCell h.m.ge _⟩
theorem r12_start (c k D : UInt8) (body : List UInt8) (w : World) :
    ReOf w (RefL (w.heap.size + 1 + 1 + 1) (ofL body)) (w.heap.size + 1 + 1 + 1) (w.heap.size + 1 + 1) (Re.zero c D) (body, 0) none 0 ((((w.alloc (.cells #[.int .u8 (c.toNat : Int), .int .u8 (k.toNat : Int), .string (ofL body)] 37)).alloc (.cells #[.int .u8 0, .int .u8 0, .int .u64 0, .int .u64 0, .bool false, .string ⟨#[]⟩, .int .u64 0, .string ⟨#[]⟩, .string ⟨#[]⟩, .slice none 0 0, .string ⟨#[]⟩, .int .u64 0, .int .u8 0] 34)).alloc (.cells #[.int .u8 (c.toNat : Int), .int .u8 (D.toNat : Int), .int .u64 0, .int .u64 0, .bool false, .string ⟨#[]⟩, .int .u64 0, .string ⟨#[]⟩, .string ⟨#[]⟩, .slice none 0 0, .string ⟨#[]⟩, .int .u64 0, .int .u8 0] 34)).alloc (.cells #[.string (ofL body), .int .i64 0, .int .i64 0] 58)) := by
  have hb : (((w.alloc (.cells #[.int .u8 (c.toNat : Int), .int .u8 (k.toNat : Int), .string (ofL body)] 37)).alloc (.cells #[.int .u8 0, .int .u8 0, .int .u64 0, .int .u64 0, .bool false, .string ⟨#[]⟩, .int .u64 0, .string ⟨#[]⟩, .string ⟨#[]⟩, .slice none 0 0, .string ⟨#[]⟩, .int .u64 0, .int .u8 0] 34)).alloc (.cells #[.int .u8 (c.toNat : Int), .int .u8 (D.toNat : Int), .int .u64 0, .int .u64 0, .bool false, .string ⟨#[]⟩, .int .u64 0, .string ⟨#[]⟩, .string ⟨#[]⟩, .slice none 0 0, .string ⟨#[]⟩, .int .u64 0, .int .u8 0] 34)).heap.size = w.heap.size + 1 + 1 + 1 := by simp
  rw [← hb]
  have h2 : BoxC w (w.heap.size + 1) [.int .u8 0, .int .u8 0, .int .u64 0, .int .u64 0, .bool false, .string ⟨#[]⟩, .int .u64 0, .string ⟨#[]⟩, .string ⟨#[]⟩, .slice none 0 0, .string ⟨#[]⟩, .int .u64 0, .int .u8 0] ((w.alloc (.cells #[.int .u8 (c.toNat : Int), .int .u8 (k.toNat : Int), .string (ofL body)] 37)).alloc (.cells #[.int .u8 0, .int .u8 0, .int .u64 0, .int .u64 0, .bool false, .string ⟨#[]⟩, .int .u64 0, .string ⟨#[]⟩, .string ⟨#[]⟩, .slice none 0 0, .string ⟨#[]⟩, .int .u64 0, .int .u8 0] 34)) := by
    have := BoxC.new (w := w) (W := (w.alloc (.cells #[.int .u8 (c.toNat : Int), .int .u8 (k.toNat : Int), .string (ofL body)] 37))) (by simp) #[.int .u8 0, .int .u8 0, .int .u64 0, .int .u64 0, .bool false, .string ⟨#[]⟩, .int .u64 0, .string ⟨#[]⟩, .string ⟨#[]⟩, .slice none 0 0, .string ⟨#[]⟩, .int .u64 0, .int .u8 0] 34
    simpa using this
  have h3 : BoxC w (w.heap.size + 1 + 1) [.int .u8 (c.toNat : Int), .int .u8 (D.toNat : Int), .int .u64 0, .int .u64 0, .bool false, .string ⟨#[]⟩, .int .u64 0, .string ⟨#[]⟩, .string ⟨#[]⟩, .slice none 0 0, .string ⟨#[]⟩, .int .u64 0, .int .u8 0] (((w.alloc (.cells #[.int .u8 (c.toNat : Int), .int .u8 (k.toNat : Int), .string (ofL body)] 37)).alloc (.cells #[.int .u8 0, .int .u8 0, .int .u64 0, .int .u64 0, .bool false, .string ⟨#[]⟩, .int .u64 0, .string ⟨#[]⟩, .string ⟨#[]⟩, .slice none 0 0, .string ⟨#[]⟩, .int .u64 0, .int .u8 0] 34)).alloc (.cells #[.int .u8 (c.toNat : Int), .int .u8 (D.toNat : Int), .int .u64 0, .int .u64 0, .bool false, .string ⟨#[]⟩, .int .u64 0, .string ⟨#[]⟩, .string ⟨#[]⟩, .slice none 0 0, .string ⟨#[]⟩, .int .u64 0, .int .u8 0] 34)) := by
    have := BoxC.new (w := w) (W := ((w.alloc (.cells #[.int .u8 (c.toNat : Int), .int .u8 (k.toNat : Int), .string (ofL body)] 37)).alloc (.cells #[.int .u8 0, .int .u8 0, .int .u64 0, .int .u64 0, .bool false, .string ⟨#[]⟩, .int .u64 0, .string ⟨#[]⟩, .string ⟨#[]⟩, .slice none 0 0, .string ⟨#[]⟩, .int .u64 0, .int .u8 0] 34))) (by simp; omega) #[.int .u8 (c.toNat : Int), .int .u8 (D.toNat : Int), .int .u64 0, .int .u64 0, .bool false, .string ⟨#[]⟩, .int .u64 0, .string ⟨#[]⟩, .string ⟨#[]⟩, .slice none 0 0, .string ⟨#[]⟩, .int .u64 0, .int .u8 0] 34
    simpa using this
  have a1 : Below (w.alloc (.cells #[.int .u8 (c.toNat : Int), .int .u8 (k.toNat : Int), .string (ofL body)] 37)).heap.size (w.alloc (.cells #[.int .u8 (c.toNat : Int), .int .u8 (k.toNat : Int), .string (ofL body)] 37)) ((w.alloc (.cells #[.int .u8 (c.toNat : Int), .int .u8 (k.toNat : Int), .string (ofL body)] 37)).alloc (.cells #[.int .u8 0, .int .u8 0, .int .u64 0, .int .u64 0, .bool false, .string ⟨#[]⟩, .int .u64 0, .string ⟨#[]⟩, .string ⟨#[]⟩, .slice none 0 0, .string ⟨#[]⟩, .int .u64 0, .int .u8 0] 34)) := (Below.refl _ _).alloc (Nat.le_refl _) _
  have a2 : Below ((w.alloc (.cells #[.int .u8 (c.toNat : Int), .int .u8 (k.toNat : Int), .string (ofL body)] 37)).alloc (.cells #[.int .u8 0, .int .u8 0, .int .u64 0, .int .u64 0, .bool false, .string ⟨#[]⟩, .int .u64 0, .string ⟨#[]⟩, .string ⟨#[]⟩, .slice none 0 0, .string ⟨#[]⟩, .int .u64 0, .int .u8 0] 34)).heap.size ((w.alloc (.cells #[.int .u8 (c.toNat : Int), .int .u8 (k.toNat : Int), .string (ofL body)] 37)).alloc (.cells #[.int .u8 0, .int .u8 0, .int .u64 0, .int .u64 0, .bool false, .string ⟨#[]⟩, .int .u64 0, .string ⟨#[]⟩, .string ⟨#[]⟩, .slice none 0 0, .string ⟨#[]⟩, .int .u64 0, .int .u8 0] 34)) (((w.alloc (.cells #[.int .u8 (c.toNat : Int), .int .u8 (k.toNat : Int), .string (ofL body)] 37)).alloc (.cells #[.int .u8 0, .int .u8 0, .int .u64 0, .int .u64 0, .bool false, .string ⟨#[]⟩, .int .u64 0, .string ⟨#[]⟩, .string ⟨#[]⟩, .slice none 0 0, .string ⟨#[]⟩, .int .u64 0, .int .u8 0] 34)).alloc (.cells #[.int .u8 (c.toNat : Int), .int .u8 (D.toNat : Int), .int .u64 0, .int .u64 0, .bool false, .string ⟨#[]⟩, .int .u64 0, .string ⟨#[]⟩, .string ⟨#[]⟩, .slice none 0 0, .string ⟨#[]⟩, .int .u64 0, .int .u8 0] 34)) := (Below.refl _ _).alloc (Nat.le_refl _) _
  have a3 : Below (((w.alloc (.cells #[.int .u8 (c.toNat : Int), .int .u8 (k.toNat : Int), .string (ofL body)] 37)).alloc (.cells #[.int .u8 0, .int .u8 0, .int .u64 0, .int .u64 0, .bool false, .string ⟨#[]⟩, .int .u64 0, .string ⟨#[]⟩, .string ⟨#[]⟩, .slice none 0 0, .string ⟨#[]⟩, .int .u64 0, .int .u8 0] 34)).alloc (.cells #[.int .u8 (c.toNat : Int), .int .u8 (D.toNat : Int), .int .u64 0, .int .u64 0, .bool false, .string ⟨#[]⟩, .int .u64 0, .string ⟨#[]⟩, .string ⟨#[]⟩, .slice none 0 0, .string ⟨#[]⟩, .int .u64 0, .int .u8 0] 34)).heap.size (((w.alloc (.cells #[.int .u8 (c.toNat : Int), .int .u8 (k.toNat : Int), .string (ofL body)] 37)).alloc (.cells #[.int .u8 0, .int .u8 0, .int .u64 0, .int .u64 0, .bool false, .string ⟨#[]⟩, .int .u64 0, .string ⟨#[]⟩, .string ⟨#[]⟩, .slice none 0 0, .string ⟨#[]⟩, .int .u64 0, .int .u8 0] 34)).alloc (.cells #[.int .u8 (c.toNat : Int), .int .u8 (D.toNat : Int), .int .u64 0, .int .u64 0, .bool false, .string ⟨#[]⟩, .int .u64 0, .string ⟨#[]⟩, .string ⟨#[]⟩, .slice none 0 0, .string ⟨#[]⟩, .int .u64 0, .int .u8 0] 34)) ((((w.alloc (.cells #[.int .u8 (c.toNat : Int), .int .u8 (k.toNat : Int), .string (ofL body)] 37)).alloc (.cells #[.int .u8 0, .int .u8 0, .int .u64 0, .int .u64 0, .bool false, .string ⟨#[]⟩, .int .u64 0, .string ⟨#[]⟩, .string ⟨#[]⟩, .slice none 0 0, .string ⟨#[]⟩, .int .u64 0, .int .u8 0] 34)).alloc (.cells #[.int .u8 (c.toNat : Int), .int .u8 (D.toNat : Int), .int .u64 0, .int .u64 0, .bool false, .string ⟨#[]⟩, .int .u64 0, .string ⟨#[]⟩, .string ⟨#[]⟩, .slice none 0 0, .string ⟨#[]⟩, .int .u64 0, .int .u8 0] 34)).alloc (.cells #[.string (ofL body), .int .i64 0, .int .i64 0] 58)) := (Below.refl _ _).alloc (Nat.le_refl _) _
  have a0 : Below w.heap.size w (w.alloc (.cells #[.int .u8 (c.toNat : Int), .int .u8 (k.toNat : Int), .string (ofL body)] 37)) := (Below.refl _ _).alloc (Nat.le_refl _) _
  exact ⟨RefL.new body (((w.alloc (.cells #[.int .u8 (c.toNat : Int), .int .u8 (k.toNat : Int), .string (ofL body)] 37)).alloc (.cells #[.int .u8 0, .int .u8 0, .int .u64 0, .int .u64 0, .bool false, .string ⟨#[]⟩, .int .u64 0, .string ⟨#[]⟩, .string ⟨#[]⟩, .slice none 0 0, .string ⟨#[]⟩, .int .u64 0, .int .u8 0] 34)).alloc (.cells #[.int .u8 (c.toNat : Int), .int .u8 (D.toNat : Int), .int .u64 0, .int .u64 0, .bool false, .string ⟨#[]⟩, .int .u64 0, .string ⟨#[]⟩, .string ⟨#[]⟩, .slice none 0 0, .string ⟨#[]⟩, .int .u64 0, .int .u8 0] 34)) 58, h3.on a3, (h2.on a2).on a3, Nat.zero_le _, Prs.nil _ _, (fun a ha => by cases ha), by simp, by omega, bthen (bthen (bthen a0 a1 (Nat.le_refl _)) a2 (Nat.le_refl _)) a3 (Nat.le_refl _)⟩
set_option maxRecDepth 100000 in
set_option maxHeartbeats 16000000 in
theorem r12Parse_0 (c k : UInt8) (body : List UInt8) (w : World) (hS : (ofL body).size ≤ 1000000) (h20 : ¬ (k.toNat < 64 ∨ 71 < k.toNat)) (hk : (Re.down k).toNat = 0) : Calls Tryd.prog 9 #[.agg #[.int .u8 (c.toNat : Int), .int .u8 (k.toNat : Int), .string (ofL body)]] w (ReOfPost (Re.got c k body) (Re.rcode c k body) w) := by
  have HC : Hid (Re.rcode c k body = if (k.toNat < 64 ∨ 71 < k.toNat) then 8 else Re.tail c (Re.down k) body) := rfl
  have HG : Hid (Re.got c k body = if Re.rcode c k body = 0 then (Re.rd c (Re.down k) body).1 else Re.zero 0 0) := rfl
  have HTL : Hid (Re.tail c (Re.down k) body = if lEnd (Re.rd c (Re.down k) body).2 ≠ 0 then lEnd (Re.rd c (Re.down k) body).2 else ((Re.rd c (Re.down k) body).1.code : Int)) := rfl
  skip
  have hz : decide ((k.toNat : Int) < 64) = false := decide_eq_false (by omega)
  have hz2 : decide ((71 : Int) < (k.toNat : Int)) = false := decide_eq_false (by omega)
  have hdn : IntKind.u8.wrap ((k.toNat : Int) - 64) = ((Re.down k).toNat : Int) := by
    unfold Re.down
    rw [UInt8.toNat_sub, show IntKind.u8.wrap ((k.toNat : Int) - 64) = ((k.toNat : Int) - 64) % 256 from rfl]
    show _ = (((2 ^ 8 - 64 + k.toNat) % 256 : Nat) : Int)
    omega
  have hD7 : (Re.down k).toNat ≤ 7 := by
    unfold Re.down
    rw [UInt8.toNat_sub]
    show (2 ^ 8 - 64 + k.toNat) % 256 ≤ 7
    omega
  have HC := Lib.hid (show Re.rcode c k body = Re.tail c (Re.down k) body by rw [HC.out, if_neg h20])
  clear h20
  generalize Re.down k = D at *
  generalize Re.rcode c k body = RC at *
  generalize Re.got c k body = GT at *
  generalize Re.tail c D body = TL at *
  have HS0 := Lib.hid (r12_start c k D body w)
  have HLOW : Hid (ReLow (Re.rd c D body).1) := re_rdl_low _ _ (re_zero_low c D)
  have HTN := Lib.hid (fun W => tellsN_any D.toNat W)
  have HTM := Lib.hid (fun W => tellsM_any D.toNat W)
  have HSZ := Lib.hid hS
  clear hS
  obtain ⟨s0, hs0⟩ : ∃ s0 : LSt, s0 = (body, 0) := ⟨_, rfl⟩
  rw [← hs0] at HS0
  have HOK0 := Lib.hid (show lOk s0 by rw [hs0]; exact lOk_new body)
  have HRDS : Hid (∀ D, Re.rd c D body = Re.rdl (Re.tells D.toNat) (Re.zero c D, s0)) := Lib.hid (fun D => by rw [hs0]; rfl)
  clear hs0
  have HNUM := Lib.hid (fun s k2 (n : Int) W h1 h2 h3 => rinum_l (w.heap.size + 1 + 1 + 1) (ofL body) s k2 n W h1 h2 h3 HSZ.out)
  have HTXT := Lib.hid (fun s m W h => ritext_l (w.heap.size + 1 + 1 + 1) (ofL body) s m W h HSZ.out)
  have HFAIL := Lib.hid (fun s cc W h => rifail_l (w.heap.size + 1 + 1 + 1) (ofL body) s cc W h)
  have HHD := Lib.hid (fun s W h1 h2 => rread9_any (w.heap.size + 1 + 1 + 1) (ofL body) s W h1 h2 HSZ.out)
  have HENQ := Lib.hid (fun s W h => riend_l (w.heap.size + 1 + 1 + 1) (ofL body) s W h)
  have HCHK := Lib.hid (fun y A cq W h => r12Check_any y A cq W h)
  have HRR := Lib.hid (rdr_ref (w.heap.size + 1 + 1 + 1) (ofL body))
  unfold RPostL at HNUM HTXT HFAIL
  unfold HReadPost at HHD
  unfold Quiet at HENQ
  simp only [reV] at HCHK
  have HE := Lib.hid (show Re.rd c D body = ({(Re.zero c D) with name := lTextOut (s0) 16}, lText (s0) 16) by rw [HRDS.out D]; rw [hk]; rfl)
  have k0 : ((D.toNat : Int) == 0) = true := by rw [hk]; rfl
  have k3 : ((D.toNat : Int) == 3) = false := beq_eq_false_iff_ne.2 (by omega)
  rw [show Re.tellsN D.toNat = false by rw [hk]; rfl] at HTN
  rw [show Re.tellsM D.toNat = false by rw [hk]; rfl] at HTM
  clear hk hD7
  go_enter Tryd.func9, Tryd.ntmps9
  go_wp2_with fail
  generalize ((((w.alloc (.cells #[.int .u8 (c.toNat : Int), .int .u8 (k.toNat : Int), .string (ofL body)] 37)).alloc (.cells #[.int .u8 0, .int .u8 0, .int .u64 0, .int .u64 0, .bool false, .string ⟨#[]⟩, .int .u64 0, .string ⟨#[]⟩, .string ⟨#[]⟩, .slice none 0 0, .string ⟨#[]⟩, .int .u64 0, .int .u8 0] 34)).alloc (.cells #[.int .u8 (c.toNat : Int), .int .u8 (D.toNat : Int), .int .u64 0, .int .u64 0, .bool false, .string ⟨#[]⟩, .int .u64 0, .string ⟨#[]⟩, .string ⟨#[]⟩, .slice none 0 0, .string ⟨#[]⟩, .int .u64 0, .int .u8 0] 34)).alloc (.cells #[.string (ofL body), .int .i64 0, .int .i64 0] 58)) = w4 at *
  have c0 := HS0.out.m.cs 0 _ rfl
  have c1 : w4.cell? ⟨w.heap.size + 1 + 1, 1, none⟩ = some (.int .u8 (D.toNat : Int)) := HS0.out.m.cs 1 _ rfl
  have c2 := HS0.out.m.cs 2 _ rfl
  have c3 := HS0.out.m.cs 3 _ rfl
  have c4 := HS0.out.m.cs 4 _ rfl
  have c5 := HS0.out.m.cs 5 _ rfl
  have c6 := HS0.out.m.cs 6 _ rfl
  have c7 := HS0.out.m.cs 7 _ rfl
  have c8 := HS0.out.m.cs 8 _ rfl
  have c9 := HS0.out.m.cs 9 _ rfl
  have c10 := HS0.out.m.cs 10 _ rfl
  have c11 := HS0.out.m.cs 11 _ rfl
  have c12 := HS0.out.m.cs 12 _ rfl
  have cl := HS0.out.m.lt
  have cf : ∀ j, w4.frozen? ⟨w.heap.size + 1 + 1, j, none⟩ = false := HS0.out.m.s
  refine (HTXT.out _ 16 _ HS0.out.ri).mono ?_
  rintro e w10 ⟨rfl, hi, hg⟩
  have HM10 := Lib.hid (HS0.out.moved hi hg)
  have HP10 := Lib.hid (HM10.out.put HRR.out ({(Re.zero c D) with name := lTextOut (s0) 16}) 5 (.string (ofL (lTextOut (s0) 16))) (by decide) rfl rfl)
  clear hi hg c0 c1 c2 c3 c4 c5 c6 c7 c8 c9 c10 c11 c12 cl cf
  have c0 := HM10.out.m.cs 0 _ rfl
  have c1 : w10.cell? ⟨w.heap.size + 1 + 1, 1, none⟩ = some (.int .u8 (D.toNat : Int)) := HM10.out.m.cs 1 _ rfl
  have c2 := HM10.out.m.cs 2 _ rfl
  have c3 := HM10.out.m.cs 3 _ rfl
  have c4 := HM10.out.m.cs 4 _ rfl
  have c5 := HM10.out.m.cs 5 _ rfl
  have c6 := HM10.out.m.cs 6 _ rfl
  have c7 := HM10.out.m.cs 7 _ rfl
  have c8 := HM10.out.m.cs 8 _ rfl
  have c9 := HM10.out.m.cs 9 _ rfl
  have c10 := HM10.out.m.cs 10 _ rfl
  have c11 := HM10.out.m.cs 11 _ rfl
  have c12 := HM10.out.m.cs 12 _ rfl
  have cl := HM10.out.m.lt
  have cf : ∀ j, w10.frozen? ⟨w.heap.size + 1 + 1, j, none⟩ = false := HM10.out.m.s
  go_wp2_with fail
  generalize w10.setCell ⟨w.heap.size + 1 + 1, 5, none⟩ (.string (ofL (lTextOut (s0) 16))) = v10 at *
  clear c0 c1 c2 c3 c4 c5 c6 c7 c8 c9 c10 c11 c12 cl cf
  have c0 := HP10.out.m.cs 0 _ rfl
  have c1 : v10.cell? ⟨w.heap.size + 1 + 1, 1, none⟩ = some (.int .u8 (D.toNat : Int)) := HP10.out.m.cs 1 _ rfl
  have c2 := HP10.out.m.cs 2 _ rfl
  have c3 := HP10.out.m.cs 3 _ rfl
  have c4 := HP10.out.m.cs 4 _ rfl
  have c5 := HP10.out.m.cs 5 _ rfl
  have c6 := HP10.out.m.cs 6 _ rfl
  have c7 := HP10.out.m.cs 7 _ rfl
  have c8 := HP10.out.m.cs 8 _ rfl
  have c9 := HP10.out.m.cs 9 _ rfl
  have c10 := HP10.out.m.cs 10 _ rfl
  have c11 := HP10.out.m.cs 11 _ rfl
  have c12 := HP10.out.m.cs 12 _ rfl
  have cl := HP10.out.m.lt
  have cf : ∀ j, v10.frozen? ⟨w.heap.size + 1 + 1, j, none⟩ = false := HP10.out.m.s
  refine (HTN.out _).mono ?_
  rintro e w9 ⟨rfl, rfl⟩
  go_wp2_with fail
  refine (HTM.out _).mono ?_
  rintro e w9 ⟨rfl, rfl⟩
  go_wp2_with fail
  clear c0 c1 c2 c3 c4 c5 c6 c7 c8 c9 c10 c11 c12 cl cf
  have HS := Lib.hid (show ReOf w (RefL (w.heap.size + 1 + 1 + 1) (ofL body)) (w.heap.size + 1 + 1 + 1) (w.heap.size + 1 + 1) (Re.rd c D body).1 (Re.rd c D body).2 _ _ v10 by rw [HE.out]; exact HP10.out)
  clear HE
  generalize Re.rd c D body = t at *
  obtain ⟨y, s⟩ := t
  dsimp only at HS HLOW HTL HG
  obtain ⟨A, cq, HS⟩ : ∃ A cq, Hid (ReOf w (RefL (w.heap.size + 1 + 1 + 1) (ofL body)) (w.heap.size + 1 + 1 + 1) (w.heap.size + 1 + 1) y s A cq v10) := ⟨_, _, HS⟩
  have HEN := Lib.hid (HENQ.out s v10 HS.out.ri)
  by_cases he : lEnd s = 0
  · have hTL := HTL.out
    rw [if_neg (by rw [he]; decide)] at hTL
    have HTL := Lib.hid hTL
    rw [he] at HEN
    clear he hTL
    by_cases h0 : y.code = 0
    · have HRC0 := Lib.hid (show RC = 0 by rw [HC.out, HTL.out, h0]; rfl)
      have HGT := Lib.hid (show GT = y by rw [HG.out, if_pos HRC0.out])
      have HCHK := Lib.hid (fun A cq W h => HCHK.out y A cq W h)
      rw [show (y.code : Int) = 0 by rw [h0]; rfl] at HCHK
      clear h0 HG HC HTL
      refine HEN.out.mono ?_
      rintro e w6 ⟨rfl, nq, hw6⟩
      have HS6 := Lib.hid (HS.out.on HRR.out (show Below v10.heap.size v10 w6 by rw [hw6]; exact drewN_below (Below.refl _ _) nq))
      clear hw6
      have c0 := HS6.out.m.cs 0 _ rfl
      have c1 := HS6.out.m.cs 1 _ rfl
      have c2 := HS6.out.m.cs 2 _ rfl
      have c3 := HS6.out.m.cs 3 _ rfl
      have c4 := HS6.out.m.cs 4 _ rfl
      have c5 := HS6.out.m.cs 5 _ rfl
      have c6 := HS6.out.m.cs 6 _ rfl
      have c7 := HS6.out.m.cs 7 _ rfl
      have c8 := HS6.out.m.cs 8 _ rfl
      have c9 := HS6.out.m.cs 9 _ rfl
      have c10 := HS6.out.m.cs 10 _ rfl
      have c11 := HS6.out.m.cs 11 _ rfl
      have c12 := HS6.out.m.cs 12 _ rfl
      have cl := HS6.out.m.lt
      have cf : ∀ j, w6.frozen? ⟨w.heap.size + 1 + 1, j, none⟩ = false := HS6.out.m.s
      go_wp2_with fail
      refine (HCHK.out _ _ _ (HLOW.out.ok HS6.out.hc HS6.out.hp)).mono ?_
      rintro e w7 ⟨rfl, b7⟩
      have HS7 := Lib.hid (HS6.out.on HRR.out b7)
      clear c0 c1 c2 c3 c4 c5 c6 c7 c8 c9 c10 c11 c12 cl cf b7
      have c0 := HS7.out.m.cs 0 _ rfl
      have c1 := HS7.out.m.cs 1 _ rfl
      have c2 := HS7.out.m.cs 2 _ rfl
      have c3 := HS7.out.m.cs 3 _ rfl
      have c4 := HS7.out.m.cs 4 _ rfl
      have c5 := HS7.out.m.cs 5 _ rfl
      have c6 := HS7.out.m.cs 6 _ rfl
      have c7 := HS7.out.m.cs 7 _ rfl
      have c8 := HS7.out.m.cs 8 _ rfl
      have c9 := HS7.out.m.cs 9 _ rfl
      have c10 := HS7.out.m.cs 10 _ rfl
      have c11 := HS7.out.m.cs 11 _ rfl
      have c12 := HS7.out.m.cs 12 _ rfl
      have cl := HS7.out.m.lt
      have cf : ∀ j, w7.frozen? ⟨w.heap.size + 1 + 1, j, none⟩ = false := HS7.out.m.s
      have z0 := HS7.out.q.cs 0 _ rfl
      have z1 := HS7.out.q.cs 1 _ rfl
      have z2 := HS7.out.q.cs 2 _ rfl
      have z3 := HS7.out.q.cs 3 _ rfl
      have z4 := HS7.out.q.cs 4 _ rfl
      have z5 := HS7.out.q.cs 5 _ rfl
      have z6 := HS7.out.q.cs 6 _ rfl
      have z7 := HS7.out.q.cs 7 _ rfl
      have z8 := HS7.out.q.cs 8 _ rfl
      have z9 := HS7.out.q.cs 9 _ rfl
      have z10 := HS7.out.q.cs 10 _ rfl
      have z11 := HS7.out.q.cs 11 _ rfl
      have z12 := HS7.out.q.cs 12 _ rfl
      have zf : ∀ j, w7.frozen? ⟨w.heap.size + 1, j, none⟩ = false := HS7.out.q.s
      have zl := HS7.out.q.lt
      go_wp2_with fail
      have hF := HS7.out.q.fill (reL y A cq) rfl
      have hBF := below_putAll HS7.out.q.ge (reL y A cq) 0 HS7.out.B
      have hPF := Prs.putAll (g := w.heap.size + 1) (fun a ha => fun e => (HS7.out.hA a ha).2.2.1 e.symm) (reL y A cq) 0 HS7.out.hp
      simp only [putAll, reL] at hF hBF hPF
      have g0 := hF.cs 0 _ rfl
      have g1 := hF.cs 1 _ rfl
      have g2 := hF.cs 2 _ rfl
      have g3 := hF.cs 3 _ rfl
      have g4 := hF.cs 4 _ rfl
      have g5 := hF.cs 5 _ rfl
      have g6 := hF.cs 6 _ rfl
      have g7 := hF.cs 7 _ rfl
      have g8 := hF.cs 8 _ rfl
      have g9 := hF.cs 9 _ rfl
      have g10 := hF.cs 10 _ rfl
      have g11 := hF.cs 11 _ rfl
      have g12 := hF.cs 12 _ rfl
      refine bodyPost_ret (v := .tuple #[reV y A cq, .int .i64 0]) (by simp [results, Tryd.results9, reV, go_sem, g0, g1, g2, g3, g4, g5, g6, g7, g8, g9, g10, g11, g12]) rfl ?_
      rw [HRC0.out, HGT.out]
      exact ⟨_, _, rfl, HS7.out.hc, hPF, hBF, fun a ha => (HS7.out.hA a ha).2.2.2⟩
    · have HRC0 := Lib.hid (show RC = (y.code : Int) by rw [HC.out, HTL.out])
      have HGT := Lib.hid (show GT = Re.zero 0 0 by rw [HG.out, if_neg (by rw [HRC0.out]; omega)])
      have hk0 := code_ne h0
      have HCHK := Lib.hid (fun A cq W h => HCHK.out y A cq W h)
      generalize y.code = C at *
      clear h0 HG HC HTL
      refine HEN.out.mono ?_
      rintro e w6 ⟨rfl, nq, hw6⟩
      have HS6 := Lib.hid (HS.out.on HRR.out (show Below v10.heap.size v10 w6 by rw [hw6]; exact drewN_below (Below.refl _ _) nq))
      clear hw6
      have c0 := HS6.out.m.cs 0 _ rfl
      have c1 := HS6.out.m.cs 1 _ rfl
      have c2 := HS6.out.m.cs 2 _ rfl
      have c3 := HS6.out.m.cs 3 _ rfl
      have c4 := HS6.out.m.cs 4 _ rfl
      have c5 := HS6.out.m.cs 5 _ rfl
      have c6 := HS6.out.m.cs 6 _ rfl
      have c7 := HS6.out.m.cs 7 _ rfl
      have c8 := HS6.out.m.cs 8 _ rfl
      have c9 := HS6.out.m.cs 9 _ rfl
      have c10 := HS6.out.m.cs 10 _ rfl
      have c11 := HS6.out.m.cs 11 _ rfl
      have c12 := HS6.out.m.cs 12 _ rfl
      have cl := HS6.out.m.lt
      have cf : ∀ j, w6.frozen? ⟨w.heap.size + 1 + 1, j, none⟩ = false := HS6.out.m.s
      go_wp2_with fail
      refine (HCHK.out _ _ _ (HLOW.out.ok HS6.out.hc HS6.out.hp)).mono ?_
      rintro e w7 ⟨rfl, b7⟩
      have HS7 := Lib.hid (HS6.out.on HRR.out b7)
      clear c0 c1 c2 c3 c4 c5 c6 c7 c8 c9 c10 c11 c12 cl cf b7
      have z0 := HS7.out.q.cs 0 _ rfl
      have z1 := HS7.out.q.cs 1 _ rfl
      have z2 := HS7.out.q.cs 2 _ rfl
      have z3 := HS7.out.q.cs 3 _ rfl
      have z4 := HS7.out.q.cs 4 _ rfl
      have z5 := HS7.out.q.cs 5 _ rfl
      have z6 := HS7.out.q.cs 6 _ rfl
      have z7 := HS7.out.q.cs 7 _ rfl
      have z8 := HS7.out.q.cs 8 _ rfl
      have z9 := HS7.out.q.cs 9 _ rfl
      have z10 := HS7.out.q.cs 10 _ rfl
      have z11 := HS7.out.q.cs 11 _ rfl
      have z12 := HS7.out.q.cs 12 _ rfl
      have zf : ∀ j, w7.frozen? ⟨w.heap.size + 1, j, none⟩ = false := HS7.out.q.s
      have zl := HS7.out.q.lt
      go_wp2_with fail
      have hF := (HS7.out.q).fill [.int .u8 0, .int .u8 0, .int .u64 0, .int .u64 0, .bool false, .string ⟨#[]⟩, .int .u64 0, .string ⟨#[]⟩, .string ⟨#[]⟩, .slice none 0 0, .string ⟨#[]⟩, .int .u64 0, .int .u8 0] rfl
      have hBF := below_putAll (HS7.out.q).ge [.int .u8 0, .int .u8 0, .int .u64 0, .int .u64 0, .bool false, .string ⟨#[]⟩, .int .u64 0, .string ⟨#[]⟩, .string ⟨#[]⟩, .slice none 0 0, .string ⟨#[]⟩, .int .u64 0, .int .u8 0] 0 (HS7.out.B)
      simp only [putAll] at hF hBF
      have g0 := hF.cs 0 _ rfl
      have g1 := hF.cs 1 _ rfl
      have g2 := hF.cs 2 _ rfl
      have g3 := hF.cs 3 _ rfl
      have g4 := hF.cs 4 _ rfl
      have g5 := hF.cs 5 _ rfl
      have g6 := hF.cs 6 _ rfl
      have g7 := hF.cs 7 _ rfl
      have g8 := hF.cs 8 _ rfl
      have g9 := hF.cs 9 _ rfl
      have g10 := hF.cs 10 _ rfl
      have g11 := hF.cs 11 _ rfl
      have g12 := hF.cs 12 _ rfl
      refine bodyPost_ret (v := .tuple #[.agg #[.int .u8 0, .int .u8 0, .int .u64 0, .int .u64 0, .bool false, .string ⟨#[]⟩, .int .u64 0, .string ⟨#[]⟩, .string ⟨#[]⟩, .slice none 0 0, .string ⟨#[]⟩, .int .u64 0, .int .u8 0], .int .i64 (C : Int)]) (by simp [results, Tryd.results9, go_sem, g0, g1, g2, g3, g4, g5, g6, g7, g8, g9, g10, g11, g12]) rfl ?_
      rw [HRC0.out, HGT.out]
      exact re_zero_post hBF
  · have hTL := HTL.out
    rw [if_pos he] at hTL
    have HRC0 := Lib.hid (show RC = lEnd s by rw [HC.out, hTL])
    have HGT := Lib.hid (show GT = Re.zero 0 0 by rw [HG.out, if_neg (by rw [HRC0.out]; exact he)])
    have hk0 : (lEnd s != 0) = true := by rw [bne_iff_ne]; exact he
    have hk1 : (lEnd s == 0) = false := by rw [beq_eq_false_iff_ne]; exact he
    generalize lEnd s = C at *
    clear he HG HC HTL hTL
    refine HEN.out.mono ?_
    rintro e w6 ⟨rfl, nq, hw6⟩
    have HS6 := Lib.hid (HS.out.on HRR.out (show Below v10.heap.size v10 w6 by rw [hw6]; exact drewN_below (Below.refl _ _) nq))
    clear hw6
    have z0 := HS6.out.q.cs 0 _ rfl
    have z1 := HS6.out.q.cs 1 _ rfl
    have z2 := HS6.out.q.cs 2 _ rfl
    have z3 := HS6.out.q.cs 3 _ rfl
    have z4 := HS6.out.q.cs 4 _ rfl
    have z5 := HS6.out.q.cs 5 _ rfl
    have z6 := HS6.out.q.cs 6 _ rfl
    have z7 := HS6.out.q.cs 7 _ rfl
    have z8 := HS6.out.q.cs 8 _ rfl
    have z9 := HS6.out.q.cs 9 _ rfl
    have z10 := HS6.out.q.cs 10 _ rfl
    have z11 := HS6.out.q.cs 11 _ rfl
    have z12 := HS6.out.q.cs 12 _ rfl
    have zf : ∀ j, w6.frozen? ⟨w.heap.size + 1, j, none⟩ = false := HS6.out.q.s
    have zl := HS6.out.q.lt
    go_wp2_with fail
    have hF := (HS6.out.q).fill [.int .u8 0, .int .u8 0, .int .u64 0, .int .u64 0, .bool false, .string ⟨#[]⟩, .int .u64 0, .string ⟨#[]⟩, .string ⟨#[]⟩, .slice none 0 0, .string ⟨#[]⟩, .int .u64 0, .int .u8 0] rfl
    have hBF := below_putAll (HS6.out.q).ge [.int .u8 0, .int .u8 0, .int .u64 0, .int .u64 0, .bool false, .string ⟨#[]⟩, .int .u64 0, .string ⟨#[]⟩, .string ⟨#[]⟩, .slice none 0 0, .string ⟨#[]⟩, .int .u64 0, .int .u8 0] 0 (HS6.out.B)
    simp only [putAll] at hF hBF
    have g0 := hF.cs 0 _ rfl
    have g1 := hF.cs 1 _ rfl
    have g2 := hF.cs 2 _ rfl
    have g3 := hF.cs 3 _ rfl
    have g4 := hF.cs 4 _ rfl
    have g5 := hF.cs 5 _ rfl
    have g6 := hF.cs 6 _ rfl
    have g7 := hF.cs 7 _ rfl
    have g8 := hF.cs 8 _ rfl
    have g9 := hF.cs 9 _ rfl
    have g10 := hF.cs 10 _ rfl
    have g11 := hF.cs 11 _ rfl
    have g12 := hF.cs 12 _ rfl
    refine bodyPost_ret (v := .tuple #[.agg #[.int .u8 0, .int .u8 0, .int .u64 0, .int .u64 0, .bool false, .string ⟨#[]⟩, .int .u64 0, .string ⟨#[]⟩, .string ⟨#[]⟩, .slice none 0 0, .string ⟨#[]⟩, .int .u64 0, .int .u8 0], .int .i64 C]) (by simp [results, Tryd.results9, go_sem, g0, g1, g2, g3, g4, g5, g6, g7, g8, g9, g10, g11, g12]) rfl ?_
    rw [HRC0.out, HGT.out]
    exact re_zero_post hBF
set_option maxRecDepth 100000 in
set_option maxHeartbeats 16000000 in
theorem r12Parse_n (c k : UInt8) (body : List UInt8) (w : World) (hS : (ofL body).size ≤ 1000000) (h20 : ¬ (k.toNat < 64 ∨ 71 < k.toNat)) (hk : (Re.down k).toNat = 2 ∨ (Re.down k).toNat = 5 ∨ (Re.down k).toNat = 7) : Calls Tryd.prog 9 #[.agg #[.int .u8 (c.toNat : Int), .int .u8 (k.toNat : Int), .string (ofL body)]] w (ReOfPost (Re.got c k body) (Re.rcode c k body) w) := by
  have HC : Hid (Re.rcode c k body = if (k.toNat < 64 ∨ 71 < k.toNat) then 8 else Re.tail c (Re.down k) body) := rfl
  have HG : Hid (Re.got c k body = if Re.rcode c k body = 0 then (Re.rd c (Re.down k) body).1 else Re.zero 0 0) := rfl
  have HTL : Hid (Re.tail c (Re.down k) body = if lEnd (Re.rd c (Re.down k) body).2 ≠ 0 then lEnd (Re.rd c (Re.down k) body).2 else ((Re.rd c (Re.down k) body).1.code : Int)) := rfl
  skip
  have hz : decide ((k.toNat : Int) < 64) = false := decide_eq_false (by omega)
  have hz2 : decide ((71 : Int) < (k.toNat : Int)) = false := decide_eq_false (by omega)
  have hdn : IntKind.u8.wrap ((k.toNat : Int) - 64) = ((Re.down k).toNat : Int) := by
    unfold Re.down
    rw [UInt8.toNat_sub, show IntKind.u8.wrap ((k.toNat : Int) - 64) = ((k.toNat : Int) - 64) % 256 from rfl]
    show _ = (((2 ^ 8 - 64 + k.toNat) % 256 : Nat) : Int)
    omega
  have hD7 : (Re.down k).toNat ≤ 7 := by
    unfold Re.down
    rw [UInt8.toNat_sub]
    show (2 ^ 8 - 64 + k.toNat) % 256 ≤ 7
    omega
  have HC := Lib.hid (show Re.rcode c k body = Re.tail c (Re.down k) body by rw [HC.out, if_neg h20])
  clear h20
  generalize Re.down k = D at *
  generalize Re.rcode c k body = RC at *
  generalize Re.got c k body = GT at *
  generalize Re.tail c D body = TL at *
  have HS0 := Lib.hid (r12_start c k D body w)
  have HLOW : Hid (ReLow (Re.rd c D body).1) := re_rdl_low _ _ (re_zero_low c D)
  have HTN := Lib.hid (fun W => tellsN_any D.toNat W)
  have HTM := Lib.hid (fun W => tellsM_any D.toNat W)
  have HSZ := Lib.hid hS
  clear hS
  obtain ⟨s0, hs0⟩ : ∃ s0 : LSt, s0 = (body, 0) := ⟨_, rfl⟩
  rw [← hs0] at HS0
  have HOK0 := Lib.hid (show lOk s0 by rw [hs0]; exact lOk_new body)
  have HRDS : Hid (∀ D, Re.rd c D body = Re.rdl (Re.tells D.toNat) (Re.zero c D, s0)) := Lib.hid (fun D => by rw [hs0]; rfl)
  clear hs0
  have HNUM := Lib.hid (fun s k2 (n : Int) W h1 h2 h3 => rinum_l (w.heap.size + 1 + 1 + 1) (ofL body) s k2 n W h1 h2 h3 HSZ.out)
  have HTXT := Lib.hid (fun s m W h => ritext_l (w.heap.size + 1 + 1 + 1) (ofL body) s m W h HSZ.out)
  have HFAIL := Lib.hid (fun s cc W h => rifail_l (w.heap.size + 1 + 1 + 1) (ofL body) s cc W h)
  have HHD := Lib.hid (fun s W h1 h2 => rread9_any (w.heap.size + 1 + 1 + 1) (ofL body) s W h1 h2 HSZ.out)
  have HENQ := Lib.hid (fun s W h => riend_l (w.heap.size + 1 + 1 + 1) (ofL body) s W h)
  have HCHK := Lib.hid (fun y A cq W h => r12Check_any y A cq W h)
  have HRR := Lib.hid (rdr_ref (w.heap.size + 1 + 1 + 1) (ofL body))
  unfold RPostL at HNUM HTXT HFAIL
  unfold HReadPost at HHD
  unfold Quiet at HENQ
  simp only [reV] at HCHK
  have HE := Lib.hid (show Re.rd c D body = ({(Re.zero c D) with n := Oct.val (lOut (s0).1 8)}, lRaw (s0) 8) by rw [HRDS.out D]; rcases hk with h | h | h <;> rw [h] <;> rfl)
  have k0 : ((D.toNat : Int) == 0) = false := beq_eq_false_iff_ne.2 (by omega)
  have k3 : ((D.toNat : Int) == 3) = false := beq_eq_false_iff_ne.2 (by omega)
  rw [show Re.tellsN D.toNat = true by rcases hk with h | h | h <;> rw [h] <;> rfl] at HTN
  rw [show Re.tellsM D.toNat = false by rcases hk with h | h | h <;> rw [h] <;> rfl] at HTM
  clear hk hD7
  go_enter Tryd.func9, Tryd.ntmps9
  go_wp2_with fail
  generalize ((((w.alloc (.cells #[.int .u8 (c.toNat : Int), .int .u8 (k.toNat : Int), .string (ofL body)] 37)).alloc (.cells #[.int .u8 0, .int .u8 0, .int .u64 0, .int .u64 0, .bool false, .string ⟨#[]⟩, .int .u64 0, .string ⟨#[]⟩, .string ⟨#[]⟩, .slice none 0 0, .string ⟨#[]⟩, .int .u64 0, .int .u8 0] 34)).alloc (.cells #[.int .u8 (c.toNat : Int), .int .u8 (D.toNat : Int), .int .u64 0, .int .u64 0, .bool false, .string ⟨#[]⟩, .int .u64 0, .string ⟨#[]⟩, .string ⟨#[]⟩, .slice none 0 0, .string ⟨#[]⟩, .int .u64 0, .int .u8 0] 34)).alloc (.cells #[.string (ofL body), .int .i64 0, .int .i64 0] 58)) = w4 at *
  have c0 := HS0.out.m.cs 0 _ rfl
  have c1 : w4.cell? ⟨w.heap.size + 1 + 1, 1, none⟩ = some (.int .u8 (D.toNat : Int)) := HS0.out.m.cs 1 _ rfl
  have c2 := HS0.out.m.cs 2 _ rfl
  have c3 := HS0.out.m.cs 3 _ rfl
  have c4 := HS0.out.m.cs 4 _ rfl
  have c5 := HS0.out.m.cs 5 _ rfl
  have c6 := HS0.out.m.cs 6 _ rfl
  have c7 := HS0.out.m.cs 7 _ rfl
  have c8 := HS0.out.m.cs 8 _ rfl
  have c9 := HS0.out.m.cs 9 _ rfl
  have c10 := HS0.out.m.cs 10 _ rfl
  have c11 := HS0.out.m.cs 11 _ rfl
  have c12 := HS0.out.m.cs 12 _ rfl
  have cl := HS0.out.m.lt
  have cf : ∀ j, w4.frozen? ⟨w.heap.size + 1 + 1, j, none⟩ = false := HS0.out.m.s
  refine (HTN.out _).mono ?_
  rintro e w9 ⟨rfl, rfl⟩
  go_wp2_with fail
  refine (HNUM.out _ 8 8 _ (by omega) rfl HS0.out.ri).mono ?_
  rintro e w10 ⟨rfl, hi, hg⟩
  have HM10 := Lib.hid (HS0.out.moved hi hg)
  have HP10 := Lib.hid (HM10.out.put HRR.out ({(Re.zero c D) with n := Oct.val (lOut (s0).1 8)}) 2 (.int .u64 ((Oct.val (lOut (s0).1 8) : Nat) : Int)) (by decide) rfl rfl)
  clear hi hg c0 c1 c2 c3 c4 c5 c6 c7 c8 c9 c10 c11 c12 cl cf
  have c0 := HM10.out.m.cs 0 _ rfl
  have c1 : w10.cell? ⟨w.heap.size + 1 + 1, 1, none⟩ = some (.int .u8 (D.toNat : Int)) := HM10.out.m.cs 1 _ rfl
  have c2 := HM10.out.m.cs 2 _ rfl
  have c3 := HM10.out.m.cs 3 _ rfl
  have c4 := HM10.out.m.cs 4 _ rfl
  have c5 := HM10.out.m.cs 5 _ rfl
  have c6 := HM10.out.m.cs 6 _ rfl
  have c7 := HM10.out.m.cs 7 _ rfl
  have c8 := HM10.out.m.cs 8 _ rfl
  have c9 := HM10.out.m.cs 9 _ rfl
  have c10 := HM10.out.m.cs 10 _ rfl
  have c11 := HM10.out.m.cs 11 _ rfl
  have c12 := HM10.out.m.cs 12 _ rfl
  have cl := HM10.out.m.lt
  have cf : ∀ j, w10.frozen? ⟨w.heap.size + 1 + 1, j, none⟩ = false := HM10.out.m.s
  go_wp2_with fail
  generalize w10.setCell ⟨w.heap.size + 1 + 1, 2, none⟩ (.int .u64 ((Oct.val (lOut (s0).1 8) : Nat) : Int)) = v10 at *
  clear c0 c1 c2 c3 c4 c5 c6 c7 c8 c9 c10 c11 c12 cl cf
  have c0 := HP10.out.m.cs 0 _ rfl
  have c1 : v10.cell? ⟨w.heap.size + 1 + 1, 1, none⟩ = some (.int .u8 (D.toNat : Int)) := HP10.out.m.cs 1 _ rfl
  have c2 := HP10.out.m.cs 2 _ rfl
  have c3 := HP10.out.m.cs 3 _ rfl
  have c4 := HP10.out.m.cs 4 _ rfl
  have c5 := HP10.out.m.cs 5 _ rfl
  have c6 := HP10.out.m.cs 6 _ rfl
  have c7 := HP10.out.m.cs 7 _ rfl
  have c8 := HP10.out.m.cs 8 _ rfl
  have c9 := HP10.out.m.cs 9 _ rfl
  have c10 := HP10.out.m.cs 10 _ rfl
  have c11 := HP10.out.m.cs 11 _ rfl
  have c12 := HP10.out.m.cs 12 _ rfl
  have cl := HP10.out.m.lt
  have cf : ∀ j, v10.frozen? ⟨w.heap.size + 1 + 1, j, none⟩ = false := HP10.out.m.s
  refine (HTM.out _).mono ?_
  rintro e w9 ⟨rfl, rfl⟩
  go_wp2_with fail
  clear c0 c1 c2 c3 c4 c5 c6 c7 c8 c9 c10 c11 c12 cl cf
  have HS := Lib.hid (show ReOf w (RefL (w.heap.size + 1 + 1 + 1) (ofL body)) (w.heap.size + 1 + 1 + 1) (w.heap.size + 1 + 1) (Re.rd c D body).1 (Re.rd c D body).2 _ _ v10 by rw [HE.out]; exact HP10.out)
  clear HE
  generalize Re.rd c D body = t at *
  obtain ⟨y, s⟩ := t
  dsimp only at HS HLOW HTL HG
  obtain ⟨A, cq, HS⟩ : ∃ A cq, Hid (ReOf w (RefL (w.heap.size + 1 + 1 + 1) (ofL body)) (w.heap.size + 1 + 1 + 1) (w.heap.size + 1 + 1) y s A cq v10) := ⟨_, _, HS⟩
  have HEN := Lib.hid (HENQ.out s v10 HS.out.ri)
  by_cases he : lEnd s = 0
  · have hTL := HTL.out
    rw [if_neg (by rw [he]; decide)] at hTL
    have HTL := Lib.hid hTL
    rw [he] at HEN
    clear he hTL
    by_cases h0 : y.code = 0
    · have HRC0 := Lib.hid (show RC = 0 by rw [HC.out, HTL.out, h0]; rfl)
      have HGT := Lib.hid (show GT = y by rw [HG.out, if_pos HRC0.out])
      have HCHK := Lib.hid (fun A cq W h => HCHK.out y A cq W h)
      rw [show (y.code : Int) = 0 by rw [h0]; rfl] at HCHK
      clear h0 HG HC HTL
      refine HEN.out.mono ?_
      rintro e w6 ⟨rfl, nq, hw6⟩
      have HS6 := Lib.hid (HS.out.on HRR.out (show Below v10.heap.size v10 w6 by rw [hw6]; exact drewN_below (Below.refl _ _) nq))
      clear hw6
      have c0 := HS6.out.m.cs 0 _ rfl
      have c1 := HS6.out.m.cs 1 _ rfl
      have c2 := HS6.out.m.cs 2 _ rfl
      have c3 := HS6.out.m.cs 3 _ rfl
      have c4 := HS6.out.m.cs 4 _ rfl
      have c5 := HS6.out.m.cs 5 _ rfl
      have c6 := HS6.out.m.cs 6 _ rfl
      have c7 := HS6.out.m.cs 7 _ rfl
      have c8 := HS6.out.m.cs 8 _ rfl
      have c9 := HS6.out.m.cs 9 _ rfl
      have c10 := HS6.out.m.cs 10 _ rfl
      have c11 := HS6.out.m.cs 11 _ rfl
      have c12 := HS6.out.m.cs 12 _ rfl
      have cl := HS6.out.m.lt
      have cf : ∀ j, w6.frozen? ⟨w.heap.size + 1 + 1, j, none⟩ = false := HS6.out.m.s
      go_wp2_with fail
      refine (HCHK.out _ _ _ (HLOW.out.ok HS6.out.hc HS6.out.hp)).mono ?_
      rintro e w7 ⟨rfl, b7⟩
      have HS7 := Lib.hid (HS6.out.on HRR.out b7)
      clear c0 c1 c2 c3 c4 c5 c6 c7 c8 c9 c10 c11 c12 cl cf b7
      have c0 := HS7.out.m.cs 0 _ rfl
      have c1 := HS7.out.m.cs 1 _ rfl
      have c2 := HS7.out.m.cs 2 _ rfl
      have c3 := HS7.out.m.cs 3 _ rfl
      have c4 := HS7.out.m.cs 4 _ rfl
      have c5 := HS7.out.m.cs 5 _ rfl
      have c6 := HS7.out.m.cs 6 _ rfl
      have c7 := HS7.out.m.cs 7 _ rfl
      have c8 := HS7.out.m.cs 8 _ rfl
      have c9 := HS7.out.m.cs 9 _ rfl
      have c10 := HS7.out.m.cs 10 _ rfl
      have c11 := HS7.out.m.cs 11 _ rfl
      have c12 := HS7.out.m.cs 12 _ rfl
      have cl := HS7.out.m.lt
      have cf : ∀ j, w7.frozen? ⟨w.heap.size + 1 + 1, j, none⟩ = false := HS7.out.m.s
      have z0 := HS7.out.q.cs 0 _ rfl
      have z1 := HS7.out.q.cs 1 _ rfl
      have z2 := HS7.out.q.cs 2 _ rfl
      have z3 := HS7.out.q.cs 3 _ rfl
      have z4 := HS7.out.q.cs 4 _ rfl
      have z5 := HS7.out.q.cs 5 _ rfl
      have z6 := HS7.out.q.cs 6 _ rfl
      have z7 := HS7.out.q.cs 7 _ rfl
      have z8 := HS7.out.q.cs 8 _ rfl
      have z9 := HS7.out.q.cs 9 _ rfl
      have z10 := HS7.out.q.cs 10 _ rfl
      have z11 := HS7.out.q.cs 11 _ rfl
      have z12 := HS7.out.q.cs 12 _ rfl
      have zf : ∀ j, w7.frozen? ⟨w.heap.size + 1, j, none⟩ = false := HS7.out.q.s
      have zl := HS7.out.q.lt
      go_wp2_with fail
      have hF := HS7.out.q.fill (reL y A cq) rfl
      have hBF := below_putAll HS7.out.q.ge (reL y A cq) 0 HS7.out.B
      have hPF := Prs.putAll (g := w.heap.size + 1) (fun a ha => fun e => (HS7.out.hA a ha).2.2.1 e.symm) (reL y A cq) 0 HS7.out.hp
      simp only [putAll, reL] at hF hBF hPF
      have g0 := hF.cs 0 _ rfl
      have g1 := hF.cs 1 _ rfl
      have g2 := hF.cs 2 _ rfl
      have g3 := hF.cs 3 _ rfl
      have g4 := hF.cs 4 _ rfl
      have g5 := hF.cs 5 _ rfl
      have g6 := hF.cs 6 _ rfl
      have g7 := hF.cs 7 _ rfl
      have g8 := hF.cs 8 _ rfl
      have g9 := hF.cs 9 _ rfl
      have g10 := hF.cs 10 _ rfl
      have g11 := hF.cs 11 _ rfl
      have g12 := hF.cs 12 _ rfl
      refine bodyPost_ret (v := .tuple #[reV y A cq, .int .i64 0]) (by simp [results, Tryd.results9, reV, go_sem, g0, g1, g2, g3, g4, g5, g6, g7, g8, g9, g10, g11, g12]) rfl ?_
      rw [HRC0.out, HGT.out]
      exact ⟨_, _, rfl, HS7.out.hc, hPF, hBF, fun a ha => (HS7.out.hA a ha).2.2.2⟩
    · have HRC0 := Lib.hid (show RC = (y.code : Int) by rw [HC.out, HTL.out])
      have HGT := Lib.hid (show GT = Re.zero 0 0 by rw [HG.out, if_neg (by rw [HRC0.out]; omega)])
      have hk0 := code_ne h0
      have HCHK := Lib.hid (fun A cq W h => HCHK.out y A cq W h)
      generalize y.code = C at *
      clear h0 HG HC HTL
      refine HEN.out.mono ?_
      rintro e w6 ⟨rfl, nq, hw6⟩
      have HS6 := Lib.hid (HS.out.on HRR.out (show Below v10.heap.size v10 w6 by rw [hw6]; exact drewN_below (Below.refl _ _) nq))
      clear hw6
      have c0 := HS6.out.m.cs 0 _ rfl
      have c1 := HS6.out.m.cs 1 _ rfl
      have c2 := HS6.out.m.cs 2 _ rfl
      have c3 := HS6.out.m.cs 3 _ rfl
      have c4 := HS6.out.m.cs 4 _ rfl
      have c5 := HS6.out.m.cs 5 _ rfl
      have c6 := HS6.out.m.cs 6 _ rfl
      have c7 := HS6.out.m.cs 7 _ rfl
      have c8 := HS6.out.m.cs 8 _ rfl
      have c9 := HS6.out.m.cs 9 _ rfl
      have c10 := HS6.out.m.cs 10 _ rfl
      have c11 := HS6.out.m.cs 11 _ rfl
      have c12 := HS6.out.m.cs 12 _ rfl
      have cl := HS6.out.m.lt
      have cf : ∀ j, w6.frozen? ⟨w.heap.size + 1 + 1, j, none⟩ = false := HS6.out.m.s
      go_wp2_with fail
      refine (HCHK.out _ _ _ (HLOW.out.ok HS6.out.hc HS6.out.hp)).mono ?_
      rintro e w7 ⟨rfl, b7⟩
      have HS7 := Lib.hid (HS6.out.on HRR.out b7)
      clear c0 c1 c2 c3 c4 c5 c6 c7 c8 c9 c10 c11 c12 cl cf b7
      have z0 := HS7.out.q.cs 0 _ rfl
      have z1 := HS7.out.q.cs 1 _ rfl
      have z2 := HS7.out.q.cs 2 _ rfl
      have z3 := HS7.out.q.cs 3 _ rfl
      have z4 := HS7.out.q.cs 4 _ rfl
      have z5 := HS7.out.q.cs 5 _ rfl
      have z6 := HS7.out.q.cs 6 _ rfl
      have z7 := HS7.out.q.cs 7 _ rfl
      have z8 := HS7.out.q.cs 8 _ rfl
      have z9 := HS7.out.q.cs 9 _ rfl
      have z10 := HS7.out.q.cs 10 _ rfl
      have z11 := HS7.out.q.cs 11 _ rfl
      have z12 := HS7.out.q.cs 12 _ rfl
      have zf : ∀ j, w7.frozen? ⟨w.heap.size + 1, j, none⟩ = false := HS7.out.q.s
      have zl := HS7.out.q.lt
      go_wp2_with fail
      have hF := (HS7.out.q).fill [.int .u8 0, .int .u8 0, .int .u64 0, .int .u64 0, .bool false, .string ⟨#[]⟩, .int .u64 0, .string ⟨#[]⟩, .string ⟨#[]⟩, .slice none 0 0, .string ⟨#[]⟩, .int .u64 0, .int .u8 0] rfl
      have hBF := below_putAll (HS7.out.q).ge [.int .u8 0, .int .u8 0, .int .u64 0, .int .u64 0, .bool false, .string ⟨#[]⟩, .int .u64 0, .string ⟨#[]⟩, .string ⟨#[]⟩, .slice none 0 0, .string ⟨#[]⟩, .int .u64 0, .int .u8 0] 0 (HS7.out.B)
      simp only [putAll] at hF hBF
      have g0 := hF.cs 0 _ rfl
      have g1 := hF.cs 1 _ rfl
      have g2 := hF.cs 2 _ rfl
      have g3 := hF.cs 3 _ rfl
      have g4 := hF.cs 4 _ rfl
      have g5 := hF.cs 5 _ rfl
      have g6 := hF.cs 6 _ rfl
      have g7 := hF.cs 7 _ rfl
      have g8 := hF.cs 8 _ rfl
      have g9 := hF.cs 9 _ rfl
      have g10 := hF.cs 10 _ rfl
      have g11 := hF.cs 11 _ rfl
      have g12 := hF.cs 12 _ rfl
      refine bodyPost_ret (v := .tuple #[.agg #[.int .u8 0, .int .u8 0, .int .u64 0, .int .u64 0, .bool false, .string ⟨#[]⟩, .int .u64 0, .string ⟨#[]⟩, .string ⟨#[]⟩, .slice none 0 0, .string ⟨#[]⟩, .int .u64 0, .int .u8 0], .int .i64 (C : Int)]) (by simp [results, Tryd.results9, go_sem, g0, g1, g2, g3, g4, g5, g6, g7, g8, g9, g10, g11, g12]) rfl ?_
      rw [HRC0.out, HGT.out]
      exact re_zero_post hBF
  · have hTL := HTL.out
    rw [if_pos he] at hTL
    have HRC0 := Lib.hid (show RC = lEnd s by rw [HC.out, hTL])
    have HGT := Lib.hid (show GT = Re.zero 0 0 by rw [HG.out, if_neg (by rw [HRC0.out]; exact he)])
    have hk0 : (lEnd s != 0) = true := by rw [bne_iff_ne]; exact he
    have hk1 : (lEnd s == 0) = false := by rw [beq_eq_false_iff_ne]; exact he
    generalize lEnd s = C at *
    clear he HG HC HTL hTL
    refine HEN.out.mono ?_
    rintro e w6 ⟨rfl, nq, hw6⟩
    have HS6 := Lib.hid (HS.out.on HRR.out (show Below v10.heap.size v10 w6 by rw [hw6]; exact drewN_below (Below.refl _ _) nq))
    clear hw6
    have z0 := HS6.out.q.cs 0 _ rfl
    have z1 := HS6.out.q.cs 1 _ rfl
    have z2 := HS6.out.q.cs 2 _ rfl
    have z3 := HS6.out.q.cs 3 _ rfl
    have z4 := HS6.out.q.cs 4 _ rfl
    have z5 := HS6.out.q.cs 5 _ rfl
    have z6 := HS6.out.q.cs 6 _ rfl
    have z7 := HS6.out.q.cs 7 _ rfl
    have z8 := HS6.out.q.cs 8 _ rfl
    have z9 := HS6.out.q.cs 9 _ rfl
    have z10 := HS6.out.q.cs 10 _ rfl
    have z11 := HS6.out.q.cs 11 _ rfl
    have z12 := HS6.out.q.cs 12 _ rfl
    have zf : ∀ j, w6.frozen? ⟨w.heap.size + 1, j, none⟩ = false := HS6.out.q.s
    have zl := HS6.out.q.lt
    go_wp2_with fail
    have hF := (HS6.out.q).fill [.int .u8 0, .int .u8 0, .int .u64 0, .int .u64 0, .bool false, .string ⟨#[]⟩, .int .u64 0, .string ⟨#[]⟩, .string ⟨#[]⟩, .slice none 0 0, .string ⟨#[]⟩, .int .u64 0, .int .u8 0] rfl
    have hBF := below_putAll (HS6.out.q).ge [.int .u8 0, .int .u8 0, .int .u64 0, .int .u64 0, .bool false, .string ⟨#[]⟩, .int .u64 0, .string ⟨#[]⟩, .string ⟨#[]⟩, .slice none 0 0, .string ⟨#[]⟩, .int .u64 0, .int .u8 0] 0 (HS6.out.B)
    simp only [putAll] at hF hBF
    have g0 := hF.cs 0 _ rfl
    have g1 := hF.cs 1 _ rfl
    have g2 := hF.cs 2 _ rfl
    have g3 := hF.cs 3 _ rfl
    have g4 := hF.cs 4 _ rfl
    have g5 := hF.cs 5 _ rfl
    have g6 := hF.cs 6 _ rfl
    have g7 := hF.cs 7 _ rfl
    have g8 := hF.cs 8 _ rfl
    have g9 := hF.cs 9 _ rfl
    have g10 := hF.cs 10 _ rfl
    have g11 := hF.cs 11 _ rfl
    have g12 := hF.cs 12 _ rfl
    refine bodyPost_ret (v := .tuple #[.agg #[.int .u8 0, .int .u8 0, .int .u64 0, .int .u64 0, .bool false, .string ⟨#[]⟩, .int .u64 0, .string ⟨#[]⟩, .string ⟨#[]⟩, .slice none 0 0, .string ⟨#[]⟩, .int .u64 0, .int .u8 0], .int .i64 C]) (by simp [results, Tryd.results9, go_sem, g0, g1, g2, g3, g4, g5, g6, g7, g8, g9, g10, g11, g12]) rfl ?_
    rw [HRC0.out, HGT.out]
    exact re_zero_post hBF
set_option maxRecDepth 100000 in
set_option maxHeartbeats 16000000 in
theorem r12Parse_6 (c k : UInt8) (body : List UInt8) (w : World) (hS : (ofL body).size ≤ 1000000) (h20 : ¬ (k.toNat < 64 ∨ 71 < k.toNat)) (hk : (Re.down k).toNat = 6) : Calls Tryd.prog 9 #[.agg #[.int .u8 (c.toNat : Int), .int .u8 (k.toNat : Int), .string (ofL body)]] w (ReOfPost (Re.got c k body) (Re.rcode c k body) w) := by
  have HC : Hid (Re.rcode c k body = if (k.toNat < 64 ∨ 71 < k.toNat) then 8 else Re.tail c (Re.down k) body) := rfl
  have HG : Hid (Re.got c k body = if Re.rcode c k body = 0 then (Re.rd c (Re.down k) body).1 else Re.zero 0 0) := rfl
  have HTL : Hid (Re.tail c (Re.down k) body = if lEnd (Re.rd c (Re.down k) body).2 ≠ 0 then lEnd (Re.rd c (Re.down k) body).2 else ((Re.rd c (Re.down k) body).1.code : Int)) := rfl
  skip
  have hz : decide ((k.toNat : Int) < 64) = false := decide_eq_false (by omega)
  have hz2 : decide ((71 : Int) < (k.toNat : Int)) = false := decide_eq_false (by omega)
  have hdn : IntKind.u8.wrap ((k.toNat : Int) - 64) = ((Re.down k).toNat : Int) := by
    unfold Re.down
    rw [UInt8.toNat_sub, show IntKind.u8.wrap ((k.toNat : Int) - 64) = ((k.toNat : Int) - 64) % 256 from rfl]
    show _ = (((2 ^ 8 - 64 + k.toNat) % 256 : Nat) : Int)
    omega
  have hD7 : (Re.down k).toNat ≤ 7 := by
    unfold Re.down
    rw [UInt8.toNat_sub]
    show (2 ^ 8 - 64 + k.toNat) % 256 ≤ 7
    omega
  have HC := Lib.hid (show Re.rcode c k body = Re.tail c (Re.down k) body by rw [HC.out, if_neg h20])
  clear h20
  generalize Re.down k = D at *
  generalize Re.rcode c k body = RC at *
  generalize Re.got c k body = GT at *
  generalize Re.tail c D body = TL at *
  have HS0 := Lib.hid (r12_start c k D body w)
  have HLOW : Hid (ReLow (Re.rd c D body).1) := re_rdl_low _ _ (re_zero_low c D)
  have HTN := Lib.hid (fun W => tellsN_any D.toNat W)
  have HTM := Lib.hid (fun W => tellsM_any D.toNat W)
  have HSZ := Lib.hid hS
  clear hS
  obtain ⟨s0, hs0⟩ : ∃ s0 : LSt, s0 = (body, 0) := ⟨_, rfl⟩
  rw [← hs0] at HS0
  have HOK0 := Lib.hid (show lOk s0 by rw [hs0]; exact lOk_new body)
  have HRDS : Hid (∀ D, Re.rd c D body = Re.rdl (Re.tells D.toNat) (Re.zero c D, s0)) := Lib.hid (fun D => by rw [hs0]; rfl)
  clear hs0
  have HNUM := Lib.hid (fun s k2 (n : Int) W h1 h2 h3 => rinum_l (w.heap.size + 1 + 1 + 1) (ofL body) s k2 n W h1 h2 h3 HSZ.out)
  have HTXT := Lib.hid (fun s m W h => ritext_l (w.heap.size + 1 + 1 + 1) (ofL body) s m W h HSZ.out)
  have HFAIL := Lib.hid (fun s cc W h => rifail_l (w.heap.size + 1 + 1 + 1) (ofL body) s cc W h)
  have HHD := Lib.hid (fun s W h1 h2 => rread9_any (w.heap.size + 1 + 1 + 1) (ofL body) s W h1 h2 HSZ.out)
  have HENQ := Lib.hid (fun s W h => riend_l (w.heap.size + 1 + 1 + 1) (ofL body) s W h)
  have HCHK := Lib.hid (fun y A cq W h => r12Check_any y A cq W h)
  have HRR := Lib.hid (rdr_ref (w.heap.size + 1 + 1 + 1) (ofL body))
  unfold RPostL at HNUM HTXT HFAIL
  unfold HReadPost at HHD
  unfold Quiet at HENQ
  simp only [reV] at HCHK
  have HE := Lib.hid (show Re.rd c D body = ({({(Re.zero c D) with n := Oct.val (lOut (s0).1 8)}) with m := Oct.val (lOut (lRaw (s0) 8).1 8)}, lRaw (lRaw (s0) 8) 8) by rw [HRDS.out D]; rw [hk]; rfl)
  have k0 : ((D.toNat : Int) == 0) = false := beq_eq_false_iff_ne.2 (by omega)
  have k3 : ((D.toNat : Int) == 3) = false := beq_eq_false_iff_ne.2 (by omega)
  rw [show Re.tellsN D.toNat = true by rw [hk]; rfl] at HTN
  rw [show Re.tellsM D.toNat = true by rw [hk]; rfl] at HTM
  clear hk hD7
  go_enter Tryd.func9, Tryd.ntmps9
  go_wp2_with fail
  generalize ((((w.alloc (.cells #[.int .u8 (c.toNat : Int), .int .u8 (k.toNat : Int), .string (ofL body)] 37)).alloc (.cells #[.int .u8 0, .int .u8 0, .int .u64 0, .int .u64 0, .bool false, .string ⟨#[]⟩, .int .u64 0, .string ⟨#[]⟩, .string ⟨#[]⟩, .slice none 0 0, .string ⟨#[]⟩, .int .u64 0, .int .u8 0] 34)).alloc (.cells #[.int .u8 (c.toNat : Int), .int .u8 (D.toNat : Int), .int .u64 0, .int .u64 0, .bool false, .string ⟨#[]⟩, .int .u64 0, .string ⟨#[]⟩, .string ⟨#[]⟩, .slice none 0 0, .string ⟨#[]⟩, .int .u64 0, .int .u8 0] 34)).alloc (.cells #[.string (ofL body), .int .i64 0, .int .i64 0] 58)) = w4 at *
  have c0 := HS0.out.m.cs 0 _ rfl
  have c1 : w4.cell? ⟨w.heap.size + 1 + 1, 1, none⟩ = some (.int .u8 (D.toNat : Int)) := HS0.out.m.cs 1 _ rfl
  have c2 := HS0.out.m.cs 2 _ rfl
  have c3 := HS0.out.m.cs 3 _ rfl
  have c4 := HS0.out.m.cs 4 _ rfl
  have c5 := HS0.out.m.cs 5 _ rfl
  have c6 := HS0.out.m.cs 6 _ rfl
  have c7 := HS0.out.m.cs 7 _ rfl
  have c8 := HS0.out.m.cs 8 _ rfl
  have c9 := HS0.out.m.cs 9 _ rfl
  have c10 := HS0.out.m.cs 10 _ rfl
  have c11 := HS0.out.m.cs 11 _ rfl
  have c12 := HS0.out.m.cs 12 _ rfl
  have cl := HS0.out.m.lt
  have cf : ∀ j, w4.frozen? ⟨w.heap.size + 1 + 1, j, none⟩ = false := HS0.out.m.s
  refine (HTN.out _).mono ?_
  rintro e w9 ⟨rfl, rfl⟩
  go_wp2_with fail
  refine (HNUM.out _ 8 8 _ (by omega) rfl HS0.out.ri).mono ?_
  rintro e w10 ⟨rfl, hi, hg⟩
  have HM10 := Lib.hid (HS0.out.moved hi hg)
  have HP10 := Lib.hid (HM10.out.put HRR.out ({(Re.zero c D) with n := Oct.val (lOut (s0).1 8)}) 2 (.int .u64 ((Oct.val (lOut (s0).1 8) : Nat) : Int)) (by decide) rfl rfl)
  clear hi hg c0 c1 c2 c3 c4 c5 c6 c7 c8 c9 c10 c11 c12 cl cf
  have c0 := HM10.out.m.cs 0 _ rfl
  have c1 : w10.cell? ⟨w.heap.size + 1 + 1, 1, none⟩ = some (.int .u8 (D.toNat : Int)) := HM10.out.m.cs 1 _ rfl
  have c2 := HM10.out.m.cs 2 _ rfl
  have c3 := HM10.out.m.cs 3 _ rfl
  have c4 := HM10.out.m.cs 4 _ rfl
  have c5 := HM10.out.m.cs 5 _ rfl
  have c6 := HM10.out.m.cs 6 _ rfl
  have c7 := HM10.out.m.cs 7 _ rfl
  have c8 := HM10.out.m.cs 8 _ rfl
  have c9 := HM10.out.m.cs 9 _ rfl
  have c10 := HM10.out.m.cs 10 _ rfl
  have c11 := HM10.out.m.cs 11 _ rfl
  have c12 := HM10.out.m.cs 12 _ rfl
  have cl := HM10.out.m.lt
  have cf : ∀ j, w10.frozen? ⟨w.heap.size + 1 + 1, j, none⟩ = false := HM10.out.m.s
  go_wp2_with fail
  generalize w10.setCell ⟨w.heap.size + 1 + 1, 2, none⟩ (.int .u64 ((Oct.val (lOut (s0).1 8) : Nat) : Int)) = v10 at *
  clear c0 c1 c2 c3 c4 c5 c6 c7 c8 c9 c10 c11 c12 cl cf
  have c0 := HP10.out.m.cs 0 _ rfl
  have c1 : v10.cell? ⟨w.heap.size + 1 + 1, 1, none⟩ = some (.int .u8 (D.toNat : Int)) := HP10.out.m.cs 1 _ rfl
  have c2 := HP10.out.m.cs 2 _ rfl
  have c3 := HP10.out.m.cs 3 _ rfl
  have c4 := HP10.out.m.cs 4 _ rfl
  have c5 := HP10.out.m.cs 5 _ rfl
  have c6 := HP10.out.m.cs 6 _ rfl
  have c7 := HP10.out.m.cs 7 _ rfl
  have c8 := HP10.out.m.cs 8 _ rfl
  have c9 := HP10.out.m.cs 9 _ rfl
  have c10 := HP10.out.m.cs 10 _ rfl
  have c11 := HP10.out.m.cs 11 _ rfl
  have c12 := HP10.out.m.cs 12 _ rfl
  have cl := HP10.out.m.lt
  have cf : ∀ j, v10.frozen? ⟨w.heap.size + 1 + 1, j, none⟩ = false := HP10.out.m.s
  refine (HTM.out _).mono ?_
  rintro e w9 ⟨rfl, rfl⟩
  go_wp2_with fail
  refine (HNUM.out _ 8 8 _ (by omega) rfl HP10.out.ri).mono ?_
  rintro e w11 ⟨rfl, hi, hg⟩
  have HM11 := Lib.hid (HP10.out.moved hi hg)
  have HP11 := Lib.hid (HM11.out.put HRR.out ({({(Re.zero c D) with n := Oct.val (lOut (s0).1 8)}) with m := Oct.val (lOut (lRaw (s0) 8).1 8)}) 3 (.int .u64 ((Oct.val (lOut (lRaw (s0) 8).1 8) : Nat) : Int)) (by decide) rfl rfl)
  clear hi hg c0 c1 c2 c3 c4 c5 c6 c7 c8 c9 c10 c11 c12 cl cf
  have c0 := HM11.out.m.cs 0 _ rfl
  have c1 : w11.cell? ⟨w.heap.size + 1 + 1, 1, none⟩ = some (.int .u8 (D.toNat : Int)) := HM11.out.m.cs 1 _ rfl
  have c2 := HM11.out.m.cs 2 _ rfl
  have c3 := HM11.out.m.cs 3 _ rfl
  have c4 := HM11.out.m.cs 4 _ rfl
  have c5 := HM11.out.m.cs 5 _ rfl
  have c6 := HM11.out.m.cs 6 _ rfl
  have c7 := HM11.out.m.cs 7 _ rfl
  have c8 := HM11.out.m.cs 8 _ rfl
  have c9 := HM11.out.m.cs 9 _ rfl
  have c10 := HM11.out.m.cs 10 _ rfl
  have c11 := HM11.out.m.cs 11 _ rfl
  have c12 := HM11.out.m.cs 12 _ rfl
  have cl := HM11.out.m.lt
  have cf : ∀ j, w11.frozen? ⟨w.heap.size + 1 + 1, j, none⟩ = false := HM11.out.m.s
  go_wp2_with fail
  generalize w11.setCell ⟨w.heap.size + 1 + 1, 3, none⟩ (.int .u64 ((Oct.val (lOut (lRaw (s0) 8).1 8) : Nat) : Int)) = v11 at *
  clear c0 c1 c2 c3 c4 c5 c6 c7 c8 c9 c10 c11 c12 cl cf
  have c0 := HP11.out.m.cs 0 _ rfl
  have c1 : v11.cell? ⟨w.heap.size + 1 + 1, 1, none⟩ = some (.int .u8 (D.toNat : Int)) := HP11.out.m.cs 1 _ rfl
  have c2 := HP11.out.m.cs 2 _ rfl
  have c3 := HP11.out.m.cs 3 _ rfl
  have c4 := HP11.out.m.cs 4 _ rfl
  have c5 := HP11.out.m.cs 5 _ rfl
  have c6 := HP11.out.m.cs 6 _ rfl
  have c7 := HP11.out.m.cs 7 _ rfl
  have c8 := HP11.out.m.cs 8 _ rfl
  have c9 := HP11.out.m.cs 9 _ rfl
  have c10 := HP11.out.m.cs 10 _ rfl
  have c11 := HP11.out.m.cs 11 _ rfl
  have c12 := HP11.out.m.cs 12 _ rfl
  have cl := HP11.out.m.lt
  have cf : ∀ j, v11.frozen? ⟨w.heap.size + 1 + 1, j, none⟩ = false := HP11.out.m.s
  clear c0 c1 c2 c3 c4 c5 c6 c7 c8 c9 c10 c11 c12 cl cf
  have HS := Lib.hid (show ReOf w (RefL (w.heap.size + 1 + 1 + 1) (ofL body)) (w.heap.size + 1 + 1 + 1) (w.heap.size + 1 + 1) (Re.rd c D body).1 (Re.rd c D body).2 _ _ v11 by rw [HE.out]; exact HP11.out)
  clear HE
  generalize Re.rd c D body = t at *
  obtain ⟨y, s⟩ := t
  dsimp only at HS HLOW HTL HG
  obtain ⟨A, cq, HS⟩ : ∃ A cq, Hid (ReOf w (RefL (w.heap.size + 1 + 1 + 1) (ofL body)) (w.heap.size + 1 + 1 + 1) (w.heap.size + 1 + 1) y s A cq v11) := ⟨_, _, HS⟩
  have HEN := Lib.hid (HENQ.out s v11 HS.out.ri)
  by_cases he : lEnd s = 0
  · have hTL := HTL.out
    rw [if_neg (by rw [he]; decide)] at hTL
    have HTL := Lib.hid hTL
    rw [he] at HEN
    clear he hTL
    by_cases h0 : y.code = 0
    · have HRC0 := Lib.hid (show RC = 0 by rw [HC.out, HTL.out, h0]; rfl)
      have HGT := Lib.hid (show GT = y by rw [HG.out, if_pos HRC0.out])
      have HCHK := Lib.hid (fun A cq W h => HCHK.out y A cq W h)
      rw [show (y.code : Int) = 0 by rw [h0]; rfl] at HCHK
      clear h0 HG HC HTL
      refine HEN.out.mono ?_
      rintro e w6 ⟨rfl, nq, hw6⟩
      have HS6 := Lib.hid (HS.out.on HRR.out (show Below v11.heap.size v11 w6 by rw [hw6]; exact drewN_below (Below.refl _ _) nq))
      clear hw6
      have c0 := HS6.out.m.cs 0 _ rfl
      have c1 := HS6.out.m.cs 1 _ rfl
      have c2 := HS6.out.m.cs 2 _ rfl
      have c3 := HS6.out.m.cs 3 _ rfl
      have c4 := HS6.out.m.cs 4 _ rfl
      have c5 := HS6.out.m.cs 5 _ rfl
      have c6 := HS6.out.m.cs 6 _ rfl
      have c7 := HS6.out.m.cs 7 _ rfl
      have c8 := HS6.out.m.cs 8 _ rfl
      have c9 := HS6.out.m.cs 9 _ rfl
      have c10 := HS6.out.m.cs 10 _ rfl
      have c11 := HS6.out.m.cs 11 _ rfl
      have c12 := HS6.out.m.cs 12 _ rfl
      have cl := HS6.out.m.lt
      have cf : ∀ j, w6.frozen? ⟨w.heap.size + 1 + 1, j, none⟩ = false := HS6.out.m.s
      go_wp2_with fail
      refine (HCHK.out _ _ _ (HLOW.out.ok HS6.out.hc HS6.out.hp)).mono ?_
      rintro e w7 ⟨rfl, b7⟩
      have HS7 := Lib.hid (HS6.out.on HRR.out b7)
      clear c0 c1 c2 c3 c4 c5 c6 c7 c8 c9 c10 c11 c12 cl cf b7
      have c0 := HS7.out.m.cs 0 _ rfl
      have c1 := HS7.out.m.cs 1 _ rfl
      have c2 := HS7.out.m.cs 2 _ rfl
      have c3 := HS7.out.m.cs 3 _ rfl
      have c4 := HS7.out.m.cs 4 _ rfl
      have c5 := HS7.out.m.cs 5 _ rfl
      have c6 := HS7.out.m.cs 6 _ rfl
      have c7 := HS7.out.m.cs 7 _ rfl
      have c8 := HS7.out.m.cs 8 _ rfl
      have c9 := HS7.out.m.cs 9 _ rfl
      have c10 := HS7.out.m.cs 10 _ rfl
      have c11 := HS7.out.m.cs 11 _ rfl
      have c12 := HS7.out.m.cs 12 _ rfl
      have cl := HS7.out.m.lt
      have cf : ∀ j, w7.frozen? ⟨w.heap.size + 1 + 1, j, none⟩ = false := HS7.out.m.s
      have z0 := HS7.out.q.cs 0 _ rfl
      have z1 := HS7.out.q.cs 1 _ rfl
      have z2 := HS7.out.q.cs 2 _ rfl
      have z3 := HS7.out.q.cs 3 _ rfl
      have z4 := HS7.out.q.cs 4 _ rfl
      have z5 := HS7.out.q.cs 5 _ rfl
      have z6 := HS7.out.q.cs 6 _ rfl
      have z7 := HS7.out.q.cs 7 _ rfl
      have z8 := HS7.out.q.cs 8 _ rfl
      have z9 := HS7.out.q.cs 9 _ rfl
      have z10 := HS7.out.q.cs 10 _ rfl
      have z11 := HS7.out.q.cs 11 _ rfl
      have z12 := HS7.out.q.cs 12 _ rfl
      have zf : ∀ j, w7.frozen? ⟨w.heap.size + 1, j, none⟩ = false := HS7.out.q.s
      have zl := HS7.out.q.lt
      go_wp2_with fail
      have hF := HS7.out.q.fill (reL y A cq) rfl
      have hBF := below_putAll HS7.out.q.ge (reL y A cq) 0 HS7.out.B
      have hPF := Prs.putAll (g := w.heap.size + 1) (fun a ha => fun e => (HS7.out.hA a ha).2.2.1 e.symm) (reL y A cq) 0 HS7.out.hp
      simp only [putAll, reL] at hF hBF hPF
      have g0 := hF.cs 0 _ rfl
      have g1 := hF.cs 1 _ rfl
      have g2 := hF.cs 2 _ rfl
      have g3 := hF.cs 3 _ rfl
      have g4 := hF.cs 4 _ rfl
      have g5 := hF.cs 5 _ rfl
      have g6 := hF.cs 6 _ rfl
      have g7 := hF.cs 7 _ rfl
      have g8 := hF.cs 8 _ rfl
      have g9 := hF.cs 9 _ rfl
      have g10 := hF.cs 10 _ rfl
      have g11 := hF.cs 11 _ rfl
      have g12 := hF.cs 12 _ rfl
      refine bodyPost_ret (v := .tuple #[reV y A cq, .int .i64 0]) (by simp [results, Tryd.results9, reV, go_sem, g0, g1, g2, g3, g4, g5, g6, g7, g8, g9, g10, g11, g12]) rfl ?_
      rw [HRC0.out, HGT.out]
      exact ⟨_, _, rfl, HS7.out.hc, hPF, hBF, fun a ha => (HS7.out.hA a ha).2.2.2⟩
    · have HRC0 := Lib.hid (show RC = (y.code : Int) by rw [HC.out, HTL.out])
      have HGT := Lib.hid (show GT = Re.zero 0 0 by rw [HG.out, if_neg (by rw [HRC0.out]; omega)])
      have hk0 := code_ne h0
      have HCHK := Lib.hid (fun A cq W h => HCHK.out y A cq W h)
      generalize y.code = C at *
      clear h0 HG HC HTL
      refine HEN.out.mono ?_
      rintro e w6 ⟨rfl, nq, hw6⟩
      have HS6 := Lib.hid (HS.out.on HRR.out (show Below v11.heap.size v11 w6 by rw [hw6]; exact drewN_below (Below.refl _ _) nq))
      clear hw6
      have c0 := HS6.out.m.cs 0 _ rfl
      have c1 := HS6.out.m.cs 1 _ rfl
      have c2 := HS6.out.m.cs 2 _ rfl
      have c3 := HS6.out.m.cs 3 _ rfl
      have c4 := HS6.out.m.cs 4 _ rfl
      have c5 := HS6.out.m.cs 5 _ rfl
      have c6 := HS6.out.m.cs 6 _ rfl
      have c7 := HS6.out.m.cs 7 _ rfl
      have c8 := HS6.out.m.cs 8 _ rfl
      have c9 := HS6.out.m.cs 9 _ rfl
      have c10 := HS6.out.m.cs 10 _ rfl
      have c11 := HS6.out.m.cs 11 _ rfl
      have c12 := HS6.out.m.cs 12 _ rfl
      have cl := HS6.out.m.lt
      have cf : ∀ j, w6.frozen? ⟨w.heap.size + 1 + 1, j, none⟩ = false := HS6.out.m.s
      go_wp2_with fail
      refine (HCHK.out _ _ _ (HLOW.out.ok HS6.out.hc HS6.out.hp)).mono ?_
      rintro e w7 ⟨rfl, b7⟩
      have HS7 := Lib.hid (HS6.out.on HRR.out b7)
      clear c0 c1 c2 c3 c4 c5 c6 c7 c8 c9 c10 c11 c12 cl cf b7
      have z0 := HS7.out.q.cs 0 _ rfl
      have z1 := HS7.out.q.cs 1 _ rfl
      have z2 := HS7.out.q.cs 2 _ rfl
      have z3 := HS7.out.q.cs 3 _ rfl
      have z4 := HS7.out.q.cs 4 _ rfl
      have z5 := HS7.out.q.cs 5 _ rfl
      have z6 := HS7.out.q.cs 6 _ rfl
      have z7 := HS7.out.q.cs 7 _ rfl
      have z8 := HS7.out.q.cs 8 _ rfl
      have z9 := HS7.out.q.cs 9 _ rfl
      have z10 := HS7.out.q.cs 10 _ rfl
      have z11 := HS7.out.q.cs 11 _ rfl
      have z12 := HS7.out.q.cs 12 _ rfl
      have zf : ∀ j, w7.frozen? ⟨w.heap.size + 1, j, none⟩ = false := HS7.out.q.s
      have zl := HS7.out.q.lt
      go_wp2_with fail
      have hF := (HS7.out.q).fill [.int .u8 0, .int .u8 0, .int .u64 0, .int .u64 0, .bool false, .string ⟨#[]⟩, .int .u64 0, .string ⟨#[]⟩, .string ⟨#[]⟩, .slice none 0 0, .string ⟨#[]⟩, .int .u64 0, .int .u8 0] rfl
      have hBF := below_putAll (HS7.out.q).ge [.int .u8 0, .int .u8 0, .int .u64 0, .int .u64 0, .bool false, .string ⟨#[]⟩, .int .u64 0, .string ⟨#[]⟩, .string ⟨#[]⟩, .slice none 0 0, .string ⟨#[]⟩, .int .u64 0, .int .u8 0] 0 (HS7.out.B)
      simp only [putAll] at hF hBF
      have g0 := hF.cs 0 _ rfl
      have g1 := hF.cs 1 _ rfl
      have g2 := hF.cs 2 _ rfl
      have g3 := hF.cs 3 _ rfl
      have g4 := hF.cs 4 _ rfl
      have g5 := hF.cs 5 _ rfl
      have g6 := hF.cs 6 _ rfl
      have g7 := hF.cs 7 _ rfl
      have g8 := hF.cs 8 _ rfl
      have g9 := hF.cs 9 _ rfl
      have g10 := hF.cs 10 _ rfl
      have g11 := hF.cs 11 _ rfl
      have g12 := hF.cs 12 _ rfl
      refine bodyPost_ret (v := .tuple #[.agg #[.int .u8 0, .int .u8 0, .int .u64 0, .int .u64 0, .bool false, .string ⟨#[]⟩, .int .u64 0, .string ⟨#[]⟩, .string ⟨#[]⟩, .slice none 0 0, .string ⟨#[]⟩, .int .u64 0, .int .u8 0], .int .i64 (C : Int)]) (by simp [results, Tryd.results9, go_sem, g0, g1, g2, g3, g4, g5, g6, g7, g8, g9, g10, g11, g12]) rfl ?_
      rw [HRC0.out, HGT.out]
      exact re_zero_post hBF
  · have hTL := HTL.out
    rw [if_pos he] at hTL
    have HRC0 := Lib.hid (show RC = lEnd s by rw [HC.out, hTL])
    have HGT := Lib.hid (show GT = Re.zero 0 0 by rw [HG.out, if_neg (by rw [HRC0.out]; exact he)])
    have hk0 : (lEnd s != 0) = true := by rw [bne_iff_ne]; exact he
    have hk1 : (lEnd s == 0) = false := by rw [beq_eq_false_iff_ne]; exact he
    generalize lEnd s = C at *
    clear he HG HC HTL hTL
    refine HEN.out.mono ?_
    rintro e w6 ⟨rfl, nq, hw6⟩
    have HS6 := Lib.hid (HS.out.on HRR.out (show Below v11.heap.size v11 w6 by rw [hw6]; exact drewN_below (Below.refl _ _) nq))
    clear hw6
    have z0 := HS6.out.q.cs 0 _ rfl
    have z1 := HS6.out.q.cs 1 _ rfl
    have z2 := HS6.out.q.cs 2 _ rfl
    have z3 := HS6.out.q.cs 3 _ rfl
    have z4 := HS6.out.q.cs 4 _ rfl
    have z5 := HS6.out.q.cs 5 _ rfl
    have z6 := HS6.out.q.cs 6 _ rfl
    have z7 := HS6.out.q.cs 7 _ rfl
    have z8 := HS6.out.q.cs 8 _ rfl
    have z9 := HS6.out.q.cs 9 _ rfl
    have z10 := HS6.out.q.cs 10 _ rfl
    have z11 := HS6.out.q.cs 11 _ rfl
    have z12 := HS6.out.q.cs 12 _ rfl
    have zf : ∀ j, w6.frozen? ⟨w.heap.size + 1, j, none⟩ = false := HS6.out.q.s
    have zl := HS6.out.q.lt
    go_wp2_with fail
    have hF := (HS6.out.q).fill [.int .u8 0, .int .u8 0, .int .u64 0, .int .u64 0, .bool false, .string ⟨#[]⟩, .int .u64 0, .string ⟨#[]⟩, .string ⟨#[]⟩, .slice none 0 0, .string ⟨#[]⟩, .int .u64 0, .int .u8 0] rfl
    have hBF := below_putAll (HS6.out.q).ge [.int .u8 0, .int .u8 0, .int .u64 0, .int .u64 0, .bool false, .string ⟨#[]⟩, .int .u64 0, .string ⟨#[]⟩, .string ⟨#[]⟩, .slice none 0 0, .string ⟨#[]⟩, .int .u64 0, .int .u8 0] 0 (HS6.out.B)
    simp only [putAll] at hF hBF
    have g0 := hF.cs 0 _ rfl
    have g1 := hF.cs 1 _ rfl
    have g2 := hF.cs 2 _ rfl
    have g3 := hF.cs 3 _ rfl
    have g4 := hF.cs 4 _ rfl
    have g5 := hF.cs 5 _ rfl
    have g6 := hF.cs 6 _ rfl
    have g7 := hF.cs 7 _ rfl
    have g8 := hF.cs 8 _ rfl
    have g9 := hF.cs 9 _ rfl
    have g10 := hF.cs 10 _ rfl
    have g11 := hF.cs 11 _ rfl
    have g12 := hF.cs 12 _ rfl
    refine bodyPost_ret (v := .tuple #[.agg #[.int .u8 0, .int .u8 0, .int .u64 0, .int .u64 0, .bool false, .string ⟨#[]⟩, .int .u64 0, .string ⟨#[]⟩, .string ⟨#[]⟩, .slice none 0 0, .string ⟨#[]⟩, .int .u64 0, .int .u8 0], .int .i64 C]) (by simp [results, Tryd.results9, go_sem, g0, g1, g2, g3, g4, g5, g6, g7, g8, g9, g10, g11, g12]) rfl ?_
    rw [HRC0.out, HGT.out]
    exact re_zero_post hBF
set_option maxRecDepth 100000 in
set_option maxHeartbeats 16000000 in
theorem r12Parse_z (c k : UInt8) (body : List UInt8) (w : World) (hS : (ofL body).size ≤ 1000000) (h20 : ¬ (k.toNat < 64 ∨ 71 < k.toNat)) (hk : (Re.down k).toNat = 1 ∨ (Re.down k).toNat = 4) : Calls Tryd.prog 9 #[.agg #[.int .u8 (c.toNat : Int), .int .u8 (k.toNat : Int), .string (ofL body)]] w (ReOfPost (Re.got c k body) (Re.rcode c k body) w) := by
  have HC : Hid (Re.rcode c k body = if (k.toNat < 64 ∨ 71 < k.toNat) then 8 else Re.tail c (Re.down k) body) := rfl
  have HG : Hid (Re.got c k body = if Re.rcode c k body = 0 then (Re.rd c (Re.down k) body).1 else Re.zero 0 0) := rfl
  have HTL : Hid (Re.tail c (Re.down k) body = if lEnd (Re.rd c (Re.down k) body).2 ≠ 0 then lEnd (Re.rd c (Re.down k) body).2 else ((Re.rd c (Re.down k) body).1.code : Int)) := rfl
  skip
  have hz : decide ((k.toNat : Int) < 64) = false := decide_eq_false (by omega)
  have hz2 : decide ((71 : Int) < (k.toNat : Int)) = false := decide_eq_false (by omega)
  have hdn : IntKind.u8.wrap ((k.toNat : Int) - 64) = ((Re.down k).toNat : Int) := by
    unfold Re.down
    rw [UInt8.toNat_sub, show IntKind.u8.wrap ((k.toNat : Int) - 64) = ((k.toNat : Int) - 64) % 256 from rfl]
    show _ = (((2 ^ 8 - 64 + k.toNat) % 256 : Nat) : Int)
    omega
  have hD7 : (Re.down k).toNat ≤ 7 := by
    unfold Re.down
    rw [UInt8.toNat_sub]
    show (2 ^ 8 - 64 + k.toNat) % 256 ≤ 7
    omega
  have HC := Lib.hid (show Re.rcode c k body = Re.tail c (Re.down k) body by rw [HC.out, if_neg h20])
  clear h20
  generalize Re.down k = D at *
  generalize Re.rcode c k body = RC at *
  generalize Re.got c k body = GT at *
  generalize Re.tail c D body = TL at *
  have HS0 := Lib.hid (r12_start c k D body w)
  have HLOW : Hid (ReLow (Re.rd c D body).1) := re_rdl_low _ _ (re_zero_low c D)
  have HTN := Lib.hid (fun W => tellsN_any D.toNat W)
  have HTM := Lib.hid (fun W => tellsM_any D.toNat W)
  have HSZ := Lib.hid hS
  clear hS
  obtain ⟨s0, hs0⟩ : ∃ s0 : LSt, s0 = (body, 0) := ⟨_, rfl⟩
  rw [← hs0] at HS0
  have HOK0 := Lib.hid (show lOk s0 by rw [hs0]; exact lOk_new body)
  have HRDS : Hid (∀ D, Re.rd c D body = Re.rdl (Re.tells D.toNat) (Re.zero c D, s0)) := Lib.hid (fun D => by rw [hs0]; rfl)
  clear hs0
  have HNUM := Lib.hid (fun s k2 (n : Int) W h1 h2 h3 => rinum_l (w.heap.size + 1 + 1 + 1) (ofL body) s k2 n W h1 h2 h3 HSZ.out)
  have HTXT := Lib.hid (fun s m W h => ritext_l (w.heap.size + 1 + 1 + 1) (ofL body) s m W h HSZ.out)
  have HFAIL := Lib.hid (fun s cc W h => rifail_l (w.heap.size + 1 + 1 + 1) (ofL body) s cc W h)
  have HHD := Lib.hid (fun s W h1 h2 => rread9_any (w.heap.size + 1 + 1 + 1) (ofL body) s W h1 h2 HSZ.out)
  have HENQ := Lib.hid (fun s W h => riend_l (w.heap.size + 1 + 1 + 1) (ofL body) s W h)
  have HCHK := Lib.hid (fun y A cq W h => r12Check_any y A cq W h)
  have HRR := Lib.hid (rdr_ref (w.heap.size + 1 + 1 + 1) (ofL body))
  unfold RPostL at HNUM HTXT HFAIL
  unfold HReadPost at HHD
  unfold Quiet at HENQ
  simp only [reV] at HCHK
  have HE := Lib.hid (show Re.rd c D body = (Re.zero c D, s0) by rw [HRDS.out D]; rcases hk with h | h <;> rw [h] <;> rfl)
  have k0 : ((D.toNat : Int) == 0) = false := beq_eq_false_iff_ne.2 (by omega)
  have k3 : ((D.toNat : Int) == 3) = false := beq_eq_false_iff_ne.2 (by omega)
  rw [show Re.tellsN D.toNat = false by rcases hk with h | h <;> rw [h] <;> rfl] at HTN
  rw [show Re.tellsM D.toNat = false by rcases hk with h | h <;> rw [h] <;> rfl] at HTM
  clear hk hD7
  go_enter Tryd.func9, Tryd.ntmps9
  go_wp2_with fail
  generalize ((((w.alloc (.cells #[.int .u8 (c.toNat : Int), .int .u8 (k.toNat : Int), .string (ofL body)] 37)).alloc (.cells #[.int .u8 0, .int .u8 0, .int .u64 0, .int .u64 0, .bool false, .string ⟨#[]⟩, .int .u64 0, .string ⟨#[]⟩, .string ⟨#[]⟩, .slice none 0 0, .string ⟨#[]⟩, .int .u64 0, .int .u8 0] 34)).alloc (.cells #[.int .u8 (c.toNat : Int), .int .u8 (D.toNat : Int), .int .u64 0, .int .u64 0, .bool false, .string ⟨#[]⟩, .int .u64 0, .string ⟨#[]⟩, .string ⟨#[]⟩, .slice none 0 0, .string ⟨#[]⟩, .int .u64 0, .int .u8 0] 34)).alloc (.cells #[.string (ofL body), .int .i64 0, .int .i64 0] 58)) = w4 at *
  have c0 := HS0.out.m.cs 0 _ rfl
  have c1 : w4.cell? ⟨w.heap.size + 1 + 1, 1, none⟩ = some (.int .u8 (D.toNat : Int)) := HS0.out.m.cs 1 _ rfl
  have c2 := HS0.out.m.cs 2 _ rfl
  have c3 := HS0.out.m.cs 3 _ rfl
  have c4 := HS0.out.m.cs 4 _ rfl
  have c5 := HS0.out.m.cs 5 _ rfl
  have c6 := HS0.out.m.cs 6 _ rfl
  have c7 := HS0.out.m.cs 7 _ rfl
  have c8 := HS0.out.m.cs 8 _ rfl
  have c9 := HS0.out.m.cs 9 _ rfl
  have c10 := HS0.out.m.cs 10 _ rfl
  have c11 := HS0.out.m.cs 11 _ rfl
  have c12 := HS0.out.m.cs 12 _ rfl
  have cl := HS0.out.m.lt
  have cf : ∀ j, w4.frozen? ⟨w.heap.size + 1 + 1, j, none⟩ = false := HS0.out.m.s
  refine (HTN.out _).mono ?_
  rintro e w9 ⟨rfl, rfl⟩
  go_wp2_with fail
  refine (HTM.out _).mono ?_
  rintro e w9 ⟨rfl, rfl⟩
  go_wp2_with fail
  clear c0 c1 c2 c3 c4 c5 c6 c7 c8 c9 c10 c11 c12 cl cf
  have HS := Lib.hid (show ReOf w (RefL (w.heap.size + 1 + 1 + 1) (ofL body)) (w.heap.size + 1 + 1 + 1) (w.heap.size + 1 + 1) (Re.rd c D body).1 (Re.rd c D body).2 _ _ w4 by rw [HE.out]; exact HS0.out)
  clear HE
  generalize Re.rd c D body = t at *
  obtain ⟨y, s⟩ := t
  dsimp only at HS HLOW HTL HG
  obtain ⟨A, cq, HS⟩ : ∃ A cq, Hid (ReOf w (RefL (w.heap.size + 1 + 1 + 1) (ofL body)) (w.heap.size + 1 + 1 + 1) (w.heap.size + 1 + 1) y s A cq w4) := ⟨_, _, HS⟩
  have HEN := Lib.hid (HENQ.out s w4 HS.out.ri)
  by_cases he : lEnd s = 0
  · have hTL := HTL.out
    rw [if_neg (by rw [he]; decide)] at hTL
    have HTL := Lib.hid hTL
    rw [he] at HEN
    clear he hTL
    by_cases h0 : y.code = 0
    · have HRC0 := Lib.hid (show RC = 0 by rw [HC.out, HTL.out, h0]; rfl)
      have HGT := Lib.hid (show GT = y by rw [HG.out, if_pos HRC0.out])
      have HCHK := Lib.hid (fun A cq W h => HCHK.out y A cq W h)
      rw [show (y.code : Int) = 0 by rw [h0]; rfl] at HCHK
      clear h0 HG HC HTL
      refine HEN.out.mono ?_
      rintro e w6 ⟨rfl, nq, hw6⟩
      have HS6 := Lib.hid (HS.out.on HRR.out (show Below w4.heap.size w4 w6 by rw [hw6]; exact drewN_below (Below.refl _ _) nq))
      clear hw6
      have c0 := HS6.out.m.cs 0 _ rfl
      have c1 := HS6.out.m.cs 1 _ rfl
      have c2 := HS6.out.m.cs 2 _ rfl
      have c3 := HS6.out.m.cs 3 _ rfl
      have c4 := HS6.out.m.cs 4 _ rfl
      have c5 := HS6.out.m.cs 5 _ rfl
      have c6 := HS6.out.m.cs 6 _ rfl
      have c7 := HS6.out.m.cs 7 _ rfl
      have c8 := HS6.out.m.cs 8 _ rfl
      have c9 := HS6.out.m.cs 9 _ rfl
      have c10 := HS6.out.m.cs 10 _ rfl
      have c11 := HS6.out.m.cs 11 _ rfl
      have c12 := HS6.out.m.cs 12 _ rfl
      have cl := HS6.out.m.lt
      have cf : ∀ j, w6.frozen? ⟨w.heap.size + 1 + 1, j, none⟩ = false := HS6.out.m.s
      go_wp2_with fail
      refine (HCHK.out _ _ _ (HLOW.out.ok HS6.out.hc HS6.out.hp)).mono ?_
      rintro e w7 ⟨rfl, b7⟩
      have HS7 := Lib.hid (HS6.out.on HRR.out b7)
      clear c0 c1 c2 c3 c4 c5 c6 c7 c8 c9 c10 c11 c12 cl cf b7
      have c0 := HS7.out.m.cs 0 _ rfl
      have c1 := HS7.out.m.cs 1 _ rfl
      have c2 := HS7.out.m.cs 2 _ rfl
      have c3 := HS7.out.m.cs 3 _ rfl
      have c4 := HS7.out.m.cs 4 _ rfl
      have c5 := HS7.out.m.cs 5 _ rfl
      have c6 := HS7.out.m.cs 6 _ rfl
      have c7 := HS7.out.m.cs 7 _ rfl
      have c8 := HS7.out.m.cs 8 _ rfl
      have c9 := HS7.out.m.cs 9 _ rfl
      have c10 := HS7.out.m.cs 10 _ rfl
      have c11 := HS7.out.m.cs 11 _ rfl
      have c12 := HS7.out.m.cs 12 _ rfl
      have cl := HS7.out.m.lt
      have cf : ∀ j, w7.frozen? ⟨w.heap.size + 1 + 1, j, none⟩ = false := HS7.out.m.s
      have z0 := HS7.out.q.cs 0 _ rfl
      have z1 := HS7.out.q.cs 1 _ rfl
      have z2 := HS7.out.q.cs 2 _ rfl
      have z3 := HS7.out.q.cs 3 _ rfl
      have z4 := HS7.out.q.cs 4 _ rfl
      have z5 := HS7.out.q.cs 5 _ rfl
      have z6 := HS7.out.q.cs 6 _ rfl
      have z7 := HS7.out.q.cs 7 _ rfl
      have z8 := HS7.out.q.cs 8 _ rfl
      have z9 := HS7.out.q.cs 9 _ rfl
      have z10 := HS7.out.q.cs 10 _ rfl
      have z11 := HS7.out.q.cs 11 _ rfl
      have z12 := HS7.out.q.cs 12 _ rfl
      have zf : ∀ j, w7.frozen? ⟨w.heap.size + 1, j, none⟩ = false := HS7.out.q.s
      have zl := HS7.out.q.lt
      go_wp2_with fail
      have hF := HS7.out.q.fill (reL y A cq) rfl
      have hBF := below_putAll HS7.out.q.ge (reL y A cq) 0 HS7.out.B
      have hPF := Prs.putAll (g := w.heap.size + 1) (fun a ha => fun e => (HS7.out.hA a ha).2.2.1 e.symm) (reL y A cq) 0 HS7.out.hp
      simp only [putAll, reL] at hF hBF hPF
      have g0 := hF.cs 0 _ rfl
      have g1 := hF.cs 1 _ rfl
      have g2 := hF.cs 2 _ rfl
      have g3 := hF.cs 3 _ rfl
      have g4 := hF.cs 4 _ rfl
      have g5 := hF.cs 5 _ rfl
      have g6 := hF.cs 6 _ rfl
      have g7 := hF.cs 7 _ rfl
      have g8 := hF.cs 8 _ rfl
      have g9 := hF.cs 9 _ rfl
      have g10 := hF.cs 10 _ rfl
      have g11 := hF.cs 11 _ rfl
      have g12 := hF.cs 12 _ rfl
      refine bodyPost_ret (v := .tuple #[reV y A cq, .int .i64 0]) (by simp [results, Tryd.results9, reV, go_sem, g0, g1, g2, g3, g4, g5, g6, g7, g8, g9, g10, g11, g12]) rfl ?_
      rw [HRC0.out, HGT.out]
      exact ⟨_, _, rfl, HS7.out.hc, hPF, hBF, fun a ha => (HS7.out.hA a ha).2.2.2⟩
    · have HRC0 := Lib.hid (show RC = (y.code : Int) by rw [HC.out, HTL.out])
      have HGT := Lib.hid (show GT = Re.zero 0 0 by rw [HG.out, if_neg (by rw [HRC0.out]; omega)])
      have hk0 := code_ne h0
      have HCHK := Lib.hid (fun A cq W h => HCHK.out y A cq W h)
      generalize y.code = C at *
      clear h0 HG HC HTL
      refine HEN.out.mono ?_
      rintro e w6 ⟨rfl, nq, hw6⟩
      have HS6 := Lib.hid (HS.out.on HRR.out (show Below w4.heap.size w4 w6 by rw [hw6]; exact drewN_below (Below.refl _ _) nq))
      clear hw6
      have c0 := HS6.out.m.cs 0 _ rfl
      have c1 := HS6.out.m.cs 1 _ rfl
      have c2 := HS6.out.m.cs 2 _ rfl
      have c3 := HS6.out.m.cs 3 _ rfl
      have c4 := HS6.out.m.cs 4 _ rfl
      have c5 := HS6.out.m.cs 5 _ rfl
      have c6 := HS6.out.m.cs 6 _ rfl
      have c7 := HS6.out.m.cs 7 _ rfl
      have c8 := HS6.out.m.cs 8 _ rfl
      have c9 := HS6.out.m.cs 9 _ rfl
      have c10 := HS6.out.m.cs 10 _ rfl
      have c11 := HS6.out.m.cs 11 _ rfl
      have c12 := HS6.out.m.cs 12 _ rfl
      have cl := HS6.out.m.lt
      have cf : ∀ j, w6.frozen? ⟨w.heap.size + 1 + 1, j, none⟩ = false := HS6.out.m.s
      go_wp2_with fail
      refine (HCHK.out _ _ _ (HLOW.out.ok HS6.out.hc HS6.out.hp)).mono ?_
      rintro e w7 ⟨rfl, b7⟩
      have HS7 := Lib.hid (HS6.out.on HRR.out b7)
      clear c0 c1 c2 c3 c4 c5 c6 c7 c8 c9 c10 c11 c12 cl cf b7
      have z0 := HS7.out.q.cs 0 _ rfl
      have z1 := HS7.out.q.cs 1 _ rfl
      have z2 := HS7.out.q.cs 2 _ rfl
      have z3 := HS7.out.q.cs 3 _ rfl
      have z4 := HS7.out.q.cs 4 _ rfl
      have z5 := HS7.out.q.cs 5 _ rfl
      have z6 := HS7.out.q.cs 6 _ rfl
      have z7 := HS7.out.q.cs 7 _ rfl
      have z8 := HS7.out.q.cs 8 _ rfl
      have z9 := HS7.out.q.cs 9 _ rfl
      have z10 := HS7.out.q.cs 10 _ rfl
      have z11 := HS7.out.q.cs 11 _ rfl
      have z12 := HS7.out.q.cs 12 _ rfl
      have zf : ∀ j, w7.frozen? ⟨w.heap.size + 1, j, none⟩ = false := HS7.out.q.s
      have zl := HS7.out.q.lt
      go_wp2_with fail
      have hF := (HS7.out.q).fill [.int .u8 0, .int .u8 0, .int .u64 0, .int .u64 0, .bool false, .string ⟨#[]⟩, .int .u64 0, .string ⟨#[]⟩, .string ⟨#[]⟩, .slice none 0 0, .string ⟨#[]⟩, .int .u64 0, .int .u8 0] rfl
      have hBF := below_putAll (HS7.out.q).ge [.int .u8 0, .int .u8 0, .int .u64 0, .int .u64 0, .bool false, .string ⟨#[]⟩, .int .u64 0, .string ⟨#[]⟩, .string ⟨#[]⟩, .slice none 0 0, .string ⟨#[]⟩, .int .u64 0, .int .u8 0] 0 (HS7.out.B)
      simp only [putAll] at hF hBF
      have g0 := hF.cs 0 _ rfl
      have g1 := hF.cs 1 _ rfl
      have g2 := hF.cs 2 _ rfl
      have g3 := hF.cs 3 _ rfl
      have g4 := hF.cs 4 _ rfl
      have g5 := hF.cs 5 _ rfl
      have g6 := hF.cs 6 _ rfl
      have g7 := hF.cs 7 _ rfl
      have g8 := hF.cs 8 _ rfl
      have g9 := hF.cs 9 _ rfl
      have g10 := hF.cs 10 _ rfl
      have g11 := hF.cs 11 _ rfl
      have g12 := hF.cs 12 _ rfl
      refine bodyPost_ret (v := .tuple #[.agg #[.int .u8 0, .int .u8 0, .int .u64 0, .int .u64 0, .bool false, .string ⟨#[]⟩, .int .u64 0, .string ⟨#[]⟩, .string ⟨#[]⟩, .slice none 0 0, .string ⟨#[]⟩, .int .u64 0, .int .u8 0], .int .i64 (C : Int)]) (by simp [results, Tryd.results9, go_sem, g0, g1, g2, g3, g4, g5, g6, g7, g8, g9, g10, g11, g12]) rfl ?_
      rw [HRC0.out, HGT.out]
      exact re_zero_post hBF
  · have hTL := HTL.out
    rw [if_pos he] at hTL
    have HRC0 := Lib.hid (show RC = lEnd s by rw [HC.out, hTL])
    have HGT := Lib.hid (show GT = Re.zero 0 0 by rw [HG.out, if_neg (by rw [HRC0.out]; exact he)])
    have hk0 : (lEnd s != 0) = true := by rw [bne_iff_ne]; exact he
    have hk1 : (lEnd s == 0) = false := by rw [beq_eq_false_iff_ne]; exact he
    generalize lEnd s = C at *
    clear he HG HC HTL hTL
    refine HEN.out.mono ?_
    rintro e w6 ⟨rfl, nq, hw6⟩
    have HS6 := Lib.hid (HS.out.on HRR.out (show Below w4.heap.size w4 w6 by rw [hw6]; exact drewN_below (Below.refl _ _) nq))
    clear hw6
    have z0 := HS6.out.q.cs 0 _ rfl
    have z1 := HS6.out.q.cs 1 _ rfl
    have z2 := HS6.out.q.cs 2 _ rfl
    have z3 := HS6.out.q.cs 3 _ rfl
    have z4 := HS6.out.q.cs 4 _ rfl
    have z5 := HS6.out.q.cs 5 _ rfl
    have z6 := HS6.out.q.cs 6 _ rfl
    have z7 := HS6.out.q.cs 7 _ rfl
    have z8 := HS6.out.q.cs 8 _ rfl
    have z9 := HS6.out.q.cs 9 _ rfl
    have z10 := HS6.out.q.cs 10 _ rfl
    have z11 := HS6.out.q.cs 11 _ rfl
    have z12 := HS6.out.q.cs 12 _ rfl
    have zf : ∀ j, w6.frozen? ⟨w.heap.size + 1, j, none⟩ = false := HS6.out.q.s
    have zl := HS6.out.q.lt
    go_wp2_with fail
    have hF := (HS6.out.q).fill [.int .u8 0, .int .u8 0, .int .u64 0, .int .u64 0, .bool false, .string ⟨#[]⟩, .int .u64 0, .string ⟨#[]⟩, .string ⟨#[]⟩, .slice none 0 0, .string ⟨#[]⟩, .int .u64 0, .int .u8 0] rfl
    have hBF := below_putAll (HS6.out.q).ge [.int .u8 0, .int .u8 0, .int .u64 0, .int .u64 0, .bool false, .string ⟨#[]⟩, .int .u64 0, .string ⟨#[]⟩, .string ⟨#[]⟩, .slice none 0 0, .string ⟨#[]⟩, .int .u64 0, .int .u8 0] 0 (HS6.out.B)
    simp only [putAll] at hF hBF
    have g0 := hF.cs 0 _ rfl
    have g1 := hF.cs 1 _ rfl
    have g2 := hF.cs 2 _ rfl
    have g3 := hF.cs 3 _ rfl
    have g4 := hF.cs 4 _ rfl
    have g5 := hF.cs 5 _ rfl
    have g6 := hF.cs 6 _ rfl
    have g7 := hF.cs 7 _ rfl
    have g8 := hF.cs 8 _ rfl
    have g9 := hF.cs 9 _ rfl
    have g10 := hF.cs 10 _ rfl
    have g11 := hF.cs 11 _ rfl
    have g12 := hF.cs 12 _ rfl
    refine bodyPost_ret (v := .tuple #[.agg #[.int .u8 0, .int .u8 0, .int .u64 0, .int .u64 0, .bool false, .string ⟨#[]⟩, .int .u64 0, .string ⟨#[]⟩, .string ⟨#[]⟩, .slice none 0 0, .string ⟨#[]⟩, .int .u64 0, .int .u8 0], .int .i64 C]) (by simp [results, Tryd.results9, go_sem, g0, g1, g2, g3, g4, g5, g6, g7, g8, g9, g10, g11, g12]) rfl ?_
    rw [HRC0.out, HGT.out]
    exact re_zero_post hBF
end Go.Proofs.YtnamkglflhkckaaDoor
end
