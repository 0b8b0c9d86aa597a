/-
  WHAT IS READ OF A FRAME (REPLY), whole: walked.
-/
import Derived.Test.YtnjlhafhgfpfiaaGreatDoorRb27
import Derived.Test.YtnjlhafhgfpfiaaGreatDoorRb28

section
namespace Go.Proofs.YtnjlhafhgfpfiaaGreatDoor
open Go.ChangeShapes Go.WideShapes Go.ChangeAt Go.RowKit
/-- what was read is of a length that can be walked -/
structure ReLow (x : Re) : Prop where
  name : x.name.length ≤ 65536
  shop : x.shop.length ≤ 65536
  key : x.key.length ≤ 65536
  body : x.body.length ≤ 65536
  len : x.head.length ≤ 8
  head : ∀ p ∈ x.head, p.key.length ≤ 65536 ∧ p.txt.length ≤ 65536
theorem re_rd1_low {y : Re} {s : LSt} {p : Nat} (h : ReLow y) : ReLow (Re.rd1 y s p).1 := by
  obtain ⟨h0, h1, h2, h3, hl, hh⟩ := h
  unfold Re.rd1
  repeat' split
  all_goals first | exact ⟨h0, h1, h2, h3, hl, hh⟩ | exact ⟨h0, h1, h2, h3, Hd.hread_len s, hread_low s⟩ | exact ⟨lText_len s _, h1, h2, h3, hl, hh⟩ | exact ⟨h0, lText_len s _, h2, h3, hl, hh⟩ | exact ⟨h0, h1, lText_len s _, h3, hl, hh⟩ | exact ⟨h0, h1, h2, lText_len s _, hl, hh⟩
theorem re_rdl_low : ∀ (l : List Nat) (t : Re × LSt), ReLow t.1 → ReLow (Re.rdl l t).1
  | [], _, h => h
  | p :: l, t, h => re_rdl_low l (Re.rd1 t.1 t.2 p) (re_rd1_low h)
theorem re_zero_low (c k : UInt8) : ReLow (Re.zero c k) := ⟨Nat.zero_le _, Nat.zero_le _, Nat.zero_le _, Nat.zero_le _, Nat.zero_le _, fun p hp => absurd hp (by simp [Re.zero])⟩
theorem ReLow.ok {w : World} {x : Re} {A : Option Addr} {c : Nat} (h : ReLow x) (hc : x.head.length ≤ c) (hp : Prs w A x.head) : ReOk w x A c :=
  ⟨by have := h.name; omega, by have := h.shop; omega, by have := h.key; omega, by have := h.body; omega, by have := h.len; omega, hc, lite_of h.head, hp⟩
/-- what is wrong with a frame of that body -/
def Re.tail (c k : UInt8) (b : List UInt8) : Int := if lEnd (Re.rd c k b).2 ≠ 0 then lEnd (Re.rd c k b).2 else ((Re.rd c k b).1.code : Int)
/-- what is wrong with a frame -/
def Re.rcode (c k : UInt8) (b : List UInt8) : Int := if (k.toNat < 64 ∨ 71 < k.toNat) then 8 else Re.tail c (Re.down k) b
/-- what is read of a frame -/
def Re.got (c k : UInt8) (b : List UInt8) : Re := if Re.rcode c k b = 0 then (Re.rd c (Re.down k) b).1 else Re.zero 0 0
theorem re_rdl_next {l : List Nat} {t : Re × LSt} {k : Nat} (h : k < l.length) : Re.rdl (l.take (k + 1)) t = Re.rd1 (Re.rdl (l.take k) t).1 (Re.rdl (l.take k) t).2 (l.getD k 0) := by
  unfold Re.rdl
  rw [List.take_succ_eq_append_getElem h, List.foldl_append, List.getD_eq_getElem?_getD, List.getElem?_eq_getElem h]
  rfl
theorem re_rdl_all {l : List Nat} {t : Re × LSt} {k : Nat} (h : l.length ≤ k) : Re.rdl (l.take k) t = Re.rdl l t := by rw [List.take_of_length_le h]
def ReOfPost (T : Re) (C : Int) (w : World) (e : Ending) (w' : World) : Prop :=
  ∃ A c, e = .returned (.tuple #[reV T A c, .int .i64 C]) ∧ T.head.length ≤ c ∧ Prs w' A T.head ∧ Below w.heap.size w w' ∧ ∀ a, A = some a → w.heap.size ≤ a.block
theorem re_zero_post {C : Int} {w w' : World} (hb : Below w.heap.size w w') : ReOfPost (Re.zero 0 0) C w (.returned (.tuple #[.agg #[.int .u8 0, .int .u8 0, .int .u64 0, .int .u64 0, .bool false, .string ⟨#[]⟩, .int .u64 0, .string ⟨#[]⟩, .string ⟨#[]⟩, .slice none 0 0, .string ⟨#[]⟩, .int .u64 0, .int .u8 0], .int .i64 C])) w' :=
  ⟨none, 0, rfl, Nat.le_refl _, Prs.nil _ _, hb, fun a ha => by cases ha⟩
/-- while it is read: the reader b, the box g, the answer's -/
structure ReOf (w : World) (R : LSt → World → Prop) (b g : Nat) (y : Re) (s : LSt) (A : Option Addr) (c : Nat) (W : World) : Prop where
  ri : R s W
  m : BoxC w g (reL y A c) W
  q : BoxC w (w.heap.size + 1) [.int .u8 0, .int .u8 0, .int .u64 0, .int .u64 0, .bool false, .string ⟨#[]⟩, .int .u64 0, .string ⟨#[]⟩, .string ⟨#[]⟩, .slice none 0 0, .string ⟨#[]⟩, .int .u64 0, .int .u8 0] W
  hc : y.head.length ≤ c
  hp : Prs W A y.head
  hA : ∀ a, A = some a → a.block ≠ b ∧ a.block ≠ g ∧ a.block ≠ w.heap.size + 1 ∧ w.heap.size ≤ a.block
  gb : g < b
  gq : w.heap.size + 1 < g
  B : Below w.heap.size w W
theorem ReOf.step {w : World} {R : LSt → World → Prop} {b g : Nat} (hR : Rder b R) {y y' : Re} {s s' : LSt} {A A' : Option Addr} {c c' : Nat} {W W' : World} (h : ReOf w R b g y s A c W) (hi : R s' W') (hg : W.grownBy W' (some b)) (hc : y'.head.length ≤ c') (hp : Prs W' A' y'.head) (hA : ∀ a, A' = some a → A = some a ∨ W.heap.size ≤ a.block) :
    BoxC w g (reL y A c) W' ∧ ReOf w R b g y' s' A' c' (putAll g 0 (reL y' A' c') W') := by
  have hgb := h.gb
  have hgq := h.gq
  have hm := h.m.grown hg (by omega)
  have hb := hR.lt h.ri
  have hA2 : ∀ a, A' = some a → a.block ≠ b ∧ a.block ≠ g ∧ a.block ≠ w.heap.size + 1 ∧ w.heap.size ≤ a.block := fun a ha => by
    rcases hA a ha with h1 | h1
    · exact h.hA a h1
    · omega
  exact ⟨hm, rdr_putAll hR (by omega) _ 0 hi, hm.fill _ rfl, BoxC.putAll_aside (by omega) _ 0 (h.q.grown hg (by omega)), hc, Prs.putAll (fun a ha => fun e => (hA2 a ha).2.1 e.symm) _ 0 hp, hA2, h.gb, h.gq, below_putAll (by omega) _ 0 (below_in h.B hg h.B.size (by omega))⟩
theorem ReOf.on {w : World} {R : LSt → World → Prop} {b g : Nat} (hR : Rder b R) {y : Re} {s : LSt} {A : Option Addr} {c : Nat} {W W' : World} (h : ReOf w R b g y s A c W) (hb : Below W.heap.size W W') : ReOf w R b g y s A c W' :=
  ⟨hR.on h.ri hb, h.m.on hb, h.q.on hb, h.hc, h.hp.on hb, h.hA, h.gb, h.gq, bthen h.B hb (Nat.le_refl _)⟩
theorem re_Of_start (c k D : UInt8) (body : List UInt8) (w W4 : World) (s : LSt) (hi : InL (((w.alloc (.cells #[.int .u8 (c.toNat : Int), .int .u8 (k.toNat : Int), .string (ofL body)] 50)).alloc (.cells #[.int .u8 0, .int .u8 0, .int .u64 0, .int .u64 0, .bool false, .string ⟨#[]⟩, .int .u64 0, .string ⟨#[]⟩, .string ⟨#[]⟩, .slice none 0 0, .string ⟨#[]⟩, .int .u64 0, .int .u8 0] 30)).alloc (.cells #[.int .u8 (c.toNat : Int), .int .u8 (D.toNat : Int), .int .u64 0, .int .u64 0, .bool false, .string ⟨#[]⟩, .int .u64 0, .string ⟨#[]⟩, .string ⟨#[]⟩, .slice none 0 0, .string ⟨#[]⟩, .int .u64 0, .int .u8 0] 30)).heap.size s W4) (hb : Below (((w.alloc (.cells #[.int .u8 (c.toNat : Int), .int .u8 (k.toNat : Int), .string (ofL body)] 50)).alloc (.cells #[.int .u8 0, .int .u8 0, .int .u64 0, .int .u64 0, .bool false, .string ⟨#[]⟩, .int .u64 0, .string ⟨#[]⟩, .string ⟨#[]⟩, .slice none 0 0, .string ⟨#[]⟩, .int .u64 0, .int .u8 0] 30)).alloc (.cells #[.int .u8 (c.toNat : Int), .int .u8 (D.toNat : Int), .int .u64 0, .int .u64 0, .bool false, .string ⟨#[]⟩, .int .u64 0, .string ⟨#[]⟩, .string ⟨#[]⟩, .slice none 0 0, .string ⟨#[]⟩, .int .u64 0, .int .u8 0] 30)).heap.size (((w.alloc (.cells #[.int .u8 (c.toNat : Int), .int .u8 (k.toNat : Int), .string (ofL body)] 50)).alloc (.cells #[.int .u8 0, .int .u8 0, .int .u64 0, .int .u64 0, .bool false, .string ⟨#[]⟩, .int .u64 0, .string ⟨#[]⟩, .string ⟨#[]⟩, .slice none 0 0, .string ⟨#[]⟩, .int .u64 0, .int .u8 0] 30)).alloc (.cells #[.int .u8 (c.toNat : Int), .int .u8 (D.toNat : Int), .int .u64 0, .int .u64 0, .bool false, .string ⟨#[]⟩, .int .u64 0, .string ⟨#[]⟩, .string ⟨#[]⟩, .slice none 0 0, .string ⟨#[]⟩, .int .u64 0, .int .u8 0] 30)) W4) :
    ReOf w (InL (((w.alloc (.cells #[.int .u8 (c.toNat : Int), .int .u8 (k.toNat : Int), .string (ofL body)] 50)).alloc (.cells #[.int .u8 0, .int .u8 0, .int .u64 0, .int .u64 0, .bool false, .string ⟨#[]⟩, .int .u64 0, .string ⟨#[]⟩, .string ⟨#[]⟩, .slice none 0 0, .string ⟨#[]⟩, .int .u64 0, .int .u8 0] 30)).alloc (.cells #[.int .u8 (c.toNat : Int), .int .u8 (D.toNat : Int), .int .u64 0, .int .u64 0, .bool false, .string ⟨#[]⟩, .int .u64 0, .string ⟨#[]⟩, .string ⟨#[]⟩, .slice none 0 0, .string ⟨#[]⟩, .int .u64 0, .int .u8 0] 30)).heap.size) (((w.alloc (.cells #[.int .u8 (c.toNat : Int), .int .u8 (k.toNat : Int), .string (ofL body)] 50)).alloc (.cells #[.int .u8 0, .int .u8 0, .int .u64 0, .int .u64 0, .bool false, .string ⟨#[]⟩, .int .u64 0, .string ⟨#[]⟩, .string ⟨#[]⟩, .slice none 0 0, .string ⟨#[]⟩, .int .u64 0, .int .u8 0] 30)).alloc (.cells #[.int .u8 (c.toNat : Int), .int .u8 (D.toNat : Int), .int .u64 0, .int .u64 0, .bool false, .string ⟨#[]⟩, .int .u64 0, .string ⟨#[]⟩, .string ⟨#[]⟩, .slice none 0 0, .string ⟨#[]⟩, .int .u64 0, .int .u8 0] 30)).heap.size (w.heap.size + 1 + 1) (Re.zero c D) s none 0 W4 ∧ BoxC w w.heap.size [.int .u8 (c.toNat : Int), .int .u8 (k.toNat : Int), .string (ofL body)] W4 := by
  have h1 : BoxC w w.heap.size [.int .u8 (c.toNat : Int), .int .u8 (k.toNat : Int), .string (ofL body)] (w.alloc (.cells #[.int .u8 (c.toNat : Int), .int .u8 (k.toNat : Int), .string (ofL body)] 50)) := BoxC.new (Nat.le_refl _) #[.int .u8 (c.toNat : Int), .int .u8 (k.toNat : Int), .string (ofL body)] 50
  have h2 : BoxC w (w.heap.size + 1) [.int .u8 0, .int .u8 0, .int .u64 0, .int .u64 0, .bool false, .string ⟨#[]⟩, .int .u64 0, .string ⟨#[]⟩, .string ⟨#[]⟩, .slice none 0 0, .string ⟨#[]⟩, .int .u64 0, .int .u8 0] ((w.alloc (.cells #[.int .u8 (c.toNat : Int), .int .u8 (k.toNat : Int), .string (ofL body)] 50)).alloc (.cells #[.int .u8 0, .int .u8 0, .int .u64 0, .int .u64 0, .bool false, .string ⟨#[]⟩, .int .u64 0, .string ⟨#[]⟩, .string ⟨#[]⟩, .slice none 0 0, .string ⟨#[]⟩, .int .u64 0, .int .u8 0] 30)) := by
    have := BoxC.new (w := w) (W := (w.alloc (.cells #[.int .u8 (c.toNat : Int), .int .u8 (k.toNat : Int), .string (ofL body)] 50))) (by simp) #[.int .u8 0, .int .u8 0, .int .u64 0, .int .u64 0, .bool false, .string ⟨#[]⟩, .int .u64 0, .string ⟨#[]⟩, .string ⟨#[]⟩, .slice none 0 0, .string ⟨#[]⟩, .int .u64 0, .int .u8 0] 30
    simpa using this
  have h3 : BoxC w (w.heap.size + 1 + 1) [.int .u8 (c.toNat : Int), .int .u8 (D.toNat : Int), .int .u64 0, .int .u64 0, .bool false, .string ⟨#[]⟩, .int .u64 0, .string ⟨#[]⟩, .string ⟨#[]⟩, .slice none 0 0, .string ⟨#[]⟩, .int .u64 0, .int .u8 0] (((w.alloc (.cells #[.int .u8 (c.toNat : Int), .int .u8 (k.toNat : Int), .string (ofL body)] 50)).alloc (.cells #[.int .u8 0, .int .u8 0, .int .u64 0, .int .u64 0, .bool false, .string ⟨#[]⟩, .int .u64 0, .string ⟨#[]⟩, .string ⟨#[]⟩, .slice none 0 0, .string ⟨#[]⟩, .int .u64 0, .int .u8 0] 30)).alloc (.cells #[.int .u8 (c.toNat : Int), .int .u8 (D.toNat : Int), .int .u64 0, .int .u64 0, .bool false, .string ⟨#[]⟩, .int .u64 0, .string ⟨#[]⟩, .string ⟨#[]⟩, .slice none 0 0, .string ⟨#[]⟩, .int .u64 0, .int .u8 0] 30)) := by
    have := BoxC.new (w := w) (W := ((w.alloc (.cells #[.int .u8 (c.toNat : Int), .int .u8 (k.toNat : Int), .string (ofL body)] 50)).alloc (.cells #[.int .u8 0, .int .u8 0, .int .u64 0, .int .u64 0, .bool false, .string ⟨#[]⟩, .int .u64 0, .string ⟨#[]⟩, .string ⟨#[]⟩, .slice none 0 0, .string ⟨#[]⟩, .int .u64 0, .int .u8 0] 30))) (by simp; omega) #[.int .u8 (c.toNat : Int), .int .u8 (D.toNat : Int), .int .u64 0, .int .u64 0, .bool false, .string ⟨#[]⟩, .int .u64 0, .string ⟨#[]⟩, .string ⟨#[]⟩, .slice none 0 0, .string ⟨#[]⟩, .int .u64 0, .int .u8 0] 30
    simpa using this
  have a1 : Below (w.alloc (.cells #[.int .u8 (c.toNat : Int), .int .u8 (k.toNat : Int), .string (ofL body)] 50)).heap.size (w.alloc (.cells #[.int .u8 (c.toNat : Int), .int .u8 (k.toNat : Int), .string (ofL body)] 50)) ((w.alloc (.cells #[.int .u8 (c.toNat : Int), .int .u8 (k.toNat : Int), .string (ofL body)] 50)).alloc (.cells #[.int .u8 0, .int .u8 0, .int .u64 0, .int .u64 0, .bool false, .string ⟨#[]⟩, .int .u64 0, .string ⟨#[]⟩, .string ⟨#[]⟩, .slice none 0 0, .string ⟨#[]⟩, .int .u64 0, .int .u8 0] 30)) := (Below.refl _ _).alloc (Nat.le_refl _) _
  have a2 : Below ((w.alloc (.cells #[.int .u8 (c.toNat : Int), .int .u8 (k.toNat : Int), .string (ofL body)] 50)).alloc (.cells #[.int .u8 0, .int .u8 0, .int .u64 0, .int .u64 0, .bool false, .string ⟨#[]⟩, .int .u64 0, .string ⟨#[]⟩, .string ⟨#[]⟩, .slice none 0 0, .string ⟨#[]⟩, .int .u64 0, .int .u8 0] 30)).heap.size ((w.alloc (.cells #[.int .u8 (c.toNat : Int), .int .u8 (k.toNat : Int), .string (ofL body)] 50)).alloc (.cells #[.int .u8 0, .int .u8 0, .int .u64 0, .int .u64 0, .bool false, .string ⟨#[]⟩, .int .u64 0, .string ⟨#[]⟩, .string ⟨#[]⟩, .slice none 0 0, .string ⟨#[]⟩, .int .u64 0, .int .u8 0] 30)) (((w.alloc (.cells #[.int .u8 (c.toNat : Int), .int .u8 (k.toNat : Int), .string (ofL body)] 50)).alloc (.cells #[.int .u8 0, .int .u8 0, .int .u64 0, .int .u64 0, .bool false, .string ⟨#[]⟩, .int .u64 0, .string ⟨#[]⟩, .string ⟨#[]⟩, .slice none 0 0, .string ⟨#[]⟩, .int .u64 0, .int .u8 0] 30)).alloc (.cells #[.int .u8 (c.toNat : Int), .int .u8 (D.toNat : Int), .int .u64 0, .int .u64 0, .bool false, .string ⟨#[]⟩, .int .u64 0, .string ⟨#[]⟩, .string ⟨#[]⟩, .slice none 0 0, .string ⟨#[]⟩, .int .u64 0, .int .u8 0] 30)) := (Below.refl _ _).alloc (Nat.le_refl _) _
  have a0 : Below w.heap.size w (w.alloc (.cells #[.int .u8 (c.toNat : Int), .int .u8 (k.toNat : Int), .string (ofL body)] 50)) := (Below.refl _ _).alloc (Nat.le_refl _) _
  exact ⟨⟨hi, h3.on hb, (h2.on a2).on hb, Nat.zero_le _, Prs.nil _ _, (fun a ha => by cases ha), by simp, by omega, bthen (bthen (bthen a0 a1 (Nat.le_refl _)) a2 (Nat.le_refl _)) hb (Nat.le_refl _)⟩, ((h1.on a1).on a2).on hb⟩
set_option maxRecDepth 100000 in
set_option maxHeartbeats 8000000 in
theorem re_Of_any (c k : UInt8) (body : List UInt8) (w : World) (hL : Len w) : Calls Tryz.prog 14 #[.agg #[.int .u8 (c.toNat : Int), .int .u8 (k.toNat : Int), .string (ofL body)]] w (ReOfPost (Re.got c k body) (Re.rcode c k body) w) := by
  have HLL := Lib.hid hL
  have HC : Hid (Re.rcode c k body = if (k.toNat < 64 ∨ 71 < k.toNat) then 8 else Re.tail c (Re.down k) body) := rfl
  have HG : Hid (Re.got c k body = if Re.rcode c k body = 0 then (Re.rd c (Re.down k) body).1 else Re.zero 0 0) := rfl
  have HTL : Hid (Re.tail c (Re.down k) body = if lEnd (Re.rd c (Re.down k) body).2 ≠ 0 then lEnd (Re.rd c (Re.down k) body).2 else ((Re.rd c (Re.down k) body).1.code : Int)) := rfl
  have HRD : Hid (Re.rd c (Re.down k) body = Re.rdl (Re.tells (Re.down k).toNat) (Re.zero c (Re.down k), (body, 0))) := rfl
  clear hL
  by_cases h20 : (k.toNat < 64 ∨ 71 < k.toNat)
  · have HC := Lib.hid (show Re.rcode c k body = 8 by rw [HC.out, if_pos h20])
    have HG := Lib.hid (show Re.got c k body = Re.zero 0 0 by rw [HG.out, HC.out]; exact if_neg (by decide))
    by_cases h64 : k.toNat < 64
    · have hz : decide ((k.toNat : Int) < 64) = true := decide_eq_true (by omega)
      clear h20 h64
      have HB0 := Lib.hid (show Below w.heap.size w ((w.alloc (.cells #[.int .u8 (c.toNat : Int), .int .u8 (k.toNat : Int), .string (ofL body)] 50)).alloc (.cells #[.int .u8 0, .int .u8 0, .int .u64 0, .int .u64 0, .bool false, .string ⟨#[]⟩, .int .u64 0, .string ⟨#[]⟩, .string ⟨#[]⟩, .slice none 0 0, .string ⟨#[]⟩, .int .u64 0, .int .u8 0] 30)) from ((Below.refl _ _).alloc (Nat.le_refl _) _).alloc (by simp) _)
      rw [HC.out, HG.out]
      go_enter Tryz.func14, Tryz.ntmps14
      go_wp2_with fail
      refine bodyPost_ret (v := .tuple #[.agg #[.int .u8 0, .int .u8 0, .int .u64 0, .int .u64 0, .bool false, .string ⟨#[]⟩, .int .u64 0, .string ⟨#[]⟩, .string ⟨#[]⟩, .slice none 0 0, .string ⟨#[]⟩, .int .u64 0, .int .u8 0], .int .i64 8]) (by simp [results, Tryz.results14, go_sem]) rfl ?_
      exact re_zero_post HB0.out
    · have hz : decide ((k.toNat : Int) < 64) = false := decide_eq_false (by omega)
      have hz2 : decide ((71 : Int) < (k.toNat : Int)) = true := decide_eq_true (by omega)
      clear h20 h64
      have HB0 := Lib.hid (show Below w.heap.size w ((w.alloc (.cells #[.int .u8 (c.toNat : Int), .int .u8 (k.toNat : Int), .string (ofL body)] 50)).alloc (.cells #[.int .u8 0, .int .u8 0, .int .u64 0, .int .u64 0, .bool false, .string ⟨#[]⟩, .int .u64 0, .string ⟨#[]⟩, .string ⟨#[]⟩, .slice none 0 0, .string ⟨#[]⟩, .int .u64 0, .int .u8 0] 30)) from ((Below.refl _ _).alloc (Nat.le_refl _) _).alloc (by simp) _)
      rw [HC.out, HG.out]
      go_enter Tryz.func14, Tryz.ntmps14
      go_wp2_with fail
      refine bodyPost_ret (v := .tuple #[.agg #[.int .u8 0, .int .u8 0, .int .u64 0, .int .u64 0, .bool false, .string ⟨#[]⟩, .int .u64 0, .string ⟨#[]⟩, .string ⟨#[]⟩, .slice none 0 0, .string ⟨#[]⟩, .int .u64 0, .int .u8 0], .int .i64 8]) (by simp [results, Tryz.results14, go_sem]) rfl ?_
      exact re_zero_post HB0.out
  · have hz : decide ((k.toNat : Int) < 64) = false := decide_eq_false (by omega)
    have hz2 : decide ((71 : Int) < (k.toNat : Int)) = false := decide_eq_false (by omega)
    have hdn : IntKind.u8.wrap ((k.toNat : Int) - 64) = ((Re.down k).toNat : Int) := by
      unfold Re.down
      rw [UInt8.toNat_sub, show IntKind.u8.wrap ((k.toNat : Int) - 64) = ((k.toNat : Int) - 64) % 256 from rfl]
      show _ = (((2 ^ 8 - 64 + k.toNat) % 256 : Nat) : Int)
      omega
    have HC := Lib.hid (show Re.rcode c k body = Re.tail c (Re.down k) body by rw [HC.out, if_neg h20])
    clear h20
    generalize Re.down k = D at *
    generalize Re.rcode c k body = RC at *
    generalize Re.got c k body = GT at *
    generalize Re.tail c D body = TL at *
    have HT := Lib.hid (fun W => Re_tells_any D.toNat W)
    have hlen := Re.tells_len D.toNat
    have HLT := Lib.hid (Re.tells_lt D.toNat)
    have HST := Lib.hid (fun W4 s hi hb => re_Of_start c k D body w W4 s hi hb)
    generalize Re.tells D.toNat = l at *
    go_enter Tryz.func14, Tryz.ntmps14
    go_wp2_with fail
    refine (inew_l body _).mono ?_
    rintro e w4 ⟨rfl, hi4, b4⟩
    obtain ⟨hS0, hF0⟩ := HST.out w4 _ hi4 b4
    have HS0 := Lib.hid hS0
    have f1 := hF0.cs 1 _ rfl
    have fl := hF0.lt
    have m1 : w4.cell? ⟨w.heap.size + 1 + 1, 1, none⟩ = some (.int .u8 (D.toNat : Int)) := hS0.m.cs 1 _ rfl
    have ml := hS0.m.lt
    clear hS0 hi4 b4 HST hF0
    generalize hbb : (((w.alloc (.cells #[.int .u8 (c.toNat : Int), .int .u8 (k.toNat : Int), .string (ofL body)] 50)).alloc (.cells #[.int .u8 0, .int .u8 0, .int .u64 0, .int .u64 0, .bool false, .string ⟨#[]⟩, .int .u64 0, .string ⟨#[]⟩, .string ⟨#[]⟩, .slice none 0 0, .string ⟨#[]⟩, .int .u64 0, .int .u8 0] 30)).alloc (.cells #[.int .u8 (c.toNat : Int), .int .u8 (D.toNat : Int), .int .u64 0, .int .u64 0, .bool false, .string ⟨#[]⟩, .int .u64 0, .string ⟨#[]⟩, .string ⟨#[]⟩, .slice none 0 0, .string ⟨#[]⟩, .int .u64 0, .int .u8 0] 30)).heap.size = b at *
    clear hbb
    generalize w.heap.size + 1 + 1 = g at *
    go_wp2_with fail
    refine (HT.out _).mono ?_
    rintro e w5 ⟨T, tc, rfl, hp5, b5, hTn⟩
    have HS5 := Lib.hid (HS0.out.on (rdr_in b) b5)
    have HTG := Lib.hid (show ∀ a, T = some a → g ≠ a.block ∧ b ≠ a.block from fun a ha => by have := hTn a ha; have := HS0.out.m.lt; have := HS0.out.ri.lt; omega)
    have HP5 := Lib.hid hp5
    clear hp5 b5 hTn HS0 HT f1 fl m1 ml
    obtain ⟨n, hn⟩ : ∃ n, n = l.length := ⟨_, rfl⟩
    have HN := Lib.hid hn
    rw [← hn] at hlen ⊢
    clear hn
    go_wp2_with fail
    go_loopg [32] n (fun gk i wr => ∃ (k2 : Nat) (A : Option Addr) (cq : Nat), k2 + gk = n ∧ i = .int .i64 (k2 : Int) ∧ ReOf w (InL b) b g (Re.rdl (l.take k2) (Re.zero c D, (body, 0))).1 (Re.rdl (l.take k2) (Re.zero c D, (body, 0))).2 A cq wr ∧ Parts wr T l)
    case atStart => exact ⟨0, none, 0, by omega, rfl, HS5.out, HP5.out⟩
    case round =>
      obtain ⟨k2, A, cq, hk, rfl, hS, hP⟩ := hrel
      have hok := Re.rdl_ok (l.take k2) (Re.zero c D, (body, 0)) (lOk_new body)
      have HLOW := Lib.hid (re_rdl_low (l.take k2) (Re.zero c D, (body, 0)) (re_zero_low c D))
      clear HS5 HP5
      by_cases hlt : k2 < n
      · have hkl : k2 < l.length := by have := HN.out; omega
        have HNX := Lib.hid (re_rdl_next (l := l) (t := (Re.zero c D, (body, 0))) hkl)
        obtain ⟨bT, rfl, hbl, hat⟩ := hP.at_ hkl
        have hp8 : l.getD k2 0 < 8 := HLT.out _ (by rw [List.getD_eq_getElem?_getD, List.getElem?_eq_getElem hkl]; exact List.getElem_mem hkl)
        generalize Re.rdl (l.take k2) (Re.zero c D, (body, 0)) = t at *
        obtain ⟨y, s⟩ := t
        dsimp only at hS hok HLOW HNX
        have HS := Lib.hid hS
        have HP := Lib.hid hP
        have HRC := Lib.hid (re_read_any b (l.getD k2 0) hp8 y A cq s wr hS.ri hok hS.hc hS.hp (fun a ha => (hS.hA a ha).1))
        unfold ReRdPost at HRC
        obtain ⟨t2, ht2⟩ : ∃ t2, Re.rdl (l.take (k2 + 1)) (Re.zero c D, (body, 0)) = t2 := ⟨_, rfl⟩
        have HT2 := Lib.hid ht2
        rw [← HNX.out, ht2] at HRC
        clear ht2
        obtain ⟨y2, s2⟩ := t2
        dsimp only at HRC
        generalize l.getD k2 0 = p at *
        have c0 := hS.m.cs 0 _ rfl
        have c1 := hS.m.cs 1 _ rfl
        have c2 := hS.m.cs 2 _ rfl
        have c3 := hS.m.cs 3 _ rfl
        have c4 := hS.m.cs 4 _ rfl
        have c5 := hS.m.cs 5 _ rfl
        have c6 := hS.m.cs 6 _ rfl
        have c7 := hS.m.cs 7 _ rfl
        have c8 := hS.m.cs 8 _ rfl
        have c9 := hS.m.cs 9 _ rfl
        have c10 := hS.m.cs 10 _ rfl
        have c11 := hS.m.cs 11 _ rfl
        have c12 := hS.m.cs 12 _ rfl
        have cl := hS.m.lt
        clear hS hkl hP hok hp8 HNX
        simp only [reV] at HRC
        go_wp2_with fail
        refine HRC.out.mono ?_
        rintro e w6 ⟨A', c', rfl, hc6, hp6, hi6, hg6, hA6⟩
        have hNX := HS.out.step (rdr_in b) hi6 hg6 hc6 hp6 hA6
        have HPN := Lib.hid (Parts.putAll (fun a ha => (HTG.out a ha).1) (reL y2 A' c') 0 (HP.out.grown hg6 (fun a ha => by have := (HTG.out a ha).2; intro e; exact this (Option.some.inj e).symm)))
        obtain ⟨hM, hO⟩ := hNX
        obtain ⟨W', hW'⟩ : ∃ W', W' = putAll g 0 (reL y2 A' c') w6 := ⟨_, rfl⟩
        rw [← hW'] at hO HPN
        simp only [putAll, reL] at hW'
        have HW' := Lib.hid hW'
        have HNX := Lib.hid hO
        clear hW'
        clear hc6 hp6 hi6 hg6 hA6 hO c0 c1 c2 c3 c4 c5 c6 c7 c8 c9 c10 c11 c12 cl HRC
        have c0 := hM.cs 0 _ rfl
        have c1 := hM.cs 1 _ rfl
        have c2 := hM.cs 2 _ rfl
        have c3 := hM.cs 3 _ rfl
        have c4 := hM.cs 4 _ rfl
        have c5 := hM.cs 5 _ rfl
        have c6 := hM.cs 6 _ rfl
        have c7 := hM.cs 7 _ rfl
        have c8 := hM.cs 8 _ rfl
        have c9 := hM.cs 9 _ rfl
        have c10 := hM.cs 10 _ rfl
        have c11 := hM.cs 11 _ rfl
        have c12 := hM.cs 12 _ rfl
        have cl := hM.lt
        have cf : ∀ j, w6.frozen? ⟨g, j, none⟩ = false := hM.s
        clear hM
        go_wp2_with fail
        go_roundg (gk - 1)
        case rel => exact ⟨k2 + 1, A', c', by omega, by go_num, by rw [HT2.out, ← HW'.out]; exact HNX.out, by rw [← HW'.out]; exact HPN.out⟩
        case measure => omega
      · have hE := re_rdl_all (l := l) (t := (Re.zero c D, (body, 0))) (k := k2) (by have := HN.out; omega)
        rw [hE, ← HRD.out] at hS HLOW
        clear hE hok hP HLT
        generalize Re.rd c D body = t at *
        obtain ⟨y, s⟩ := t
        dsimp only at hS HLOW HTL HG
        have HS := Lib.hid hS
        have HEN := Lib.hid (fun W h => iend_l b s W h)
        have HCK := Lib.hid (fun W h1 h2 => re_Check_any y A cq W h1 h2)
        simp only [reV] at HCK
        have HRI := Lib.hid hS.ri
        have c0 := hS.m.cs 0 _ rfl
        have c1 := hS.m.cs 1 _ rfl
        have c2 := hS.m.cs 2 _ rfl
        have c3 := hS.m.cs 3 _ rfl
        have c4 := hS.m.cs 4 _ rfl
        have c5 := hS.m.cs 5 _ rfl
        have c6 := hS.m.cs 6 _ rfl
        have c7 := hS.m.cs 7 _ rfl
        have c8 := hS.m.cs 8 _ rfl
        have c9 := hS.m.cs 9 _ rfl
        have c10 := hS.m.cs 10 _ rfl
        have c11 := hS.m.cs 11 _ rfl
        have c12 := hS.m.cs 12 _ rfl
        have cl := hS.m.lt
        have z0 := hS.q.cs 0 _ rfl
        have z1 := hS.q.cs 1 _ rfl
        have z2 := hS.q.cs 2 _ rfl
        have z3 := hS.q.cs 3 _ rfl
        have z4 := hS.q.cs 4 _ rfl
        have z5 := hS.q.cs 5 _ rfl
        have z6 := hS.q.cs 6 _ rfl
        have z7 := hS.q.cs 7 _ rfl
        have z8 := hS.q.cs 8 _ rfl
        have z9 := hS.q.cs 9 _ rfl
        have z10 := hS.q.cs 10 _ rfl
        have z11 := hS.q.cs 11 _ rfl
        have z12 := hS.q.cs 12 _ rfl
        have zf : ∀ j, wr.frozen? ⟨w.heap.size + 1, j, none⟩ = false := hS.q.s
        have zl := hS.q.lt
        clear hS
        by_cases he : lEnd s = 0
        · have hTL := HTL.out
          rw [if_neg (by rw [he]; decide)] at hTL
          have HTL := Lib.hid hTL
          rw [he] at HEN
          have HOK := Lib.hid (HLOW.out.ok HS.out.hc HS.out.hp)
          have HLW := Lib.hid (HLL.out.on HS.out.B)
          clear he hTL
          by_cases h0 : y.code = 0
          · have HRC0 := Lib.hid (show RC = 0 by rw [HC.out, HTL.out, h0]; rfl)
            have HGT := Lib.hid (show GT = y by rw [HG.out, if_pos HRC0.out])
            rw [h0] at HCK
            clear h0 HG HC HTL
            go_wp2_with fail
            refine (HEN.out _ HRI.out).mono ?_
            rintro e w6 ⟨rfl, rfl⟩
            go_wp2_with fail
            refine (HCK.out _ HOK.out HLW.out).mono ?_
            rintro e w7 ⟨rfl, b7⟩
            have hS7 := HS.out.on (rdr_in b) b7
            have HS7 := Lib.hid hS7
            clear c0 c1 c2 c3 c4 c5 c6 c7 c8 c9 c10 c11 c12 cl z0 z1 z2 z3 z4 z5 z6 z7 z8 z9 z10 z11 z12 zf zl b7
            have c0 := hS7.m.cs 0 _ rfl
            have c1 := hS7.m.cs 1 _ rfl
            have c2 := hS7.m.cs 2 _ rfl
            have c3 := hS7.m.cs 3 _ rfl
            have c4 := hS7.m.cs 4 _ rfl
            have c5 := hS7.m.cs 5 _ rfl
            have c6 := hS7.m.cs 6 _ rfl
            have c7 := hS7.m.cs 7 _ rfl
            have c8 := hS7.m.cs 8 _ rfl
            have c9 := hS7.m.cs 9 _ rfl
            have c10 := hS7.m.cs 10 _ rfl
            have c11 := hS7.m.cs 11 _ rfl
            have c12 := hS7.m.cs 12 _ rfl
            have cl := hS7.m.lt
            have z0 := hS7.q.cs 0 _ rfl
            have z1 := hS7.q.cs 1 _ rfl
            have z2 := hS7.q.cs 2 _ rfl
            have z3 := hS7.q.cs 3 _ rfl
            have z4 := hS7.q.cs 4 _ rfl
            have z5 := hS7.q.cs 5 _ rfl
            have z6 := hS7.q.cs 6 _ rfl
            have z7 := hS7.q.cs 7 _ rfl
            have z8 := hS7.q.cs 8 _ rfl
            have z9 := hS7.q.cs 9 _ rfl
            have z10 := hS7.q.cs 10 _ rfl
            have z11 := hS7.q.cs 11 _ rfl
            have z12 := hS7.q.cs 12 _ rfl
            have zf : ∀ j, w7.frozen? ⟨w.heap.size + 1, j, none⟩ = false := hS7.q.s
            have zl := hS7.q.lt
            clear hS7
            go_wp2_with fail
            have hF := HS7.out.q.fill (reL y A cq) rfl
            have hBF := below_putAll HS7.out.q.ge (reL y A cq) 0 HS7.out.B
            have hPF := Prs.putAll (g := w.heap.size + 1) (fun a ha => fun e => (HS7.out.hA a ha).2.2.1 e.symm) (reL y A cq) 0 HS7.out.hp
            simp only [putAll, reL] at hF hBF hPF
            have g0 := hF.cs 0 _ rfl
            have g1 := hF.cs 1 _ rfl
            have g2 := hF.cs 2 _ rfl
            have g3 := hF.cs 3 _ rfl
            have g4 := hF.cs 4 _ rfl
            have g5 := hF.cs 5 _ rfl
            have g6 := hF.cs 6 _ rfl
            have g7 := hF.cs 7 _ rfl
            have g8 := hF.cs 8 _ rfl
            have g9 := hF.cs 9 _ rfl
            have g10 := hF.cs 10 _ rfl
            have g11 := hF.cs 11 _ rfl
            have g12 := hF.cs 12 _ rfl
            refine bodyPost_ret (v := .tuple #[reV y A cq, .int .i64 0]) (by simp [results, Tryz.results14, reV, go_sem, g0, g1, g2, g3, g4, g5, g6, g7, g8, g9, g10, g11, g12]) rfl ?_
            rw [HRC0.out, HGT.out]
            exact ⟨A, cq, rfl, HS7.out.hc, hPF, hBF, fun a ha => (HS7.out.hA a ha).2.2.2⟩
          · have HRC0 := Lib.hid (show RC = (y.code : Int) by rw [HC.out, HTL.out])
            have HGT := Lib.hid (show GT = Re.zero 0 0 by rw [HG.out, if_neg (by rw [HRC0.out]; omega)])
            have hk0 := code_ne h0
            generalize y.code = C at *
            clear h0 HG HC HTL
            go_wp2_with fail
            refine (HEN.out _ HRI.out).mono ?_
            rintro e w6 ⟨rfl, rfl⟩
            go_wp2_with fail
            refine (HCK.out _ HOK.out HLW.out).mono ?_
            rintro e w7 ⟨rfl, b7⟩
            have hS7 := HS.out.on (rdr_in b) b7
            have HS7 := Lib.hid hS7
            clear c0 c1 c2 c3 c4 c5 c6 c7 c8 c9 c10 c11 c12 cl z0 z1 z2 z3 z4 z5 z6 z7 z8 z9 z10 z11 z12 zf zl b7
            have z0 := hS7.q.cs 0 _ rfl
            have z1 := hS7.q.cs 1 _ rfl
            have z2 := hS7.q.cs 2 _ rfl
            have z3 := hS7.q.cs 3 _ rfl
            have z4 := hS7.q.cs 4 _ rfl
            have z5 := hS7.q.cs 5 _ rfl
            have z6 := hS7.q.cs 6 _ rfl
            have z7 := hS7.q.cs 7 _ rfl
            have z8 := hS7.q.cs 8 _ rfl
            have z9 := hS7.q.cs 9 _ rfl
            have z10 := hS7.q.cs 10 _ rfl
            have z11 := hS7.q.cs 11 _ rfl
            have z12 := hS7.q.cs 12 _ rfl
            have zf : ∀ j, w7.frozen? ⟨w.heap.size + 1, j, none⟩ = false := hS7.q.s
            have zl := hS7.q.lt
            clear hS7
            go_wp2_with fail
            have hF := (HS7.out.q).fill [.int .u8 0, .int .u8 0, .int .u64 0, .int .u64 0, .bool false, .string ⟨#[]⟩, .int .u64 0, .string ⟨#[]⟩, .string ⟨#[]⟩, .slice none 0 0, .string ⟨#[]⟩, .int .u64 0, .int .u8 0] rfl
            have hBF := below_putAll (HS7.out.q).ge [.int .u8 0, .int .u8 0, .int .u64 0, .int .u64 0, .bool false, .string ⟨#[]⟩, .int .u64 0, .string ⟨#[]⟩, .string ⟨#[]⟩, .slice none 0 0, .string ⟨#[]⟩, .int .u64 0, .int .u8 0] 0 (HS7.out.B)
            simp only [putAll] at hF hBF
            have g0 := hF.cs 0 _ rfl
            have g1 := hF.cs 1 _ rfl
            have g2 := hF.cs 2 _ rfl
            have g3 := hF.cs 3 _ rfl
            have g4 := hF.cs 4 _ rfl
            have g5 := hF.cs 5 _ rfl
            have g6 := hF.cs 6 _ rfl
            have g7 := hF.cs 7 _ rfl
            have g8 := hF.cs 8 _ rfl
            have g9 := hF.cs 9 _ rfl
            have g10 := hF.cs 10 _ rfl
            have g11 := hF.cs 11 _ rfl
            have g12 := hF.cs 12 _ rfl
            refine bodyPost_ret (v := .tuple #[.agg #[.int .u8 0, .int .u8 0, .int .u64 0, .int .u64 0, .bool false, .string ⟨#[]⟩, .int .u64 0, .string ⟨#[]⟩, .string ⟨#[]⟩, .slice none 0 0, .string ⟨#[]⟩, .int .u64 0, .int .u8 0], .int .i64 (C : Int)]) (by simp [results, Tryz.results14, go_sem, g0, g1, g2, g3, g4, g5, g6, g7, g8, g9, g10, g11, g12]) rfl ?_
            rw [HRC0.out, HGT.out]
            exact re_zero_post hBF
        · have hTL := HTL.out
          rw [if_pos he] at hTL
          have HRC0 := Lib.hid (show RC = lEnd s by rw [HC.out, hTL])
          have HGT := Lib.hid (show GT = Re.zero 0 0 by rw [HG.out, if_neg (by rw [HRC0.out]; exact he)])
          have hk0 : (lEnd s != 0) = true := by rw [bne_iff_ne]; exact he
          generalize lEnd s = C at *
          clear he HG HC HTL hTL c0 c1 c2 c3 c4 c5 c6 c7 c8 c9 c10 c11 c12 cl
          go_wp2_with fail
          refine (HEN.out _ HRI.out).mono ?_
          rintro e w6 ⟨rfl, rfl⟩
          go_wp2_with fail
          have hF := (HS.out.q).fill [.int .u8 0, .int .u8 0, .int .u64 0, .int .u64 0, .bool false, .string ⟨#[]⟩, .int .u64 0, .string ⟨#[]⟩, .string ⟨#[]⟩, .slice none 0 0, .string ⟨#[]⟩, .int .u64 0, .int .u8 0] rfl
          have hBF := below_putAll (HS.out.q).ge [.int .u8 0, .int .u8 0, .int .u64 0, .int .u64 0, .bool false, .string ⟨#[]⟩, .int .u64 0, .string ⟨#[]⟩, .string ⟨#[]⟩, .slice none 0 0, .string ⟨#[]⟩, .int .u64 0, .int .u8 0] 0 (HS.out.B)
          simp only [putAll] at hF hBF
          have g0 := hF.cs 0 _ rfl
          have g1 := hF.cs 1 _ rfl
          have g2 := hF.cs 2 _ rfl
          have g3 := hF.cs 3 _ rfl
          have g4 := hF.cs 4 _ rfl
          have g5 := hF.cs 5 _ rfl
          have g6 := hF.cs 6 _ rfl
          have g7 := hF.cs 7 _ rfl
          have g8 := hF.cs 8 _ rfl
          have g9 := hF.cs 9 _ rfl
          have g10 := hF.cs 10 _ rfl
          have g11 := hF.cs 11 _ rfl
          have g12 := hF.cs 12 _ rfl
          refine bodyPost_ret (v := .tuple #[.agg #[.int .u8 0, .int .u8 0, .int .u64 0, .int .u64 0, .bool false, .string ⟨#[]⟩, .int .u64 0, .string ⟨#[]⟩, .string ⟨#[]⟩, .slice none 0 0, .string ⟨#[]⟩, .int .u64 0, .int .u8 0], .int .i64 C]) (by simp [results, Tryz.results14, go_sem, g0, g1, g2, g3, g4, g5, g6, g7, g8, g9, g10, g11, g12]) rfl ?_
          rw [HRC0.out, HGT.out]
          exact re_zero_post hBF
end Go.Proofs.YtnjlhafhgfpfiaaGreatDoor
end
