/-
  TO WHICH QUEUES AND PLACES, the document's: walked. What is done to the program's book and the document's: boxes, and what holds. ACTS THAT COME IN; which of them are gone through: walked. WHICH DEEDS ARE GONE THROUGH: walked. ROWS OF DEEDS THAT COME IN: whether they are gone through; what is added in parts (plain): walked.
-/
import Derived.Test.YtecjngodfciokaaGreatDoorDl21
import Derived.Test.YtecjngodfciokaaGreatDoorDl32
import Derived.Test.YtecjngodfciokaaGreatDoorDl33
import Derived.Test.YtecjngodfciokaaGreatDoorDl35
import Derived.Test.YtecjngodfciokaaGreatDoorDl36

section
namespace Go.Proofs.YtecjngodfciokaaGreatDoor
open Go.ChangeShapes Go.WideShapes Go.ChangeAt Go.RowKit
/-- the two rows of names, so far -/
structure Lq (s : Sh) (key : List UInt8) (h : List Hd.Pr) (l : List Bd) (w2 : World) (k : Nat) (A : Option Addr) (c : Nat) (B : Option Addr) (d : Nat) (ql pl : List (List UInt8)) (wr : World) : Prop where
  eq : ql = Bk.lead s false key h (l.take k)
  ep : pl = Bk.lead s true key h (l.take k)
  oq : wr.ownsRow w2.heap.size 9 1 (.slice A ql.length c) ql.length (sts ql)
  op : wr.ownsRow w2.heap.size 9 1 (.slice B pl.length d) pl.length (sts pl)
  ne : (Value.slice A ql.length c).ownBlock = none ∨ (Value.slice A ql.length c).ownBlock ≠ (Value.slice B pl.length d).ownBlock
  B : Below w2.heap.size w2 wr
theorem Lq.on {s : Sh} {key : List UInt8} {h : List Hd.Pr} {l : List Bd} {w2 : World} {k : Nat} {A : Option Addr} {c : Nat} {B : Option Addr} {d : Nat} {ql pl : List (List UInt8)} {wr W : World} (H : Lq s key h l w2 k A c B d ql pl wr) (hb : Below wr.heap.size wr W) : Lq s key h l w2 k A c B d ql pl W :=
  ⟨H.eq, H.ep, Rw.own_on H.oq hb, Rw.own_on H.op hb, H.ne, bthen H.B hb (Nat.le_refl _)⟩
end Go.Proofs.YtecjngodfciokaaGreatDoor
end
section
namespace Go.Proofs.YtecjngodfciokaaGreatDoor
open Go.ChangeShapes Go.WideShapes Go.ChangeAt Go.RowKit
namespace Bk
/-- what an act does -/
def act (k : Nat) (s : Sh) (x : Bd) (b : Bk) : Bk × Nat := if k % 5 = 0 then b.make s else if k % 5 = 1 then b.drop s.name else if k % 5 = 2 then b.bind x else if k % 5 = 3 then b.unbind x else (b.forget x.to, 0)
theorem Ok.act {b : Bk} (h : Ok b) (k : Nat) (s : Sh) (x : Bd) : Ok (b.act k s x).1 := by
  unfold Bk.act
  split
  · exact h.make s
  · split
    · exact h.drop _
    · split
      · exact h.bind x
      · split
        · exact h.unbind x
        · exact h.forget _
end Bk
def actL (k : Nat) (s : Sh) (x : Bd) (Ax : Option Addr) (cx : Nat) : List Value := [.int .u8 (k : Int), .string (ofL s.name), .int .u8 (s.sort : Int), .string (ofL s.to), .string (ofL x.shop), .string (ofL x.to), .bool x.up, .string (ofL x.key), .slice Ax x.want.length cx, .bool x.all]
/-- five boxes of one's own, and that nothing older has changed -/
structure Dn (w : World) (X Y V : List Value) (W : World) : Prop where
  bx : BoxC w w.heap.size X W
  bs : BoxC w (w.heap.size + 1) Y W
  ba : BoxC w (w.heap.size + 2) V W
  r1 : BoxC w (w.heap.size + 3) [.slice none 0 0, .slice none 0 0] W
  r2 : BoxC w (w.heap.size + 4) [.slice none 0 0, .slice none 0 0] W
  B : Below w.heap.size w W
  n : w.heap.size + 5 ≤ W.heap.size
theorem Dn.on {w W W' : World} {X Y V : List Value} (h : Dn w X Y V W) (hb : Below W.heap.size W W') : Dn w X Y V W' := ⟨h.bx.on hb, h.bs.on hb, h.ba.on hb, h.r1.on hb, h.r2.on hb, bthen h.B hb (Nat.le_refl _), Nat.le_trans h.n hb.size⟩
theorem dnAt (w : World) (o o' o'' : Obj) (c : Array Value) (t : TypeId) : BoxC w (w.heap.size + 3) c.toList ((((w.alloc o).alloc o').alloc o'').alloc (.cells c t)) := by
  have := BoxC.new (w := w) (W := ((w.alloc o).alloc o').alloc o'') (by simp; omega) c t
  rwa [show (((w.alloc o).alloc o').alloc o'').heap.size = w.heap.size + 3 by simp] at this
theorem dnAt4 (w : World) (o o' o'' o3 : Obj) (c : Array Value) (t : TypeId) : BoxC w (w.heap.size + 4) c.toList (((((w.alloc o).alloc o').alloc o'').alloc o3).alloc (.cells c t)) := by
  have := BoxC.new (w := w) (W := (((w.alloc o).alloc o').alloc o'').alloc o3) (by simp; omega) c t
  rwa [show ((((w.alloc o).alloc o').alloc o'').alloc o3).heap.size = w.heap.size + 4 by simp] at this
theorem Dn.new (w : World) (X Y V : Array Value) (t t' t'' t3 t4 : TypeId) : Dn w X.toList Y.toList V.toList (((((w.alloc (.cells X t)).alloc (.cells Y t')).alloc (.cells V t'')).alloc (.cells #[.slice none 0 0, .slice none 0 0] t3)).alloc (.cells #[.slice none 0 0, .slice none 0 0] t4)) :=
  ⟨rtNext (rtNext (rtNext (rtNext (rtAt0 w X t) _) _) _) _, rtNext (rtNext (rtNext (rtAt1 w _ Y t') _) _) _, rtNext (rtNext (rtAt2 w _ _ V t'') _) _, rtNext (dnAt w _ _ _ #[.slice none 0 0, .slice none 0 0] t3) _, dnAt4 w _ _ _ _ #[.slice none 0 0, .slice none 0 0] t4, ((rtThree w _ _ _).alloc (by simp; omega) _).alloc (by simp; omega) _, by simp⟩
/-- a book elsewhere than in the boxes -/
structure BkD (U : Nat → Prop) (w : World) (W : World) (A : Option Addr) (c : Nat) (B : Option Addr) (d : Nat) (b : Bk) (ps : List Bp) : Prop where
  at_ : BkAt W A c B d b ps
  u : BkU (fun g => (U g ∧ g < w.heap.size) ∨ w.heap.size + 5 ≤ g) W A B ps
theorem BkD.on {U : Nat → Prop} {w W W' : World} {A : Option Addr} {c : Nat} {B : Option Addr} {d : Nat} {b : Bk} {ps : List Bp} (h : BkD U w W A c B d b ps) (hb : Below W.heap.size W W') : BkD U w W' A c B d b ps := ⟨h.at_.on hb, h.u.on hb.size⟩
theorem BkD.put {U : Nat → Prop} {w W : World} {A : Option Addr} {c : Nat} {B : Option Addr} {d : Nat} {b : Bk} {ps : List Bp} (h : BkD U w W A c B d b ps) {g : Nat} (h1 : w.heap.size ≤ g) (h2 : g < w.heap.size + 5) (j : Nat) (v : Value) : BkD U w (W.setCell ⟨g, j, none⟩ v) A c B d b ps :=
  ⟨h.at_.put h.u (by rintro (⟨-, h⟩ | h) <;> omega) j v, h.u.put g j v⟩
theorem BkD.of {U : Nat → Prop} {w W w1 : World} {A : Option Addr} {c : Nat} {B : Option Addr} {d : Nat} {b : Bk} {ps : List Bp} (h1 : BkAt W A c B d b ps) (h2 : BkU (fun g => ((U g ∧ g < w.heap.size) ∨ w.heap.size + 5 ≤ g) ∨ w1.heap.size ≤ g) W A B ps) (hw : w.heap.size + 5 ≤ w1.heap.size) : BkD U w W A c B d b ps :=
  ⟨h1, h2.mono (fun g h => by rcases h with h | h; exact h; exact .inr (by omega))⟩
end Go.Proofs.YtecjngodfciokaaGreatDoor
end
section
namespace Go.Proofs.YtecjngodfciokaaGreatDoor
open Go.ChangeShapes Go.WideShapes Go.ChangeAt Go.RowKit
structure RaP where
  k : Nat
  s : Sh
  x : Bd
  A : Option Addr
  c : Nat
def raL (p : RaP) : List Value := actL p.k p.s p.x p.A p.c
/-- an act that came in -/
structure RaIn (w : World) (p : RaP) : Prop where
  row : Prs w p.A p.x.want
  cap : p.x.want.length ≤ p.c
  big : p.x.want.length ≤ 9223372036854775807
  s : p.s.sort < 256
  k : p.k < 256
theorem RaIn.on {w w' : World} {p : RaP} (h : RaIn w p) (hb : Below w.heap.size w w') : RaIn w' p := ⟨h.row.on hb, h.cap, h.big, h.s, h.k⟩
structure Ras (w : World) (A : Option Addr) (l : List RaP) : Prop where
  row : Rws w A (l.flatMap raL)
  h : ∀ p ∈ l, RaIn w p
theorem Ras.on {w w' : World} {A : Option Addr} {l : List RaP} (h : Ras w A l) (hb : Below w.heap.size w w') : Ras w' A l := ⟨Rws.on h.row hb, fun p hp => (h.h p hp).on hb⟩
structure RaFew (p : RaP) : Prop where
  s1 : p.s.name.length ≤ 40
  s2 : p.s.to.length ≤ 40
  b1 : p.x.shop.length ≤ 40
  b2 : p.x.to.length ≤ 40
  key : p.x.key.length ≤ 100
  want : lightB p.x.want = true
theorem RaFew.ok {w : World} {p : RaP} (h : RaFew p) (hi : RaIn w p) : BdOk w p.x p.A p.c := by
  obtain ⟨h1, h2, -⟩ := light_lite h.want
  exact ⟨by have := h.b1; omega, by have := h.b2; omega, by have := h.key; omega, by omega, hi.cap, h2, hi.row⟩
end Go.Proofs.YtecjngodfciokaaGreatDoor
end
section
namespace Go.Proofs.YtecjngodfciokaaGreatDoor
open Go.ChangeShapes Go.WideShapes Go.ChangeAt Go.RowKit
theorem max7_run {P : Program} (w : World) (ts : Array TypeId) (t : TypeId) (a b c d e f g : Int) : (Builtin.max_ ts t #[.int .i64 a, .int .i64 b, .int .i64 c, .int .i64 d, .int .i64 e, .int .i64 f, .int .i64 g]).run P w = .ok (.int .i64 (max (max (max (max (max (max a b) c) d) e) f) g)) w := by
  have h : ∀ x y : Int, (if y > x then y else x) = max x y := fun x y => by
    rw [Int.max_def]
    split <;> split <;> omega
  simp [Builtin.max_, Builtin.max2, h]
theorem max2_run {P : Program} (w : World) (ts : Array TypeId) (t : TypeId) (a b : Int) : (Builtin.max_ ts t #[.int .i64 a, .int .i64 b]).run P w = .ok (.int .i64 (max a b)) w := by
  have h : ∀ x y : Int, (if y > x then y else x) = max x y := fun x y => by
    rw [Int.max_def]
    split <;> split <;> omega
  simp [Builtin.max_, Builtin.max2, h]
def mx7 (x : De) : Nat := max (max (max (max (max (max x.shop.name.length x.shop.to.length) x.q.name.length) x.q.dead.length) x.bind.shop.length) x.bind.to.length) x.name.length
def deLight (x : De) : Bool := decide (mx7 x ≤ 40) && (decide (max x.bind.key.length x.text.length ≤ 100) && (lightB x.bind.want && maLight x.mail))
theorem de_light_ok {x : De} (h : deLight x = true) : mx7 x ≤ 40 ∧ max x.bind.key.length x.text.length ≤ 100 ∧ lightB x.bind.want = true ∧ maLight x.mail = true := by
  unfold deLight at h
  simpa only [Bool.and_eq_true, decide_eq_true_eq] using h
/-- one that came in -/
structure DeIn (w : World) (x : De) (A : Option Addr) (c : Nat) (B : Option Addr) (d : Nat) : Prop where
  ra : Prs w A x.bind.want
  ca : x.bind.want.length ≤ c
  ba : x.bind.want.length ≤ 9223372036854775807
  rb : Prs w B x.mail.head
  cb : x.mail.head.length ≤ d
  bb : x.mail.head.length ≤ 9223372036854775807
  fits : De.Fits x
theorem DeIn.on {w w' : World} {x : De} {A : Option Addr} {c : Nat} {B : Option Addr} {d : Nat} (h : DeIn w x A c B d) (hb : Below w.heap.size w w') : DeIn w' x A c B d := ⟨h.ra.on hb, h.ca, h.ba, h.rb.on hb, h.cb, h.bb, h.fits⟩
theorem de_light_Ok {w : World} {x : De} {A : Option Addr} {c : Nat} {B : Option Addr} {d : Nat} (h : deLight x = true) (hi : DeIn w x A c B d) : DeOk w x A c B d := by
  obtain ⟨h1, h2, h3, h4⟩ := de_light_ok h
  obtain ⟨g1, g2, -⟩ := light_lite h3
  unfold mx7 at h1
  exact ⟨by omega, by omega, by omega, by omega, ⟨by omega, by omega, by omega, by omega, hi.ca, g2, hi.ra⟩, by omega, ml_light_Ok h4 hi.cb hi.rb, by omega⟩
set_option maxRecDepth 100000 in
set_option maxHeartbeats 8000000 in
theorem ddLight_any (x : De) (A : Option Addr) (c : Nat) (B : Option Addr) (d : Nat) (w : World) (h : DeIn w x A c B d) :
    Calls Tryz.prog 26 #[deV x A c B d] w fun e w' => e = .returned (.bool (deLight x)) ∧ Below w.heap.size w w' := by
  have HB1 := Lib.hid (rtOne w (.cells #[.int .u8 (x.kd : Int), .int .u64 (x.tick : Int), .string (ofL x.shop.name), .int .u8 (x.shop.sort : Int), .string (ofL x.shop.to), .string (ofL x.q.name), .int .u64 (x.q.most : Int), .int .u64 (x.q.life : Int), .string (ofL x.q.dead), .string (ofL x.bind.shop), .string (ofL x.bind.to), .bool x.bind.up, .string (ofL x.bind.key), .slice A x.bind.want.length c, .bool x.bind.all, .string (ofL x.name), .int .u64 (x.id : Int), .int .u8 (x.how : Int), .int .u8 (x.frm : Int), .int .u8 (x.cd : Int), .int .u64 (x.num : Int), .int .u64 (x.mail.id : Int), .string (ofL x.mail.shop), .string (ofL x.mail.key), .slice B x.mail.head.length d, .string (ofL x.mail.body), .int .u64 (x.mail.due : Int), .int .u8 (x.mail.hops : Int), .string (ofL x.text)] 39))
  have HX1 := Lib.hid (DeX.start w x A c B d h.ra h.rb 39)
  have HL1 := Lib.hid (fun W g => light9_any x.bind.want A c W h.ba g)
  have HL2 := Lib.hid (fun W g => ml_light_any x.mail B d W h.bb g)
  have HD : Hid (deLight x = (decide (mx7 x ≤ 40) && (decide (max x.bind.key.length x.text.length ≤ 100) && (lightB x.bind.want && maLight x.mail)))) := rfl
  obtain ⟨M, hM⟩ : ∃ M : Nat, M = mx7 x := ⟨_, rfl⟩
  obtain ⟨K, hK⟩ : ∃ K : Nat, K = max x.bind.key.length x.text.length := ⟨_, rfl⟩
  rw [← hM, ← hK] at HD
  have hm7 : ∀ (W : World) (ts : Array TypeId) (t : TypeId), (Builtin.max_ ts t #[.int .i64 (x.shop.name.length : Int), .int .i64 (x.shop.to.length : Int), .int .i64 (x.q.name.length : Int), .int .i64 (x.q.dead.length : Int), .int .i64 (x.bind.shop.length : Int), .int .i64 (x.bind.to.length : Int), .int .i64 (x.name.length : Int)]).run Tryz.prog W = .ok (.int .i64 (M : Int)) W := fun W ts t => by
    rw [max7_run, show max (max (max (max (max (max ((x.shop.name.length : Int)) (x.shop.to.length : Int)) (x.q.name.length : Int)) (x.q.dead.length : Int)) (x.bind.shop.length : Int)) (x.bind.to.length : Int)) (x.name.length : Int) = (M : Int) by unfold mx7 at hM; omega]
  have hm2 : ∀ (W : World) (ts : Array TypeId) (t : TypeId), (Builtin.max_ ts t #[.int .i64 (x.bind.key.length : Int), .int .i64 (x.text.length : Int)]).run Tryz.prog W = .ok (.int .i64 (K : Int)) W := fun W ts t => by
    rw [max2_run, show max (x.bind.key.length : Int) (x.text.length : Int) = (K : Int) by omega]
  have s0 : (ofL x.shop.name).size = x.shop.name.length := ofL_size _
  have s1 : (ofL x.shop.to).size = x.shop.to.length := ofL_size _
  have s2 : (ofL x.q.name).size = x.q.name.length := ofL_size _
  have s3 : (ofL x.q.dead).size = x.q.dead.length := ofL_size _
  have s4 : (ofL x.bind.shop).size = x.bind.shop.length := ofL_size _
  have s5 : (ofL x.bind.to).size = x.bind.to.length := ofL_size _
  have s6 : (ofL x.name).size = x.name.length := ofL_size _
  have s7 : (ofL x.bind.key).size = x.bind.key.length := ofL_size _
  have s8 : (ofL x.text).size = x.text.length := ofL_size _
  clear h hM hK
  generalize deLight x = LX at *
  generalize lightB x.bind.want = LB at *
  generalize maLight x.mail = LM at *
  simp only [deV, maV] at *
  go_enter Tryz.func26, Tryz.ntmps26
  go_upto_region 1 with fail
  generalize w.alloc (.cells #[.int .u8 (x.kd : Int), .int .u64 (x.tick : Int), .string (ofL x.shop.name), .int .u8 (x.shop.sort : Int), .string (ofL x.shop.to), .string (ofL x.q.name), .int .u64 (x.q.most : Int), .int .u64 (x.q.life : Int), .string (ofL x.q.dead), .string (ofL x.bind.shop), .string (ofL x.bind.to), .bool x.bind.up, .string (ofL x.bind.key), .slice A x.bind.want.length c, .bool x.bind.all, .string (ofL x.name), .int .u64 (x.id : Int), .int .u8 (x.how : Int), .int .u8 (x.frm : Int), .int .u8 (x.cd : Int), .int .u64 (x.num : Int), .int .u64 (x.mail.id : Int), .string (ofL x.mail.shop), .string (ofL x.mail.key), .slice B x.mail.head.length d, .string (ofL x.mail.body), .int .u64 (x.mail.due : Int), .int .u8 (x.mail.hops : Int), .string (ofL x.text)] 39) = W1 at *
  have c2 := HX1.out.p.cs 2 _ rfl
  have c4 := HX1.out.p.cs 4 _ rfl
  have c5 := HX1.out.p.cs 5 _ rfl
  have c8 := HX1.out.p.cs 8 _ rfl
  have c9 := HX1.out.p.cs 9 _ rfl
  have c10 := HX1.out.p.cs 10 _ rfl
  have c15 := HX1.out.p.cs 15 _ rfl
  have cl := HX1.out.p.lt
  go_upto_region 2 with fail
  clear c2 c4 c5 c8 c9 c10 c15 cl s0 s1 s2 s3 s4 s5 s6 hm7
  have c12 := HX1.out.p.cs 12 _ rfl
  have c13 := HX1.out.p.cs 13 _ rfl
  have c28 := HX1.out.p.cs 28 _ rfl
  have cl := HX1.out.p.lt
  by_cases h1 : M ≤ 40
  · have hd1 : decide ((M : Int) ≤ 40) = true := decide_eq_true (by omega)
    by_cases h2 : K ≤ 100
    · have hd2 : decide ((K : Int) ≤ 100) = true := decide_eq_true (by omega)
      cases hb : LB with
      | false =>
        rw [hb] at HL1
        have HE := Lib.hid (show LX = false by rw [HD.out, hb]; simp)
        clear h1 h2 hb
        go_wp2_with fail
        refine (HL1.out _ HX1.out.ra).mono ?_
        rintro e w2 ⟨rfl, b2⟩
        have HB2 := Lib.hid (bthen HB1.out b2 (Nat.le_refl _))
        clear b2
        go_wp2_with fail
        go_ret
        exact ⟨ret_bool HE.out.symm, HB2.out⟩
      | true =>
        rw [hb] at HL1
        have HE := Lib.hid (show LX = LM by rw [HD.out, hb, decide_eq_true h1, decide_eq_true h2]; simp)
        clear h1 h2 hb
        go_wp2_with fail
        refine (HL1.out _ HX1.out.ra).mono ?_
        rintro e w2 ⟨rfl, b2⟩
        have HB2 := Lib.hid (bthen HB1.out b2 (Nat.le_refl _))
        have HX2 := Lib.hid (HX1.out.on b2)
        clear b2 c12 c13 c28 cl
        have c21 := HX2.out.p.cs 21 _ rfl
        have c22 := HX2.out.p.cs 22 _ rfl
        have c23 := HX2.out.p.cs 23 _ rfl
        have c24 := HX2.out.p.cs 24 _ rfl
        have c25 := HX2.out.p.cs 25 _ rfl
        have c26 := HX2.out.p.cs 26 _ rfl
        have c27 := HX2.out.p.cs 27 _ rfl
        have cl := HX2.out.p.lt
        go_wp2_with fail
        refine (HL2.out _ HX2.out.rb).mono ?_
        rintro e w3 ⟨rfl, b3⟩
        have HB3 := Lib.hid (bthen HB2.out b3 (Nat.le_refl _))
        clear b3
        go_wp2_with fail
        go_ret
        exact ⟨ret_bool HE.out.symm, HB3.out⟩
    · have hd2 : decide ((K : Int) ≤ 100) = false := decide_eq_false (by omega)
      have HE := Lib.hid (show LX = false by rw [HD.out, decide_eq_false h2]; simp)
      clear h1 h2
      go_wp2_with fail
      go_ret
      exact ⟨ret_bool HE.out.symm, HB1.out⟩
  · have hd1 : decide ((M : Int) ≤ 40) = false := decide_eq_false (by omega)
    have HE := Lib.hid (show LX = false by rw [HD.out, decide_eq_false h1]; simp)
    clear h1
    go_wp2_with fail
    go_ret
    exact ⟨ret_bool HE.out.symm, HB1.out⟩
end Go.Proofs.YtecjngodfciokaaGreatDoor
end
section
namespace Go.Proofs.YtecjngodfciokaaGreatDoor
open Go.ChangeShapes Go.WideShapes Go.ChangeAt Go.RowKit
/-- deeds that come in -/
structure Din (w : World) (A : Option Addr) (l : List Dp) : Prop where
  row : Rws w A (l.flatMap dpL)
  in_ : ∀ p ∈ l, DeIn w p.x p.A p.c p.B p.d
theorem din_elt {w : World} {A : Option Addr} {l : List Dp} (h : Din w A l) {i : Nat} (hi : i < l.length) : ∃ b off, A = some ⟨b, off, none⟩ ∧ b < w.heap.size ∧ w.rangeAt b (off + i * 29) (dpL (l.getD i Dp0)) ∧ DeIn w (l.getD i Dp0).x (l.getD i Dp0).A (l.getD i Dp0).c (l.getD i Dp0).B (l.getD i Dp0).d := by
  obtain ⟨b, off, e, hb, hc⟩ := Rws.elt dpL 29 (fun _ => rfl) (by decide) h.row hi
  rw [dp_get hi] at hc
  refine ⟨b, off, e, hb, fun j v hj => hc j v hj, ?_⟩
  have := h.in_ _ (List.getElem_mem hi)
  rw [dp_get hi] at this
  exact this
def dsLight (l : List Dp) : Bool := (l.all fun p => deLight p.x) && decide (l.length ≤ 40)
theorem dsLight_no {l : List Dp} {k : Nat} (hk : k < l.length) (h : deLight (l.getD k Dp0).x = false) : dsLight l = false := by
  unfold dsLight
  have : (l.all fun p => deLight p.x) = false := by
    rw [List.all_eq_false]
    refine ⟨l[k], List.getElem_mem hk, ?_⟩
    rw [dp_get hk, h]
    simp
  rw [this]
  rfl
theorem dsLight_all {l : List Dp} (h : ∀ j, j < l.length → deLight (l.getD j Dp0).x = true) : dsLight l = decide (l.length ≤ 40) := by
  unfold dsLight
  have : (l.all fun p => deLight p.x) = true := by
    rw [List.all_eq_true]
    intro p hp
    obtain ⟨j, hj, rfl⟩ := List.getElem_of_mem hp
    rw [dp_get hj]
    exact h j hj
  rw [this]
  simp
set_option maxRecDepth 100000 in
set_option maxHeartbeats 8000000 in
theorem law23Light_any (l : List Dp) (A : Option Addr) (c : Nat) (w : World) (hl : l.length ≤ 9223372036854775807) (hp : Din w A l) :
    Calls Tryz.prog 7 #[.slice A l.length c] w fun e w' => e = .returned (.bool (dsLight l)) ∧ Below w.heap.size w w' := by
  have HP := Lib.hid hp
  have HNO := Lib.hid (fun k (hk : k < l.length) h => dsLight_no hk h)
  have HALL := Lib.hid (fun h => dsLight_all (l := l) h)
  have HLI := Lib.hid (fun (x : De) XA xc XB xd W (h : DeIn W x XA xc XB xd) => ddLight_any x XA xc XB xd W h)
  clear hp
  generalize dsLight l = M at *
  obtain ⟨n, hn⟩ : ∃ n, n = l.length := ⟨_, rfl⟩
  rw [← hn]
  have HN := Lib.hid hn
  have hnl : n ≤ 9223372036854775807 := by omega
  rw [← hn] at HALL
  clear hn hl
  go_enter Tryz.func7, Tryz.ntmps7
  go_wp2_with fail
  go_loopg [7] n (fun g i wr => ∃ k : Nat, k + g = n ∧ i = .int .i64 (k : Int) ∧ (∀ j, j < k → deLight (l.getD j Dp0).x = true) ∧ Below w.heap.size w wr)
  case atStart => exact ⟨0, by omega, rfl, fun j hj => absurd hj (by omega), Below.refl _ _⟩
  case round =>
    obtain ⟨k, hk, rfl, hno, hB⟩ := hrel
    have HB := Lib.hid hB
    have HYES := Lib.hid hno
    have HK := Lib.hid hk
    clear hB hno hk
    by_cases hlt : k < n
    · have hki : (k : Int) < (n : Int) := by omega
      have hkl : k < l.length := by have := HN.out; omega
      obtain ⟨bb, off, rfl, hbl, hat, hin⟩ := din_elt HP.out hkl
      have HQ : Hid (deLight (l.getD k Dp0).x = false → M = false) := fun h => HNO.out k hkl h
      have HSX : Hid (deLight (l.getD k Dp0).x = true → ∀ j, j < k + 1 → deLight (l.getD j Dp0).x = true) := fun h j hj => by
        by_cases e : j = k
        · rw [e]; exact h
        · exact HYES.out j (by omega)
      generalize hpk : l.getD k Dp0 = p at hat hin HQ HSX
      clear hpk
      obtain ⟨x, XA, xc, XB, xd⟩ := p
      have HAT := Lib.hid (show wr.rangeAt bb (off + k * 29) (deL x XA xc XB xd) from fun j v hj => (HB.out.cell (p := ⟨bb, off + k * 29 + j, none⟩) hbl).trans (hat j v hj))
      have HIN := Lib.hid hin
      clear hat hin
      dsimp only at HQ HSX HIN
      have HE5 := Lib.hid (BoxC.new (w := wr) (W := wr) (Nat.le_refl _) (deL x XA xc XB xd).toArray 39)
      have HBX5 := Lib.hid (rtOne wr (.cells (deL x XA xc XB xd).toArray 39))
      go_upto_region 4 with (first
        | (refine wpList_load_mid (by rfl) 39 _ (by rfl) bb (off + k * 29) (by rfl) (deL x XA xc XB xd) _ HAT.out Tryz.underlying39 rfl (by rw [de_size, deL_len]) ?_)
        | (refine wpList_store_new2 (by rfl) 39 _ _ (by rfl) _ (deL x XA xc XB xd).toArray (by rfl) (by rfl) (by rw [de_size]; rfl) (by rfl) (de_all _ _ _ _ _) ?_))
      generalize wr.alloc (.cells (deL x XA xc XB xd).toArray 39) = W5 at *
      go_wp2_with (refine wpList_load_mid (by rfl) 39 _ (by rfl) wr.heap.size 0 (by rfl) (deL x XA xc XB xd) _ HE5.out.cs.range Tryz.underlying39 rfl (by rw [de_size, deL_len]) ?_)
      refine (HLI.out x XA xc XB xd _ ((HIN.out.on HB.out).on HBX5.out)).mono ?_
      rintro e w6 ⟨rfl, b6⟩
      have HB6 := Lib.hid (bthen HB.out (bthen HBX5.out b6 (Nat.le_refl _)) (Nat.le_refl _))
      clear b6
      cases hq : deLight x with
      | true =>
        have HS2 := Lib.hid (HSX.out hq)
        clear hq
        go_wp2_with fail
        go_roundg (gk - 1)
        case rel => exact ⟨k + 1, by have := HK.out; omega, by go_num, HS2.out, HB6.out⟩
        case measure => have := HK.out; omega
      | false =>
        have HM := Lib.hid (HQ.out hq)
        clear hq
        go_wp2_with fail
        go_ret
        exact ⟨ret_bool HM.out.symm, HB6.out⟩
    · have hkn : k = n := by have := HK.out; omega
      have HM := Lib.hid (HALL.out (fun j hj => HYES.out j (by omega)))
      subst hkn
      by_cases h40 : k ≤ 40
      · have hd : (k : Int) ≤ 40 := by omega
        have hd2 : decide ((k : Int) ≤ 40) = true := decide_eq_true hd
        go_wp2_with fail
        go_ret
        exact ⟨ret_bool (by rw [HM.out, decide_eq_true h40]), HB.out⟩
      · have hd : ¬ (k : Int) ≤ 40 := by omega
        have hd2 : decide ((k : Int) ≤ 40) = false := decide_eq_false hd
        go_wp2_with fail
        go_ret
        exact ⟨ret_bool (by rw [HM.out, decide_eq_false h40]), HB.out⟩
end Go.Proofs.YtecjngodfciokaaGreatDoor
end
