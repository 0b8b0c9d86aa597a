/-
  WHETHER TWO MESSAGES ARE THE SAME, as a decision. DEEDS IN MEMORY. WHOLE STRUCTS in a block of one's own: loaded, stored; deeds among them.
-/
import Derived.Test.YtecjngodfciokaaGreatDoorDl03
import Derived.Test.YtecjngodfciokaaGreatDoorDl17
import Derived.Test.YtecjngodfciokaaGreatDoorDl20
import Derived.Deep.MidRow
import Derived.Deep.WholeRow
import Derived.Lib.BufferRead
section
namespace Go.Proofs.YtecjngodfciokaaGreatDoor
open Go.ChangeShapes Go.WideShapes Go.ChangeAt Go.RowKit
theorem maEq_decD (x y : Ml) : maEq x y = decide (x = y) := by
  unfold maEq
  cases x; cases y
  rw [Bool.eq_iff_iff]
  simp only [Bool.and_eq_true, beq_iff_eq, decide_eq_true_eq, Ml.mk.injEq]
  constructor
  · rintro ⟨⟨⟨⟨⟨⟨h1, h2⟩, h3⟩, h4⟩, h5⟩, h6⟩, h7⟩
    exact ⟨h1, h2, h3, h4, h5, h6, h7⟩
  · rintro ⟨h1, h2, h3, h4, h5, h6, h7⟩
    exact ⟨⟨⟨⟨⟨⟨h1, h2⟩, h3⟩, h4⟩, h5⟩, h6⟩, h7⟩
end Go.Proofs.YtecjngodfciokaaGreatDoor
end
section
namespace Go.Proofs.YtecjngodfciokaaGreatDoor
open Go.ChangeShapes Go.WideShapes Go.ChangeAt Go.RowKit
def deL (x : De) (A : Option Addr) (c : Nat) (B : Option Addr) (d : Nat) : List Value := [.int .u8 (x.kd : Int), .int .u64 (x.tick : Int), .string (ofL x.shop.name), .int .u8 (x.shop.sort : Int), .string (ofL x.shop.to), .string (ofL x.q.name), .int .u64 (x.q.most : Int), .int .u64 (x.q.life : Int), .string (ofL x.q.dead), .string (ofL x.bind.shop), .string (ofL x.bind.to), .bool x.bind.up, .string (ofL x.bind.key), .slice A x.bind.want.length c, .bool x.bind.all, .string (ofL x.name), .int .u64 (x.id : Int), .int .u8 (x.how : Int), .int .u8 (x.frm : Int), .int .u8 (x.cd : Int), .int .u64 (x.num : Int), .int .u64 (x.mail.id : Int), .string (ofL x.mail.shop), .string (ofL x.mail.key), .slice B x.mail.head.length d, .string (ofL x.mail.body), .int .u64 (x.mail.due : Int), .int .u8 (x.mail.hops : Int), .string (ofL x.text)]
def deV (x : De) (A : Option Addr) (c : Nat) (B : Option Addr) (d : Nat) : Value := .agg #[.int .u8 (x.kd : Int), .int .u64 (x.tick : Int), .string (ofL x.shop.name), .int .u8 (x.shop.sort : Int), .string (ofL x.shop.to), .string (ofL x.q.name), .int .u64 (x.q.most : Int), .int .u64 (x.q.life : Int), .string (ofL x.q.dead), .string (ofL x.bind.shop), .string (ofL x.bind.to), .bool x.bind.up, .string (ofL x.bind.key), .slice A x.bind.want.length c, .bool x.bind.all, .string (ofL x.name), .int .u64 (x.id : Int), .int .u8 (x.how : Int), .int .u8 (x.frm : Int), .int .u8 (x.cd : Int), .int .u64 (x.num : Int), .int .u64 (x.mail.id : Int), .string (ofL x.mail.shop), .string (ofL x.mail.key), .slice B x.mail.head.length d, .string (ofL x.mail.body), .int .u64 (x.mail.due : Int), .int .u8 (x.mail.hops : Int), .string (ofL x.text)]
/-- its numbers are such that it can be walked -/
structure DeOk (w : World) (x : De) (A : Option Addr) (c : Nat) (B : Option Addr) (d : Nat) : Prop where
  sn : x.shop.name.length ≤ 90000
  st : x.shop.to.length ≤ 90000
  qn : x.q.name.length ≤ 90000
  qd : x.q.dead.length ≤ 90000
  bind : BdOk w x.bind A c
  name : x.name.length ≤ 90000
  mail : MaOk w x.mail B d
  text : x.text.length ≤ 90000
theorem DeOk.on {w w' : World} {x : De} {A : Option Addr} {c : Nat} {B : Option Addr} {d : Nat} (h : DeOk w x A c B d) (hb : Below w.heap.size w w') : DeOk w' x A c B d := ⟨h.sn, h.st, h.qn, h.qd, h.bind.on hb, h.name, h.mail.on hb, h.text⟩
/-- a deed's box, of one's own, and its rows -/
structure DeX (w : World) (x : De) (A : Option Addr) (c : Nat) (B : Option Addr) (d q : Nat) (W : World) : Prop where
  p : BoxC w q (deL x A c B d) W
  ra : Prs W A x.bind.want
  rb : Prs W B x.mail.head
theorem DeX.on {w : World} {x : De} {A : Option Addr} {c : Nat} {B : Option Addr} {d q : Nat} {W W' : World} (h : DeX w x A c B d q W) (hb : Below W.heap.size W W') : DeX w x A c B d q W' := ⟨h.p.on hb, h.ra.on hb, h.rb.on hb⟩
theorem DeX.start (w : World) (x : De) (A : Option Addr) (c : Nat) (B : Option Addr) (d : Nat) (hA : Prs w A x.bind.want) (hB : Prs w B x.mail.head) (t : TypeId) : DeX w x A c B d w.heap.size (w.alloc (.cells #[.int .u8 (x.kd : Int), .int .u64 (x.tick : Int), .string (ofL x.shop.name), .int .u8 (x.shop.sort : Int), .string (ofL x.shop.to), .string (ofL x.q.name), .int .u64 (x.q.most : Int), .int .u64 (x.q.life : Int), .string (ofL x.q.dead), .string (ofL x.bind.shop), .string (ofL x.bind.to), .bool x.bind.up, .string (ofL x.bind.key), .slice A x.bind.want.length c, .bool x.bind.all, .string (ofL x.name), .int .u64 (x.id : Int), .int .u8 (x.how : Int), .int .u8 (x.frm : Int), .int .u8 (x.cd : Int), .int .u64 (x.num : Int), .int .u64 (x.mail.id : Int), .string (ofL x.mail.shop), .string (ofL x.mail.key), .slice B x.mail.head.length d, .string (ofL x.mail.body), .int .u64 (x.mail.due : Int), .int .u8 (x.mail.hops : Int), .string (ofL x.text)] t)) := by
  have hb : Below w.heap.size w (w.alloc (.cells #[.int .u8 (x.kd : Int), .int .u64 (x.tick : Int), .string (ofL x.shop.name), .int .u8 (x.shop.sort : Int), .string (ofL x.shop.to), .string (ofL x.q.name), .int .u64 (x.q.most : Int), .int .u64 (x.q.life : Int), .string (ofL x.q.dead), .string (ofL x.bind.shop), .string (ofL x.bind.to), .bool x.bind.up, .string (ofL x.bind.key), .slice A x.bind.want.length c, .bool x.bind.all, .string (ofL x.name), .int .u64 (x.id : Int), .int .u8 (x.how : Int), .int .u8 (x.frm : Int), .int .u8 (x.cd : Int), .int .u64 (x.num : Int), .int .u64 (x.mail.id : Int), .string (ofL x.mail.shop), .string (ofL x.mail.key), .slice B x.mail.head.length d, .string (ofL x.mail.body), .int .u64 (x.mail.due : Int), .int .u8 (x.mail.hops : Int), .string (ofL x.text)] t)) := (Below.refl _ _).alloc (Nat.le_refl _) _
  exact ⟨BoxC.new (Nat.le_refl _) #[.int .u8 (x.kd : Int), .int .u64 (x.tick : Int), .string (ofL x.shop.name), .int .u8 (x.shop.sort : Int), .string (ofL x.shop.to), .string (ofL x.q.name), .int .u64 (x.q.most : Int), .int .u64 (x.q.life : Int), .string (ofL x.q.dead), .string (ofL x.bind.shop), .string (ofL x.bind.to), .bool x.bind.up, .string (ofL x.bind.key), .slice A x.bind.want.length c, .bool x.bind.all, .string (ofL x.name), .int .u64 (x.id : Int), .int .u8 (x.how : Int), .int .u8 (x.frm : Int), .int .u8 (x.cd : Int), .int .u64 (x.num : Int), .int .u64 (x.mail.id : Int), .string (ofL x.mail.shop), .string (ofL x.mail.key), .slice B x.mail.head.length d, .string (ofL x.mail.body), .int .u64 (x.mail.due : Int), .int .u8 (x.mail.hops : Int), .string (ofL x.text)] t, hA.on hb, hB.on hb⟩
theorem DeX.next {w : World} (o : Obj) (x : De) (A : Option Addr) (c : Nat) (B : Option Addr) (d : Nat) (hA : Prs w A x.bind.want) (hB : Prs w B x.mail.head) (t : TypeId) : DeX w x A c B d (w.heap.size + 1) ((w.alloc o).alloc (.cells #[.int .u8 (x.kd : Int), .int .u64 (x.tick : Int), .string (ofL x.shop.name), .int .u8 (x.shop.sort : Int), .string (ofL x.shop.to), .string (ofL x.q.name), .int .u64 (x.q.most : Int), .int .u64 (x.q.life : Int), .string (ofL x.q.dead), .string (ofL x.bind.shop), .string (ofL x.bind.to), .bool x.bind.up, .string (ofL x.bind.key), .slice A x.bind.want.length c, .bool x.bind.all, .string (ofL x.name), .int .u64 (x.id : Int), .int .u8 (x.how : Int), .int .u8 (x.frm : Int), .int .u8 (x.cd : Int), .int .u64 (x.num : Int), .int .u64 (x.mail.id : Int), .string (ofL x.mail.shop), .string (ofL x.mail.key), .slice B x.mail.head.length d, .string (ofL x.mail.body), .int .u64 (x.mail.due : Int), .int .u8 (x.mail.hops : Int), .string (ofL x.text)] t)) := by
  have hb := rtTwo w o (.cells #[.int .u8 (x.kd : Int), .int .u64 (x.tick : Int), .string (ofL x.shop.name), .int .u8 (x.shop.sort : Int), .string (ofL x.shop.to), .string (ofL x.q.name), .int .u64 (x.q.most : Int), .int .u64 (x.q.life : Int), .string (ofL x.q.dead), .string (ofL x.bind.shop), .string (ofL x.bind.to), .bool x.bind.up, .string (ofL x.bind.key), .slice A x.bind.want.length c, .bool x.bind.all, .string (ofL x.name), .int .u64 (x.id : Int), .int .u8 (x.how : Int), .int .u8 (x.frm : Int), .int .u8 (x.cd : Int), .int .u64 (x.num : Int), .int .u64 (x.mail.id : Int), .string (ofL x.mail.shop), .string (ofL x.mail.key), .slice B x.mail.head.length d, .string (ofL x.mail.body), .int .u64 (x.mail.due : Int), .int .u8 (x.mail.hops : Int), .string (ofL x.text)] t)
  exact ⟨rtAt1 w o #[.int .u8 (x.kd : Int), .int .u64 (x.tick : Int), .string (ofL x.shop.name), .int .u8 (x.shop.sort : Int), .string (ofL x.shop.to), .string (ofL x.q.name), .int .u64 (x.q.most : Int), .int .u64 (x.q.life : Int), .string (ofL x.q.dead), .string (ofL x.bind.shop), .string (ofL x.bind.to), .bool x.bind.up, .string (ofL x.bind.key), .slice A x.bind.want.length c, .bool x.bind.all, .string (ofL x.name), .int .u64 (x.id : Int), .int .u8 (x.how : Int), .int .u8 (x.frm : Int), .int .u8 (x.cd : Int), .int .u64 (x.num : Int), .int .u64 (x.mail.id : Int), .string (ofL x.mail.shop), .string (ofL x.mail.key), .slice B x.mail.head.length d, .string (ofL x.mail.body), .int .u64 (x.mail.due : Int), .int .u8 (x.mail.hops : Int), .string (ofL x.text)] t, hA.on hb, hB.on hb⟩
/-- whether two deeds are the same, piece by piece -/
def quEq (x y : Qu) : Bool := (x.name == y.name) && (x.most == y.most) && (x.life == y.life) && (x.dead == y.dead)
theorem quEq_dec (x y : Qu) : quEq x y = decide (x = y) := by
  obtain ⟨a, b, c, d⟩ := x
  obtain ⟨a', b', c', d'⟩ := y
  rw [Bool.eq_iff_iff]
  simp [quEq, and_assoc]
def deEq (x y : De) : Bool := (x.kd == y.kd) && ((x.tick == y.tick) && (decide (x.shop = y.shop) && (decide (x.q = y.q) && (decide (x.bind = y.bind) && ((x.name == y.name) && ((x.id == y.id) && ((x.how == y.how) && ((x.frm == y.frm) && ((x.cd == y.cd) && ((x.num == y.num) && (decide (x.mail = y.mail) && (x.text == y.text))))))))))))
theorem deEq_dec (x y : De) : deEq x y = decide (x = y) := by
  cases x; cases y
  rw [Bool.eq_iff_iff]
  simp [deEq, De.mk.injEq]
def deEqR (x y : De) : Bool := (x.kd == y.kd) && ((x.tick == y.tick) && (decide (x.shop = y.shop) && (decide (x.q = y.q) && ((x.name == y.name) && ((x.id == y.id) && ((x.how == y.how) && ((x.frm == y.frm) && ((x.cd == y.cd) && ((x.num == y.num) && ((x.text == y.text) && (decide (x.bind = y.bind) && decide (x.mail = y.mail))))))))))))
theorem deEqR_dec (x y : De) : deEqR x y = decide (x = y) := by
  cases x; cases y
  rw [Bool.eq_iff_iff]
  simp only [deEqR, De.mk.injEq, Bool.and_eq_true, beq_iff_eq, decide_eq_true_eq]
  constructor
  · rintro ⟨h1, h2, h3, h4, h6, h7, h8, h9, h10, h11, h13, h5, h12⟩
    exact ⟨h1, h2, h3, h4, h5, h6, h7, h8, h9, h10, h11, h12, h13⟩
  · rintro ⟨h1, h2, h3, h4, h5, h6, h7, h8, h9, h10, h11, h12, h13⟩
    exact ⟨h1, h2, h3, h4, h6, h7, h8, h9, h10, h11, h13, h5, h12⟩
end Go.Proofs.YtecjngodfciokaaGreatDoor
end
section
namespace Go.Proofs.YtecjngodfciokaaGreatDoor
open Go.ChangeShapes Go.WideShapes Go.ChangeAt Go.RowKit
theorem setCells_pa (b : Nat) : ∀ (vs : List Value) (o : Nat) (W : World), W.setCells b o vs = putAll b o vs W
  | [], _, _ => rfl
  | v :: vs, o, W => by
    unfold World.setCells putAll
    exact setCells_pa b vs (o + 1) _
theorem Cels.range {W : World} {q : Nat} {xs : List Value} (h : Cels W q xs) : W.rangeAt q 0 xs := fun j v hj => by rw [Nat.zero_add]; exact h j v hj
theorem BoxC.there {w W : World} {c : Nat} {xs : List Value} (h : BoxC w c xs W) : W.there c 0 xs.length := fun j hj => by
  rw [Nat.zero_add]
  exact ⟨by rw [h.cs j xs[j] (List.getElem?_eq_getElem hj)]; rfl, h.s j⟩
theorem BoxC.over {w W : World} {c : Nat} {xs : List Value} (h : BoxC w c xs W) (ys : List Value) (hl : ys.length = xs.length) : BoxC w c ys (W.setCells c 0 ys) := by
  rw [setCells_pa]; exact h.fill ys hl
theorem below_setCells {w : World} {g : Nat} (hg : w.heap.size ≤ g) (vs : List Value) (j : Nat) {W : World} (h : Below w.heap.size w W) : Below w.heap.size w (W.setCells g j vs) := by
  rw [setCells_pa]; exact below_putAll hg vs j h
theorem de_one (x : De) (A : Option Addr) (c : Nat) (B : Option Addr) (d : Nat) : ∀ v ∈ deL x A c B d, v.oneCell' = true := by
  unfold deL
  intro v hv
  simp only [List.mem_cons, List.not_mem_nil, or_false] at hv
  rcases hv with rfl | rfl | rfl | rfl | rfl | rfl | rfl | rfl | rfl | rfl | rfl | rfl | rfl | rfl | rfl | rfl | rfl | rfl | rfl | rfl | rfl | rfl | rfl | rfl | rfl | rfl | rfl | rfl | rfl <;> rfl
theorem de_all (x : De) (A : Option Addr) (c : Nat) (B : Option Addr) (d : Nat) : (deL x A c B d).toArray.all (·.oneCell') = true := all_oneCell_toArray (de_one x A c B d)
theorem deL_len (x : De) (A : Option Addr) (c : Nat) (B : Option Addr) (d : Nat) : (deL x A c B d).length = 29 := rfl
theorem de_size : (Tryz.prog.info? 39).map (·.size) = some 29 := by kernel_rfl
theorem rde_size : (Tryz.prog.info? 49).map (·.size) = some 29 := by kernel_rfl
theorem de_res (x : De) (A : Option Addr) (c : Nat) (B : Option Addr) (d : Nat) (W : World) (g : Nat) (h : Cels W g (deL x A c B d)) : (loadVar 39 ⟨g, 0, none⟩).run Tryz.prog W = .ok (deV x A c B d) W :=
  run_loadVar_mid W g 0 39 (deL x A c B d) _ h.range Tryz.underlying39 rfl (by rw [de_size, deL_len])
/-- a whole deed into the box that was made last -/
theorem wpList_store_new2 {P : Program} {ops : Array Oper} {rest : List Oper} {op : Oper} {a : Act} {w : World} {Q : Exit → Act → World → Prop} (hgd : op.guard = none) (ty : TypeId) (x y : Operand) (ho : op.op = .store ty x y)
    (c c' : Array Value) (hx : a.eval x = .pointer (some ⟨w.heap.size, 0, none⟩)) (hy : a.eval y = .agg c') (hi : (P.info? ty).map (·.size) = some c'.size) (hcc : c.size = c'.size) (h1 : c'.all (·.oneCell') = true)
    (h : wpList P ops Q rest (a.put op.dst undef) (w.alloc (.cells c' ty))) : wpList P ops Q (op :: rest) a (w.alloc (.cells c ty)) :=
  wpList_plain hgd fun _ hK => by
    unfold Oper.wp execOp
    simp only [ho, hx, hy, Sem.run_bind, Sem.run_pure, Result.andThen_ok, run_storeAt_new w ty c c' hi hcc h1]
    exact hK _ _ h
end Go.Proofs.YtecjngodfciokaaGreatDoor
end
