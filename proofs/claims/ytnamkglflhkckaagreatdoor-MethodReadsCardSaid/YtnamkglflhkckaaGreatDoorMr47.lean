/-
  AN APPEND whose run is known, in a region of one order. A METHOD's COPY, as the laws make it; which are gone through: walked. WHETHER A KEY MATCHES A PATTERN, walked: the program's. WHETHER A KEY MATCHES A PATTERN, walked: the program's, whole.
-/
import Derived.Test.YtnamkglflhkckaaGreatDoorMr06
import Derived.Test.YtnamkglflhkckaaGreatDoorMr08
import Derived.Test.YtnamkglflhkckaaGreatDoorMr10
import Derived.Test.YtnamkglflhkckaaGreatDoorMr14
import Derived.Deep.OwnRows
section
namespace Go.Proofs.YtnamkglflhkckaaGreatDoor
open Go.ChangeShapes Go.WideShapes Go.ChangeAt Go.RowKit
theorem wpList_append_run {P : Program} {ops : Array Oper} {rest : List Oper} {o : Oper} {a : Act} {w : World} {Q : Exit → Act → World → Prop} (hgd : o.guard = none) (s x : Operand) (t : TypeId)
    (ho : o.op = .call { callee := .builtin .append, args := #[s, x], argTypes := #[t, t] }) (v xv : Value) (hs : a.eval s = v) (hx : a.eval x = xv) {v' : Value} {w' : World}
    (hr : (Builtin.append_ #[t, t] o.type #[v, xv]).run P w = .ok v' w') (h : wpList P ops Q rest (a.put o.dst v') w') : wpList P ops Q (o :: rest) a w := by
  have hw : Region.wanted o (yielded ops a.tmps) = true := by simp [Region.wanted, hgd]
  unfold wpList
  rw [if_pos hw]
  refine Or.inl ?_
  have := step_append_run (ops := ops) (K := wpList P ops Q rest) (Q := Q) (E := True) hgd s x t ho v xv hs hx hr h
  rw [if_pos hw] at this
  exact this
end Go.Proofs.YtnamkglflhkckaaGreatDoor
end
section
namespace Go.Proofs.YtnamkglflhkckaaGreatDoor
open Go.ChangeShapes Go.WideShapes Go.ChangeAt Go.RowKit
def MeToPost (x : Me) (w : World) (e : Ending) (w' : World) : Prop := ∃ A' c', e = .returned (meV x A' c') ∧ x.head.length ≤ c' ∧ Prs w' A' x.head ∧ Below w.heap.size w w'
set_option maxRecDepth 100000 in
set_option maxHeartbeats 4000000 in
theorem me_To_any (x : Me) (A : Option Addr) (c : Nat) (w : World) (hl : x.head.length ≤ 100000) (hc : x.head.length ≤ c) (hp : Prs w A x.head) :
    Calls Tryz.prog 12 #[meV x A c] w (MeToPost x w) := by
  have b1 : BoxC w w.heap.size (meL x A c) (w.alloc (.cells #[.int .u8 (x.ch.toNat : Int), .int .u8 (x.kd.toNat : Int), .string (ofL x.name), .string (ofL x.other), .string (ofL x.key), .slice A x.head.length c, .string (ofL x.body), .int .u64 (x.n : Int), .int .u64 (x.m : Int), .bool x.yes] 25)) := BoxC.new (Nat.le_refl _) #[.int .u8 (x.ch.toNat : Int), .int .u8 (x.kd.toNat : Int), .string (ofL x.name), .string (ofL x.other), .string (ofL x.key), .slice A x.head.length c, .string (ofL x.body), .int .u64 (x.n : Int), .int .u64 (x.m : Int), .bool x.yes] 25
  have b2 : BoxC w (w.heap.size + 1) [.int .u8 0, .int .u8 0, .string ⟨#[]⟩, .string ⟨#[]⟩, .string ⟨#[]⟩, .slice none 0 0, .string ⟨#[]⟩, .int .u64 0, .int .u64 0, .bool false] ((w.alloc (.cells #[.int .u8 (x.ch.toNat : Int), .int .u8 (x.kd.toNat : Int), .string (ofL x.name), .string (ofL x.other), .string (ofL x.key), .slice A x.head.length c, .string (ofL x.body), .int .u64 (x.n : Int), .int .u64 (x.m : Int), .bool x.yes] 25)).alloc (.cells #[.int .u8 0, .int .u8 0, .string ⟨#[]⟩, .string ⟨#[]⟩, .string ⟨#[]⟩, .slice none 0 0, .string ⟨#[]⟩, .int .u64 0, .int .u64 0, .bool false] 29)) := by
    have := BoxC.new (w := w) (W := (w.alloc (.cells #[.int .u8 (x.ch.toNat : Int), .int .u8 (x.kd.toNat : Int), .string (ofL x.name), .string (ofL x.other), .string (ofL x.key), .slice A x.head.length c, .string (ofL x.body), .int .u64 (x.n : Int), .int .u64 (x.m : Int), .bool x.yes] 25))) (by simp) #[.int .u8 0, .int .u8 0, .string ⟨#[]⟩, .string ⟨#[]⟩, .string ⟨#[]⟩, .slice none 0 0, .string ⟨#[]⟩, .int .u64 0, .int .u64 0, .bool false] 29
    simpa using this
  have b3 : BoxC w (w.heap.size + 1 + 1) (meL x A c) (((w.alloc (.cells #[.int .u8 (x.ch.toNat : Int), .int .u8 (x.kd.toNat : Int), .string (ofL x.name), .string (ofL x.other), .string (ofL x.key), .slice A x.head.length c, .string (ofL x.body), .int .u64 (x.n : Int), .int .u64 (x.m : Int), .bool x.yes] 25)).alloc (.cells #[.int .u8 0, .int .u8 0, .string ⟨#[]⟩, .string ⟨#[]⟩, .string ⟨#[]⟩, .slice none 0 0, .string ⟨#[]⟩, .int .u64 0, .int .u64 0, .bool false] 29)).alloc (.cells #[.int .u8 (x.ch.toNat : Int), .int .u8 (x.kd.toNat : Int), .string (ofL x.name), .string (ofL x.other), .string (ofL x.key), .slice A x.head.length c, .string (ofL x.body), .int .u64 (x.n : Int), .int .u64 (x.m : Int), .bool x.yes] 29)) := by
    have := BoxC.new (w := w) (W := ((w.alloc (.cells #[.int .u8 (x.ch.toNat : Int), .int .u8 (x.kd.toNat : Int), .string (ofL x.name), .string (ofL x.other), .string (ofL x.key), .slice A x.head.length c, .string (ofL x.body), .int .u64 (x.n : Int), .int .u64 (x.m : Int), .bool x.yes] 25)).alloc (.cells #[.int .u8 0, .int .u8 0, .string ⟨#[]⟩, .string ⟨#[]⟩, .string ⟨#[]⟩, .slice none 0 0, .string ⟨#[]⟩, .int .u64 0, .int .u64 0, .bool false] 29))) (by simp; omega) #[.int .u8 (x.ch.toNat : Int), .int .u8 (x.kd.toNat : Int), .string (ofL x.name), .string (ofL x.other), .string (ofL x.key), .slice A x.head.length c, .string (ofL x.body), .int .u64 (x.n : Int), .int .u64 (x.m : Int), .bool x.yes] 29
    simpa [meL] using this
  have a2 : Below ((w.alloc (.cells #[.int .u8 (x.ch.toNat : Int), .int .u8 (x.kd.toNat : Int), .string (ofL x.name), .string (ofL x.other), .string (ofL x.key), .slice A x.head.length c, .string (ofL x.body), .int .u64 (x.n : Int), .int .u64 (x.m : Int), .bool x.yes] 25)).alloc (.cells #[.int .u8 0, .int .u8 0, .string ⟨#[]⟩, .string ⟨#[]⟩, .string ⟨#[]⟩, .slice none 0 0, .string ⟨#[]⟩, .int .u64 0, .int .u64 0, .bool false] 29)).heap.size ((w.alloc (.cells #[.int .u8 (x.ch.toNat : Int), .int .u8 (x.kd.toNat : Int), .string (ofL x.name), .string (ofL x.other), .string (ofL x.key), .slice A x.head.length c, .string (ofL x.body), .int .u64 (x.n : Int), .int .u64 (x.m : Int), .bool x.yes] 25)).alloc (.cells #[.int .u8 0, .int .u8 0, .string ⟨#[]⟩, .string ⟨#[]⟩, .string ⟨#[]⟩, .slice none 0 0, .string ⟨#[]⟩, .int .u64 0, .int .u64 0, .bool false] 29)) (((w.alloc (.cells #[.int .u8 (x.ch.toNat : Int), .int .u8 (x.kd.toNat : Int), .string (ofL x.name), .string (ofL x.other), .string (ofL x.key), .slice A x.head.length c, .string (ofL x.body), .int .u64 (x.n : Int), .int .u64 (x.m : Int), .bool x.yes] 25)).alloc (.cells #[.int .u8 0, .int .u8 0, .string ⟨#[]⟩, .string ⟨#[]⟩, .string ⟨#[]⟩, .slice none 0 0, .string ⟨#[]⟩, .int .u64 0, .int .u64 0, .bool false] 29)).alloc (.cells #[.int .u8 (x.ch.toNat : Int), .int .u8 (x.kd.toNat : Int), .string (ofL x.name), .string (ofL x.other), .string (ofL x.key), .slice A x.head.length c, .string (ofL x.body), .int .u64 (x.n : Int), .int .u64 (x.m : Int), .bool x.yes] 29)) := (Below.refl _ _).alloc (Nat.le_refl _) _
  have a3 : Below (((w.alloc (.cells #[.int .u8 (x.ch.toNat : Int), .int .u8 (x.kd.toNat : Int), .string (ofL x.name), .string (ofL x.other), .string (ofL x.key), .slice A x.head.length c, .string (ofL x.body), .int .u64 (x.n : Int), .int .u64 (x.m : Int), .bool x.yes] 25)).alloc (.cells #[.int .u8 0, .int .u8 0, .string ⟨#[]⟩, .string ⟨#[]⟩, .string ⟨#[]⟩, .slice none 0 0, .string ⟨#[]⟩, .int .u64 0, .int .u64 0, .bool false] 29)).alloc (.cells #[.int .u8 (x.ch.toNat : Int), .int .u8 (x.kd.toNat : Int), .string (ofL x.name), .string (ofL x.other), .string (ofL x.key), .slice A x.head.length c, .string (ofL x.body), .int .u64 (x.n : Int), .int .u64 (x.m : Int), .bool x.yes] 29)).heap.size (((w.alloc (.cells #[.int .u8 (x.ch.toNat : Int), .int .u8 (x.kd.toNat : Int), .string (ofL x.name), .string (ofL x.other), .string (ofL x.key), .slice A x.head.length c, .string (ofL x.body), .int .u64 (x.n : Int), .int .u64 (x.m : Int), .bool x.yes] 25)).alloc (.cells #[.int .u8 0, .int .u8 0, .string ⟨#[]⟩, .string ⟨#[]⟩, .string ⟨#[]⟩, .slice none 0 0, .string ⟨#[]⟩, .int .u64 0, .int .u64 0, .bool false] 29)).alloc (.cells #[.int .u8 (x.ch.toNat : Int), .int .u8 (x.kd.toNat : Int), .string (ofL x.name), .string (ofL x.other), .string (ofL x.key), .slice A x.head.length c, .string (ofL x.body), .int .u64 (x.n : Int), .int .u64 (x.m : Int), .bool x.yes] 29)) ((((w.alloc (.cells #[.int .u8 (x.ch.toNat : Int), .int .u8 (x.kd.toNat : Int), .string (ofL x.name), .string (ofL x.other), .string (ofL x.key), .slice A x.head.length c, .string (ofL x.body), .int .u64 (x.n : Int), .int .u64 (x.m : Int), .bool x.yes] 25)).alloc (.cells #[.int .u8 0, .int .u8 0, .string ⟨#[]⟩, .string ⟨#[]⟩, .string ⟨#[]⟩, .slice none 0 0, .string ⟨#[]⟩, .int .u64 0, .int .u64 0, .bool false] 29)).alloc (.cells #[.int .u8 (x.ch.toNat : Int), .int .u8 (x.kd.toNat : Int), .string (ofL x.name), .string (ofL x.other), .string (ofL x.key), .slice A x.head.length c, .string (ofL x.body), .int .u64 (x.n : Int), .int .u64 (x.m : Int), .bool x.yes] 29)).alloc (.cells #[] 176)) := (Below.refl _ _).alloc (Nat.le_refl _) _
  have a1 : Below (w.alloc (.cells #[.int .u8 (x.ch.toNat : Int), .int .u8 (x.kd.toNat : Int), .string (ofL x.name), .string (ofL x.other), .string (ofL x.key), .slice A x.head.length c, .string (ofL x.body), .int .u64 (x.n : Int), .int .u64 (x.m : Int), .bool x.yes] 25)).heap.size (w.alloc (.cells #[.int .u8 (x.ch.toNat : Int), .int .u8 (x.kd.toNat : Int), .string (ofL x.name), .string (ofL x.other), .string (ofL x.key), .slice A x.head.length c, .string (ofL x.body), .int .u64 (x.n : Int), .int .u64 (x.m : Int), .bool x.yes] 25)) ((w.alloc (.cells #[.int .u8 (x.ch.toNat : Int), .int .u8 (x.kd.toNat : Int), .string (ofL x.name), .string (ofL x.other), .string (ofL x.key), .slice A x.head.length c, .string (ofL x.body), .int .u64 (x.n : Int), .int .u64 (x.m : Int), .bool x.yes] 25)).alloc (.cells #[.int .u8 0, .int .u8 0, .string ⟨#[]⟩, .string ⟨#[]⟩, .string ⟨#[]⟩, .slice none 0 0, .string ⟨#[]⟩, .int .u64 0, .int .u64 0, .bool false] 29)) := (Below.refl _ _).alloc (Nat.le_refl _) _
  have a0 : Below w.heap.size w (w.alloc (.cells #[.int .u8 (x.ch.toNat : Int), .int .u8 (x.kd.toNat : Int), .string (ofL x.name), .string (ofL x.other), .string (ofL x.key), .slice A x.head.length c, .string (ofL x.body), .int .u64 (x.n : Int), .int .u64 (x.m : Int), .bool x.yes] 25)) := (Below.refl _ _).alloc (Nat.le_refl _) _
  have hB4 : Below w.heap.size w ((((w.alloc (.cells #[.int .u8 (x.ch.toNat : Int), .int .u8 (x.kd.toNat : Int), .string (ofL x.name), .string (ofL x.other), .string (ofL x.key), .slice A x.head.length c, .string (ofL x.body), .int .u64 (x.n : Int), .int .u64 (x.m : Int), .bool x.yes] 25)).alloc (.cells #[.int .u8 0, .int .u8 0, .string ⟨#[]⟩, .string ⟨#[]⟩, .string ⟨#[]⟩, .slice none 0 0, .string ⟨#[]⟩, .int .u64 0, .int .u64 0, .bool false] 29)).alloc (.cells #[.int .u8 (x.ch.toNat : Int), .int .u8 (x.kd.toNat : Int), .string (ofL x.name), .string (ofL x.other), .string (ofL x.key), .slice A x.head.length c, .string (ofL x.body), .int .u64 (x.n : Int), .int .u64 (x.m : Int), .bool x.yes] 29)).alloc (.cells #[] 176)) := bthen (bthen (bthen a0 a1 (Nat.le_refl _)) a2 (Nat.le_refl _)) a3 (Nat.le_refl _)
  have hown4 : ((((w.alloc (.cells #[.int .u8 (x.ch.toNat : Int), .int .u8 (x.kd.toNat : Int), .string (ofL x.name), .string (ofL x.other), .string (ofL x.key), .slice A x.head.length c, .string (ofL x.body), .int .u64 (x.n : Int), .int .u64 (x.m : Int), .bool x.yes] 25)).alloc (.cells #[.int .u8 0, .int .u8 0, .string ⟨#[]⟩, .string ⟨#[]⟩, .string ⟨#[]⟩, .slice none 0 0, .string ⟨#[]⟩, .int .u64 0, .int .u64 0, .bool false] 29)).alloc (.cells #[.int .u8 (x.ch.toNat : Int), .int .u8 (x.kd.toNat : Int), .string (ofL x.name), .string (ofL x.other), .string (ofL x.key), .slice A x.head.length c, .string (ofL x.body), .int .u64 (x.n : Int), .int .u64 (x.m : Int), .bool x.yes] 29)).alloc (.cells #[] 176)).ownsRow (w.heap.size + 1 + 1 + 1) 176 4 (.slice (some ⟨w.heap.size + 1 + 1 + 1, 0, none⟩) 0 0) 0 [] := by
    have := World.ownsRow_made (e := 176) (size := 4) (((w.alloc (.cells #[.int .u8 (x.ch.toNat : Int), .int .u8 (x.kd.toNat : Int), .string (ofL x.name), .string (ofL x.other), .string (ofL x.key), .slice A x.head.length c, .string (ofL x.body), .int .u64 (x.n : Int), .int .u64 (x.m : Int), .bool x.yes] 25)).alloc (.cells #[.int .u8 0, .int .u8 0, .string ⟨#[]⟩, .string ⟨#[]⟩, .string ⟨#[]⟩, .slice none 0 0, .string ⟨#[]⟩, .int .u64 0, .int .u64 0, .bool false] 29)).alloc (.cells #[.int .u8 (x.ch.toNat : Int), .int .u8 (x.kd.toNat : Int), .string (ofL x.name), .string (ofL x.other), .string (ofL x.key), .slice A x.head.length c, .string (ofL x.body), .int .u64 (x.n : Int), .int .u64 (x.m : Int), .bool x.yes] 29)) #[] 0 (Nat.le_refl _) (by unfold maxLen; omega) rfl
    simpa using this
  have hs4 : ((((w.alloc (.cells #[.int .u8 (x.ch.toNat : Int), .int .u8 (x.kd.toNat : Int), .string (ofL x.name), .string (ofL x.other), .string (ofL x.key), .slice A x.head.length c, .string (ofL x.body), .int .u64 (x.n : Int), .int .u64 (x.m : Int), .bool x.yes] 25)).alloc (.cells #[.int .u8 0, .int .u8 0, .string ⟨#[]⟩, .string ⟨#[]⟩, .string ⟨#[]⟩, .slice none 0 0, .string ⟨#[]⟩, .int .u64 0, .int .u64 0, .bool false] 29)).alloc (.cells #[.int .u8 (x.ch.toNat : Int), .int .u8 (x.kd.toNat : Int), .string (ofL x.name), .string (ofL x.other), .string (ofL x.key), .slice A x.head.length c, .string (ofL x.body), .int .u64 (x.n : Int), .int .u64 (x.m : Int), .bool x.yes] 29)).alloc (.cells #[] 176)).heap.size = w.heap.size + 1 + 1 + 1 + 1 := by simp
  obtain ⟨A', c', w5, hrun, hown5, hgr5, hc5, hA5⟩ := copy_run (W := ((((w.alloc (.cells #[.int .u8 (x.ch.toNat : Int), .int .u8 (x.kd.toNat : Int), .string (ofL x.name), .string (ofL x.other), .string (ofL x.key), .slice A x.head.length c, .string (ofL x.body), .int .u64 (x.n : Int), .int .u64 (x.m : Int), .bool x.yes] 25)).alloc (.cells #[.int .u8 0, .int .u8 0, .string ⟨#[]⟩, .string ⟨#[]⟩, .string ⟨#[]⟩, .slice none 0 0, .string ⟨#[]⟩, .int .u64 0, .int .u64 0, .bool false] 29)).alloc (.cells #[.int .u8 (x.ch.toNat : Int), .int .u8 (x.kd.toNat : Int), .string (ofL x.name), .string (ofL x.other), .string (ofL x.key), .slice A x.head.length c, .string (ofL x.body), .int .u64 (x.n : Int), .int .u64 (x.m : Int), .bool x.yes] 29)).alloc (.cells #[] 176))) (l := x.head) (A := A) (c := c) hl hc (hp.on hB4) hown4 (by rw [hs4]; omega)
  rw [hs4] at hA5
  have q1 := (((b1.on a1).on a2).on a3).grown hgr5 (by omega)
  have q2 := ((b2.on a2).on a3).grown hgr5 (by omega)
  have q3 := (b3.on a3).grown hgr5 (by omega)
  have hB5 : Below w.heap.size w w5 := hB4.grown hgr5 (by rw [hs4]; omega) (fun k hk => by cases hk; omega)
  obtain ⟨A2, c2, e2, -, -, hP5⟩ := rown_prs hown5
  obtain ⟨rfl, -, rfl⟩ := Value.slice.inj e2
  have r3 := q3.put 5 (.slice A' x.head.length c') (by simp [meL])
  have r2 := q2.aside (g := w.heap.size + 1 + 1) (by omega) 5 (.slice A' x.head.length c')
  have hP6 := hP5.aside (g := w.heap.size + 1 + 1) (fun a ha => by have := hA5 a ha; omega) 5 (.slice A' x.head.length c')
  have hB6 := hB5.setCell (p := ⟨w.heap.size + 1 + 1, 5, none⟩) (by show w.heap.size ≤ w.heap.size + 1 + 1; omega) (.slice A' x.head.length c')
  have HF := Lib.hid (r2.fill (meL x A' c') rfl)
  have HPF := Lib.hid (Prs.putAll (g := w.heap.size + 1) (fun a ha => by have := hA5 a ha; omega) (meL x A' c') 0 hP6)
  have HBF := Lib.hid (below_putAll (g := w.heap.size + 1) (by omega) (meL x A' c') 0 hB6)
  have HRUN := Lib.hid hrun
  have HC5 := Lib.hid hc5
  have c5 := q3.cs 5 _ rfl
  have cf : ∀ j, w5.frozen? ⟨w.heap.size + 1 + 1, j, none⟩ = false := q3.s
  have cl := q3.lt
  have d0 := r3.cs 0 _ rfl
  have d1 := r3.cs 1 _ rfl
  have d2 := r3.cs 2 _ rfl
  have d3 := r3.cs 3 _ rfl
  have d4 := r3.cs 4 _ rfl
  have d5 := r3.cs 5 _ rfl
  have d6 := r3.cs 6 _ rfl
  have d7 := r3.cs 7 _ rfl
  have d8 := r3.cs 8 _ rfl
  have d9 := r3.cs 9 _ rfl
  have z0 := r2.cs 0 _ rfl
  have z1 := r2.cs 1 _ rfl
  have z2 := r2.cs 2 _ rfl
  have z3 := r2.cs 3 _ rfl
  have z4 := r2.cs 4 _ rfl
  have z5 := r2.cs 5 _ rfl
  have z6 := r2.cs 6 _ rfl
  have z7 := r2.cs 7 _ rfl
  have z8 := r2.cs 8 _ rfl
  have z9 := r2.cs 9 _ rfl
  have zf : ∀ j, (w5.setCell ⟨w.heap.size + 1 + 1, 5, none⟩ (.slice A' x.head.length c')).frozen? ⟨w.heap.size + 1, j, none⟩ = false := r2.s
  have zl := r2.lt
  clear b1 b2 b3 a0 a1 a2 a3 hB4 hown4 hs4 hrun hown5 hgr5 hc5 hA5 q1 q2 q3 hB5 hP5 r3 r2 hP6 hB6 hp e2
  simp only [meV]
  go_enter Tryz.func12, Tryz.ntmps12
  go_wp2_with (first
    | (at_builtin; (refine wpList_append_run (by rfl) _ _ 22 (by rfl) _ _ (by rfl) (by rfl) HRUN.out ?_)))
  have hF := HF.out
  have hPF := HPF.out
  have hBF := HBF.out
  simp only [putAll, meL] at hF hPF hBF
  have g0 := hF.cs 0 _ rfl
  have g1 := hF.cs 1 _ rfl
  have g2 := hF.cs 2 _ rfl
  have g3 := hF.cs 3 _ rfl
  have g4 := hF.cs 4 _ rfl
  have g5 := hF.cs 5 _ rfl
  have g6 := hF.cs 6 _ rfl
  have g7 := hF.cs 7 _ rfl
  have g8 := hF.cs 8 _ rfl
  have g9 := hF.cs 9 _ rfl
  exact bodyPost_ret (v := .agg #[.int .u8 (x.ch.toNat : Int), .int .u8 (x.kd.toNat : Int), .string (ofL x.name), .string (ofL x.other), .string (ofL x.key), .slice A' x.head.length c', .string (ofL x.body), .int .u64 (x.n : Int), .int .u64 (x.m : Int), .bool x.yes]) (by simp [results, Tryz.results12, go_sem, g0, g1, g2, g3, g4, g5, g6, g7, g8, g9]) rfl ⟨A', c', rfl, HC5.out, hPF, hBF⟩
end Go.Proofs.YtnamkglflhkckaaGreatDoor
end
section
namespace Go.Proofs.YtnamkglflhkckaaGreatDoor
open Go.ChangeShapes Go.WideShapes Go.ChangeAt Go.RowKit
theorem info4 : (Tryz.prog.info? 4).map (fun i => (i.zero, i.size, i.bytes)) = some (some (.bool false), 1, 1) := by kernel_rfl
/-- a row of truths in memory -/
def Row (w : World) (g n : Nat) (f : Nat → Bool) : Prop := w.rowIs g 4 n (fun j => .bool (f j))
def upto (k : Nat) (f : Nat → Bool) : Nat → Bool := fun j => decide (j < k) && f j
theorem Row.made (w : World) (n : Nat) (f : Nat → Bool) : Row (w.alloc (.cells (madeCells #[.bool false] n) 4)) w.heap.size n (upto 0 f) :=
  (World.rowIs_made w (.bool false) n 4).congr fun _ _ => by unfold upto; simp
theorem Row.put {w : World} {g n k : Nat} {f : Nat → Bool} (h : Row w g n (upto k f)) {b : Bool} (hb : b = f k) : Row (w.setCell ⟨g, k, none⟩ (.bool b)) g n (upto (k + 1) f) := by
  refine (World.rowIs.set h k (.bool b)).congr fun j _ => ?_
  unfold upto
  by_cases e : j = k
  · rw [if_pos e, hb, e]; simp
  · rw [if_neg e]
    have : decide (j < k + 1) = decide (j < k) := by rw [Bool.eq_iff_iff]; simp; omega
    rw [this]
theorem Row.pass {w : World} {g n k : Nat} {f : Nat → Bool} (h : Row w g n (upto k f)) (hb : f k = false) : Row w g n (upto (k + 1) f) := by
  refine World.rowIs.congr h fun j _ => ?_
  unfold upto
  by_cases e : j = k
  · rw [e, hb]; simp
  · have : decide (j < k + 1) = decide (j < k) := by rw [Bool.eq_iff_iff]; simp; omega
    rw [this]
theorem Row.all {w : World} {g n : Nat} {f : Nat → Bool} (h : Row w g n (upto n f)) : Row w g n f :=
  World.rowIs.congr h fun j hj => by unfold upto; simp [hj]
theorem Row.cell {w : World} {g n : Nat} {f : Nat → Bool} (h : Row w g n f) {j : Nat} (hj : j < n) : w.cell? ⟨g, j, none⟩ = some (.bool (f j)) := World.rowIs.cell h hj
theorem Row.on {w w' : World} {g n B : Nat} {f : Nat → Bool} (h : Row w g n f) (hb : Below B w w') (hg : g < B) : Row w' g n f := World.rowIs.of_block h (hb.block g hg)
theorem Row.lt {w : World} {g n : Nat} {f : Nat → Bool} (h : Row w g n f) : g < w.heap.size := World.rowIs.lt h
theorem Row.free {w : World} {g n : Nat} {f : Nat → Bool} (h : Row w g n f) (j : Nat) : w.frozen? ⟨g, j, none⟩ = false := World.rowIs.frozen h j
theorem upto_at {k j : Nat} (f : Nat → Bool) (h : j < k) : upto k f j = f j := by unfold upto; simp [h]
theorem nx_zero (one : List UInt8) (ws : List (List UInt8)) (f : Nat → Bool) : Wrd.nx one ws f 0 = ((one == Wrd.hash) && f 0) := rfl
theorem nx_succ (one : List UInt8) (ws : List (List UInt8)) (f : Nat → Bool) (j : Nat) (h : j < ws.length) :
    Wrd.nx one ws f (j + 1) = if one == Wrd.hash then f (j + 1) || Wrd.nx one ws f j else f j && (one == Wrd.star || one == ws[j]) := by
  rw [Wrd.nx, List.getD_eq_getElem?_getD, List.getElem?_eq_getElem h]; rfl
/-- the loop's state: so much of the next row is there -/
def NextSt (one : List UInt8) (ws : List (List UInt8)) (f : Nat → Bool) (w : World) (B n g : Nat) (i : Value) (wr : World) : Prop :=
  ∃ k : Nat, k + g = n ∧ i = .int .i64 (k : Int) ∧ Row wr B n (upto k (Wrd.nx one ws f)) ∧ Below B w wr
theorem str_eq (x y : List UInt8) : ((ofL x).toList == (ofL y).toList) = (x == y) := by rw [ofL_str, ofL_str]
set_option maxRecDepth 8000 in
set_option maxHeartbeats 4000000 in
theorem behind_any (one : List UInt8) (ws : List (List UInt8)) (f : Nat → Bool) (p : Option Addr) (cap gb cf : Nat) (w : World) (hws : ws.length ≤ 100000) (hr : Reads w p ws) (hf : Row w gb (ws.length + 1) f) :
    Calls Tryz.prog 196 #[.string (ofL one), .slice p ws.length cap, .slice (some ⟨gb, 0, none⟩) (ws.length + 1 : Nat) cf] w fun e w' =>
      e = .returned (.slice (some ⟨w.heap.size, 0, none⟩) (ws.length + 1 : Nat) (ws.length + 1 : Nat)) ∧ Row w' w.heap.size (ws.length + 1) (Wrd.nx one ws f) ∧ Below w.heap.size w w' := by
  have HR := Lib.hid hr
  have HF := Lib.hid hf
  have HN0 := Lib.hid (nx_zero one ws f)
  have HNS := Lib.hid (fun j h => nx_succ one ws f j h)
  have HM := Lib.hid (Row.made w (ws.length + 1) (Wrd.nx one ws f))
  have HB0 := Lib.hid (show Below w.heap.size w (w.alloc (.cells (madeCells #[.bool false] (ws.length + 1)) 4)) from (Below.refl _ _).alloc (Nat.le_refl _) _)
  obtain ⟨n, hn⟩ : ∃ n, n = ws.length + 1 := ⟨_, rfl⟩
  rw [← hn] at HF HM HB0
  rw [← hn]
  have hn1 : ws.length < n := by omega
  have hn2 : n ≤ ws.length + 1 := by omega
  clear hr hf hn
  have hmk := run_make_row' (P := Tryz.prog) 234 4 (.bool false) 1 Tryz.underlying234 info4 rfl .i64 .i64 n (by omega) (by omega)
  go_enter Tryz.func196, Tryz.ntmps196
  go_wp2_with fail
  go_loopg [14] n (fun g i wr => NextSt one ws f w w.heap.size n g i wr)
  case atStart => exact ⟨0, by omega, rfl, HM.out, HB0.out⟩
  case round =>
    obtain ⟨k, hk, rfl, hrow, hB⟩ := hrel
    have HROW := Lib.hid hrow
    have HB := Lib.hid hB
    have HFR := Lib.hid (HF.out.on hB HF.out.lt)
    have HRR := Lib.hid (HR.out.on hB)
    clear hrow hB
    by_cases hlt : k < n
    · have hfz := HROW.out.free k
      have hck := HROW.out.cell hlt
      cases h35 : one == Wrd.hash with
      | true =>
        have e35 : ((ofL one).toList == [35]) = true := by rw [ofL_str]; exact h35
        have hcf := HFR.out.cell hlt
        cases k with
        | zero =>
          have HV := Lib.hid (show f 0 = Wrd.nx one ws f 0 by rw [HN0.out, h35]; rfl)
          clear h35
          cases hb : f 0 with
          | true =>
            rw [hb] at HV hcf
            clear hb
            go_wp2_with fail
            go_roundg (gk - 1)
            case rel => exact ⟨0 + 1, by omega, by go_num, HROW.out.put HV.out, HB.out.setCell (Nat.le_refl _) _⟩
            case measure => omega
          | false =>
            rw [hb] at HV hcf
            clear hb
            go_wp2_with fail
            go_roundg (gk - 1)
            case rel => exact ⟨0 + 1, by omega, by go_num, HROW.out.put HV.out, HB.out.setCell (Nat.le_refl _) _⟩
            case measure => omega
        | succ j =>
          have hjw : j < ws.length := by omega
          have HV := Lib.hid (show (f (j + 1) || Wrd.nx one ws f j) = Wrd.nx one ws f (j + 1) by rw [HNS.out j hjw, if_pos h35])
          have hcn := HROW.out.cell (j := j) (by omega)
          rw [upto_at _ (Nat.lt_succ_self j)] at hcn
          clear h35
          cases hb : f (j + 1) with
          | true =>
            rw [hb] at HV hcf
            clear hb
            go_wp2_with fail
            go_roundg (gk - 1)
            case rel => exact ⟨j + 1 + 1, by omega, by go_num, HROW.out.put (by have := HV.out; rw [Bool.true_or] at this; exact this), HB.out.setCell (Nat.le_refl _) _⟩
            case measure => omega
          | false =>
            rw [hb] at HV hcf
            clear hb
            generalize Wrd.nx one ws f j = c at hcn HV
            go_wp2_with fail
            go_roundg (gk - 1)
            case rel => exact ⟨j + 1 + 1, by omega, by go_num, HROW.out.put (by have := HV.out; rw [Bool.false_or] at this; exact this), HB.out.setCell (Nat.le_refl _) _⟩
            case measure => omega
      | false =>
        have e35 : ((ofL one).toList == [35]) = false := by rw [ofL_str]; exact h35
        cases k with
        | zero =>
          have HV := Lib.hid (show Wrd.nx one ws f 0 = false by rw [HN0.out, h35]; rfl)
          clear h35
          go_wp2_with fail
          go_roundg (gk - 1)
          case rel => exact ⟨0 + 1, by omega, by go_num, HROW.out.pass HV.out, HB.out⟩
          case measure => omega
        | succ j =>
          have hjw : j < ws.length := by omega
          have HV := Lib.hid (show (f j && (one == Wrd.star || one == ws[j])) = Wrd.nx one ws f (j + 1) by rw [HNS.out j hjw, if_neg (by rw [h35]; simp)])
          have hcf := HFR.out.cell (j := j) (by omega)
          obtain ⟨gp, rfl, hcw⟩ := HRR.out j hjw
          clear h35
          cases hb : f j with
          | false =>
            rw [hb] at HV hcf
            clear hb
            go_wp2_with fail
            go_roundg (gk - 1)
            case rel => exact ⟨j + 1 + 1, by omega, by go_num, HROW.out.put (by have := HV.out; rw [Bool.false_and] at this; exact this), HB.out.setCell (Nat.le_refl _) _⟩
            case measure => omega
          | true =>
            rw [hb, Bool.true_and] at HV
            rw [hb] at hcf
            clear hb
            cases h42 : one == Wrd.star with
            | true =>
              have e42 : ((ofL one).toList == [42]) = true := by rw [ofL_str]; exact h42
              rw [h42, Bool.true_or] at HV
              clear h42
              go_wp2_with fail
              go_roundg (gk - 1)
              case rel => exact ⟨j + 1 + 1, by omega, by go_num, HROW.out.put HV.out, HB.out.setCell (Nat.le_refl _) _⟩
              case measure => omega
            | false =>
              have e42 : ((ofL one).toList == [42]) = false := by rw [ofL_str]; exact h42
              rw [h42, Bool.false_or] at HV
              clear h42
              cases hq : one == ws[j] with
              | true =>
                have eq1 : ((ofL one).toList == (ofL ws[j]).toList) = true := by rw [str_eq]; exact hq
                rw [hq] at HV
                clear hq
                go_wp2_with fail
                go_roundg (gk - 1)
                case rel => exact ⟨j + 1 + 1, by omega, by go_num, HROW.out.put HV.out, HB.out.setCell (Nat.le_refl _) _⟩
                case measure => omega
              | false =>
                have eq1 : ((ofL one).toList == (ofL ws[j]).toList) = false := by rw [str_eq]; exact hq
                rw [hq] at HV
                clear hq
                go_wp2_with fail
                go_roundg (gk - 1)
                case rel => exact ⟨j + 1 + 1, by omega, by go_num, HROW.out.put HV.out, HB.out.setCell (Nat.le_refl _) _⟩
                case measure => omega
    · have hkn : k = n := by omega
      have HD := Lib.hid (show Row wr w.heap.size n (Wrd.nx one ws f) from Row.all (by have := HROW.out; rw [hkn] at this; exact this))
      clear hkn
      go_wp2_with fail
      go_ret
      exact ⟨rfl, HD.out, HB.out⟩
end Go.Proofs.YtnamkglflhkckaaGreatDoor
end
section
namespace Go.Proofs.YtnamkglflhkckaaGreatDoor
open Go.ChangeShapes Go.WideShapes Go.ChangeAt Go.RowKit
def made0 (n : Nat) : Obj := .cells ((madeCells #[.bool false] n).setIfInBounds 0 (.bool true)) 4
theorem row_start (w : World) (n : Nat) (ks : List (List UInt8)) : Row (w.alloc (made0 n)) w.heap.size n (Wrd.row ks []) := by
  have hs : ((madeCells #[Value.bool false] n).setIfInBounds 0 (.bool true)).size = n := by rw [Array.size_setIfInBounds, size_madeCells]
  have := World.rowIs_alloc w ((madeCells #[Value.bool false] n).setIfInBounds 0 (.bool true)) 4 (fun j => .bool (Wrd.row ks [] j)) (fun i hi => by
    rw [hs] at hi
    rw [Array.getElem?_setIfInBounds]
    cases i with
    | zero => rw [if_pos rfl, if_pos (by rw [size_madeCells]; exact hi)]; rfl
    | succ i => rw [if_neg (by omega)]; simp [madeCells, hi, Nat.mod_one, Wrd.row])
  rw [hs] at this
  exact this
theorem start_below {w w1 : World} {B n : Nat} (h : Below B w w1) (hB : B ≤ w1.heap.size) : Below B w (w1.alloc (made0 n)) := h.alloc hB _
theorem start_cell (w1 : World) (n : Nat) (hn : 0 < n) : (w1.alloc (.cells (madeCells #[.bool false] n) 4)).cell? ⟨w1.heap.size, 0, none⟩ = some (.bool false) := by
  have := (Row.made w1 n (fun _ => false)).cell (j := 0) hn
  exact this
theorem start_free (w1 : World) (n : Nat) : (w1.alloc (.cells (madeCells #[.bool false] n) 4)).frozen? ⟨w1.heap.size, 0, none⟩ = false := (Row.made w1 n (fun _ => false)).free 0
theorem behind_n (one : List UInt8) (ws : List (List UInt8)) (f : Nat → Bool) (p : Option Addr) (cap gb cf n : Nat) (hn : n = ws.length + 1) (w : World) (hws : ws.length ≤ 100000) (hr : Reads w p ws) (hf : Row w gb n f) :
    Calls Tryz.prog 196 #[.string (ofL one), .slice p ws.length cap, .slice (some ⟨gb, 0, none⟩) n cf] w fun e w' =>
      e = .returned (.slice (some ⟨w.heap.size, 0, none⟩) n n) ∧ Row w' w.heap.size n (Wrd.nx one ws f) ∧ Below w.heap.size w w' := by
  subst hn
  exact behind_any one ws f p cap gb cf w hws hr hf
/-- the row behind the first k words -/
def RowSt (ps ks : List (List UInt8)) (w : World) (n g : Nat) (o i : Value) (wr : World) : Prop :=
  ∃ k gb : Nat, k + g = ps.length ∧ i = .int .i64 (k : Int) ∧ o = .slice (some ⟨gb, 0, none⟩) n n ∧ Row wr gb n (Wrd.row ks (ps.take k).reverse) ∧ Below w.heap.size w wr
theorem row_next (ps ks : List (List UInt8)) (k : Nat) (h : k < ps.length) : Wrd.nx ps[k] ks (Wrd.row ks (ps.take k).reverse) = Wrd.row ks (ps.take (k + 1)).reverse := by
  rw [List.take_succ_eq_append_getElem h, List.reverse_append]; rfl
theorem row_end {ps ks : List (List UInt8)} {k : Nat} (h : k = ps.length) : Wrd.row ks (ps.take k).reverse ks.length = Wrd.matches' ps ks := by
  rw [h, List.take_length, Wrd.row_all]
set_option maxRecDepth 8000 in
set_option maxHeartbeats 4000000 in
theorem matches_any (pt ky : List UInt8) (w : World) (hp : pt.length ≤ 99999) (hk : ky.length ≤ 99999) (hL : Len w) :
    Calls Tryz.prog 185 #[.string (ofL pt), .string (ofL ky)] w fun e w' => e = .returned (.bool (Wrd.matches' (Wrd.words pt) (Wrd.words ky))) ∧ Below w.heap.size w w' := by
  have HS1 := Lib.hid (split_any ky w (by omega) hL)
  have HS2 := Lib.hid (fun W h => split_any pt W (by omega) h)
  have HL := Lib.hid hL
  have hkl := Wrd.words_len ky
  have hpl := Wrd.words_len pt
  have HEND := Lib.hid (fun k h => row_end (ps := Wrd.words pt) (ks := Wrd.words ky) (k := k) h)
  generalize Wrd.words ky = ks at *
  generalize Wrd.words pt = ps at *
  generalize Wrd.matches' ps ks = M at *
  generalize ofL ky = sk at *
  generalize ofL pt = sp at *
  obtain ⟨n, hn⟩ : ∃ n, n = ks.length + 1 := ⟨_, rfl⟩
  have HNN := Lib.hid hn
  have hn1 : ks.length < n := by omega
  have hn2 : n ≤ ks.length + 1 := by omega
  have hmk : ∀ w : World, Sem.run Tryz.prog (Instr.makeSlice 234 (.int .i64 ((ks.length : Int) + 1)) (.int .i64 ((ks.length : Int) + 1))) w = .ok (.slice (some ⟨w.heap.size, 0, none⟩) n n) (w.alloc (.cells (madeCells #[.bool false] n) 4)) := by
    intro W
    have := run_make_row' (P := Tryz.prog) 234 4 (.bool false) 1 Tryz.underlying234 info4 rfl .i64 .i64 n (by omega) (by omega) W
    rw [← this]
    have e : ((ks.length : Int) + 1) = (n : Int) := by omega
    rw [e]
  clear hn hL
  go_enter Tryz.func185, Tryz.ntmps185
  go_wp2_with fail
  refine HS1.out.mono ?_
  rintro e w1 ⟨v, rfl, hown, hB⟩
  obtain ⟨q, cq, rfl, hq⟩ := reads_own hown
  have HQ := Lib.hid hq
  have HB1 := Lib.hid hB
  have HL1 := Lib.hid (HL.out.on hB)
  clear hown hB hq
  have HBS := Lib.hid (start_below (n := n) (Below.refl w1.heap.size w1) (Nat.le_refl _))
  have HRS := Lib.hid (row_start w1 n ks)
  have HLS := Lib.hid (HL1.out.on HBS.out)
  have HQS := Lib.hid (HQ.out.on HBS.out)
  have HBW := Lib.hid (start_below (n := n) HB1.out HB1.out.size)
  have HS3 := HS2.out _ HLS.out
  unfold made0 at HS3 HBS HRS HLS HQS HBW
  have HS4 := Lib.hid HS3
  clear HS3 HS2
  have hc0 := start_cell w1 n (by omega)
  have hf0 := start_free w1 n
  go_wp2_with fail
  clear hc0 hf0
  generalize hW : w1.alloc (Obj.cells ((madeCells #[Value.bool false] n).setIfInBounds 0 (Value.bool true)) 4) = w2 at *
  clear hW
  refine HS4.out.mono ?_
  rintro e w3 ⟨v, rfl, hown, hB⟩
  obtain ⟨pp, cp, rfl, hpp⟩ := reads_own hown
  have HP := Lib.hid hpp
  have HR3 := Lib.hid (HRS.out.on hB HRS.out.lt)
  have HQ3 := Lib.hid (HQS.out.on hB)
  have HB3 := Lib.hid (HBW.out.trans (hB.mono HBW.out.size))
  clear hown hB hpp
  generalize w1.heap.size = g1 at *
  go_wp2_with fail
  go_loopg [6, 20] ps.length (fun g o i wr => RowSt ps ks w3 n g o i wr)
  case atStart => exact ⟨0, g1, by omega, rfl, rfl, by rw [List.take_zero]; exact HR3.out, Below.refl _ _⟩
  case round =>
    obtain ⟨k, gb, hk, rfl, rfl, hrow, hB⟩ := hrel
    have HROW := Lib.hid hrow
    have HBR := Lib.hid hB
    have HPR := Lib.hid (HP.out.on hB)
    have HQR := Lib.hid (HQ3.out.on hB)
    clear hrow hB
    by_cases hlt : k < ps.length
    · obtain ⟨gp, rfl, hcp⟩ := HPR.out k hlt
      have HBH := Lib.hid (behind_n ps[k] ks _ q cq gb n n HNN.out wr (by omega) HQR.out HROW.out)
      have HNX := Lib.hid (row_next ps ks k hlt)
      generalize ps[k] = one at *
      go_wp2_with fail
      refine HBH.out.mono ?_
      rintro e w4 ⟨rfl, hrow4, hB4⟩
      have HROW4 := Lib.hid hrow4
      have HB4 := Lib.hid hB4
      clear hrow4 hB4
      go_wp2_with fail
      go_roundg (gk - 1)
      case rel => exact ⟨k + 1, _, by omega, by go_num, rfl, by have := HROW4.out; rw [HNX.out] at this; exact this, HBR.out.trans (HB4.out.mono HBR.out.size)⟩
      case measure => omega
    · have hkl : k = ps.length := by omega
      have HE := Lib.hid (HEND.out k hkl)
      have hcl := HROW.out.cell hn1
      rw [HE.out] at hcl
      clear hkl
      go_wp2_with fail
      go_ret
      exact ⟨rfl, HB3.out.trans (HBR.out.mono HB3.out.size)⟩
end Go.Proofs.YtnamkglflhkckaaGreatDoor
end
