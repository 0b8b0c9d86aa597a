/-
  TO WHICH QUEUES AND PLACES, the document's: walked. What is done to the program's book and the document's: boxes, and what holds. ACTS THAT COME IN; which of them are gone through: walked. ROWS OF NAMES held against each other; the chapter's example: walked. THE CHAPTER'S EXAMPLE: walked.
-/
import Derived.Test.YtgaggelpjaiabaaGreatDoorSp14
import Derived.Test.YtgaggelpjaiabaaGreatDoorSp39
import Derived.Test.YtgaggelpjaiabaaGreatDoorSp40

section
namespace Go.Proofs.YtgaggelpjaiabaaGreatDoor
open Go.ChangeShapes Go.WideShapes Go.ChangeAt Go.RowKit
/-- the two rows of names, so far -/
structure Lq (s : Sh) (key : List UInt8) (h : List Hd.Pr) (l : List Bd) (w2 : World) (k : Nat) (A : Option Addr) (c : Nat) (B : Option Addr) (d : Nat) (ql pl : List (List UInt8)) (wr : World) : Prop where
  eq : ql = Bk.lead s false key h (l.take k)
  ep : pl = Bk.lead s true key h (l.take k)
  oq : wr.ownsRow w2.heap.size 9 1 (.slice A ql.length c) ql.length (sts ql)
  op : wr.ownsRow w2.heap.size 9 1 (.slice B pl.length d) pl.length (sts pl)
  ne : (Value.slice A ql.length c).ownBlock = none ∨ (Value.slice A ql.length c).ownBlock ≠ (Value.slice B pl.length d).ownBlock
  B : Below w2.heap.size w2 wr
theorem Lq.on {s : Sh} {key : List UInt8} {h : List Hd.Pr} {l : List Bd} {w2 : World} {k : Nat} {A : Option Addr} {c : Nat} {B : Option Addr} {d : Nat} {ql pl : List (List UInt8)} {wr W : World} (H : Lq s key h l w2 k A c B d ql pl wr) (hb : Below wr.heap.size wr W) : Lq s key h l w2 k A c B d ql pl W :=
  ⟨H.eq, H.ep, Rw.own_on H.oq hb, Rw.own_on H.op hb, H.ne, bthen H.B hb (Nat.le_refl _)⟩
end Go.Proofs.YtgaggelpjaiabaaGreatDoor
end
section
namespace Go.Proofs.YtgaggelpjaiabaaGreatDoor
open Go.ChangeShapes Go.WideShapes Go.ChangeAt Go.RowKit
namespace Bk
/-- what an act does -/
def act (k : Nat) (s : Sh) (x : Bd) (b : Bk) : Bk × Nat := if k % 5 = 0 then b.make s else if k % 5 = 1 then b.drop s.name else if k % 5 = 2 then b.bind x else if k % 5 = 3 then b.unbind x else (b.forget x.to, 0)
theorem Ok.act {b : Bk} (h : Ok b) (k : Nat) (s : Sh) (x : Bd) : Ok (b.act k s x).1 := by
  unfold Bk.act
  split
  · exact h.make s
  · split
    · exact h.drop _
    · split
      · exact h.bind x
      · split
        · exact h.unbind x
        · exact h.forget _
end Bk
def actL (k : Nat) (s : Sh) (x : Bd) (Ax : Option Addr) (cx : Nat) : List Value := [.int .u8 (k : Int), .string (ofL s.name), .int .u8 (s.sort : Int), .string (ofL s.to), .string (ofL x.shop), .string (ofL x.to), .bool x.up, .string (ofL x.key), .slice Ax x.want.length cx, .bool x.all]
/-- five boxes of one's own, and that nothing older has changed -/
structure Dn (w : World) (X Y V : List Value) (W : World) : Prop where
  bx : BoxC w w.heap.size X W
  bs : BoxC w (w.heap.size + 1) Y W
  ba : BoxC w (w.heap.size + 2) V W
  r1 : BoxC w (w.heap.size + 3) [.slice none 0 0, .slice none 0 0] W
  r2 : BoxC w (w.heap.size + 4) [.slice none 0 0, .slice none 0 0] W
  B : Below w.heap.size w W
  n : w.heap.size + 5 ≤ W.heap.size
theorem Dn.on {w W W' : World} {X Y V : List Value} (h : Dn w X Y V W) (hb : Below W.heap.size W W') : Dn w X Y V W' := ⟨h.bx.on hb, h.bs.on hb, h.ba.on hb, h.r1.on hb, h.r2.on hb, bthen h.B hb (Nat.le_refl _), Nat.le_trans h.n hb.size⟩
theorem dnAt (w : World) (o o' o'' : Obj) (c : Array Value) (t : TypeId) : BoxC w (w.heap.size + 3) c.toList ((((w.alloc o).alloc o').alloc o'').alloc (.cells c t)) := by
  have := BoxC.new (w := w) (W := ((w.alloc o).alloc o').alloc o'') (by simp; omega) c t
  rwa [show (((w.alloc o).alloc o').alloc o'').heap.size = w.heap.size + 3 by simp] at this
theorem dnAt4 (w : World) (o o' o'' o3 : Obj) (c : Array Value) (t : TypeId) : BoxC w (w.heap.size + 4) c.toList (((((w.alloc o).alloc o').alloc o'').alloc o3).alloc (.cells c t)) := by
  have := BoxC.new (w := w) (W := (((w.alloc o).alloc o').alloc o'').alloc o3) (by simp; omega) c t
  rwa [show ((((w.alloc o).alloc o').alloc o'').alloc o3).heap.size = w.heap.size + 4 by simp] at this
theorem Dn.new (w : World) (X Y V : Array Value) (t t' t'' t3 t4 : TypeId) : Dn w X.toList Y.toList V.toList (((((w.alloc (.cells X t)).alloc (.cells Y t')).alloc (.cells V t'')).alloc (.cells #[.slice none 0 0, .slice none 0 0] t3)).alloc (.cells #[.slice none 0 0, .slice none 0 0] t4)) :=
  ⟨rtNext (rtNext (rtNext (rtNext (rtAt0 w X t) _) _) _) _, rtNext (rtNext (rtNext (rtAt1 w _ Y t') _) _) _, rtNext (rtNext (rtAt2 w _ _ V t'') _) _, rtNext (dnAt w _ _ _ #[.slice none 0 0, .slice none 0 0] t3) _, dnAt4 w _ _ _ _ #[.slice none 0 0, .slice none 0 0] t4, ((rtThree w _ _ _).alloc (by simp; omega) _).alloc (by simp; omega) _, by simp⟩
/-- a book elsewhere than in the boxes -/
structure BkD (U : Nat → Prop) (w : World) (W : World) (A : Option Addr) (c : Nat) (B : Option Addr) (d : Nat) (b : Bk) (ps : List Bp) : Prop where
  at_ : BkAt W A c B d b ps
  u : BkU (fun g => (U g ∧ g < w.heap.size) ∨ w.heap.size + 5 ≤ g) W A B ps
theorem BkD.on {U : Nat → Prop} {w W W' : World} {A : Option Addr} {c : Nat} {B : Option Addr} {d : Nat} {b : Bk} {ps : List Bp} (h : BkD U w W A c B d b ps) (hb : Below W.heap.size W W') : BkD U w W' A c B d b ps := ⟨h.at_.on hb, h.u.on hb.size⟩
theorem BkD.put {U : Nat → Prop} {w W : World} {A : Option Addr} {c : Nat} {B : Option Addr} {d : Nat} {b : Bk} {ps : List Bp} (h : BkD U w W A c B d b ps) {g : Nat} (h1 : w.heap.size ≤ g) (h2 : g < w.heap.size + 5) (j : Nat) (v : Value) : BkD U w (W.setCell ⟨g, j, none⟩ v) A c B d b ps :=
  ⟨h.at_.put h.u (by rintro (⟨-, h⟩ | h) <;> omega) j v, h.u.put g j v⟩
theorem BkD.of {U : Nat → Prop} {w W w1 : World} {A : Option Addr} {c : Nat} {B : Option Addr} {d : Nat} {b : Bk} {ps : List Bp} (h1 : BkAt W A c B d b ps) (h2 : BkU (fun g => ((U g ∧ g < w.heap.size) ∨ w.heap.size + 5 ≤ g) ∨ w1.heap.size ≤ g) W A B ps) (hw : w.heap.size + 5 ≤ w1.heap.size) : BkD U w W A c B d b ps :=
  ⟨h1, h2.mono (fun g h => by rcases h with h | h; exact h; exact .inr (by omega))⟩
theorem BkD.fin {U : Nat → Prop} {w W : World} {A : Option Addr} {c : Nat} {B : Option Addr} {d : Nat} {b : Bk} {ps : List Bp} (h : BkD U w W A c B d b ps) : BkU (fun g => U g ∨ w.heap.size ≤ g) W A B ps := h.u.mono (fun g h => by rcases h with ⟨h, -⟩ | h; exact .inl h; exact .inr (by omega))
end Go.Proofs.YtgaggelpjaiabaaGreatDoor
end
section
namespace Go.Proofs.YtgaggelpjaiabaaGreatDoor
open Go.ChangeShapes Go.WideShapes Go.ChangeAt Go.RowKit
structure RaP where
  k : Nat
  s : Sh
  x : Bd
  A : Option Addr
  c : Nat
def raL (p : RaP) : List Value := actL p.k p.s p.x p.A p.c
/-- an act that came in -/
structure RaIn (w : World) (p : RaP) : Prop where
  row : Prs w p.A p.x.want
  cap : p.x.want.length ≤ p.c
  big : p.x.want.length ≤ 9223372036854775807
  s : p.s.sort < 256
  k : p.k < 256
theorem RaIn.on {w w' : World} {p : RaP} (h : RaIn w p) (hb : Below w.heap.size w w') : RaIn w' p := ⟨h.row.on hb, h.cap, h.big, h.s, h.k⟩
structure Ras (w : World) (A : Option Addr) (l : List RaP) : Prop where
  row : Rws w A (l.flatMap raL)
  h : ∀ p ∈ l, RaIn w p
theorem Ras.on {w w' : World} {A : Option Addr} {l : List RaP} (h : Ras w A l) (hb : Below w.heap.size w w') : Ras w' A l := ⟨Rws.on h.row hb, fun p hp => (h.h p hp).on hb⟩
structure RaFew (p : RaP) : Prop where
  s1 : p.s.name.length ≤ 40
  s2 : p.s.to.length ≤ 40
  b1 : p.x.shop.length ≤ 40
  b2 : p.x.to.length ≤ 40
  key : p.x.key.length ≤ 100
  want : lightB p.x.want = true
theorem RaFew.ok {w : World} {p : RaP} (h : RaFew p) (hi : RaIn w p) : BdOk w p.x p.A p.c := by
  obtain ⟨h1, h2, -⟩ := light_lite h.want
  exact ⟨by have := h.b1; omega, by have := h.b2; omega, by have := h.key; omega, by omega, hi.cap, h2, hi.row⟩
end Go.Proofs.YtgaggelpjaiabaaGreatDoor
end
section
namespace Go.Proofs.YtgaggelpjaiabaaGreatDoor
open Go.ChangeShapes Go.WideShapes Go.ChangeAt Go.RowKit
theorem st_getD {l : List (List UInt8)} {k : Nat} (h : k < l.length) : l[k] = l.getD k [] := by rw [List.getD_eq_getElem?_getD, List.getElem?_eq_getElem h]; rfl
theorem st_not {l m : List (List UInt8)} {k : Nat} (h : (l.getD k [] == m.getD k []) = false) : decide (l = m) = false := decide_eq_false fun e => by
  subst e
  simp at h
theorem st_yes {l m : List (List UInt8)} (h : l.length = m.length) (g : ∀ j, j < l.length → (l.getD j [] == m.getD j []) = true) : decide (l = m) = true := decide_eq_true (by
  refine List.ext_getElem h fun i h1 h2 => ?_
  have := g i h1
  rw [← st_getD h1, ← st_getD h2] at this
  simpa using this)
set_option maxHeartbeats 2000000 in
theorem eqS_any (l m : List (List UInt8)) (A : Option Addr) (c : Nat) (B : Option Addr) (d : Nat) (w : World) (hl : l.length ≤ 100000) (hm : m.length ≤ 100000) (hA : Rws w A (sts l)) (hB : Rws w B (sts m)) :
    Calls Tryz.prog 207 #[.slice A l.length c, .slice B m.length d] w fun e w' => e = .returned (.bool (decide (l = m))) ∧ Below w.heap.size w w' := by
  have HA := Lib.hid hA
  have HB := Lib.hid hB
  have HNE := Lib.hid (show l.length ≠ m.length → decide (l = m) = false from fun h => decide_eq_false fun e => h (by rw [e]))
  have HNO := Lib.hid (fun k h => st_not (l := l) (m := m) (k := k) h)
  have HYES := Lib.hid (fun h g => st_yes (l := l) (m := m) h g)
  clear hA hB
  generalize decide (l = m) = M at *
  obtain ⟨n, hn⟩ : ∃ n, n = l.length := ⟨_, rfl⟩
  obtain ⟨o, ho⟩ : ∃ o, o = m.length := ⟨_, rfl⟩
  rw [← hn, ← ho]
  have HN := Lib.hid hn
  have HO := Lib.hid ho
  have hnl : n ≤ 100000 := by omega
  have hol : o ≤ 100000 := by omega
  clear hn ho
  by_cases hlen : n = o
  · have HLEN := Lib.hid hlen
    have hlen2 : ((n : Int) != (o : Int)) = false := by rw [hlen]; simp
    go_enter Tryz.func207, Tryz.ntmps207
    go_wp2_with fail
    clear hlen hlen2
    go_loopg [13] n (fun g i wr => ∃ k : Nat, k + g = n ∧ i = .int .i64 (k : Int) ∧ (∀ j, j < k → (l.getD j [] == m.getD j []) = true) ∧ Below w.heap.size w wr)
    case atStart => exact ⟨0, by omega, rfl, fun j hj => absurd hj (by omega), Below.refl _ _⟩
    case round =>
      obtain ⟨k, hk, rfl, hno, hBl⟩ := hrel
      have HBL := Lib.hid hBl
      have HALL := Lib.hid hno
      clear hBl hno
      by_cases hlt : k < n
      · obtain ⟨b, off, rfl, hbl, c0⟩ := sts_get (Rws.on HA.out HBL.out) (show k < l.length by have := HN.out; omega)
        obtain ⟨b2, off2, rfl, hbl2, d0⟩ := sts_get (Rws.on HB.out HBL.out) (show k < m.length by have := HLEN.out; have := HO.out; omega)
        rw [st_getD] at c0 d0
        have hlt2 : k < o := by have := HLEN.out; omega
        have hq := str_same (l.getD k []) (m.getD k [])
        cases he : l.getD k [] == m.getD k [] with
        | true =>
          have HNEXT : Hid (∀ j, j < k + 1 → (l.getD j [] == m.getD j []) = true) := fun j hj => by
            by_cases e : j = k
            · rw [e]; exact he
            · exact HALL.out j (by omega)
          rw [he] at hq
          have hq2 : ((ofL (l.getD k [])).toList != (ofL (m.getD k [])).toList) = false := by rw [bne, hq]; rfl
          clear he
          generalize l.getD k [] = x at *
          generalize m.getD k [] = y at *
          go_wp2_with fail
          go_quiet (fail)
          go_wp2_with fail
          go_roundg (gk - 1)
          case rel => exact ⟨k + 1, by omega, by go_num, HNEXT.out, drewN_below HBL.out _⟩
          case measure => omega
        | false =>
          have HM := Lib.hid (HNO.out k he)
          rw [he] at hq
          have hq2 : ((ofL (l.getD k [])).toList != (ofL (m.getD k [])).toList) = true := by rw [bne, hq]; rfl
          clear he
          generalize l.getD k [] = x at *
          generalize m.getD k [] = y at *
          go_wp2_with fail
          go_quiet (fail)
          go_wp2_with fail
          go_ret
          exact ⟨ret_bool HM.out.symm, drewN_below HBL.out _⟩
      · have HM := Lib.hid (HYES.out (by have := HLEN.out; have := HN.out; have := HO.out; omega) (fun j hj => HALL.out j (by have := HN.out; omega)))
        have hlt2 : ¬ k < o := by have := HLEN.out; omega
        go_wp2_with fail
        go_ret
        exact ⟨ret_bool HM.out.symm, HBL.out⟩
  · have HM := Lib.hid (HNE.out (by have := HN.out; have := HO.out; omega))
    have hlen2 : ((n : Int) != (o : Int)) = true := by rw [bne_iff_ne]; omega
    clear hlen
    go_enter Tryz.func207, Tryz.ntmps207
    go_wp2_with fail
    go_ret
    exact ⟨ret_bool HM.out.symm, Below.refl _ _⟩
theorem rt_law10_any (w : World) (hL : Len w) : Calls Tryz.prog 68 #[] w fun e w' => e = .returned (.bool true) ∧ Below w.heap.size w w' := by
  have HE := Lib.hid (awake10_any w hL)
  clear hL
  go_enter Tryz.func68, Tryz.ntmps68
  go_wp2_with fail
  refine HE.out.mono ?_
  rintro e w1 ⟨rfl, b1⟩
  have HB1 := Lib.hid b1
  clear b1
  go_wp2_with fail
  go_ret
  exact ⟨rfl, HB1.out⟩
namespace Bk
def exS : Sh := ⟨[97], 1, []⟩
def exX : Bd := ⟨[97], [113], false, [], [], false⟩
def exY : Bd := ⟨[97], [113], false, [120], [], false⟩
def ex1 : Bk := ⟨[exS], []⟩
def ex2 : Bk := ⟨[exS], [exX]⟩
def ex3 : Bk := ⟨[exS], [exX, exY]⟩
theorem ex_1 : empty.make exS = (ex1, 0) := by decide
theorem ex_2 : ex1.bind exX = (ex2, 0) := by decide
theorem ex_3 : ex2.bind exY = (ex3, 0) := by decide
theorem ex_ok1 : Ok ex1 := by have := Ok.empty.make exS; rw [ex_1] at this; exact this
theorem ex_ok2 : Ok ex2 := by have := ex_ok1.bind exX; rw [ex_2] at this; exact this
end Bk
theorem ex_bdOk (w : World) (x : Bd) (hx : x = Bk.exX ∨ x = Bk.exY) : BdOk w x none 0 := by
  rcases hx with rfl | rfl
  · exact ⟨by decide, by decide, by decide, by decide, by decide, lite_nil, Prs.nil _ _⟩
  · exact ⟨by decide, by decide, by decide, by decide, by decide, lite_nil, Prs.nil _ _⟩
theorem exl_q : Bk.qs Bk.ex3 [97] [] [] = [[113]] := by decide
theorem exl_p : Bk.pls Bk.ex3 [97] [] [] = [] := by decide
theorem exl_c : Bk.lcode Bk.ex3 [97] = 0 := by decide
theorem ex_make (w : World) : Calls Tryz.prog 204 #[.agg #[.slice none 0 0, .slice none 0 0], .agg #[.string ⟨#[97]⟩, .int .u8 1, .string ⟨#[]⟩]] w fun e w' => ∃ A c B d ps, e = .returned (.tuple #[.agg #[.slice A 1 c, .slice B 0 d], .int .i64 0]) ∧ BkAt w' A c B d Bk.ex1 ps ∧ BkU (fun g => w.heap.size ≤ g) w' A B ps ∧ Below w.heap.size w w' := by
  have h := rtMake_any Bk.empty none 0 none 0 [] Bk.exS w (fun _ => False) Bk.Ok.empty (by decide) (by decide) (BkAt.nil w) (BkU.nil _ w)
  rw [Bk.ex_1] at h
  refine h.mono ?_
  rintro e w' ⟨A, c, B, d, ps, rfl, h1, h2, h3⟩
  exact ⟨A, c, B, d, ps, rfl, h1, h2.mono (fun g h => h.elim False.elim id), h3⟩
theorem ex_bind1 (w : World) (A : Option Addr) (c : Nat) (B : Option Addr) (d : Nat) (ps : List Bp) (U : Nat → Prop) (h1 : BkAt w A c B d Bk.ex1 ps) (h2 : BkU U w A B ps) (hL : Len w) : Calls Tryz.prog 205 #[.agg #[.slice A 1 c, .slice B 0 d], .agg #[.string ⟨#[97]⟩, .string ⟨#[113]⟩, .bool false, .string ⟨#[]⟩, .slice none 0 0, .bool false]] w fun e w' => ∃ A c B d ps, e = .returned (.tuple #[.agg #[.slice A 1 c, .slice B 1 d], .int .i64 0]) ∧ BkAt w' A c B d Bk.ex2 ps ∧ BkU (fun g => U g ∨ w.heap.size ≤ g) w' A B ps ∧ Below w.heap.size w w' := by
  have h := rtBind_any Bk.ex1 A c B d ps Bk.exX none 0 w U Bk.ex_ok1 h1 h2 (ex_bdOk w _ (.inl rfl)) hL
  rw [Bk.ex_2] at h
  exact h
theorem ex_bind2 (w : World) (A : Option Addr) (c : Nat) (B : Option Addr) (d : Nat) (ps : List Bp) (U : Nat → Prop) (h1 : BkAt w A c B d Bk.ex2 ps) (h2 : BkU U w A B ps) (hL : Len w) : Calls Tryz.prog 205 #[.agg #[.slice A 1 c, .slice B 1 d], .agg #[.string ⟨#[97]⟩, .string ⟨#[113]⟩, .bool false, .string ⟨#[120]⟩, .slice none 0 0, .bool false]] w fun e w' => ∃ A c B d ps, e = .returned (.tuple #[.agg #[.slice A 1 c, .slice B 2 d], .int .i64 0]) ∧ BkAt w' A c B d Bk.ex3 ps ∧ BkU (fun g => U g ∨ w.heap.size ≤ g) w' A B ps ∧ Below w.heap.size w w' := by
  have h := rtBind_any Bk.ex2 A c B d ps Bk.exY none 0 w U Bk.ex_ok2 h1 h2 (ex_bdOk w _ (.inr rfl)) hL
  rw [Bk.ex_3] at h
  exact h
theorem ex_leads (w : World) (A : Option Addr) (c : Nat) (B : Option Addr) (d : Nat) (ps : List Bp) (h1 : BkAt w A c B d Bk.ex3 ps) (hL : Len w) : Calls Tryz.prog 206 #[.agg #[.slice A 1 c, .slice B 2 d], .string ⟨#[97]⟩, .string ⟨#[]⟩, .slice none 0 0] w fun e w' => ∃ A' c' B' d', e = .returned (.tuple #[.slice A' 1 c', .slice B' 0 d', .int .i64 0]) ∧ Rws w' A' (sts [[113]]) ∧ Below w.heap.size w w' := by
  have h := rtLeads_any Bk.ex3 A c B d ps [97] [] [] none 0 w (by decide) (by decide) (by decide) h1 (by decide) (by decide) (Prs.nil _ _) hL
  rw [exl_q, exl_p, exl_c] at h
  refine h.mono ?_
  rintro e w' ⟨A', c', B', d', rfl, -, -, h3, -, -, -, h4⟩
  exact ⟨A', c', B', d', rfl, h3, h4⟩
end Go.Proofs.YtgaggelpjaiabaaGreatDoor
end
section
namespace Go.Proofs.YtgaggelpjaiabaaGreatDoor
open Go.ChangeShapes Go.WideShapes Go.ChangeAt Go.RowKit
set_option maxRecDepth 100000 in
set_option maxHeartbeats 8000000 in
theorem rt_awake_any (w : World) (hL : Len w) : Calls Tryz.prog 192 #[] w fun e w' => e = .returned (.bool true) ∧ Below w.heap.size w w' := by
  have HM := Lib.hid (ex_make w)
  have HLL := Lib.hid hL
  clear hL
  go_enter Tryz.func192, Tryz.ntmps192
  go_wp2_with fail
  refine HM.out.mono ?_
  rintro e w1 ⟨A, c, B, d, ps, rfl, hI1, hU1, hb1⟩
  have hx1 := rtAt0 w1 #[.slice A 1 c, .slice B 0 d] 245
  have HX1 := Lib.hid hx1
  have hb2 := rtOne w1 (.cells #[.slice A 1 c, .slice B 0 d] 245)
  have HB2 := Lib.hid (bthen hb1 hb2 (Nat.le_refl _))
  have HI2 := Lib.hid (hI1.on hb2)
  have HU2 := Lib.hid (hU1.self.on hb2.size)
  have HL2 := Lib.hid ((HLL.out.on hb1).on hb2)
  have HS2 := Lib.hid (show w.heap.size ≤ w1.heap.size from hb1.size)
  clear hx1 hI1 hU1 hb2 hb1
  go_upto_region 2 with fail
  generalize w1.alloc (.cells #[.slice A 1 c, .slice B 0 d] 245) = w2 at *
  have x0 := HX1.out.cs 0 _ rfl
  have x1 := HX1.out.cs 1 _ rfl
  have xl := HX1.out.lt
  have xf := HX1.out.s
  unfold Soft at xf
  have HP2 := Lib.hid (ex_bind1 w2 A c B d ps _ HI2.out HU2.out HL2.out)
  go_wp2_with fail
  refine HP2.out.mono ?_
  rintro e w3 ⟨A3, c3, B3, d3, ps3, rfl, hI3, hU3, hb3⟩
  have HX3 := Lib.hid (HX1.out.on hb3)
  have HB3 := Lib.hid (bthen HB2.out hb3 (Nat.le_refl _))
  have HL3 := Lib.hid (HL2.out.on hb3)
  have hnu : ¬ ((w.heap.size ≤ w1.heap.size ∧ w1.heap.size < w1.heap.size) ∨ w2.heap.size ≤ w1.heap.size) := by have := HX1.out.lt; omega
  have hi4 := (hI3.put hU3 hnu 0 (.slice A3 1 c3)).put (hU3.put w1.heap.size 0 (.slice A3 1 c3)) hnu 1 (.slice B3 1 d3)
  have hu4 := (hU3.put w1.heap.size 0 (.slice A3 1 c3)).put w1.heap.size 1 (.slice B3 1 d3)
  have hx4 := HX3.out.fill [.slice A3 1 c3, .slice B3 1 d3] rfl
  have hb4 := below_putAll (w := w) (g := w1.heap.size) HS2.out [.slice A3 1 c3, .slice B3 1 d3] 0 HB3.out
  simp only [putAll] at hx4 hb4
  have HX4 := Lib.hid hx4
  have HB4 := Lib.hid hb4
  have HI4 := Lib.hid hi4
  have HU4 := Lib.hid hu4
  have HL4 := Lib.hid (HLL.out.on hb4)
  clear hx4 hb4 hi4 hu4 hnu hI3 hU3 hb3
  clear x0 x1 xl xf
  have x0 := HX3.out.cs 0 _ rfl
  have x1 := HX3.out.cs 1 _ rfl
  have xl := HX3.out.lt
  have xf := HX3.out.s
  unfold Soft at xf
  go_upto_region 3 with fail
  generalize ((w3.setCell ⟨w1.heap.size, 0, none⟩ (.slice A3 1 c3)).setCell ⟨w1.heap.size, 1, none⟩ (.slice B3 1 d3)) = w4 at *
  clear x0 x1 xl xf
  have x0 := HX4.out.cs 0 _ rfl
  have x1 := HX4.out.cs 1 _ rfl
  have xl := HX4.out.lt
  have xf := HX4.out.s
  unfold Soft at xf
  have HP4 := Lib.hid (ex_bind2 w4 A3 c3 B3 d3 ps3 _ HI4.out HU4.out HL4.out)
  go_wp2_with fail
  refine HP4.out.mono ?_
  rintro e w5 ⟨A5, c5, B5, d5, ps5, rfl, hI5, hU5, hb5⟩
  have HX5 := Lib.hid (HX4.out.on hb5)
  have HB5 := Lib.hid (bthen HB4.out hb5 (Nat.le_refl _))
  have HL5 := Lib.hid (HL4.out.on hb5)
  have hnu : ¬ (((w.heap.size ≤ w1.heap.size ∧ w1.heap.size < w1.heap.size) ∨ w2.heap.size ≤ w1.heap.size) ∨ w4.heap.size ≤ w1.heap.size) := by have := HX1.out.lt; have := HX4.out.lt; omega
  have hi6 := (hI5.put hU5 hnu 0 (.slice A5 1 c5)).put (hU5.put w1.heap.size 0 (.slice A5 1 c5)) hnu 1 (.slice B5 2 d5)
  have hx6 := HX5.out.fill [.slice A5 1 c5, .slice B5 2 d5] rfl
  have hb6 := below_putAll (w := w) (g := w1.heap.size) HS2.out [.slice A5 1 c5, .slice B5 2 d5] 0 HB5.out
  simp only [putAll] at hx6 hb6
  have HX6 := Lib.hid hx6
  have HB6 := Lib.hid hb6
  have HI6 := Lib.hid hi6
  have HL6 := Lib.hid (HLL.out.on hb6)
  clear hx6 hb6 hi6 hnu hI5 hU5 hb5
  clear x0 x1 xl xf
  have x0 := HX5.out.cs 0 _ rfl
  have x1 := HX5.out.cs 1 _ rfl
  have xl := HX5.out.lt
  have xf := HX5.out.s
  unfold Soft at xf
  go_upto_region 4 with fail
  generalize ((w5.setCell ⟨w1.heap.size, 0, none⟩ (.slice A5 1 c5)).setCell ⟨w1.heap.size, 1, none⟩ (.slice B5 2 d5)) = w6 at *
  clear x0 x1 xl xf
  have x0 := HX6.out.cs 0 _ rfl
  have x1 := HX6.out.cs 1 _ rfl
  have xl := HX6.out.lt
  have HP6 := Lib.hid (ex_leads w6 A5 c5 B5 d5 ps5 HI6.out HL6.out)
  go_wp2_with fail
  refine HP6.out.mono ?_
  rintro e w7 ⟨A7, c7, B7, d7, rfl, hR7, hb7⟩
  have HB7 := Lib.hid (bthen HB6.out hb7 (Nat.le_refl _))
  have HL7 := Lib.hid (HL6.out.on hb7)
  have HR7 := Lib.hid hR7
  clear hR7 hb7 x0 x1 xl
  go_wp2_with fail
  refine (law4Awake_any _ HL7.out).mono ?_
  rintro e w8 ⟨rfl, hb8⟩
  have HB8 := Lib.hid (bthen HB7.out hb8 (Nat.le_refl _))
  have HL8 := Lib.hid (HL7.out.on hb8)
  have HR8 := Lib.hid (Rws.on HR7.out hb8)
  clear hb8
  go_wp2_with fail
  refine (rt_law10_any _ HL8.out).mono ?_
  rintro e w9 ⟨rfl, hb9⟩
  have HB9 := Lib.hid (bthen HB8.out hb9 (Nat.le_refl _))
  have HL9 := Lib.hid (HL8.out.on hb9)
  have HR9 := Lib.hid (Rws.on HR8.out hb9)
  clear hb9
  have HB10 := Lib.hid (bthen HB9.out (rtOne w9 (.cells #[.string ⟨#[113]⟩] 9)) (Nat.le_refl _))
  go_wp2_with fail
  have hs1 : Rws (w9.alloc (.cells #[.string ⟨#[113]⟩] 9)) (some ⟨w9.heap.size, 0, none⟩) (sts [[113]]) := Rws.of_news (fun j u hu => by
    have hc := (rtAt0 w9 #[.string ⟨#[113]⟩] 9).cs
    exact (congrArg (fun n => (w9.alloc (.cells #[.string ⟨#[113]⟩] 9)).cell? ⟨w9.heap.size, n, none⟩) (Nat.zero_add j)).trans (hc j u hu))
  refine (eqS_any [[113]] [[113]] A7 c7 (some ⟨w9.heap.size, 0, none⟩) 1 _ (by decide) (by decide) (Rws.on HR9.out (rtOne w9 _)) hs1).mono ?_
  rintro e w11 ⟨rfl, hb11⟩
  have HB11 := Lib.hid (bthen HB10.out hb11 (Nat.le_refl _))
  clear hb11 hs1
  rw [show decide ([[113]] = ([[113]] : List (List UInt8))) = true from rfl]
  go_wp2_with fail
  go_ret
  exact ⟨rfl, HB11.out⟩
end Go.Proofs.YtgaggelpjaiabaaGreatDoor
end
