/-
  TO WHICH QUEUES AND PLACES, the document's: walked. What is done to the program's book and the document's: boxes, and what holds. ACTS THAT COME IN; which of them are gone through: walked.
-/
import Derived.Test.YtopobliajgocaaaGreatDoorZp32
import Derived.Test.YtopobliajgocaaaGreatDoorZp33
import Derived.Test.YtopobliajgocaaaGreatDoorZp35

section
namespace Go.Proofs.YtopobliajgocaaaGreatDoor
open Go.ChangeShapes Go.WideShapes Go.ChangeAt Go.RowKit
/-- the two rows of names, so far -/
structure Lq (s : Sh) (key : List UInt8) (h : List Hd.Pr) (l : List Bd) (w2 : World) (k : Nat) (A : Option Addr) (c : Nat) (B : Option Addr) (d : Nat) (ql pl : List (List UInt8)) (wr : World) : Prop where
  eq : ql = Bk.lead s false key h (l.take k)
  ep : pl = Bk.lead s true key h (l.take k)
  oq : wr.ownsRow w2.heap.size 9 1 (.slice A ql.length c) ql.length (sts ql)
  op : wr.ownsRow w2.heap.size 9 1 (.slice B pl.length d) pl.length (sts pl)
  ne : (Value.slice A ql.length c).ownBlock = none ∨ (Value.slice A ql.length c).ownBlock ≠ (Value.slice B pl.length d).ownBlock
  B : Below w2.heap.size w2 wr
theorem Lq.keep {s : Sh} {key : List UInt8} {h : List Hd.Pr} {l : List Bd} {w2 : World} {k : Nat} {A : Option Addr} {c : Nat} {B : Option Addr} {d : Nat} {ql pl : List (List UInt8)} {wr W : World} (H : Lq s key h l w2 k A c B d ql pl wr) (hb : Below wr.heap.size wr W) (h1 : Bk.lead s false key h (l.take (k + 1)) = ql) (h2 : Bk.lead s true key h (l.take (k + 1)) = pl) : Lq s key h l w2 (k + 1) A c B d ql pl W :=
  ⟨h1.symm, h2.symm, Rw.own_on H.oq hb, Rw.own_on H.op hb, H.ne, bthen H.B hb (Nat.le_refl _)⟩
theorem Lq.on {s : Sh} {key : List UInt8} {h : List Hd.Pr} {l : List Bd} {w2 : World} {k : Nat} {A : Option Addr} {c : Nat} {B : Option Addr} {d : Nat} {ql pl : List (List UInt8)} {wr W : World} (H : Lq s key h l w2 k A c B d ql pl wr) (hb : Below wr.heap.size wr W) : Lq s key h l w2 k A c B d ql pl W :=
  ⟨H.eq, H.ep, Rw.own_on H.oq hb, Rw.own_on H.op hb, H.ne, bthen H.B hb (Nat.le_refl _)⟩
end Go.Proofs.YtopobliajgocaaaGreatDoor
end
section
namespace Go.Proofs.YtopobliajgocaaaGreatDoor
open Go.ChangeShapes Go.WideShapes Go.ChangeAt Go.RowKit
namespace Bk
/-- what an act does -/
def act (k : Nat) (s : Sh) (x : Bd) (b : Bk) : Bk × Nat := if k % 5 = 0 then b.make s else if k % 5 = 1 then b.drop s.name else if k % 5 = 2 then b.bind x else if k % 5 = 3 then b.unbind x else (b.forget x.to, 0)
theorem Ok.act {b : Bk} (h : Ok b) (k : Nat) (s : Sh) (x : Bd) : Ok (b.act k s x).1 := by
  unfold Bk.act
  split
  · exact h.make s
  · split
    · exact h.drop _
    · split
      · exact h.bind x
      · split
        · exact h.unbind x
        · exact h.forget _
end Bk
def actV (k : Nat) (s : Sh) (x : Bd) (Ax : Option Addr) (cx : Nat) : Value := .agg #[.int .u8 (k : Int), .string (ofL s.name), .int .u8 (s.sort : Int), .string (ofL s.to), .string (ofL x.shop), .string (ofL x.to), .bool x.up, .string (ofL x.key), .slice Ax x.want.length cx, .bool x.all]
def actL (k : Nat) (s : Sh) (x : Bd) (Ax : Option Addr) (cx : Nat) : List Value := [.int .u8 (k : Int), .string (ofL s.name), .int .u8 (s.sort : Int), .string (ofL s.to), .string (ofL x.shop), .string (ofL x.to), .bool x.up, .string (ofL x.key), .slice Ax x.want.length cx, .bool x.all]
/-- five boxes of one's own, and that nothing older has changed -/
structure Dn (w : World) (X Y V : List Value) (W : World) : Prop where
  bx : BoxC w w.heap.size X W
  bs : BoxC w (w.heap.size + 1) Y W
  ba : BoxC w (w.heap.size + 2) V W
  r1 : BoxC w (w.heap.size + 3) [.slice none 0 0, .slice none 0 0] W
  r2 : BoxC w (w.heap.size + 4) [.slice none 0 0, .slice none 0 0] W
  B : Below w.heap.size w W
  n : w.heap.size + 5 ≤ W.heap.size
theorem Dn.on {w W W' : World} {X Y V : List Value} (h : Dn w X Y V W) (hb : Below W.heap.size W W') : Dn w X Y V W' := ⟨h.bx.on hb, h.bs.on hb, h.ba.on hb, h.r1.on hb, h.r2.on hb, bthen h.B hb (Nat.le_refl _), Nat.le_trans h.n hb.size⟩
theorem dnAt (w : World) (o o' o'' : Obj) (c : Array Value) (t : TypeId) : BoxC w (w.heap.size + 3) c.toList ((((w.alloc o).alloc o').alloc o'').alloc (.cells c t)) := by
  have := BoxC.new (w := w) (W := ((w.alloc o).alloc o').alloc o'') (by simp; omega) c t
  rwa [show (((w.alloc o).alloc o').alloc o'').heap.size = w.heap.size + 3 by simp] at this
theorem dnAt4 (w : World) (o o' o'' o3 : Obj) (c : Array Value) (t : TypeId) : BoxC w (w.heap.size + 4) c.toList (((((w.alloc o).alloc o').alloc o'').alloc o3).alloc (.cells c t)) := by
  have := BoxC.new (w := w) (W := (((w.alloc o).alloc o').alloc o'').alloc o3) (by simp; omega) c t
  rwa [show ((((w.alloc o).alloc o').alloc o'').alloc o3).heap.size = w.heap.size + 4 by simp] at this
theorem Dn.new (w : World) (X Y V : Array Value) (t t' t'' t3 t4 : TypeId) : Dn w X.toList Y.toList V.toList (((((w.alloc (.cells X t)).alloc (.cells Y t')).alloc (.cells V t'')).alloc (.cells #[.slice none 0 0, .slice none 0 0] t3)).alloc (.cells #[.slice none 0 0, .slice none 0 0] t4)) :=
  ⟨rtNext (rtNext (rtNext (rtNext (rtAt0 w X t) _) _) _) _, rtNext (rtNext (rtNext (rtAt1 w _ Y t') _) _) _, rtNext (rtNext (rtAt2 w _ _ V t'') _) _, rtNext (dnAt w _ _ _ #[.slice none 0 0, .slice none 0 0] t3) _, dnAt4 w _ _ _ _ #[.slice none 0 0, .slice none 0 0] t4, ((rtThree w _ _ _).alloc (by simp; omega) _).alloc (by simp; omega) _, by simp⟩
theorem Dn.putX {w W : World} {u v u' v' : Value} {Y V : List Value} (h : Dn w [u', v'] Y V W) : Dn w [u, v] Y V ((W.setCell ⟨w.heap.size, 0, none⟩ u).setCell ⟨w.heap.size, 1, none⟩ v) := by
  have e := h.bx.fill [u, v] rfl
  simp only [putAll] at e
  exact ⟨e, (h.bs.aside (by omega) _ _).aside (by omega) _ _, (h.ba.aside (by omega) _ _).aside (by omega) _ _, (h.r1.aside (by omega) _ _).aside (by omega) _ _, (h.r2.aside (by omega) _ _).aside (by omega) _ _, (h.B.setCell (p := ⟨w.heap.size, 0, none⟩) (Nat.le_refl _) u).setCell (p := ⟨w.heap.size, 1, none⟩) (Nat.le_refl _) v, by simpa using h.n⟩
theorem Dn.putY {w W : World} {u v u' v' : Value} {X V : List Value} (h : Dn w X [u', v'] V W) : Dn w X [u, v] V ((W.setCell ⟨w.heap.size + 1, 0, none⟩ u).setCell ⟨w.heap.size + 1, 1, none⟩ v) := by
  have e := h.bs.fill [u, v] rfl
  simp only [putAll] at e
  exact ⟨(h.bx.aside (by omega) _ _).aside (by omega) _ _, e, (h.ba.aside (by omega) _ _).aside (by omega) _ _, (h.r1.aside (by omega) _ _).aside (by omega) _ _, (h.r2.aside (by omega) _ _).aside (by omega) _ _, (h.B.setCell (p := ⟨w.heap.size + 1, 0, none⟩) (by simp) u).setCell (p := ⟨w.heap.size + 1, 1, none⟩) (by simp) v, by simpa using h.n⟩
/-- a book elsewhere than in the boxes -/
structure BkD (U : Nat → Prop) (w : World) (W : World) (A : Option Addr) (c : Nat) (B : Option Addr) (d : Nat) (b : Bk) (ps : List Bp) : Prop where
  at_ : BkAt W A c B d b ps
  u : BkU (fun g => (U g ∧ g < w.heap.size) ∨ w.heap.size + 5 ≤ g) W A B ps
theorem BkD.on {U : Nat → Prop} {w W W' : World} {A : Option Addr} {c : Nat} {B : Option Addr} {d : Nat} {b : Bk} {ps : List Bp} (h : BkD U w W A c B d b ps) (hb : Below W.heap.size W W') : BkD U w W' A c B d b ps := ⟨h.at_.on hb, h.u.on hb.size⟩
theorem BkD.put {U : Nat → Prop} {w W : World} {A : Option Addr} {c : Nat} {B : Option Addr} {d : Nat} {b : Bk} {ps : List Bp} (h : BkD U w W A c B d b ps) {g : Nat} (h1 : w.heap.size ≤ g) (h2 : g < w.heap.size + 5) (j : Nat) (v : Value) : BkD U w (W.setCell ⟨g, j, none⟩ v) A c B d b ps :=
  ⟨h.at_.put h.u (by rintro (⟨-, h⟩ | h) <;> omega) j v, h.u.put g j v⟩
theorem BkD.of {U : Nat → Prop} {w W w1 : World} {A : Option Addr} {c : Nat} {B : Option Addr} {d : Nat} {b : Bk} {ps : List Bp} (h1 : BkAt W A c B d b ps) (h2 : BkU (fun g => ((U g ∧ g < w.heap.size) ∨ w.heap.size + 5 ≤ g) ∨ w1.heap.size ≤ g) W A B ps) (hw : w.heap.size + 5 ≤ w1.heap.size) : BkD U w W A c B d b ps :=
  ⟨h1, h2.mono (fun g h => by rcases h with h | h; exact h; exact .inr (by omega))⟩
def DonePost (U V : Nat → Prop) (b q : Bk) (ok : Bool) (w : World) (en : Ending) (w' : World) : Prop := ∃ A c B d ps C e D f qs, en = .returned (.tuple #[bkV A c B d b, bkV C e D f q, .bool ok]) ∧ BkAt w' A c B d b ps ∧ BkU (fun g => U g ∨ w.heap.size ≤ g) w' A B ps ∧ BkAt w' C e D f q qs ∧ BkU (fun g => V g ∨ w.heap.size ≤ g) w' C D qs ∧ Below w.heap.size w w'
theorem BkD.fin {U : Nat → Prop} {w W : World} {A : Option Addr} {c : Nat} {B : Option Addr} {d : Nat} {b : Bk} {ps : List Bp} (h : BkD U w W A c B d b ps) : BkU (fun g => U g ∨ w.heap.size ≤ g) W A B ps := h.u.mono (fun g h => by rcases h with ⟨h, -⟩ | h; exact .inl h; exact .inr (by omega))
theorem act_beq (a b : Nat) : (((a : Int)) == (b : Int)) = decide (a = b) := by rw [cast_beq]; rfl
end Go.Proofs.YtopobliajgocaaaGreatDoor
end
section
namespace Go.Proofs.YtopobliajgocaaaGreatDoor
open Go.ChangeShapes Go.WideShapes Go.ChangeAt Go.RowKit
theorem max4_run {P : Program} (w : World) (ts : Array TypeId) (t : TypeId) (a b c d : Int) : (Builtin.max_ ts t #[.int .i64 a, .int .i64 b, .int .i64 c, .int .i64 d]).run P w = .ok (.int .i64 (max (max (max a b) c) d)) w := by
  have e : ∀ x y : Int, (if y > x then y else x) = max x y := fun x y => by
    rw [Int.max_def]
    split <;> split <;> omega
  simp [Builtin.max_, Builtin.max2, e]
structure RaP where
  k : Nat
  s : Sh
  x : Bd
  A : Option Addr
  c : Nat
def raL (p : RaP) : List Value := actL p.k p.s p.x p.A p.c
/-- an act that came in -/
structure RaIn (w : World) (p : RaP) : Prop where
  row : Prs w p.A p.x.want
  cap : p.x.want.length ≤ p.c
  big : p.x.want.length ≤ 9223372036854775807
  s : p.s.sort < 256
  k : p.k < 256
theorem RaIn.on {w w' : World} {p : RaP} (h : RaIn w p) (hb : Below w.heap.size w w') : RaIn w' p := ⟨h.row.on hb, h.cap, h.big, h.s, h.k⟩
structure Ras (w : World) (A : Option Addr) (l : List RaP) : Prop where
  row : Rws w A (l.flatMap raL)
  h : ∀ p ∈ l, RaIn w p
theorem Ras.on {w w' : World} {A : Option Addr} {l : List RaP} (h : Ras w A l) (hb : Below w.heap.size w w') : Ras w' A l := ⟨Rws.on h.row hb, fun p hp => (h.h p hp).on hb⟩
theorem ras_get {w : World} {A : Option Addr} {l : List RaP} (h : Ras w A l) {i : Nat} (hi : i < l.length) :
    ∃ b off, A = some ⟨b, off, none⟩ ∧ b < w.heap.size ∧ ∀ j v, (raL l[i])[j]? = some v → w.cell? ⟨b, off + i * 10 + j, none⟩ = some v := Rws.elt raL 10 (fun _ => rfl) (by decide) h.row hi
structure RaFew (p : RaP) : Prop where
  s1 : p.s.name.length ≤ 40
  s2 : p.s.to.length ≤ 40
  b1 : p.x.shop.length ≤ 40
  b2 : p.x.to.length ≤ 40
  key : p.x.key.length ≤ 100
  want : lightB p.x.want = true
theorem RaFew.ok {w : World} {p : RaP} (h : RaFew p) (hi : RaIn w p) : BdOk w p.x p.A p.c := by
  obtain ⟨h1, h2, -⟩ := light_lite h.want
  exact ⟨by have := h.b1; omega, by have := h.b2; omega, by have := h.key; omega, by omega, hi.cap, h2, hi.row⟩
def RaAll (l : List RaP) : Prop := l.length ≤ 40 ∧ ∀ p ∈ l, RaFew p
def LrSt (w : World) (l : List RaP) (g : Nat) (i : Value) (wr : World) : Prop :=
  ∃ k : Nat, k + g = l.length ∧ i = .int .i64 (k : Int) ∧ (∀ p ∈ l.take k, RaFew p) ∧ Below w.heap.size w wr
set_option maxRecDepth 100000 in
set_option maxHeartbeats 8000000 in
theorem light14_any (A : Option Addr) (ca : Nat) (l : List RaP) (w : World) (hl : l.length ≤ 9223372036854775807) (hA : Ras w A l) :
    Calls Tryz.prog 7 #[.slice A l.length ca] w fun e w' => (e = .returned (.bool true) ∧ RaAll l ∨ e = .returned (.bool false)) ∧ Below w.heap.size w w' := by
  have HA := Lib.hid hA
  clear hA
  by_cases h40 : l.length ≤ 40
  · have HZ : decide ((l.length : Int) > 40) = false := decide_eq_false (by omega)
    go_enter Tryz.func7, Tryz.ntmps7
    go_wp2_with fail
    go_loopg [10] l.length (fun g i wr => LrSt w l g i wr)
    case atStart => exact ⟨0, by omega, rfl, fun p hp => by simp at hp, Below.refl _ _⟩
    case round =>
      obtain ⟨k0, hk, rfl, hall, hb⟩ := hrel
      have HK := Lib.hid hk
      have HALL := Lib.hid hall
      have HB := Lib.hid hb
      clear hk hall hb
      by_cases hlt : k0 < l.length
      · have hras := HA.out.on HB.out
        obtain ⟨b, off, rfl, hbl, hat⟩ := ras_get hras hlt
        have hin := hras.h l[k0] (List.getElem_mem hlt)
        have HTK := Lib.hid (show RaFew l[k0] → ∀ p ∈ l.take (k0 + 1), RaFew p from fun h p hp => by
          rw [List.take_succ_eq_append_getElem hlt] at hp
          rcases List.mem_append.1 hp with hp | hp
          · exact HALL.out p hp
          · obtain rfl := List.mem_singleton.1 hp
            exact h)
        generalize l[k0] = p at *
        obtain ⟨k, s, x, Ax, cx⟩ := p
        unfold raL actL at hat
        dsimp only at hat hin
        have c0 := hat 0 _ rfl
        have c1 := hat 1 _ rfl
        have c2 := hat 2 _ rfl
        have c3 := hat 3 _ rfl
        have c4 := hat 4 _ rfl
        have c5 := hat 5 _ rfl
        have c6 := hat 6 _ rfl
        have c7 := hat 7 _ rfl
        have c8 := hat 8 _ rfl
        have c9 := hat 9 _ rfl
        rw [Nat.add_zero] at c0
        have HA1 := Lib.hid (rtOne wr (.cells #[.int .u8 (k : Int), .string (ofL s.name), .int .u8 (s.sort : Int), .string (ofL s.to), .string (ofL x.shop), .string (ofL x.to), .bool x.up, .string (ofL x.key), .slice Ax x.want.length cx, .bool x.all] 39))
        have hB1 := bthen HB.out HA1.out (Nat.le_refl _)
        have HB1 := Lib.hid hB1
        have HLI := Lib.hid (light9_any x.want Ax cx _ hin.big (hin.row.on HA1.out))
        have z1 := ofL_size s.name
        have z2 := ofL_size s.to
        have z3 := ofL_size x.shop
        have z4 := ofL_size x.to
        have z5 := ofL_size x.key
        clear hat hin hB1 hras
        obtain ⟨M, hM⟩ : ∃ M : Nat, M = max (max (max s.name.length s.to.length) x.shop.length) x.to.length := ⟨_, rfl⟩
        have hmx : ∀ (W : World) (ts : Array TypeId) (t : TypeId), (Builtin.max_ ts t #[.int .i64 (s.name.length : Int), .int .i64 (s.to.length : Int), .int .i64 (x.shop.length : Int), .int .i64 (x.to.length : Int)]).run Tryz.prog W = .ok (.int .i64 (M : Int)) W := fun W ts t => by
          rw [max4_run, show max (max (max (s.name.length : Int) (s.to.length : Int)) (x.shop.length : Int)) (x.to.length : Int) = (M : Int) by omega]
        by_cases hm : M ≤ 40
        · have m1 : decide ((M : Int) > 40) = false := decide_eq_false (by omega)
          by_cases hk1 : x.key.length ≤ 100
          · have m3 : decide ((x.key.length : Int) > 100) = false := decide_eq_false (by omega)
            have m4 : x.key.length ≤ 100 := hk1
            cases hq : lightB x.want with
            | true =>
              rw [hq] at HLI
              have HN := Lib.hid (HTK.out ⟨(show s.name.length ≤ 40 by omega), (show s.to.length ≤ 40 by omega), (show x.shop.length ≤ 40 by omega), (show x.to.length ≤ 40 by omega), hk1, hq⟩)
              clear hm hM hk1 hq
              go_wp2_with fail
              refine HLI.out.mono ?_
              rintro e w2 ⟨rfl, b2⟩
              have HB2 := Lib.hid (bthen HB1.out b2 (Nat.le_refl _))
              clear b2
              go_wp2_with fail
              go_roundg (gk - 1)
              case rel => exact ⟨k0 + 1, by have := HK.out; omega, by go_num, HN.out, HB2.out⟩
              case measure => have := HK.out; omega
            | false =>
              rw [hq] at HLI
              clear hm hM hk1 hq
              go_wp2_with fail
              refine HLI.out.mono ?_
              rintro e w2 ⟨rfl, b2⟩
              have HB2 := Lib.hid (bthen HB1.out b2 (Nat.le_refl _))
              clear b2
              go_wp2_with fail
              go_ret
              exact ⟨.inr rfl, HB2.out⟩
          · have m3 : decide ((x.key.length : Int) > 100) = true := decide_eq_true (by omega)
            have m4 : ¬ x.key.length ≤ 100 := hk1
            clear hm hM hk1
            go_wp2_with fail
            go_ret
            exact ⟨.inr rfl, HB1.out⟩
        · have m1 : decide ((M : Int) > 40) = true := decide_eq_true (by omega)
          clear hm hM
          go_wp2_with fail
          go_ret
          exact ⟨.inr rfl, HB1.out⟩
      · have HE := Lib.hid (show RaAll l from ⟨h40, fun p hp => HALL.out p (by rw [show k0 = l.length by have := HK.out; omega, List.take_length]; exact hp)⟩)
        go_wp2_with fail
        go_ret
        exact ⟨.inl ⟨rfl, HE.out⟩, HB.out⟩
  · have HZ : decide ((l.length : Int) > 40) = true := decide_eq_true (by omega)
    go_enter Tryz.func7, Tryz.ntmps7
    go_wp2_with fail
    go_ret
    exact ⟨.inr rfl, Below.refl _ _⟩
end Go.Proofs.YtopobliajgocaaaGreatDoor
end
