/-
  ROWS OF ONE DEED; a deed with a head of its own: walked. ROWS OF ANY DEEDS; whether a draft settles one, the program's: walked. PLAIN: drafts: what may stand behind the others; what is told at a tick. No program is spoken of here.
-/
import Derived.Test.YtecjngodfciokaaGreatDoorDl03
import Derived.Test.YtecjngodfciokaaGreatDoorDl04
import Derived.Test.YtecjngodfciokaaGreatDoorDl15
import Derived.Test.YtecjngodfciokaaGreatDoorDl21
import Derived.Test.YtecjngodfciokaaGreatDoorDl23
import Derived.Test.YtecjngodfciokaaGreatDoorDl28
import Derived.Great.BuildSlice
import Derived.Deep.RegionLawGrows
section
namespace Go.Proofs.YtecjngodfciokaaGreatDoor
open Go.ChangeShapes Go.WideShapes Go.ChangeAt Go.RowKit
/-- a Put at a tick -/
def Df (t : Nat) (m : Ml) : De := { De.of 6 t with mail := m }
theorem infoDe : (Tryz.prog.info? 39).map (fun i => (i.zero, i.size, i.bytes)) = some (some (.agg #[.int .u8 0, .int .u64 0, .string ⟨#[]⟩, .int .u8 0, .string ⟨#[]⟩, .string ⟨#[]⟩, .int .u64 0, .int .u64 0, .string ⟨#[]⟩, .string ⟨#[]⟩, .string ⟨#[]⟩, .bool false, .string ⟨#[]⟩, .slice none 0 0, .bool false, .string ⟨#[]⟩, .int .u64 0, .int .u8 0, .int .u8 0, .int .u8 0, .int .u64 0, .int .u64 0, .string ⟨#[]⟩, .string ⟨#[]⟩, .slice none 0 0, .string ⟨#[]⟩, .int .u64 0, .int .u8 0, .string ⟨#[]⟩]), 29, 344) := by kernel_rfl
theorem fill29 (x : De) (A : Option Addr) (c : Nat) (B : Option Addr) (d : Nat) : Instr.fill (fun i => some (i * 29, 29)) ((Array.range (1 * 29)).map ((Value.agg #[.int .u8 0, .int .u64 0, .string ⟨#[]⟩, .int .u8 0, .string ⟨#[]⟩, .string ⟨#[]⟩, .int .u64 0, .int .u64 0, .string ⟨#[]⟩, .string ⟨#[]⟩, .string ⟨#[]⟩, .bool false, .string ⟨#[]⟩, .slice none 0 0, .bool false, .string ⟨#[]⟩, .int .u64 0, .int .u8 0, .int .u8 0, .int .u8 0, .int .u64 0, .int .u64 0, .string ⟨#[]⟩, .string ⟨#[]⟩, .slice none 0 0, .string ⟨#[]⟩, .int .u64 0, .int .u8 0, .string ⟨#[]⟩]).cells[· % (Value.agg #[.int .u8 0, .int .u64 0, .string ⟨#[]⟩, .int .u8 0, .string ⟨#[]⟩, .string ⟨#[]⟩, .int .u64 0, .int .u64 0, .string ⟨#[]⟩, .string ⟨#[]⟩, .string ⟨#[]⟩, .bool false, .string ⟨#[]⟩, .slice none 0 0, .bool false, .string ⟨#[]⟩, .int .u64 0, .int .u8 0, .int .u8 0, .int .u8 0, .int .u64 0, .int .u64 0, .string ⟨#[]⟩, .string ⟨#[]⟩, .slice none 0 0, .string ⟨#[]⟩, .int .u64 0, .int .u8 0, .string ⟨#[]⟩]).cells.size]!)) [(0, deV x A c B d)] = some (deL x A c B d).toArray := by kernel_rfl
theorem wp_buildDe {o : Oper} {a : Act} {w : World} {K : Act → World → Prop} {Q : Exit → Act → World → Prop} (parts : Array (Nat × Operand)) (ho : o.op = .buildSlice 22 1 parts) (x : De) (A : Option Addr) (c : Nat) (B : Option Addr) (d : Nat)
    (hp : (parts.map fun (i, y) => (i, a.eval y)).toList = [(0, deV x A c B d)]) (h : K (a.put o.dst (.slice (some ⟨w.heap.size, 0, none⟩) 1 1)) (w.alloc (.cells (deL x A c B d).toArray 39))) : o.wp Tryz.prog a w K Q := by
  obtain ⟨i, hi, hz, hs, hb⟩ := info_parts infoDe
  refine wp_buildSlice 22 39 1 parts ho (deL x A c B d).toArray i _ Tryz.underlying22 hi hz (by rw [hs]; decide) (by rw [hs]; decide) ?_ h
  rw [hs, hp]
  exact fill29 x A c B d
/-- where the head of an element lies -/
structure Hp where
  B : Option Addr
  d : Nat
def dfL (x : De) (p : Hp) : List Value := deL x none 0 p.B p.d
/-- as many of one deed -/
structure D6 (w : World) (A : Option Addr) (x : De) (l : List Hp) : Prop where
  row : Rws w A (l.flatMap (dfL x))
  ok : ∀ p ∈ l, Prs w p.B x.mail.head ∧ x.mail.head.length ≤ p.d
theorem D6.on {w w' : World} {A : Option Addr} {x : De} {l : List Hp} (h : D6 w A x l) (hb : Below w.heap.size w w') : D6 w' A x l := ⟨Rws.on h.row hb, fun p hp => ⟨(h.ok p hp).1.on hb, (h.ok p hp).2⟩⟩
theorem D6.nil (w : World) (A : Option Addr) (x : De) : D6 w A x [] := ⟨Rws.nil w A, fun _ h => by simp at h⟩
theorem ownPrs_mono {C C' : Nat} {W : World} {A : Option Addr} {c : Nat} {l : List Hd.Pr} (h : OwnPrs C W A c l) (hc : C' ≤ C) : OwnPrs C' W A c l := World.ownsRow.mono h hc
theorem ownPrs_setCells {C : Nat} {W : World} {A : Option Addr} {c : Nat} {l : List Hd.Pr} (h : OwnPrs C W A c l) {g : Nat} (hg : ∀ a, A = some a → g ≠ a.block) (vs : List Value) (j : Nat) : OwnPrs C (W.setCells g j vs) A c l := by
  induction vs generalizing j W with
  | nil => exact h
  | cons v vs ih => exact ih (h.aside hg j v) (j + 1)
theorem drLen_any (A : Option Addr) (n c : Nat) (w : World) : Calls Tryz.prog 15 #[.agg #[.slice A n c]] w fun e w' => e = .returned (.int .i64 (n : Int)) ∧ Below w.heap.size w w' := by
  have HB1 := Lib.hid (rtOne w (.cells #[.slice A n c] 27))
  go_enter Tryz.func15, Tryz.ntmps15
  go_wp2_with fail
  go_ret
  exact ⟨rfl, HB1.out⟩
theorem clipDe_any (A : Option Addr) (n c : Nat) (w : World) (hc : n ≤ c) : Calls Tryz.prog 28 #[.slice A n c] w fun e w' => e = .returned (.slice A n n) ∧ w = w' := by
  go_enter Tryz.func28, Tryz.ntmps28
  go_wp2_with fail
  go_ret
  exact ⟨rfl, rfl⟩
end Go.Proofs.YtecjngodfciokaaGreatDoor
end
section
namespace Go.Proofs.YtecjngodfciokaaGreatDoor
open Go.ChangeShapes Go.WideShapes Go.ChangeAt Go.RowKit
/-- a deed, and where its rows lie -/
structure Dp where
  x : De
  A : Option Addr
  c : Nat
  B : Option Addr
  d : Nat
def Dp0 : Dp := ⟨De.of 0 0, none, 0, none, 0⟩
def dpL (p : Dp) : List Value := deL p.x p.A p.c p.B p.d
def dpV (p : Dp) : Value := deV p.x p.A p.c p.B p.d
structure Dps (w : World) (A : Option Addr) (l : List Dp) : Prop where
  row : Rws w A (l.flatMap dpL)
  ok : ∀ p ∈ l, DeOk w p.x p.A p.c p.B p.d
theorem Dps.on {w w' : World} {A : Option Addr} {l : List Dp} (h : Dps w A l) (hb : Below w.heap.size w w') : Dps w' A l := ⟨Rws.on h.row hb, fun p hp => (h.ok p hp).on hb⟩
theorem Dps.nil (w : World) (A : Option Addr) : Dps w A [] := ⟨Rws.nil w A, fun _ h => by simp at h⟩
theorem dp_get {l : List Dp} {i : Nat} (hi : i < l.length) : l[i] = l.getD i Dp0 := by rw [List.getD_eq_getElem?_getD, List.getElem?_eq_getElem hi]; rfl
theorem dps_len (l : List Dp) : (l.flatMap dpL).length = l.length * 29 := Rw.flat_len dpL 29 (fun _ => rfl) l
theorem dps_one (l : List Dp) : ∀ u ∈ l.flatMap dpL, u.oneCell' = true := by
  intro u hu
  obtain ⟨p, _, hp⟩ := List.mem_flatMap.1 hu
  exact de_one p.x p.A p.c p.B p.d u hp
theorem dps_elt {w : World} {A : Option Addr} {l : List Dp} (h : Dps w A l) {i : Nat} (hi : i < l.length) : ∃ b off, A = some ⟨b, off, none⟩ ∧ b < w.heap.size ∧ w.rangeAt b (off + i * 29) (dpL (l.getD i Dp0)) ∧ DeOk w (l.getD i Dp0).x (l.getD i Dp0).A (l.getD i Dp0).c (l.getD i Dp0).B (l.getD i Dp0).d := by
  obtain ⟨b, off, e, hb, hc⟩ := Rws.elt dpL 29 (fun _ => rfl) (by decide) h.row hi
  rw [dp_get hi] at hc
  refine ⟨b, off, e, hb, fun j v hj => hc j v hj, ?_⟩
  have := h.ok _ (List.getElem_mem hi)
  rw [dp_get hi] at this
  exact this
/-- does a deed settle that one -/
def setl (n : List UInt8) (i : Nat) (x : De) : Bool := (x.kd == 8) && ((x.name == n) && (x.id == i))
set_option maxRecDepth 100000 in
set_option maxHeartbeats 8000000 in
theorem drSettles1_any (p : Dp) (n : List UInt8) (i a b : Nat) (w : World) (ha : w.cell? ⟨a, 0, none⟩ = some (.string (ofL n))) (hb : w.cell? ⟨b, 0, none⟩ = some (.int .u64 (i : Int))) :
    Calls Tryz.prog 35 #[dpV p, .pointer (some ⟨a, 0, none⟩), .pointer (some ⟨b, 0, none⟩)] w fun e w' => e = .returned (.bool (setl n i p.x)) ∧ Below w.heap.size w w' := by
  have hal := World.block_lt_of_cell? w _ ha
  have hbl := World.block_lt_of_cell? w _ hb
  simp only at hal hbl
  obtain ⟨x, A, c, B, d⟩ := p
  have HB := Lib.hid (rtOne w (.cells #[.int .u8 (x.kd : Int), .int .u64 (x.tick : Int), .string (ofL x.shop.name), .int .u8 (x.shop.sort : Int), .string (ofL x.shop.to), .string (ofL x.q.name), .int .u64 (x.q.most : Int), .int .u64 (x.q.life : Int), .string (ofL x.q.dead), .string (ofL x.bind.shop), .string (ofL x.bind.to), .bool x.bind.up, .string (ofL x.bind.key), .slice A x.bind.want.length c, .bool x.bind.all, .string (ofL x.name), .int .u64 (x.id : Int), .int .u8 (x.how : Int), .int .u8 (x.frm : Int), .int .u8 (x.cd : Int), .int .u64 (x.num : Int), .int .u64 (x.mail.id : Int), .string (ofL x.mail.shop), .string (ofL x.mail.key), .slice B x.mail.head.length d, .string (ofL x.mail.body), .int .u64 (x.mail.due : Int), .int .u8 (x.mail.hops : Int), .string (ofL x.text)] 39))
  have HP := Lib.hid (rtAt0 w #[.int .u8 (x.kd : Int), .int .u64 (x.tick : Int), .string (ofL x.shop.name), .int .u8 (x.shop.sort : Int), .string (ofL x.shop.to), .string (ofL x.q.name), .int .u64 (x.q.most : Int), .int .u64 (x.q.life : Int), .string (ofL x.q.dead), .string (ofL x.bind.shop), .string (ofL x.bind.to), .bool x.bind.up, .string (ofL x.bind.key), .slice A x.bind.want.length c, .bool x.bind.all, .string (ofL x.name), .int .u64 (x.id : Int), .int .u8 (x.how : Int), .int .u8 (x.frm : Int), .int .u8 (x.cd : Int), .int .u64 (x.num : Int), .int .u64 (x.mail.id : Int), .string (ofL x.mail.shop), .string (ofL x.mail.key), .slice B x.mail.head.length d, .string (ofL x.mail.body), .int .u64 (x.mail.due : Int), .int .u8 (x.mail.hops : Int), .string (ofL x.text)] 39)
  have HW1 : Hid ((w.alloc (.cells #[.int .u8 (x.kd : Int), .int .u64 (x.tick : Int), .string (ofL x.shop.name), .int .u8 (x.shop.sort : Int), .string (ofL x.shop.to), .string (ofL x.q.name), .int .u64 (x.q.most : Int), .int .u64 (x.q.life : Int), .string (ofL x.q.dead), .string (ofL x.bind.shop), .string (ofL x.bind.to), .bool x.bind.up, .string (ofL x.bind.key), .slice A x.bind.want.length c, .bool x.bind.all, .string (ofL x.name), .int .u64 (x.id : Int), .int .u8 (x.how : Int), .int .u8 (x.frm : Int), .int .u8 (x.cd : Int), .int .u64 (x.num : Int), .int .u64 (x.mail.id : Int), .string (ofL x.mail.shop), .string (ofL x.mail.key), .slice B x.mail.head.length d, .string (ofL x.mail.body), .int .u64 (x.mail.due : Int), .int .u8 (x.mail.hops : Int), .string (ofL x.text)] 39)).cell? ⟨a, 0, none⟩ = some (.string (ofL n))) := (HB.out.cell (p := ⟨a, 0, none⟩) hal).trans ha
  have HW2 : Hid ((w.alloc (.cells #[.int .u8 (x.kd : Int), .int .u64 (x.tick : Int), .string (ofL x.shop.name), .int .u8 (x.shop.sort : Int), .string (ofL x.shop.to), .string (ofL x.q.name), .int .u64 (x.q.most : Int), .int .u64 (x.q.life : Int), .string (ofL x.q.dead), .string (ofL x.bind.shop), .string (ofL x.bind.to), .bool x.bind.up, .string (ofL x.bind.key), .slice A x.bind.want.length c, .bool x.bind.all, .string (ofL x.name), .int .u64 (x.id : Int), .int .u8 (x.how : Int), .int .u8 (x.frm : Int), .int .u8 (x.cd : Int), .int .u64 (x.num : Int), .int .u64 (x.mail.id : Int), .string (ofL x.mail.shop), .string (ofL x.mail.key), .slice B x.mail.head.length d, .string (ofL x.mail.body), .int .u64 (x.mail.due : Int), .int .u8 (x.mail.hops : Int), .string (ofL x.text)] 39)).cell? ⟨b, 0, none⟩ = some (.int .u64 (i : Int))) := (HB.out.cell (p := ⟨b, 0, none⟩) hbl).trans hb
  have h1 := str_same x.name n
  have h2 := cast_beq x.id i
  have h0 : ((x.kd : Int) == (8 : Int)) = (x.kd == 8) := cast_beq x.kd 8
  unfold setl
  generalize (x.name == n) = N1 at *
  generalize (x.id == i) = N2 at *
  generalize (x.kd == 8) = N0 at *
  simp only [dpV, deV]
  clear ha hb hal hbl
  cases N0 with
  | false =>
    go_enter Tryz.func35, Tryz.ntmps35
    go_upto_region 1 with fail
    generalize w.alloc (.cells #[.int .u8 (x.kd : Int), .int .u64 (x.tick : Int), .string (ofL x.shop.name), .int .u8 (x.shop.sort : Int), .string (ofL x.shop.to), .string (ofL x.q.name), .int .u64 (x.q.most : Int), .int .u64 (x.q.life : Int), .string (ofL x.q.dead), .string (ofL x.bind.shop), .string (ofL x.bind.to), .bool x.bind.up, .string (ofL x.bind.key), .slice A x.bind.want.length c, .bool x.bind.all, .string (ofL x.name), .int .u64 (x.id : Int), .int .u8 (x.how : Int), .int .u8 (x.frm : Int), .int .u8 (x.cd : Int), .int .u64 (x.num : Int), .int .u64 (x.mail.id : Int), .string (ofL x.mail.shop), .string (ofL x.mail.key), .slice B x.mail.head.length d, .string (ofL x.mail.body), .int .u64 (x.mail.due : Int), .int .u8 (x.mail.hops : Int), .string (ofL x.text)] 39) = W1 at *
    have c0 := HP.out.cs 0 _ rfl
    have cl := HP.out.lt
    go_wp2_with fail
    go_ret
    exact ⟨rfl, HB.out⟩
  | true =>
    cases N1 with
    | false =>
      go_enter Tryz.func35, Tryz.ntmps35
      go_upto_region 1 with fail
      generalize w.alloc (.cells #[.int .u8 (x.kd : Int), .int .u64 (x.tick : Int), .string (ofL x.shop.name), .int .u8 (x.shop.sort : Int), .string (ofL x.shop.to), .string (ofL x.q.name), .int .u64 (x.q.most : Int), .int .u64 (x.q.life : Int), .string (ofL x.q.dead), .string (ofL x.bind.shop), .string (ofL x.bind.to), .bool x.bind.up, .string (ofL x.bind.key), .slice A x.bind.want.length c, .bool x.bind.all, .string (ofL x.name), .int .u64 (x.id : Int), .int .u8 (x.how : Int), .int .u8 (x.frm : Int), .int .u8 (x.cd : Int), .int .u64 (x.num : Int), .int .u64 (x.mail.id : Int), .string (ofL x.mail.shop), .string (ofL x.mail.key), .slice B x.mail.head.length d, .string (ofL x.mail.body), .int .u64 (x.mail.due : Int), .int .u8 (x.mail.hops : Int), .string (ofL x.text)] 39) = W1 at *
      have c0 := HP.out.cs 0 _ rfl
      have c15 := HP.out.cs 15 _ rfl
      have cl := HP.out.lt
      have ca := HW1.out
      have cb := HW2.out
      go_wp2_with fail
      go_ret
      exact ⟨rfl, HB.out⟩
    | true =>
      go_enter Tryz.func35, Tryz.ntmps35
      go_upto_region 1 with fail
      generalize w.alloc (.cells #[.int .u8 (x.kd : Int), .int .u64 (x.tick : Int), .string (ofL x.shop.name), .int .u8 (x.shop.sort : Int), .string (ofL x.shop.to), .string (ofL x.q.name), .int .u64 (x.q.most : Int), .int .u64 (x.q.life : Int), .string (ofL x.q.dead), .string (ofL x.bind.shop), .string (ofL x.bind.to), .bool x.bind.up, .string (ofL x.bind.key), .slice A x.bind.want.length c, .bool x.bind.all, .string (ofL x.name), .int .u64 (x.id : Int), .int .u8 (x.how : Int), .int .u8 (x.frm : Int), .int .u8 (x.cd : Int), .int .u64 (x.num : Int), .int .u64 (x.mail.id : Int), .string (ofL x.mail.shop), .string (ofL x.mail.key), .slice B x.mail.head.length d, .string (ofL x.mail.body), .int .u64 (x.mail.due : Int), .int .u8 (x.mail.hops : Int), .string (ofL x.text)] 39) = W1 at *
      have c0 := HP.out.cs 0 _ rfl
      have c15 := HP.out.cs 15 _ rfl
      have c16 := HP.out.cs 16 _ rfl
      have cl := HP.out.lt
      have ca := HW1.out
      have cb := HW2.out
      go_wp2_with fail
      go_ret
      exact ⟨rfl, HB.out⟩

def IdxDe (q : De → Bool) (l : List Dp) (w : World) (g : Nat) (i : Value) (wr : World) : Prop :=
  ∃ k : Nat, k + g = l.length ∧ i = .int .i64 (k : Int) ∧ (∀ j, j < k → q (l.getD j Dp0).x = false) ∧ Below w.heap.size w wr
set_option maxRecDepth 100000 in
set_option maxHeartbeats 8000000 in
theorem indexDe_any (q : De → Bool) (a b : Nat) (l : List Dp) (A : Option Addr) (c : Nat) (w : World) (hl : l.length ≤ 100000) (hp : Dps w A l)
    (ht : ∀ (W : World) (p : Dp), Below w.heap.size w W → Calls Tryz.prog 35 #[dpV p, .pointer (some ⟨a, 0, none⟩), .pointer (some ⟨b, 0, none⟩)] W fun e w' => e = .returned (.bool (q p.x)) ∧ Below W.heap.size W w') :
    Calls Tryz.prog 52 #[.slice A l.length c, .func (.func 35) #[] #[.pointer (some ⟨a, 0, none⟩), .pointer (some ⟨b, 0, none⟩)]] w fun e w' => e = .returned (.int .i64 (idx (fun p : Dp => q p.x) l)) ∧ Below w.heap.size w w' := by
  have HP := Lib.hid hp
  have HT := Lib.hid ht
  have HNONE := Lib.hid (fun h => idx_none (q := fun p : Dp => q p.x) (l := l) Dp0 h)
  have HSOME := Lib.hid (fun k (hk : k < l.length) h hq => idx_some (q := fun p : Dp => q p.x) (l := l) Dp0 hk h hq)
  clear hp ht
  generalize idx (fun p : Dp => q p.x) l = M at *
  obtain ⟨n, hn⟩ : ∃ n, n = l.length := ⟨_, rfl⟩
  rw [← hn]
  have HN := Lib.hid hn
  have hnl : n ≤ 100000 := by omega
  clear hn
  go_enter Tryz.func52, Tryz.ntmps52
  go_wp2_with fail
  go_loopg [8] n (fun g i wr => IdxDe q l w g i wr)
  case atStart => exact ⟨0, by have := HN.out; omega, rfl, fun j hj => absurd hj (by omega), Below.refl _ _⟩
  case round =>
    obtain ⟨k, hk, rfl, hno, hB⟩ := hrel
    have HB := Lib.hid hB
    have HNO := Lib.hid hno
    have HK := Lib.hid hk
    clear hB hno hk
    by_cases hlt : k < n
    · have hkl : k < l.length := by have := HN.out; omega
      obtain ⟨bb, off, rfl, hbl, hat, _⟩ := dps_elt (HP.out.on HB.out) hkl
      have HAT := Lib.hid hat
      have HC := Lib.hid (HT.out wr (l.getD k Dp0) HB.out)
      have HQ : Hid (∀ h, q (l.getD k Dp0).x = true → M = (k : Int)) := fun h hq => HSOME.out k (by have := HN.out; omega) h hq
      clear hat
      cases hq : q (l.getD k Dp0).x with
      | true =>
        have HM := Lib.hid (HQ.out HNO.out hq)
        rw [hq] at HC
        clear hq
        generalize l.getD k Dp0 = p at *
        obtain ⟨x, XA, xc, XB, xd⟩ := p
        go_wp2_with (refine wpList_load_mid (by rfl) 39 _ (by rfl) bb (off + k * 29) (by rfl) (deL x XA xc XB xd) _ HAT.out Tryz.underlying39 rfl (by rw [de_size, deL_len]) ?_)
        refine HC.out.mono ?_
        rintro e w' ⟨rfl, hB1⟩
        have HB1 := Lib.hid (HB.out.trans (hB1.mono HB.out.size))
        clear hB1
        go_wp2_with fail
        go_ret
        exact ⟨ret_nat HM.out.symm, HB1.out⟩
      | false =>
        have HNEXT : Hid (∀ j, j < k + 1 → q (l.getD j Dp0).x = false) := fun j hj => by
          by_cases e : j = k
          · rw [e]; exact hq
          · exact HNO.out j (by omega)
        rw [hq] at HC
        clear hq
        generalize l.getD k Dp0 = p at *
        obtain ⟨x, XA, xc, XB, xd⟩ := p
        go_wp2_with (refine wpList_load_mid (by rfl) 39 _ (by rfl) bb (off + k * 29) (by rfl) (deL x XA xc XB xd) _ HAT.out Tryz.underlying39 rfl (by rw [de_size, deL_len]) ?_)
        refine HC.out.mono ?_
        rintro e w' ⟨rfl, hB1⟩
        have HB1 := Lib.hid (HB.out.trans (hB1.mono HB.out.size))
        clear hB1
        go_wp2_with fail
        go_roundg (gk - 1)
        case rel => exact ⟨k + 1, by have := HK.out; have := HN.out; omega, by go_num, HNEXT.out, HB1.out⟩
        case measure => have := HK.out; have := HN.out; omega
    · have HM := Lib.hid (HNONE.out (fun i hi => HNO.out i (by have := HN.out; omega)))
      go_wp2_with fail
      go_ret
      exact ⟨ret_nat HM.out.symm, HB.out⟩
theorem idx_anyD {α : Type} (q : α → Bool) (l : List α) : (idx q l = -1 ∧ l.any q = false) ∨ ∃ k : Nat, idx q l = (k : Int) ∧ l.any q = true := by
  unfold idx
  cases h : l.findIdx? q with
  | none =>
    left
    refine ⟨rfl, ?_⟩
    rw [List.findIdx?_eq_none_iff] at h
    rw [List.any_eq_false]
    intro x hx
    simpa using h x hx
  | some i =>
    right
    rw [List.findIdx?_eq_some_iff_getElem] at h
    obtain ⟨hi, hq, _⟩ := h
    exact ⟨i, rfl, List.any_eq_true.2 ⟨l[i], List.getElem_mem hi, hq⟩⟩
set_option maxRecDepth 100000 in
set_option maxHeartbeats 8000000 in
theorem containsDe_any (q : De → Bool) (a b : Nat) (l : List Dp) (A : Option Addr) (c : Nat) (w : World) (hl : l.length ≤ 100000) (hp : Dps w A l)
    (ht : ∀ (W : World) (p : Dp), Below w.heap.size w W → Calls Tryz.prog 35 #[dpV p, .pointer (some ⟨a, 0, none⟩), .pointer (some ⟨b, 0, none⟩)] W fun e w' => e = .returned (.bool (q p.x)) ∧ Below W.heap.size W w') :
    Calls Tryz.prog 34 #[.slice A l.length c, .func (.func 35) #[] #[.pointer (some ⟨a, 0, none⟩), .pointer (some ⟨b, 0, none⟩)]] w fun e w' => e = .returned (.bool (l.any fun p => q p.x)) ∧ Below w.heap.size w w' := by
  have hq := idx_anyD (fun p : Dp => q p.x) l
  have HIX := Lib.hid (indexDe_any q a b l A c w hl hp ht)
  clear hp ht
  generalize (l.any fun p : Dp => q p.x) = Y at *
  generalize idx (fun p : Dp => q p.x) l = M at *
  rcases hq with ⟨rfl, rfl⟩ | ⟨k, rfl, rfl⟩
  · go_enter Tryz.func34, Tryz.ntmps34
    go_wp2_with fail
    refine HIX.out.mono ?_
    rintro e W4 ⟨rfl, b4⟩
    have HB4 := Lib.hid b4
    clear b4
    go_wp2_with fail
    go_ret
    exact ⟨rfl, HB4.out⟩
  · have hk : (0 : Int) ≤ (k : Int) := by omega
    go_enter Tryz.func34, Tryz.ntmps34
    go_wp2_with fail
    refine HIX.out.mono ?_
    rintro e W4 ⟨rfl, b4⟩
    have HB4 := Lib.hid b4
    clear b4
    go_wp2_with fail
    go_ret
    exact ⟨ret_bool (by simp), HB4.out⟩
set_option maxRecDepth 100000 in
set_option maxHeartbeats 8000000 in
theorem drSettles_any (n : List UInt8) (i : Nat) (l : List Dp) (A : Option Addr) (c : Nat) (w : World) (hl : l.length ≤ 100000) (hp : Dps w A l) :
    Calls Tryz.prog 16 #[.agg #[.slice A l.length c], .string (ofL n), .int .u64 (i : Int)] w fun e w' => e = .returned (.bool (l.any fun p => setl n i p.x)) ∧ Below w.heap.size w w' := by
  have HB3 := Lib.hid (rtThree w (.cells #[.slice A l.length c] 27) (.cells #[.string (ofL n)] 9) (.cells #[.int .u64 (i : Int)] 23))
  have HX3 := Lib.hid (rtNext (rtNext (rtAt0 w #[.slice A l.length c] 27) (.cells #[.string (ofL n)] 9)) (.cells #[.int .u64 (i : Int)] 23))
  have HN3 := Lib.hid (rtNext (rtAt1 w (.cells #[.slice A l.length c] 27) #[.string (ofL n)] 9) (.cells #[.int .u64 (i : Int)] 23))
  have HI3 := Lib.hid (rtAt2 w (.cells #[.slice A l.length c] 27) (.cells #[.string (ofL n)] 9) #[.int .u64 (i : Int)] 23)
  have HP := Lib.hid (hp.on HB3.out)
  have HIX := Lib.hid (fun (W : World) (hS : Dps W A l) ht => containsDe_any (setl n i) (w.heap.size + 1) (w.heap.size + 2) l A c W hl hS ht)
  clear hp
  go_enter Tryz.func16, Tryz.ntmps16
  go_upto_region 1 with fail
  generalize ((w.alloc (.cells #[.slice A l.length c] 27)).alloc (.cells #[.string (ofL n)] 9)).alloc (.cells #[.int .u64 (i : Int)] 23) = W3 at *
  have HT := Lib.hid (fun (W : World) (p : Dp) (hW : Below W3.heap.size W3 W) => drSettles1_any p n i (w.heap.size + 1) (w.heap.size + 2) W ((hW.cell (p := ⟨w.heap.size + 1, 0, none⟩) HN3.out.lt).trans (HN3.out.cs 0 _ rfl)) ((hW.cell (p := ⟨w.heap.size + 2, 0, none⟩) HI3.out.lt).trans (HI3.out.cs 0 _ rfl)))
  have c0 := HX3.out.cs 0 _ rfl
  have cl := HX3.out.lt
  go_wp2_with fail
  refine (HIX.out W3 HP.out HT.out).mono ?_
  rintro e W4 ⟨rfl, b4⟩
  have HB4 := Lib.hid (bthen HB3.out b4 (Nat.le_refl _))
  clear b4
  go_wp2_with fail
  go_ret
  exact ⟨rfl, HB4.out⟩
end Go.Proofs.YtecjngodfciokaaGreatDoor
end
section
namespace Go.Proofs.YtecjngodfciokaaGreatDoor
namespace Dr
def settles (l : List De) (name : List UInt8) (id : Nat) : Bool := l.any fun d => d.kd == 8 && d.name == name && d.id == id
/-- why a deed can't stand behind others -/
def chk (l : List De) (x : De) : Nat :=
  if x.kd ≠ 6 ∧ x.kd ≠ 8 then 8 else
  if x.code ≠ 0 then x.code else
  if x.kd = 8 ∧ settles l x.name x.id = true then 9 else
  if 16 ≤ l.length then 12 else 0
def own (x : De) : De := { x with bind := { x.bind with want := [] } }
theorem own_told {x : De} (hk : x.kd = 6 ∨ x.kd = 8) (h : x = x.told) : own x = x := by
  have hb : x.bind = Bk.Bd0 := by
    rw [h]
    unfold De.told
    rcases hk with e | e <;> simp [e, De.of]
  unfold own
  rw [hb]
  rw [← hb]
  cases x
  simp only at hb
  subst hb
  rfl
end Dr
end Go.Proofs.YtecjngodfciokaaGreatDoor
end
