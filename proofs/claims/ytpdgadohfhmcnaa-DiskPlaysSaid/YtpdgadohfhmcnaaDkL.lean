/-
  THE LAWS ON DISKS: their acts; one disk, or two beside each other, over calls.
-/
import Derived.Test.YtpdgadohfhmcnaaDkH
namespace Go.Proofs.Ytpdgadohfhmcnaa
open Go.ChangeShapes Go.WideShapes Go.ChangeAt Go.RowKit

/-- an act -/
structure Ac where
  what : Int
  at_ : Int
  cut : Int
  data : List UInt8
def ac0 : Ac := ⟨0, 0, 0, []⟩
/-- a row of acts that are read -/
structure ARow (w : World) (A : Option Addr) (l : List Ac) : Prop where
  at_ : ∀ i, i < l.length → ∃ b off, A = some ⟨b, off, none⟩ ∧ b < w.heap.size ∧ w.cell? ⟨b, off + i * 4, none⟩ = some (.int .u8 (l.getD i ac0).what) ∧ w.cell? ⟨b, off + i * 4 + 1, none⟩ = some (.int .i64 (l.getD i ac0).at_) ∧
    w.cell? ⟨b, off + i * 4 + 2, none⟩ = some (.int .i64 (l.getD i ac0).cut) ∧ w.cell? ⟨b, off + i * 4 + 3, none⟩ = some (.string (ofL (l.getD i ac0).data))
  bnd : ∀ i, i < l.length → 0 ≤ (l.getD i ac0).what ∧ (l.getD i ac0).what < 256 ∧ (l.getD i ac0).at_ ≤ 9223372036854775807 ∧ (l.getD i ac0).cut ≤ 9223372036854775807 ∧ -9223372036854775808 ≤ (l.getD i ac0).cut
theorem ARow.on {w w' : World} {A : Option Addr} {l : List Ac} (h : ARow w A l) (hb : Below w.heap.size w w') : ARow w' A l := ⟨fun i hi => by
  obtain ⟨b, off, e, hlt, c0, c1, c2, c3⟩ := h.at_ i hi
  exact ⟨b, off, e, Nat.lt_of_lt_of_le hlt hb.size, (hb.cell (p := ⟨b, off + i * 4, none⟩) hlt).trans c0, (hb.cell (p := ⟨b, off + i * 4 + 1, none⟩) hlt).trans c1, (hb.cell (p := ⟨b, off + i * 4 + 2, none⟩) hlt).trans c2, (hb.cell (p := ⟨b, off + i * 4 + 3, none⟩) hlt).trans c3⟩, h.bnd⟩
def FewA (l : List Ac) : Prop := l.length ≤ 60 ∧ ∀ i, i < l.length → (l.getD i ac0).data.length ≤ 80
def LgSt (w : World) (l : List Ac) (g : Nat) (i : Value) (wr : World) : Prop :=
  ∃ k : Nat, k + g = l.length ∧ i = .int .i64 (k : Int) ∧ (∀ j, j < k → (l.getD j ac0).data.length ≤ 80) ∧ Below w.heap.size w wr
set_option maxHeartbeats 2000000 in
theorem light15_any (A : Option Addr) (ca : Nat) (l : List Ac) (w : World) (hl : l.length ≤ 9223372036854775807) (hA : ARow w A l) :
    Calls Try.prog 8 #[.slice A l.length ca] w fun e w' => (e = .returned (.bool true) ∧ FewA l ∨ e = .returned (.bool false)) ∧ Below w.heap.size w w' := by
  have HA := Lib.hid hA
  clear hA
  go_enter Try.func8, Try.ntmps8
  go_wp2_with fail
  go_loopg [7] l.length (fun g i wr => LgSt w l g i wr)
  case atStart => exact ⟨0, by omega, rfl, fun j hj => absurd hj (by omega), Below.refl _ _⟩
  case round =>
    obtain ⟨k, hk, rfl, hall, hb⟩ := hrel
    have HK := Lib.hid hk
    have HALL := Lib.hid hall
    have HB := Lib.hid hb
    clear hk hall hb
    by_cases hlt : k < l.length
    · obtain ⟨b, off, rfl, hbl, x0, x1, x2, x3⟩ := HA.out.at_ k hlt
      have y0 := (HB.out.cell (p := ⟨b, off + k * 4, none⟩) hbl).trans x0
      have y1 := (HB.out.cell (p := ⟨b, off + k * 4 + 1, none⟩) hbl).trans x1
      have y2 := (HB.out.cell (p := ⟨b, off + k * 4 + 2, none⟩) hbl).trans x2
      have y3 := (HB.out.cell (p := ⟨b, off + k * 4 + 3, none⟩) hbl).trans x3
      clear x0 x1 x2 x3 hbl
      have HB2 := Lib.hid (fun o => HB.out.alloc HB.out.size o)
      have hz : (ofL (l.getD k ac0).data).size = (l.getD k ac0).data.length := ofL_size _
      by_cases h5 : 80 < (l.getD k ac0).data.length
      · generalize l.getD k ac0 = x at *
        obtain ⟨xw, xa, xc, xd⟩ := x
        dsimp only at *
        go_wp2_with fail
        go_ret
        exact ⟨Or.inr rfl, HB2.out _⟩
      · have HN := Lib.hid (show ∀ j, j < k + 1 → (l.getD j ac0).data.length ≤ 80 from fun j hj => by
          by_cases e : j = k
          · rw [e]; omega
          · exact HALL.out j (by omega))
        generalize l.getD k ac0 = x at *
        obtain ⟨xw, xa, xc, xd⟩ := x
        dsimp only at *
        go_wp2_with fail
        go_roundg (gk - 1)
        case rel => exact ⟨k + 1, by have := HK.out; omega, by go_num, HN.out, HB2.out _⟩
        case measure => have := HK.out; omega
    · by_cases h60 : l.length ≤ 60
      · have HF := Lib.hid (show FewA l from ⟨h60, fun i hi => HALL.out i (by have := HK.out; omega)⟩)
        have hd : decide ((l.length : Int) ≤ 60) = true := decide_eq_true (by omega)
        go_wp2_with fail
        go_ret
        exact ⟨Or.inl ⟨rfl, HF.out⟩, HB.out⟩
      · have hd : decide ((l.length : Int) ≤ 60) = false := decide_eq_false (by omega)
        go_wp2_with fail
        go_ret
        exact ⟨Or.inr rfl, HB.out⟩
/-- so many noughts -/
theorem r15Noughts_any (n : Nat) (w : World) (hn : n ≤ 1000000) :
    Calls Try.prog 24 #[.int .i64 (n : Int)] w fun e w' => e = .returned (.string (ofL (List.replicate n 0))) ∧ Below w.heap.size w w' := by
  obtain ⟨i1, hi1, hz0, hz1, hz2⟩ := info_parts infoU8
  have hmk := run_make (P := Try.prog) w 64 5 i1 _ Try.underlying64 hi1 hz0 .i64 .i64 (n : Int) (n : Int) (by omega) (Int.le_refl _) (by rw [hz2]; omega) (by omega)
  have e : (madeCells (Value.int .u8 0).cells (n * 1)) = (Lib.byteCells (List.replicate n 0)).toArray := by
    apply Array.toList_inj.1
    rw [show (Value.int .u8 0).cells = #[Value.int .u8 0] from rfl, toList_madeCells_one, Nat.mul_one]
    simp [Lib.byteCells]
  rw [hz1, Int.toNat_natCast, e] at hmk
  have hR := heap_alloc_new w (.cells (Lib.byteCells (List.replicate n 0)).toArray 5)
  have htx := dk_text hR (n := n) (by simp) n
  have HB := Lib.hid ((Below.refl w.heap.size w).alloc (Nat.le_refl _) (.cells (Lib.byteCells (List.replicate n 0)).toArray 5))
  clear hR e hz0 hz1 hz2 hi1
  generalize List.replicate n (0 : UInt8) = z at *
  go_enter Try.func24, Try.ntmps24
  go_wp2_with fail
  go_ret
  exact ⟨rfl, HB.out⟩
/-- blocks beside the disks, as they are -/
def Beside (F : Nat → Prop) (bx : List (Nat × Obj)) (w : World) : Prop := ∀ x ∈ bx, w.heap[x.1]? = some x.2 ∧ ¬ F x.1
theorem Beside.call {F F' : Nat → Prop} {bx : List (Nat × Obj)} {w w' : World} (h : Beside F bx w) (k : Kp F w w') (he : Ext F w F') : Beside F' bx w' := fun x hx => by
  obtain ⟨h1, h2⟩ := h x hx
  have hlt := (Array.getElem?_eq_some_iff.1 h1).1
  exact ⟨(k.block _ hlt h2).trans h1, fun f => h2 (he.old _ hlt f)⟩
theorem Beside.far {F G : Nat → Prop} {bx : List (Nat × Obj)} {w w' : World} (h : Beside F bx w) (hG : Beside G bx w) (k : Kp G w w') : Beside F bx w' := fun x hx => by
  obtain ⟨h1, h2⟩ := h x hx
  have hlt := (Array.getElem?_eq_some_iff.1 h1).1
  exact ⟨(k.block _ hlt (hG x hx).2).trans h1, h2⟩
theorem Beside.keep {F : Nat → Prop} {bx : List (Nat × Obj)} {w w' : World} (h : Beside F bx w) (k : Below w.heap.size w w') : Beside F bx w' := fun x hx => by
  obtain ⟨h1, h2⟩ := h x hx
  exact ⟨(k.block _ (Array.getElem?_eq_some_iff.1 h1).1).trans h1, h2⟩
theorem Beside.push {F : Nat → Prop} {bx : List (Nat × Obj)} {w : World} (h : Beside F bx w) (hF : ∀ k, F k → k < w.heap.size) (o : Obj) : Beside F ((w.heap.size, o) :: bx) (w.alloc o) := fun x hx => by
  rcases List.mem_cons.1 hx with rfl | hx
  · exact ⟨heap_alloc_new w o, fun f => by have := hF _ f; dsimp only at this; omega⟩
  · exact (h.keep ((Below.refl _ w).alloc (Nat.le_refl _) o)) x hx
theorem Disk.lt {n D : Nat} {F : Nat → Prop} {st : Dk.St} {w : World} (h : Disk n F D st w) : ∀ k, F k → k < w.heap.size := by obtain ⟨R, v, am, sy, ct, hd⟩ := h; exact hd.lt
theorem Disk.wf {n D : Nat} {F : Nat → Prop} {st : Dk.St} {w : World} (h : Disk n F D st w) : Dk.Wf n st := by obtain ⟨R, v, am, sy, ct, hd⟩ := h; exact hd.wf
/-! ### one disk over calls -/
def One (n : Nat) (w0 : World) (D : Nat) (st : Dk.St) (bx : List (Nat × Obj)) (w : World) : Prop := ∃ F, Disk n F D st w ∧ (∀ k, F k → w0.heap.size ≤ k) ∧ Beside F bx w ∧ Below w0.heap.size w0 w
theorem One.below {n D : Nat} {w0 w : World} {st : Dk.St} {bx : List (Nat × Obj)} (h : One n w0 D st bx w) : Below w0.heap.size w0 w := by obtain ⟨F, _, _, _, hb⟩ := h; exact hb
theorem One.wf {n D : Nat} {w0 w : World} {st : Dk.St} {bx : List (Nat × Obj)} (h : One n w0 D st bx w) : Dk.Wf n st := by obtain ⟨F, hd, _⟩ := h; exact hd.wf
theorem One.get {n D : Nat} {w0 w : World} {st : Dk.St} {bx : List (Nat × Obj)} (h : One n w0 D st bx w) {x : Nat × Obj} (hx : x ∈ bx) : w.heap[x.1]? = some x.2 := by obtain ⟨F, _, _, hb, _⟩ := h; exact (hb x hx).1
theorem One.sub {n D : Nat} {w0 w : World} {st : Dk.St} {bx by' : List (Nat × Obj)} (h : One n w0 D st bx w) (hs : ∀ x ∈ by', x ∈ bx) : One n w0 D st by' w := by
  obtain ⟨F, hd, hF, hb, hw⟩ := h
  exact ⟨F, hd, hF, fun x hx => hb x (hs x hx), hw⟩
theorem One.keep {n D : Nat} {w0 w w' : World} {st : Dk.St} {bx : List (Nat × Obj)} (h : One n w0 D st bx w) (hb : Below w.heap.size w w') : One n w0 D st bx w' := by
  obtain ⟨F, hd, hF, hx, hw⟩ := h
  exact ⟨F, hd.below hb, hF, hx.keep hb, Below.trans hw (hb.mono hw.size)⟩
theorem One.push {n D : Nat} {w0 w : World} {st : Dk.St} {bx : List (Nat × Obj)} (h : One n w0 D st bx w) (o : Obj) : One n w0 D st ((w.heap.size, o) :: bx) (w.alloc o) := by
  obtain ⟨F, hd, hF, hx, hw⟩ := h
  have hb : Below w.heap.size w (w.alloc o) := (Below.refl _ _).alloc (Nat.le_refl _) o
  exact ⟨F, hd.below hb, hF, hx.push hd.lt o, Below.trans hw (hb.mono hw.size)⟩
theorem One.call {n D : Nat} {w0 w : World} {st st' : Dk.St} {bx : List (Nat × Obj)} {f : Nat} {args : Array Value} {v : Value} (h : One n w0 D st bx w) (C : ∀ F, Disk n F D st w → Calls Try.prog f args w (DkPost n D F st' w v)) :
    Calls Try.prog f args w fun e w' => e = .returned v ∧ One n w0 D st' bx w' := by
  obtain ⟨F, hd, hF, hx, hw⟩ := h
  refine (C F hd).mono ?_
  rintro e w' ⟨rfl, k, F', he, hd'⟩
  exact ⟨rfl, F', hd', fun q hq => (he q hq).elim (hF q) (fun g => Nat.le_trans hw.size g), hx.call k he, Below.trans hw (k.below hw.size hF)⟩
theorem One.read {n D : Nat} {w0 w : World} {st : Dk.St} {bx : List (Nat × Obj)} {f : Nat} {args : Array Value} {v : Value} (h : One n w0 D st bx w) (C : ∀ F, Disk n F D st w → Calls Try.prog f args w fun e w' => e = .returned v ∧ Below w.heap.size w w') :
    Calls Try.prog f args w fun e w' => e = .returned v ∧ One n w0 D st bx w' := by
  have h' := h
  obtain ⟨F, hd, _⟩ := h
  refine (C F hd).mono ?_
  rintro e w' ⟨rfl, hb⟩
  exact ⟨rfl, h'.keep hb⟩
theorem One.look {n D : Nat} {w0 w : World} {st : Dk.St} {bx : List (Nat × Obj)} {f : Nat} {args : Array Value} {v : Value} (h : One n w0 D st bx w) (C : ∀ F, Disk n F D st w → Calls Try.prog f args w fun e w' => e = .returned v ∧ w = w') :
    Calls Try.prog f args w fun e w' => e = .returned v ∧ One n w0 D st bx w' := by
  have h' := h
  obtain ⟨F, hd, _⟩ := h
  refine (C F hd).mono ?_
  rintro e w' ⟨rfl, rfl⟩
  exact ⟨rfl, h'⟩
theorem one_new (b : Int) (w0 w : World) (h : Below w0.heap.size w0 w) :
    Calls Try.prog 9 #[.int .i64 b] w fun e w' => ∃ D, e = .returned (dkP D) ∧ One (nbl b) w0 D (Dk.new (nbl b)) [] w' := by
  refine (dkNew_any b w).mono ?_
  rintro e w' ⟨rfl, hb, hd⟩
  exact ⟨_, rfl, _, hd, fun k hk => by have := h.size; omega, (fun x hx => by cases hx), Below.trans h (hb.mono h.size)⟩
/-! ### two disks beside each other -/
def Two (w0 : World) (Da Db : Nat) (sa sb : Dk.St) (bx : List (Nat × Obj)) (w : World) : Prop :=
  ∃ Fa Fb, Disk 6 Fa Da sa w ∧ Disk 6 Fb Db sb w ∧ Apart Fa Fb ∧ (∀ k, Fa k → w0.heap.size ≤ k) ∧ (∀ k, Fb k → w0.heap.size ≤ k) ∧ Beside Fa bx w ∧ Beside Fb bx w ∧ Below w0.heap.size w0 w
theorem Two.below {Da Db : Nat} {w0 w : World} {sa sb : Dk.St} {bx : List (Nat × Obj)} (h : Two w0 Da Db sa sb bx w) : Below w0.heap.size w0 w := by obtain ⟨Fa, Fb, _, _, _, _, _, _, _, hb⟩ := h; exact hb
theorem Two.wfa {Da Db : Nat} {w0 w : World} {sa sb : Dk.St} {bx : List (Nat × Obj)} (h : Two w0 Da Db sa sb bx w) : Dk.Wf 6 sa := by obtain ⟨Fa, Fb, hd, _⟩ := h; exact hd.wf
theorem Two.get {Da Db : Nat} {w0 w : World} {sa sb : Dk.St} {bx : List (Nat × Obj)} (h : Two w0 Da Db sa sb bx w) {x : Nat × Obj} (hx : x ∈ bx) : w.heap[x.1]? = some x.2 := by obtain ⟨Fa, Fb, _, _, _, _, _, hb, _⟩ := h; exact (hb x hx).1
theorem Two.sub {Da Db : Nat} {w0 w : World} {sa sb : Dk.St} {bx by' : List (Nat × Obj)} (h : Two w0 Da Db sa sb bx w) (hs : ∀ x ∈ by', x ∈ bx) : Two w0 Da Db sa sb by' w := by
  obtain ⟨Fa, Fb, ha, hb, hap, h1, h2, xa, xb, h3⟩ := h
  exact ⟨Fa, Fb, ha, hb, hap, h1, h2, fun x hx => xa x (hs x hx), fun x hx => xb x (hs x hx), h3⟩
theorem Two.swap {Da Db : Nat} {w0 w : World} {sa sb : Dk.St} {bx : List (Nat × Obj)} (h : Two w0 Da Db sa sb bx w) : Two w0 Db Da sb sa bx w := by
  obtain ⟨Fa, Fb, ha, hb, hap, h1, h2, xa, xb, h3⟩ := h
  exact ⟨Fb, Fa, hb, ha, hap.symm, h2, h1, xb, xa, h3⟩
theorem Two.keep {Da Db : Nat} {w0 w w' : World} {sa sb : Dk.St} {bx : List (Nat × Obj)} (h : Two w0 Da Db sa sb bx w) (hb : Below w.heap.size w w') : Two w0 Da Db sa sb bx w' := by
  obtain ⟨Fa, Fb, h1, h2, hap, h3, h4, xa, xb, hw⟩ := h
  exact ⟨Fa, Fb, h1.below hb, h2.below hb, hap, h3, h4, xa.keep hb, xb.keep hb, Below.trans hw (hb.mono hw.size)⟩
theorem Two.push {Da Db : Nat} {w0 w : World} {sa sb : Dk.St} {bx : List (Nat × Obj)} (h : Two w0 Da Db sa sb bx w) (o : Obj) : Two w0 Da Db sa sb ((w.heap.size, o) :: bx) (w.alloc o) := by
  obtain ⟨Fa, Fb, h1, h2, hap, h3, h4, xa, xb, hw⟩ := h
  have hb : Below w.heap.size w (w.alloc o) := (Below.refl _ _).alloc (Nat.le_refl _) o
  exact ⟨Fa, Fb, h1.below hb, h2.below hb, hap, h3, h4, xa.push h1.lt o, xb.push h2.lt o, Below.trans hw (hb.mono hw.size)⟩
/-- a block beside is written -/
theorem Beside.put {F : Nat → Prop} {q : Nat} {w : World} {c : Array Value} {t : TypeId} {rest : List (Nat × Obj)} (h : Beside F ((q, .cells c t (0, 0)) :: rest) w) (hr : ∀ x ∈ rest, x.1 ≠ q) (i : Nat) (v : Value) : Beside F ((q, .cells (c.setIfInBounds i v) t (0, 0)) :: rest) (w.setCell ⟨q, i, none⟩ v) := by
  intro x hx
  rcases List.mem_cons.1 hx with rfl | hx
  · exact ⟨Lib.heap_setCell_same (i := i) (h _ (List.mem_cons_self ..)).1 v, (h _ (List.mem_cons_self ..)).2⟩
  · obtain ⟨h1, h2⟩ := h x (List.mem_cons_of_mem _ hx)
    exact ⟨(Below.heap_setCell _ _ _ _ (hr x hx)).trans h1, h2⟩
theorem Two.put {Da Db q : Nat} {w0 w : World} {sa sb : Dk.St} {c : Array Value} {t : TypeId} {rest : List (Nat × Obj)} (h : Two w0 Da Db sa sb ((q, .cells c t (0, 0)) :: rest) w) (hq : w0.heap.size ≤ q) (hr : ∀ x ∈ rest, x.1 ≠ q) (i : Nat) (v : Value) :
    Two w0 Da Db sa sb ((q, .cells (c.setIfInBounds i v) t (0, 0)) :: rest) (w.setCell ⟨q, i, none⟩ v) := by
  obtain ⟨Fa, Fb, h1, h2, hap, h3, h4, xa, xb, hw⟩ := h
  have k : Kp (fun z => z = q) w (w.setCell ⟨q, i, none⟩ v) := kset w q i v
  exact ⟨Fa, Fb, h1.on k (fun z f e => (xa _ (List.mem_cons_self ..)).2 (e ▸ f)), h2.on k (fun z f e => (xb _ (List.mem_cons_self ..)).2 (e ▸ f)), hap, h3, h4, xa.put hr i v, xb.put hr i v, hw.setCell hq v⟩
theorem Two.callA {Da Db : Nat} {w0 w : World} {sa sb sa' : Dk.St} {bx : List (Nat × Obj)} {f : Nat} {args : Array Value} {v : Value} (h : Two w0 Da Db sa sb bx w) (C : ∀ F, Disk 6 F Da sa w → Calls Try.prog f args w (DkPost 6 Da F sa' w v)) :
    Calls Try.prog f args w fun e w' => e = .returned v ∧ Two w0 Da Db sa' sb bx w' := by
  obtain ⟨Fa, Fb, ha, hb, hap, h1, h2, xa, xb, hw⟩ := h
  refine (C Fa ha).mono ?_
  rintro e w' ⟨rfl, k, F', he, hd'⟩
  exact ⟨rfl, F', Fb, hd', hb.on k hap.symm, hap.ext he hb.lt, fun q hq => (he q hq).elim (h1 q) (fun g => Nat.le_trans hw.size g), h2, xa.call k he, xb.far xa k, Below.trans hw (k.below hw.size h1)⟩
theorem Two.callB {Da Db : Nat} {w0 w : World} {sa sb sb' : Dk.St} {bx : List (Nat × Obj)} {f : Nat} {args : Array Value} {v : Value} (h : Two w0 Da Db sa sb bx w) (C : ∀ F, Disk 6 F Db sb w → Calls Try.prog f args w (DkPost 6 Db F sb' w v)) :
    Calls Try.prog f args w fun e w' => e = .returned v ∧ Two w0 Da Db sa sb' bx w' :=
  (h.swap.callA C).mono fun _ _ h => ⟨h.1, h.2.swap⟩
theorem Two.readA {Da Db : Nat} {w0 w : World} {sa sb : Dk.St} {bx : List (Nat × Obj)} {f : Nat} {args : Array Value} {v : Value} (h : Two w0 Da Db sa sb bx w) (C : ∀ F, Disk 6 F Da sa w → Calls Try.prog f args w fun e w' => e = .returned v ∧ Below w.heap.size w w') :
    Calls Try.prog f args w fun e w' => e = .returned v ∧ Two w0 Da Db sa sb bx w' := by
  have h' := h
  obtain ⟨Fa, Fb, ha, _⟩ := h
  refine (C Fa ha).mono ?_
  rintro e w' ⟨rfl, hb⟩
  exact ⟨rfl, h'.keep hb⟩
theorem Two.readB {Da Db : Nat} {w0 w : World} {sa sb : Dk.St} {bx : List (Nat × Obj)} {f : Nat} {args : Array Value} {v : Value} (h : Two w0 Da Db sa sb bx w) (C : ∀ F, Disk 6 F Db sb w → Calls Try.prog f args w fun e w' => e = .returned v ∧ Below w.heap.size w w') :
    Calls Try.prog f args w fun e w' => e = .returned v ∧ Two w0 Da Db sa sb bx w' :=
  (h.swap.readA C).mono fun _ _ h => ⟨h.1, h.2.swap⟩
theorem same_below {f : Nat} {args : Array Value} {v : Value} {w : World} (C : Calls Try.prog f args w fun e w' => e = .returned v ∧ w = w') : Calls Try.prog f args w fun e w' => e = .returned v ∧ Below w.heap.size w w' :=
  C.mono fun _ _ h => ⟨h.1, h.2 ▸ Below.refl _ _⟩
theorem two_new (Da : Nat) (w0 w : World) (sa : Dk.St) (h : One 6 w0 Da sa [] w) :
    Calls Try.prog 9 #[.int .i64 6] w fun e w' => ∃ Db, e = .returned (dkP Db) ∧ Two w0 Da Db sa (Dk.new 6) [] w' := by
  refine (dkNew_any 6 w).mono ?_
  rintro e w' ⟨rfl, hb, hd⟩
  obtain ⟨F, hF, h1, _, hw⟩ := h
  exact ⟨_, rfl, F, _, hF.below hb, hd, fun k f g => by have := hF.lt k f; omega, h1, fun k hk => by have := hw.size; omega, (fun x hx => by cases hx), (fun x hx => by cases hx), Below.trans hw (hb.mono hw.size)⟩
end Go.Proofs.Ytpdgadohfhmcnaa
