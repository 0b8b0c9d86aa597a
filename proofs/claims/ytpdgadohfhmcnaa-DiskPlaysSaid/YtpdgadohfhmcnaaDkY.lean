/-
  THE DISK AND THE DOCUMENT's, side by side.
-/
import Derived.Test.YtpdgadohfhmcnaaDkX
namespace Go.Proofs.Ytpdgadohfhmcnaa
open Go.ChangeShapes Go.WideShapes Go.ChangeAt Go.RowKit

/-- F's blocks, and those beside -/
def With (F : Nat → Prop) (bx : List (Nat × Obj)) : Nat → Prop := fun k => F k ∨ ∃ x ∈ bx, x.1 = k
def Pl2 (n : Nat) (w0 : World) (D : Nat) (sp sq : Dk.St) (v : Value) (bx : List (Nat × Obj)) (w : World) : Prop :=
  ∃ F, Disk n F D sp w ∧ (∀ k, F k → w0.heap.size ≤ k) ∧ Beside F bx w ∧ Dz (With F bx) sq v w ∧ Below w0.heap.size w0 w
theorem Dz.less {F G : Nat → Prop} {st : Dk.St} {v : Value} {w : World} (h : Dz F st v w) (hG : ∀ k, k < w.heap.size → G k → F k) : Dz G st v w := by
  obtain ⟨A, c, am, sy, ct, e, hA, ha, hF⟩ := h
  exact ⟨A, c, am, sy, ct, e, hA, ha, fun a e => ⟨(hF a e).1, fun g => (hF a e).2 (hG _ (hF a e).1 g)⟩⟩
theorem Dz.aside {F G : Nat → Prop} {st : Dk.St} {v : Value} {w w' : World} (h : Dz F st v w) (k : Kp G w w') (hG : ∀ i, G i → F i) : Dz F st v w' := by
  obtain ⟨A, c, am, sy, ct, e, hA, ha, hF⟩ := h
  exact ⟨A, c, am, sy, ct, e, hA.kp k (fun a e g => (hF a e).2 (hG _ g)), ha, fun a e => ⟨Nat.lt_of_lt_of_le (hF a e).1 k.size, (hF a e).2⟩⟩
theorem Pl2.below {n D : Nat} {w0 w : World} {sp sq : Dk.St} {v : Value} {bx : List (Nat × Obj)} (h : Pl2 n w0 D sp sq v bx w) : Below w0.heap.size w0 w := by obtain ⟨F, _, _, _, _, hb⟩ := h; exact hb
theorem Pl2.wf {n D : Nat} {w0 w : World} {sp sq : Dk.St} {v : Value} {bx : List (Nat × Obj)} (h : Pl2 n w0 D sp sq v bx w) : Dk.Wf n sp := by obtain ⟨F, hd, _⟩ := h; exact hd.wf
theorem Pl2.val {n D : Nat} {w0 w : World} {sp sq : Dk.St} {v : Value} {bx : List (Nat × Obj)} (h : Pl2 n w0 D sp sq v bx w) : ∃ A c am sy ct, v = sixV (ofL sq.last) A sq.wait.length c sq.on am sy ct := by
  obtain ⟨F, _, _, _, ⟨A, c, am, sy, ct, e, _⟩, _⟩ := h
  exact ⟨A, c, am, sy, ct, e⟩
theorem Pl2.get {n D : Nat} {w0 w : World} {sp sq : Dk.St} {v : Value} {bx : List (Nat × Obj)} (h : Pl2 n w0 D sp sq v bx w) {x : Nat × Obj} (hx : x ∈ bx) : w.heap[x.1]? = some x.2 := by obtain ⟨F, _, _, hb, _⟩ := h; exact (hb x hx).1
theorem Pl2.sub {n D : Nat} {w0 w : World} {sp sq : Dk.St} {v : Value} {bx by' : List (Nat × Obj)} (h : Pl2 n w0 D sp sq v bx w) (hs : ∀ x ∈ by', x ∈ bx) : Pl2 n w0 D sp sq v by' w := by
  obtain ⟨F, hd, hF, hb, hz, hw⟩ := h
  exact ⟨F, hd, hF, fun x hx => hb x (hs x hx), hz.less (fun k _ g => g.imp id (fun ⟨x, hx, e⟩ => ⟨x, hs x hx, e⟩)), hw⟩
theorem Pl2.keep {n D : Nat} {w0 w w' : World} {sp sq : Dk.St} {v : Value} {bx : List (Nat × Obj)} (h : Pl2 n w0 D sp sq v bx w) (hb : Below w.heap.size w w') : Pl2 n w0 D sp sq v bx w' := by
  obtain ⟨F, hd, hF, hx, hz, hw⟩ := h
  exact ⟨F, hd.below hb, hF, hx.keep hb, hz.keep hb, Below.trans hw (hb.mono hw.size)⟩
theorem Pl2.push {n D : Nat} {w0 w : World} {sp sq : Dk.St} {v : Value} {bx : List (Nat × Obj)} (h : Pl2 n w0 D sp sq v bx w) (o : Obj) : Pl2 n w0 D sp sq v ((w.heap.size, o) :: bx) (w.alloc o) := by
  obtain ⟨F, hd, hF, hx, hz, hw⟩ := h
  have hb : Below w.heap.size w (w.alloc o) := (Below.refl _ _).alloc (Nat.le_refl _) o
  refine ⟨F, hd.below hb, hF, hx.push hd.lt o, ?_, Below.trans hw (hb.mono hw.size)⟩
  obtain ⟨A, c, am, sy, ct, e, hA, ha, hR⟩ := hz
  refine ⟨A, c, am, sy, ct, e, hA.on hb, ha, fun a e => ⟨Nat.lt_of_lt_of_le (hR a e).1 hb.size, fun g => ?_⟩⟩
  rcases g with g | ⟨x, hx, e2⟩
  · exact (hR a e).2 (.inl g)
  · rcases List.mem_cons.1 hx with rfl | hx
    · have := (hR a e).1; dsimp only at e2; omega
    · exact (hR a e).2 (.inr ⟨x, hx, e2⟩)
theorem Pl2.put {n D q : Nat} {w0 w : World} {sp sq : Dk.St} {v : Value} {c : Array Value} {t : TypeId} {rest : List (Nat × Obj)} (h : Pl2 n w0 D sp sq v ((q, .cells c t (0, 0)) :: rest) w) (hq : w0.heap.size ≤ q) (hr : ∀ x ∈ rest, x.1 ≠ q) (i : Nat) (u : Value) :
    Pl2 n w0 D sp sq v ((q, .cells (c.setIfInBounds i u) t (0, 0)) :: rest) (w.setCell ⟨q, i, none⟩ u) := by
  obtain ⟨F, hd, hF, hx, hz, hw⟩ := h
  have k : Kp (fun z => z = q) w (w.setCell ⟨q, i, none⟩ u) := kset w q i u
  refine ⟨F, hd.on k (fun z f e => (hx _ (List.mem_cons_self ..)).2 (e ▸ f)), hF, hx.put hr i u, ?_, hw.setCell hq u⟩
  refine (hz.aside k (fun z e => .inr ⟨_, List.mem_cons_self .., e.symm⟩)).less (fun z _ g => ?_)
  rcases g with g | ⟨x, hx, e⟩
  · exact .inl g
  · rcases List.mem_cons.1 hx with rfl | hx
    · exact .inr ⟨_, List.mem_cons_self .., e⟩
    · exact .inr ⟨x, List.mem_cons_of_mem _ hx, e⟩
theorem Pl2.fill {n D q : Nat} {w0 w : World} {sp sq : Dk.St} {v : Value} {x x' : Value} {A A' : Option Addr} {k k' c c' : Nat} {on on' am am' : Bool} {sy sy' ct ct' : Int} {t : TypeId} {rest : List (Nat × Obj)} (h : Pl2 n w0 D sp sq v ((q, .cells (six x A k c on am sy ct) t (0, 0)) :: rest) w) (hq : w0.heap.size ≤ q) (hr : ∀ x ∈ rest, x.1 ≠ q) :
    Pl2 n w0 D sp sq v ((q, .cells (six x' A' k' c' on' am' sy' ct') t (0, 0)) :: rest)
      ((((((w.setCell ⟨q, 0, none⟩ x').setCell ⟨q, 1, none⟩ (.slice A' k' c')).setCell ⟨q, 2, none⟩ (.bool on')).setCell ⟨q, 3, none⟩ (.bool am')).setCell ⟨q, 4, none⟩ (.int .i64 sy')).setCell ⟨q, 5, none⟩ (.int .i64 ct')) :=
  (((((h.put hq hr 0 x').put hq hr 1 (.slice A' k' c')).put hq hr 2 (.bool on')).put hq hr 3 (.bool am')).put hq hr 4 (.int .i64 sy')).put hq hr 5 (.int .i64 ct')
theorem Pl2.call {n D : Nat} {w0 w : World} {sp sp' sq : Dk.St} {v : Value} {bx : List (Nat × Obj)} {f : Nat} {args : Array Value} {u : Value} (h : Pl2 n w0 D sp sq v bx w) (C : ∀ F, Disk n F D sp w → Calls Try.prog f args w (DkPost n D F sp' w u)) :
    Calls Try.prog f args w fun e w' => e = .returned u ∧ Pl2 n w0 D sp' sq v bx w' := by
  obtain ⟨F, hd, hF, hx, hz, hw⟩ := h
  refine (C F hd).mono ?_
  rintro e w' ⟨rfl, k, F', he, hd'⟩
  refine ⟨rfl, F', hd', fun q hq => (he q hq).elim (hF q) (fun g => Nat.le_trans hw.size g), hx.call k he, ?_, Below.trans hw (k.below hw.size hF)⟩
  have hlt : ∀ x ∈ bx, x.1 < w.heap.size := fun x hm => (Array.getElem?_eq_some_iff.1 (hx x hm).1).1
  refine (hz.aside (k.mono (G := F) (fun _ _ f => f)) (fun i f => .inl f) |> fun h => ?_)
  obtain ⟨A, c, am, sy, ct, e, hA, ha, hR⟩ := h
  obtain ⟨A2, c2, am2, sy2, ct2, e2, hA2, ha2, hR2⟩ := hz
  have hAA : A = A2 := by
    rw [e] at e2
    simp only [Value.agg.injEq, Array.mk.injEq, List.cons.injEq, Value.slice.injEq] at e2
    exact e2.2.1.1
  subst hAA
  refine ⟨A, c, am, sy, ct, e, hA, ha, fun a e => ⟨(hR a e).1, fun g => ?_⟩⟩
  rcases g with g | g
  · exact (hR2 a e).2 (.inl (he.old _ (hR2 a e).1 g))
  · exact (hR2 a e).2 (.inr g)
theorem Pl2.read {n D : Nat} {w0 w : World} {sp sq : Dk.St} {v : Value} {bx : List (Nat × Obj)} {f : Nat} {args : Array Value} {u : Value} (h : Pl2 n w0 D sp sq v bx w) (C : ∀ F, Disk n F D sp w → Calls Try.prog f args w fun e w' => e = .returned u ∧ Below w.heap.size w w') :
    Calls Try.prog f args w fun e w' => e = .returned u ∧ Pl2 n w0 D sp sq v bx w' := by
  have h' := h
  obtain ⟨F, hd, _⟩ := h
  refine (C F hd).mono ?_
  rintro e w' ⟨rfl, hb⟩
  exact ⟨rfl, h'.keep hb⟩
theorem Pl2.q {n D : Nat} {w0 w : World} {sp sq sq' : Dk.St} {v : Value} {bx : List (Nat × Obj)} {f : Nat} {args : Array Value} {mk : Value → Value} (h : Pl2 n w0 D sp sq v bx w)
    (C : ∀ F, Dz F sq v w → (∀ k, F k → k < w.heap.size) → Calls Try.prog f args w fun e w' => ∃ v', e = .returned (mk v') ∧ Dz F sq' v' w' ∧ Below w.heap.size w w') :
    Calls Try.prog f args w fun e w' => ∃ v', e = .returned (mk v') ∧ Pl2 n w0 D sp sq' v' bx w' := by
  obtain ⟨F, hd, hF, hx, hz, hw⟩ := h
  refine (C _ hz (fun k g => ?_)).mono ?_
  · rcases g with g | ⟨x, hm, rfl⟩
    · exact hd.lt k g
    · exact (Array.getElem?_eq_some_iff.1 (hx x hm).1).1
  · rintro e w' ⟨v', rfl, hz', hb⟩
    exact ⟨v', rfl, F, hd.below hb, hF, hx.keep hb, hz', Below.trans hw (hb.mono hw.size)⟩
theorem Pl2.qread {n D : Nat} {w0 w : World} {sp sq : Dk.St} {v : Value} {bx : List (Nat × Obj)} {f : Nat} {args : Array Value} {u : Value} (h : Pl2 n w0 D sp sq v bx w)
    (C : ∀ F, Dz F sq v w → Calls Try.prog f args w fun e w' => e = .returned u ∧ Below w.heap.size w w') :
    Calls Try.prog f args w fun e w' => e = .returned u ∧ Pl2 n w0 D sp sq v bx w' := by
  have h' := h
  obtain ⟨F, hd, hF, hx, hz, hw⟩ := h
  refine (C _ hz).mono ?_
  rintro e w' ⟨rfl, hb⟩
  exact ⟨rfl, h'.keep hb⟩
/-- what an act makes of a disk -/
def actSt (n : Nat) (st : Dk.St) (m : Nat) (x : Ac) : Dk.St :=
  if m = 3 then Dk.sync st else if m = 4 then st else if m = 5 then Dk.armed st x.at_ x.cut else if m = 6 then Dk.down st x.cut.toNat else if m = 7 then Dk.up st else Dk.write n st x.at_ x.data
end Go.Proofs.Ytpdgadohfhmcnaa
