/-
  WHOEVER ASKS FOR THE NUMBER TOLD LAST: what the law's loops keep.
-/
import Derived.Test.YtjkaljokkpabfaaGreatDoorRr35

section
namespace Go.Proofs.YtjkaljokkpabfaaGreatDoor
open Go.ChangeShapes Go.WideShapes Go.ChangeAt Go.RowKit
theorem infoMl : (Tryz.prog.info? 25).map (fun i => (i.zero, i.size, i.bytes)) = some (some (.agg #[.int .u64 0, .string ⟨#[]⟩, .string ⟨#[]⟩, .slice none 0 0, .string ⟨#[]⟩, .int .u64 0, .int .u8 0]), 7, 96) := by kernel_rfl
theorem Rws.keptR {w w' : World} {A : Option Addr} {cs : List Value} {row : Option Nat} (h : Rws w A cs) (hg : w.grownBy w' row) (hne : ∀ a, A = some a → some a.block ≠ row) : Rws w' A cs := ⟨fun j v hv => by
  obtain ⟨b, off, rfl, hlt, hc⟩ := h.at_ j v hv
  exact ⟨b, off, rfl, Nat.lt_of_lt_of_le hlt hg.size, hg.cell hc (show some b ≠ row from hne _ rfl)⟩⟩
theorem MaOk.keptR {w w' : World} {x : Ml} {A : Option Addr} {c : Nat} {row : Option Nat} (h : MaOk w x A c) (hg : w.grownBy w' row) (hne : x.head ≠ [] → ∀ a, A = some a → some a.block ≠ row) : MaOk w' x A c := by
  refine ⟨h.shop, h.key, h.body, h.len, h.cap, h.lite, ?_⟩
  by_cases e : x.head = []
  · rw [e]; exact Prs.nil _ _
  · exact Prs.grown h.row hg (hne e)
theorem BoxC.keptR {w W W' : World} {c : Nat} {xs : List Value} {row : Option Nat} (h : BoxC w c xs W) (hg : W.grownBy W' row) (hne : some c ≠ row) : BoxC w c xs W' :=
  ⟨h.cs.grown hg hne, h.s.grown hg h.lt hne, Nat.lt_of_lt_of_le h.lt hg.size, h.ge⟩
/-- where neither the box nor one's own rows lie -/
def RtU (b : Nat) (vg vt : Value) (W : World) (g : Nat) : Prop := b < g ∧ vg.ownBlock ≠ some g ∧ vt.ownBlock ≠ some g ∧ g < W.heap.size
theorem RtU.on {b : Nat} {vg vt : Value} {W W' : World} {g : Nat} (h : RtU b vg vt W g) (hs : W.heap.size ≤ W'.heap.size) : RtU b vg vt W' g := ⟨h.1, h.2.1, h.2.2.1, Nat.lt_of_lt_of_le h.2.2.2 hs⟩
theorem RtU.left {b g0 n cap : Nat} {vg vt : Value} {W W' : World} {g : Nat} (h : RtU b vg vt W g) (hs : W.heap.size ≤ W'.heap.size) (hat : vg.ownBlock = some g0 ∨ g0 = W.heap.size) : RtU b (.slice (some ⟨g0, 0, none⟩) n cap) vt W' g :=
  ⟨h.1, fun e => by
    have e2 : g0 = g := Option.some.inj e
    rcases hat with e3 | e3
    · exact h.2.1 (by rw [e3, e2])
    · have := h.2.2.2; omega, h.2.2.1, Nat.lt_of_lt_of_le h.2.2.2 hs⟩
theorem RtU.right {b g0 n cap : Nat} {vg vt : Value} {W W' : World} {g : Nat} (h : RtU b vg vt W g) (hs : W.heap.size ≤ W'.heap.size) (hat : vt.ownBlock = some g0 ∨ g0 = W.heap.size) : RtU b vg (.slice (some ⟨g0, 0, none⟩) n cap) W' g :=
  ⟨h.1, h.2.1, fun e => by
    have e2 : g0 = g := Option.some.inj e
    rcases hat with e3 | e3
    · exact h.2.2.1 (by rw [e3, e2])
    · have := h.2.2.2; omega, Nat.lt_of_lt_of_le h.2.2.2 hs⟩
theorem MasU.keptR {U V : Nat → Prop} {w w' : World} {A : Option Addr} {l : List Mp} {row : Option Nat} (h : MasU U w A l) (hg : w.grownBy w' row) (hU : ∀ g, U g → V g) (hr : ∀ g, U g → some g ≠ row) : MasU V w' A l :=
  ⟨⟨h.m.row.keptR hg (fun a ha => hr _ (h.r a ha)), fun p hp => (h.m.hd p hp).keptR hg (fun _ a ha => hr _ (h.h p hp a ha))⟩, fun a ha => hU _ (h.r a ha), fun p hp a ha => hU _ (h.h p hp a ha)⟩
/-- the box of the Rise, another one with what it becomes (or the same), and the two rows -/
structure RtIn (w w3 : World) (b by_ B : Nat) (xs : List Value) (G K : List Ml) (t : Nat) (A : Option Addr) (c : Nat) (kp gs ps : List Mp) (vg vt : Value) (W : World) : Prop where
  box : BoxC w3 b xs W
  two : xs.length = 2
  ybox : BoxC w3 by_ [.int .u64 (G.length : Int), .slice A kp.length c] W
  kx : kp.map Mp.x = lastN 16 G
  kc : kp.length ≤ c
  kn : A = none → c = 0
  kM : MasU (RtU b vg vt W) W A kp
  gO : W.ownsRow B 25 7 vg K.length (mcs gs)
  gx : gs.map Mp.x = K
  gH : ∀ p ∈ gs, MaOk W p.x p.A p.c ∧ (p.x.head ≠ [] → ∀ a, p.A = some a → a.block < b)
  tO : W.ownsRow B 25 7 vt t (mcs ps)
  tx : ps.map Mp.x = G.take t
  tH : ∀ p ∈ ps, MaOk W p.x p.A p.c ∧ ∀ a, p.A = some a → RtU b vg vt W a.block
  ap : ∀ g, vg.ownBlock = some g → vt.ownBlock ≠ some g
  yv : vg.ownBlock ≠ some by_ ∧ vt.ownBlock ≠ some by_
  le : t ≤ G.length
  bB : b < B
  ww : w.heap.size ≤ w3.heap.size
  gr : Below w.heap.size w W
theorem RtIn.on {w w3 : World} {b by_ B : Nat} {xs : List Value} {G K : List Ml} {t : Nat} {A : Option Addr} {c : Nat} {kp gs ps : List Mp} {vg vt : Value} {W W' : World} (h : RtIn w w3 b by_ B xs G K t A c kp gs ps vg vt W) (hb : Below W.heap.size W W') :
    RtIn w w3 b by_ B xs G K t A c kp gs ps vg vt W' :=
  ⟨h.box.on hb, h.two, h.ybox.on hb, h.kx, h.kc, h.kn, (h.kM.on hb).mono (fun _ hg => hg.on hb.size), Rw.own_on h.gO hb, h.gx, fun p hp => ⟨(h.gH p hp).1.on hb, (h.gH p hp).2⟩, Rw.own_on h.tO hb, h.tx, fun p hp => ⟨(h.tH p hp).1.on hb, fun a ha => ((h.tH p hp).2 a ha).on hb.size⟩, h.ap, h.yv, h.le, h.bB, h.ww, bthen h.gr hb (Nat.le_refl _)⟩
/-- one more that was told -/
theorem RtIn.got {w w3 : World} {b B : Nat} {xs : List Value} {G : List Ml} {t : Nat} {A : Option Addr} {c : Nat} {kp gs ps : List Mp} {vg vt : Value} {W W' : World} (h : RtIn w w3 b b B xs G G t A c kp gs ps vg vt W) {p : Mp} {g cap : Nat} (hp : MaOk W p.x p.A p.c) (hpa : ∀ a, p.A = some a → RtU b vg vt W a.block)
    (ht : t < G.length) (hx : p.x = G.getD t Ml.zero) (hg : W.grownBy W' vt.ownBlock) (ho : W'.ownsRow B 25 7 (.slice (some ⟨g, 0, none⟩) (t + 1) cap) (t + 1) (mcs ps ++ mcs [p])) (hat : vt.ownBlock = some g ∨ g = W.heap.size) :
    RtIn w w3 b b B xs G G (t + 1) A c kp gs (ps ++ [p]) vg (.slice (some ⟨g, 0, none⟩) (t + 1) cap) W' := by
  have hbt : some b ≠ vt.ownBlock := fun e => by have := (h.tO.lt _ e.symm).1; have := h.bB; omega
  have hbg : vg.ownBlock ≠ some b := fun e => by have := (h.gO.lt _ e).1; have := h.bB; omega
  have hgb : b ≠ g := fun e => by
    rcases hat with e3 | e3
    · exact hbt (by rw [e3, e])
    · have := h.box.lt; omega
  refine ⟨h.box.keptR hg hbt, h.two, h.ybox.keptR hg hbt, h.kx, h.kc, h.kn, h.kM.keptR hg (fun _ hU => hU.right hg.size hat) (fun _ hU e => hU.2.2.1 e.symm), h.gO.kept hg ?_, h.gx, fun q hq => ⟨(h.gH q hq).1.keptR hg (fun hh a ha e => ?_), (h.gH q hq).2⟩, ?_, ?_, fun q hq => ?_, fun k hk e => ?_, ⟨hbg, fun e => hgb (Option.some.inj e).symm⟩, ht, h.bB, h.ww, ?_⟩
  · cases e : vg.ownBlock with
    | none => exact .inl rfl
    | some k => exact .inr (fun e2 => h.ap k e e2.symm)
  · have h1 := (h.gH q hq).2 hh a ha
    have h2 := (h.tO.lt _ e.symm).1
    have := h.bB
    omega
  · rw [mcs_app]; exact ho
  · rw [List.map_append, h.tx, List.take_succ_eq_append_getElem ht]
    show _ ++ [p.x] = _
    rw [hx, List.getD_eq_getElem?_getD, List.getElem?_eq_getElem ht]; rfl
  · rcases List.mem_append.1 hq with hq | hq
    · exact ⟨(h.tH q hq).1.keptR hg (fun _ a ha e => ((h.tH q hq).2 a ha).2.2.1 e.symm), fun a ha => ((h.tH q hq).2 a ha).right hg.size hat⟩
    · obtain rfl := List.mem_singleton.1 hq
      exact ⟨hp.keptR hg (fun _ a ha e => (hpa a ha).2.2.1 e.symm), fun a ha => (hpa a ha).right hg.size hat⟩
  · have e2 : g = k := Option.some.inj e
    rcases hat with e3 | e3
    · exact h.ap k hk (by rw [e3, e2])
    · have := (h.gO.lt _ hk).2; omega
  · exact h.gr.grown hg h.gr.size (fun k hk => by have := (h.tO.lt k hk).1; have := h.bB; have := h.box.ge; have := h.ww; omega)
theorem RtIn.done {w w3 : World} {b by_ B : Nat} {xs : List Value} {G : List Ml} {t : Nat} {A : Option Addr} {c : Nat} {kp gs ps : List Mp} {vg vt : Value} {W : World} (h : RtIn w w3 b by_ B xs G G t A c kp gs ps vg vt W) (hge : w.heap.size ≤ b) :
    RtIn w w3 b b B [.int .u64 (G.length : Int), .slice A kp.length c] G G t A c kp gs ps vg vt ((W.setCell ⟨b, 0, none⟩ (.int .u64 (G.length : Int))).setCell ⟨b, 1, none⟩ (.slice A kp.length c)) := by
  have hbt : vt.ownBlock ≠ some b := fun e => by have := (h.tO.lt _ e).1; have := h.bB; omega
  have hbg : vg.ownBlock ≠ some b := fun e => by have := (h.gO.lt _ e).1; have := h.bB; omega
  have hf := h.box.fill [.int .u64 (G.length : Int), .slice A kp.length c] h.two.symm
  simp only [putAll] at hf
  have hg : W.grownBy ((W.setCell ⟨b, 0, none⟩ (.int .u64 (G.length : Int))).setCell ⟨b, 1, none⟩ (.slice A kp.length c)) (some b) := only_setCell (p := ⟨b, 1, none⟩) (only_setCell (p := ⟨b, 0, none⟩) (World.grownBy.refl W (some b)) rfl (.int .u64 (G.length : Int))) rfl (.slice A kp.length c)
  refine ⟨hf, rfl, hf, h.kx, h.kc, h.kn, h.kM.keptR hg (fun _ hU => hU.on hg.size) (fun _ hU e => Nat.lt_irrefl _ (by have := hU.1; rw [Option.some.inj e] at this; exact this)), h.gO.kept hg ?_, h.gx, fun q hq => ⟨(h.gH q hq).1.keptR hg (fun hh a ha e => ?_), (h.gH q hq).2⟩, h.tO.kept hg ?_, h.tx, fun q hq => ⟨(h.tH q hq).1.keptR hg (fun hh a ha e => ?_), fun a ha => ((h.tH q hq).2 a ha).on hg.size⟩, h.ap, ⟨hbg, hbt⟩, h.le, h.bB, h.ww, ?_⟩
  · exact .inr hbg
  · have := (h.gH q hq).2 hh a ha; have := Option.some.inj e; omega
  · exact .inr hbt
  · have := ((h.tH q hq).2 a ha).1; have := Option.some.inj e; omega
  · exact h.gr.grown hg h.gr.size (fun k hk => by have := Option.some.inj hk; omega)
/-- what a Put made, in a box of its own -/
theorem RtIn.put {w w3 : World} {b B g : Nat} {xs : List Value} {G G' : List Ml} {t : Nat} {A A' : Option Addr} {c c' : Nat} {kp kp' gs ps : List Mp} {vg vt : Value} {W W6 : World} (h : RtIn w w3 b b B xs G G t A c kp gs ps vg vt W) (hb : Below W.heap.size W W6)
    (hp : ∃ m, G' = G ++ m) (hm : kp'.map Mp.x = lastN 16 G') (hc : kp'.length ≤ c') (hn : A' = none → c' = 0) (hM : MasU (fun g => RtU b vg vt W g ∨ W.heap.size ≤ g ∧ g < W6.heap.size) W6 A' kp') (hy : BoxC w3 g [.int .u64 (G'.length : Int), .slice A' kp'.length c'] W6) (hyg : W.heap.size ≤ g) :
    RtIn w w3 b g B xs G' G t A' c' kp' gs ps vg vt W6 := by
  have h6 := h.on hb
  have hgn : ∀ v : Value, (∀ k, v.ownBlock = some k → k < W.heap.size) → v.ownBlock ≠ some g := fun v hv e => by have := hv g e; omega
  have hvg : ∀ k, vg.ownBlock = some k → k < W.heap.size := fun k hk => (h.gO.lt k hk).2
  have hvt : ∀ k, vt.ownBlock = some k → k < W.heap.size := fun k hk => (h.tO.lt k hk).2
  have hU : ∀ k, (RtU b vg vt W k ∨ W.heap.size ≤ k ∧ k < W6.heap.size) → RtU b vg vt W6 k := fun k hk => by
    rcases hk with hk | hk
    · exact hk.on hb.size
    · exact ⟨by have := h.box.lt; omega, fun e => by have := hvg k e; omega, fun e => by have := hvt k e; omega, hk.2⟩
  obtain ⟨m, rfl⟩ := hp
  exact ⟨h6.box, h.two, hy, hm, hc, hn, hM.mono hU, h6.gO, h.gx, h6.gH, h6.tO, by rw [h.tx, List.take_append_of_le_length h.le], h6.tH, h.ap, ⟨hgn vg hvg, hgn vt hvt⟩, by rw [List.length_append]; have := h.le; omega, h.bB, h.ww, h6.gr⟩
/-- one more that was put -/
theorem RtIn.good {w w3 : World} {b by_ B : Nat} {xs : List Value} {G K K' : List Ml} {t : Nat} {A : Option Addr} {c : Nat} {kp gs ps : List Mp} {vg vt : Value} {W W' : World} (h : RtIn w w3 b by_ B xs G K t A c kp gs ps vg vt W) {p : Mp} {g cap : Nat} (hp : MaOk W p.x p.A p.c) (hpa : p.x.head ≠ [] → ∀ a, p.A = some a → a.block < b)
    (hK : K' = K ++ [p.x]) (hg : W.grownBy W' vg.ownBlock) (ho : W'.ownsRow B 25 7 (.slice (some ⟨g, 0, none⟩) K'.length cap) K'.length (mcs gs ++ mcs [p])) (hat : vg.ownBlock = some g ∨ g = W.heap.size) :
    RtIn w w3 b by_ B xs G K' t A c kp (gs ++ [p]) ps (.slice (some ⟨g, 0, none⟩) K'.length cap) vt W' := by
  have hbg : some b ≠ vg.ownBlock := fun e => by have := (h.gO.lt _ e.symm).1; have := h.bB; omega
  have hgb : by_ ≠ g := fun e => by
    rcases hat with e3 | e3
    · exact h.yv.1 (by rw [e3, e])
    · have := h.ybox.lt; omega
  subst hK
  refine ⟨h.box.keptR hg hbg, h.two, h.ybox.keptR hg (fun e => h.yv.1 e.symm), h.kx, h.kc, h.kn, h.kM.keptR hg (fun _ hU => hU.left hg.size hat) (fun _ hU e => hU.2.1 e.symm), ?_, by rw [List.map_append, h.gx]; rfl, fun q hq => ?_, h.tO.kept hg ?_, h.tx, fun q hq => ⟨(h.tH q hq).1.keptR hg (fun _ a ha e => ((h.tH q hq).2 a ha).2.1 e.symm), fun a ha => ((h.tH q hq).2 a ha).left hg.size hat⟩, fun k hk e => ?_, ⟨fun e => hgb (Option.some.inj e).symm, h.yv.2⟩, h.le, h.bB, h.ww, ?_⟩
  · rw [mcs_app]; exact ho
  · rcases List.mem_append.1 hq with hq | hq
    · exact ⟨(h.gH q hq).1.keptR hg (fun hh a ha e => by have h1 := (h.gH q hq).2 hh a ha; have h2 := (h.gO.lt _ e.symm).1; have := h.bB; omega), (h.gH q hq).2⟩
    · obtain rfl := List.mem_singleton.1 hq
      exact ⟨hp.keptR hg (fun hh a ha e => by have h1 := hpa hh a ha; have h2 := (h.gO.lt _ e.symm).1; have := h.bB; omega), hpa⟩
  · cases e : vt.ownBlock with
    | none => exact .inl rfl
    | some k => exact .inr (fun e2 => h.ap k e2.symm e)
  · have e2 : g = k := Option.some.inj hk
    rcases hat with e3 | e3
    · exact h.ap k (by rw [e3, e2]) e
    · have := (h.tO.lt _ e).2; omega
  · exact h.gr.grown hg h.gr.size (fun k hk => by have := (h.gO.lt k hk).1; have := h.bB; have := h.box.ge; have := h.ww; omega)
theorem RtIn.gs {w w3 : World} {b by_ B : Nat} {xs : List Value} {G K : List Ml} {t : Nat} {A : Option Addr} {c : Nat} {kp gs ps : List Mp} {vg vt : Value} {W : World} (h : RtIn w w3 b by_ B xs G K t A c kp gs ps vg vt W) : ∃ Ag cg, vg = .slice Ag K.length cg ∧ Mas W Ag gs := by
  obtain ⟨Ag, cg, e, -, -, hr, -⟩ := Rws.of_own h.gO
  exact ⟨Ag, cg, e, hr, fun p hp => (h.gH p hp).1⟩
theorem RtIn.ps {w w3 : World} {b by_ B : Nat} {xs : List Value} {G K : List Ml} {t : Nat} {A : Option Addr} {c : Nat} {kp gs ps : List Mp} {vg vt : Value} {W : World} (h : RtIn w w3 b by_ B xs G K t A c kp gs ps vg vt W) : ∃ At ct, vt = .slice At t ct ∧ Mas W At ps := by
  obtain ⟨At, ct, e, -, -, hr, -⟩ := Rws.of_own h.tO
  exact ⟨At, ct, e, hr, fun p hp => (h.tH p hp).1⟩
theorem RtIn.start (w w3 : World) (hw : Below w.heap.size w w3) (t : TypeId) : RtIn w w3 w3.heap.size w3.heap.size (w3.heap.size + 1) [.int .u64 (([] : List Ml).length : Int), .slice none ([] : List Mp).length 0] [] [] 0 none 0 [] [] [] (.slice none 0 0) (.slice none 0 0) (w3.alloc (.cells #[.int .u64 0, .slice none 0 0] t)) :=
  ⟨BoxC.new (Nat.le_refl _) #[.int .u64 0, .slice none 0 0] t, rfl, BoxC.new (Nat.le_refl _) #[.int .u64 0, .slice none 0 0] t, rfl, Nat.le_refl _, fun _ => rfl, MasU.nil _ _, World.ownsRow_nil _ _ _ _, rfl, (fun p hp => by simp at hp), World.ownsRow_nil _ _ _ _, rfl, (fun p hp => by simp at hp), (fun g e => by cases e), ⟨(fun e => by cases e), (fun e => by cases e)⟩, Nat.le_refl _, Nat.lt_succ_self _, hw.size, hw.alloc hw.size _⟩
end Go.Proofs.YtjkaljokkpabfaaGreatDoor
end
