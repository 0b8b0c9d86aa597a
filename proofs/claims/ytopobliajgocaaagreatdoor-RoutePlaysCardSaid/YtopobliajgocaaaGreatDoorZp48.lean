/-
  A BOOK as the document's: what is kept; rows that grow.
-/
import Derived.Test.YtopobliajgocaaaGreatDoorZp33
import Derived.Test.YtopobliajgocaaaGreatDoorZp47

section
namespace Go.Proofs.YtopobliajgocaaaGreatDoor
open Go.ChangeShapes Go.WideShapes Go.ChangeAt Go.RowKit
/-- all that was there is there, but in the blocks N -/
structure Kp (N : Nat → Prop) (W W' : World) : Prop where
  s : W.heap.size ≤ W'.heap.size
  c : ∀ g off v, ¬ N g → W.cell? ⟨g, off, none⟩ = some v → W'.cell? ⟨g, off, none⟩ = some v
theorem Kp.of {N : Nat → Prop} {W W' : World} (h : Below W.heap.size W W') : Kp N W W' := ⟨h.size, fun g off _ _ hc => (h.cell (p := ⟨g, off, none⟩) (World.block_lt_of_cell? W _ hc)).trans hc⟩
theorem Kp.grown {N : Nat → Prop} {W W' : World} {row : Option Nat} (h : W.grownBy W' row) (hn : ∀ g, row = some g → N g) : Kp N W W' := ⟨h.size, fun g _ _ hN hc => h.cell hc (show some g ≠ row from fun e => hN (hn g e.symm))⟩
theorem Kp.set {N : Nat → Prop} {W : World} {b : Nat} (hb : N b) (j : Nat) (u : Value) : Kp N W (W.setCell ⟨b, j, none⟩ u) := ⟨by simp, fun _ _ _ hN hc => (World.cell?_setCell_other _ _ _ _ (by intro e; simp only [Addr.mk.injEq] at e; exact hN (by first | (rw [e.1]; exact hb) | (rw [← e.1]; exact hb)))).trans hc⟩
theorem Kp.trans {N : Nat → Prop} {W W' W'' : World} (h : Kp N W W') (g : Kp N W' W'') : Kp N W W'' := ⟨Nat.le_trans h.s g.s, fun a off v hN hc => g.c a off v hN (h.c a off v hN hc)⟩
theorem Kp.rws {N : Nat → Prop} {W W' : World} (h : Kp N W W') {A : Option Addr} {cs : List Value} (hr : Rws W A cs) (hn : ∀ a, A = some a → ¬ N a.block) : Rws W' A cs := ⟨fun j v hv => by
  obtain ⟨b, off, rfl, hlt, hc⟩ := hr.at_ j v hv
  exact ⟨b, off, rfl, Nat.lt_of_lt_of_le hlt h.s, h.c _ _ _ (hn _ rfl) hc⟩⟩
theorem Kp.prs {N : Nat → Prop} {W W' : World} (h : Kp N W W') {A : Option Addr} {l : List Hd.Pr} (hr : Prs W A l) (hn : ∀ a, A = some a → ¬ N a.block) : Prs W' A l := ⟨fun i hi => by
  obtain ⟨b, off, rfl, hlt, hc⟩ := hr.at_ i hi
  exact ⟨b, off, rfl, Nat.lt_of_lt_of_le hlt h.s, ⟨h.c _ _ _ (hn _ rfl) hc.c0, h.c _ _ _ (hn _ rfl) hc.c1, h.c _ _ _ (hn _ rfl) hc.c2, h.c _ _ _ (hn _ rfl) hc.c3⟩⟩⟩
theorem Kp.bd {N : Nat → Prop} {W W' : World} (h : Kp N W W') {x : Bd} {A : Option Addr} {c : Nat} (hr : BdOk W x A c) (hn : x.want ≠ [] → ∀ a, A = some a → ¬ N a.block) : BdOk W' x A c := by
  refine ⟨hr.shop, hr.tol, hr.key, hr.len, hr.cap, hr.lite, ?_⟩
  by_cases e : x.want = []
  · rw [e]; exact Prs.nil _ _
  · exact h.prs hr.row (hn e)
theorem Kp.bds {N : Nat → Prop} {W W' : World} (h : Kp N W W') {A : Option Addr} {l : List Bp} (hr : Bds W A l) (hn : ∀ a, A = some a → ¬ N a.block) (hp : ∀ p ∈ l, p.x.want ≠ [] → ∀ a, p.A = some a → ¬ N a.block) : Bds W' A l := ⟨h.rws hr.row hn, fun p hpl => h.bd (hr.ok p hpl) (hp p hpl)⟩
theorem Bm.grown {w W W' : World} {X Y Z : List Value} {row : Option Nat} (h : Bm w X Y Z W) (hg : W.grownBy W' row) (hr : ∀ k, row = some k → w.heap.size + 3 ≤ k) : Bm w X Y Z W' :=
  ⟨rtKept h.bx hg (fun e => by have := hr _ e.symm; omega), rtKept h.bs hg (fun e => by have := hr _ e.symm; omega), rtKept h.bz hg (fun e => by have := hr _ e.symm; omega), h.B.grown hg h.B.size (fun k hk => by have := hr k hk; omega), Nat.le_trans h.n hg.size⟩
theorem Bm.putZ0 {w W : World} {X Y : List Value} {u v u' : Value} (h : Bm w X Y [u, v] W) : Bm w X Y [u', v] (W.setCell ⟨w.heap.size + 2, 0, none⟩ u') :=
  ⟨h.bx.aside (by omega) _ _, h.bs.aside (by omega) _ _, h.bz.put 0 u' (by simp), h.B.setCell (p := ⟨w.heap.size + 2, 0, none⟩) (by simp) u', by simpa using h.n⟩
theorem Bm.putZ1 {w W : World} {X Y : List Value} {u v v' : Value} (h : Bm w X Y [u, v] W) : Bm w X Y [u, v'] (W.setCell ⟨w.heap.size + 2, 1, none⟩ v') :=
  ⟨h.bx.aside (by omega) _ _, h.bs.aside (by omega) _ _, h.bz.put 1 v' (by simp), h.B.setCell (p := ⟨w.heap.size + 2, 1, none⟩) (by simp) v', by simpa using h.n⟩
theorem appRSh_run {W : World} {B n : Nat} {cs xs : List Value} {A : Option Addr} {c b : Nat} (hl : n ≤ 100000) (hown : W.ownsRow B 57 3 (.slice A n c) n cs) (hB : B ≤ W.heap.size) (hxl : xs.length = 3) (hxo : ∀ u ∈ xs, u.oneCell' = true) (hx : ∀ j u, xs[j]? = some u → W.cell? ((⟨b, 0, none⟩ : Addr).add j) = some u) :
    ∃ g c' w', (Builtin.append_ #[29, 29] 29 #[.slice A n c, .slice (some ⟨b, 0, none⟩) 1 1]).run Tryz.prog W = .ok (.slice (some ⟨g, 0, none⟩) (n + 1) c') w' ∧ w'.ownsRow B 57 3 (.slice (some ⟨g, 0, none⟩) (n + 1) c') (n + 1) (cs ++ xs) ∧ W.grownBy w' (Value.slice A n c).ownBlock ∧ ((Value.slice A n c).ownBlock = some g ∨ W.heap.size ≤ g) ∧ g < w'.heap.size := by
  obtain ⟨i1, hi1, hz0, hz1, hz2⟩ := info_parts infoRSh
  obtain ⟨gg, cap, w', hr, h2, h3, h4, h5⟩ := run_append_lies (P := Tryz.prog) W 29 29 B 57 i1 _ 3 40 Tryz.underlying29 hi1 hz0 hz1 hz2 rfl (by omega) (.slice A n c) n cs hown ⟨b, 0, none⟩ 1 1 xs (by rw [hxl]) hx hxo (by omega) (by unfold maxLen; omega) (by omega) hB W.heap.size rfl
  exact ⟨gg, cap, w', hr, h2, h3, h4.imp_right (fun e => by omega), h5⟩
theorem appRBd_run {W : World} {B n : Nat} {cs xs : List Value} {A : Option Addr} {c b : Nat} (hl : n ≤ 100000) (hown : W.ownsRow B 69 6 (.slice A n c) n cs) (hB : B ≤ W.heap.size) (hxl : xs.length = 6) (hxo : ∀ u ∈ xs, u.oneCell' = true) (hx : ∀ j u, xs[j]? = some u → W.cell? ((⟨b, 0, none⟩ : Addr).add j) = some u) :
    ∃ g c' w', (Builtin.append_ #[30, 30] 30 #[.slice A n c, .slice (some ⟨b, 0, none⟩) 1 1]).run Tryz.prog W = .ok (.slice (some ⟨g, 0, none⟩) (n + 1) c') w' ∧ w'.ownsRow B 69 6 (.slice (some ⟨g, 0, none⟩) (n + 1) c') (n + 1) (cs ++ xs) ∧ W.grownBy w' (Value.slice A n c).ownBlock ∧ ((Value.slice A n c).ownBlock = some g ∨ W.heap.size ≤ g) ∧ g < w'.heap.size := by
  obtain ⟨i1, hi1, hz0, hz1, hz2⟩ := info_parts infoRBd
  obtain ⟨gg, cap, w', hr, h2, h3, h4, h5⟩ := run_append_lies (P := Tryz.prog) W 30 30 B 69 i1 _ 6 88 Tryz.underlying30 hi1 hz0 hz1 hz2 rfl (by omega) (.slice A n c) n cs hown ⟨b, 0, none⟩ 1 1 xs (by rw [hxl]) hx hxo (by omega) (by unfold maxLen; omega) (by omega) hB W.heap.size rfl
  exact ⟨gg, cap, w', hr, h2, h3, h4.imp_right (fun e => by omega), h5⟩
def OfPost (b : Bk) (w : World) (e : Ending) (w' : World) : Prop := ∃ A c B d ps, e = .returned (bkV A c B d b) ∧ BkAt w' A c B d b ps ∧ Below w.heap.size w w'
def O1St (w : World) (X Y : List Value) (l : List Sh) (A1 : Option Addr) (N g : Nat) (i : Value) (wr : World) : Prop :=
  ∃ (k : Nat) (Ao : Option Addr) (co : Nat), k + g = l.length ∧ i = .int .i64 (k : Int) ∧ Bm w X Y [.slice Ao k co, .slice none 0 0] wr ∧ wr.ownsRow N 57 3 (.slice Ao k co) k (shs (l.take k)) ∧ Rws wr A1 (shs l) ∧ N ≤ wr.heap.size
structure O2 (w : World) (X Y : List Value) (Ao : Option Addr) (n co : Nat) (l : List Sh) (A9 : Option Addr) (ms : List Bp) (N k : Nat) (Bo : Option Addr) (dx : Nat) (ys : List Bp) (wr : World) : Prop where
  m : Bm w X Y [.slice Ao n co, .slice Bo k dx] wr
  r : Rws wr Ao (shs l)
  s : Bds wr A9 ms
  x : ys.map Bp.x = (ms.take k).map Bp.x
  o : wr.ownsRow N 69 6 (.slice Bo k dx) k (bps ys)
  y : ∀ p ∈ ys, BdOk wr p.x p.A p.c
  z : ∀ p ∈ ys, p.x.want ≠ [] → ∀ a, p.A = some a → w.heap.size + 3 ≤ a.block ∧ (Value.slice Bo k dx).ownBlock ≠ some a.block
  n : N ≤ wr.heap.size
def O2St (w : World) (X Y : List Value) (Ao : Option Addr) (n co : Nat) (l : List Sh) (A9 : Option Addr) (ms : List Bp) (N g : Nat) (i : Value) (wr : World) : Prop :=
  ∃ (k : Nat) (Bo : Option Addr) (dx : Nat) (ys : List Bp), k + g = ms.length ∧ i = .int .i64 (k : Int) ∧ O2 w X Y Ao n co l A9 ms N k Bo dx ys wr
theorem O2.step {w : World} {X Y : List Value} {Ao : Option Addr} {n co : Nat} {l : List Sh} {A9 : Option Addr} {ms : List Bp} {N k : Nat} {Bo : Option Addr} {dx : Nat} {ys : List Bp} {wr W4 W5 W7 : World} {x : Bd} {A' : Option Addr} {c' g cap : Nat}
    (h : O2 w X Y Ao n co l A9 ms N k Bo dx ys wr) (hN : w.heap.size + 3 ≤ N) (hAo : ∀ a, Ao = some a → w.heap.size + 3 ≤ a.block ∧ a.block < N) (hA9 : ∀ a, A9 = some a → w.heap.size + 3 ≤ a.block ∧ a.block < N) (hms : ∀ p ∈ ms, p.x.want ≠ [] → ∀ a, p.A = some a → w.heap.size + 3 ≤ a.block ∧ a.block < N)
    (hb4 : Below wr.heap.size wr W4) (hx : BdOk W4 x A' c') (hA' : ∀ a, A' = some a → wr.heap.size ≤ a.block ∧ a.block < W4.heap.size) (hb5 : Below W4.heap.size W4 W5) (hxk : ((ms.take k).map Bp.x) ++ [x] = (ms.take (k + 1)).map Bp.x)
    (ho : W7.ownsRow N 69 6 (.slice (some ⟨g, 0, none⟩) (k + 1) cap) (k + 1) (bps (ys ++ [⟨x, A', c'⟩]))) (hg : W5.grownBy W7 (Value.slice Bo k dx).ownBlock) (hgg : (Value.slice Bo k dx).ownBlock = some g ∨ W5.heap.size ≤ g) :
    O2 w X Y Ao n co l A9 ms N (k + 1) (some ⟨g, 0, none⟩) cap (ys ++ [⟨x, A', c'⟩]) (W7.setCell ⟨w.heap.size + 2, 1, none⟩ (.slice (some ⟨g, 0, none⟩) (k + 1) cap)) := by
  have hown : ∀ q, (Value.slice Bo k dx).ownBlock = some q → N ≤ q ∧ q < wr.heap.size := fun q hq => h.o.lt q hq
  have hk : Kp (fun q => q = w.heap.size + 2 ∨ (Value.slice Bo k dx).ownBlock = some q) W4 (W7.setCell ⟨w.heap.size + 2, 1, none⟩ (.slice (some ⟨g, 0, none⟩) (k + 1) cap)) := ((Kp.of hb5).trans (Kp.grown hg (fun q hq => .inr hq))).trans (Kp.set (.inl rfl) _ _)
  have hk0 := (Kp.of (N := fun q => q = w.heap.size + 2 ∨ (Value.slice Bo k dx).ownBlock = some q) hb4).trans hk
  have hsz : wr.heap.size ≤ W5.heap.size := Nat.le_trans hb4.size hb5.size
  have hown' : (Value.slice (some ⟨g, 0, none⟩ : Option Addr) (k + 1) cap).ownBlock = some g := rfl
  refine ⟨(((h.m.on hb4).on hb5).grown hg (fun q hq => by have := (hown q hq).1; omega)).putZ1, hk0.rws h.r (fun a ha e => ?_), hk0.bds h.s (fun a ha e => ?_) (fun p hp hw a ha e => ?_), ?_, rtOwnPut ho (by omega) _ _, fun p hp => ?_, fun p hp hw a ha => ?_, ?_⟩
  · have h1 := hAo a ha
    rcases e with e | e
    · omega
    · have := hown _ e; omega
  · have h1 := hA9 a ha
    rcases e with e | e
    · omega
    · have := hown _ e; omega
  · have h1 := hms p hp hw a ha
    rcases e with e | e
    · omega
    · have := hown _ e; omega
  · rw [List.map_append, h.x, ← hxk]; rfl
  · rcases List.mem_append.1 hp with hp | hp
    · refine hk0.bd (h.y p hp) (fun hw a ha e => ?_)
      have h1 := h.z p hp hw a ha
      rcases e with e | e
      · omega
      · exact h1.2 e
    · obtain rfl := List.mem_singleton.1 hp
      refine hk.bd hx (fun hw a ha e => ?_)
      have h1 := hA' a ha
      have h2 := h.n
      rcases e with e | e
      · omega
      · have := hown _ e; omega
  · rw [hown']
    rcases List.mem_append.1 hp with hp | hp
    · have h1 := h.z p hp hw a ha
      refine ⟨h1.1, fun e => ?_⟩
      obtain rfl := Option.some.inj e
      rcases hgg with e2 | e2
      · exact h1.2 e2
      · have := rt_prs_in (h.y p hp).row hw ha; omega
    · obtain rfl := List.mem_singleton.1 hp
      have h1 := hA' a ha
      have h2 := h.n
      refine ⟨by omega, fun e => ?_⟩
      obtain rfl := Option.some.inj e
      rcases hgg with e2 | e2
      · have := hown _ e2; omega
      · have := hb5.size; omega
  · have h2 := h.n
    have h3 := hg.size
    simp only [World.size_setCell]
    omega
end Go.Proofs.YtopobliajgocaaaGreatDoor
end
