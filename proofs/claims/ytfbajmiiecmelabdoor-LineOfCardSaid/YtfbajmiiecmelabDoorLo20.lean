/-
  A PAIR READ: the program's, walked. A HEAD READ: the program's, walked. WHAT THE WALKS OF METHODS AND REPLIES SHARE: an Out's box, rows beside written boxes, heads that were read.
-/
import Derived.Test.YtfbajmiiecmelabDoorLo03
import Derived.Test.YtfbajmiiecmelabDoorLo16
import Derived.Test.YtfbajmiiecmelabDoorLo18
import Derived.Test.YtfbajmiiecmelabDoorLo19
import Derived.Deep.AppendLies
section
namespace Go.Proofs.YtfbajmiiecmelabDoor
open Go.ChangeShapes Go.WideShapes Go.ChangeAt Go.RowKit
/-- while a pair is read: the reader, the answer's box, the pair's box -/
structure RdC (w : World) (b : Nat) (R : LSt → World → Prop) (s : LSt) (c : Nat) (xs : List Value) (p : Nat) (ys : List Value) (W : World) : Prop where
  ri : R s W
  rc : BoxC w c xs W
  rp : BoxC w p ys W
  cb : c ≠ b
  pb : p ≠ b
  cp : c ≠ p
  G : w.grownBy W (some b)
theorem RdC.step {w : World} {b : Nat} {R : LSt → World → Prop} {s s' : LSt} {c p : Nat} {xs ys : List Value} {W W' : World} (h : RdC w b R s c xs p ys W) (hi : R s' W') (hg : W.grownBy W' (some b)) : RdC w b R s' c xs p ys W' :=
  ⟨hi, h.rc.grown hg h.cb, h.rp.grown hg h.pb, h.cb, h.pb, h.cp, h.G.trans hg⟩
theorem RdC.putc {w : World} {b : Nat} {R : LSt → World → Prop} (hR : Rder b R) {s : LSt} {c p : Nat} {xs ys : List Value} {W : World} (h : RdC w b R s c xs p ys W) (j : Nat) (v : Value) (hj : j < xs.length) : RdC w b R s c (xs.set j v) p ys (W.setCell ⟨c, j, none⟩ v) :=
  ⟨hR.put h.ri h.cb j v, h.rc.put j v hj, h.rp.aside h.cp j v, h.cb, h.pb, h.cp, grown_far h.G h.rc.ge j v⟩
/-- the answer is laid into its box -/
theorem RdC.last {w : World} {b : Nat} {R : LSt → World → Prop} (hR : Rder b R) {s : LSt} {c p : Nat} {xs ys : List Value} {W : World} (h : RdC w b R s c xs p ys W) (hx : xs.length = 4) (v0 v1 v2 v3 : Value) :
    ∃ W', W' = (((W.setCell ⟨c, 0, none⟩ v0).setCell ⟨c, 1, none⟩ v1).setCell ⟨c, 2, none⟩ v2).setCell ⟨c, 3, none⟩ v3 ∧ R s W' ∧ w.grownBy W' (some b) ∧ W'.cell? ⟨c, 0, none⟩ = some v0 ∧ W'.cell? ⟨c, 1, none⟩ = some v1 ∧ W'.cell? ⟨c, 2, none⟩ = some v2 ∧ W'.cell? ⟨c, 3, none⟩ = some v3 := by
  match xs, hx with
  | [x0, x1, x2, x3], _ =>
    have h1 := (((h.putc hR 0 v0 (by simp)).putc hR 1 v1 (by simp)).putc hR 2 v2 (by simp)).putc hR 3 v3 (by simp)
    exact ⟨_, rfl, h1.ri, h1.G, h1.rc.cs 0 _ rfl, h1.rc.cs 1 _ rfl, h1.rc.cs 2 _ rfl, h1.rc.cs 3 _ rfl⟩
theorem w8 (r : List UInt8) : IntKind.u8.wrap ((Oct.val (lOut r 1) : Nat) : Int) = ((Oct.val (lOut r 1) : Nat) : Int) := by
  have := val_out_lt r 1
  rw [show (256 : Nat) ^ 1 = 256 from rfl] at this
  rw [show IntKind.u8.wrap ((Oct.val (lOut r 1) : Nat) : Int) = ((Oct.val (lOut r 1) : Nat) : Int) % 256 from rfl]
  omega
end Go.Proofs.YtfbajmiiecmelabDoor
end
section
namespace Go.Proofs.YtfbajmiiecmelabDoor
open Go.ChangeShapes Go.WideShapes Go.ChangeAt Go.RowKit
/-- while a head is read: the reader, the pairs so far in a row of one's own -/
structure RdL (w : World) (b : Nat) (R : LSt → World → Prop) (s : LSt) (v : Value) (h : List Hd.Pr) (W : World) : Prop where
  ri : R s W
  own : W.ownsRow w.heap.size 66 4 v h.length (prs h)
  G : w.grownBy W (some b)
  bw : b < w.heap.size
theorem RdL.step {w : World} {b : Nat} {R : LSt → World → Prop} {s s' : LSt} {v : Value} {h : List Hd.Pr} {W W' : World} (H : RdL w b R s v h W) (hi : R s' W') (hg : W.grownBy W' (some b)) : RdL w b R s' v h W' :=
  ⟨hi, H.own.kept hg (Rw.own_ne H.own H.bw), H.G.trans hg, H.bw⟩
theorem RdL.on {w : World} {b : Nat} {R : LSt → World → Prop} (hR : Rder b R) {s : LSt} {v : Value} {h : List Hd.Pr} {W W' : World} (H : RdL w b R s v h W) (hb : Below W.heap.size W W') : RdL w b R s v h W' :=
  ⟨hR.on H.ri hb, Rw.own_on H.own hb, grown_below H.G hb, H.bw⟩
theorem RdL.start {w : World} {b : Nat} {R : LSt → World → Prop} {s : LSt} {W : World} (hi : R s W) (hg : w.grownBy W (some b)) (hb : b < w.heap.size) : RdL w b R s (.slice none 0 0) [] W :=
  ⟨hi, World.ownsRow_nil _ _ _ _, hg, hb⟩
theorem RdL.push {w : World} {b : Nat} {R : LSt → World → Prop} (hR : Rder b R) {s : LSt} {v v' : Value} {h : List Hd.Pr} {x : Hd.Pr} {W W' : World} (H : RdL w b R s v h W) (hg : W.grownBy W' v.ownBlock) (ho : W'.ownsRow w.heap.size 66 4 v' (h ++ [x]).length (prs (h ++ [x]))) : RdL w b R s v' (h ++ [x]) W' :=
  ⟨hR.gr H.ri hg (fun e => by have := (H.own.lt b e.symm).1; have := H.bw; omega), ho, grown_new H.G hg (fun k hk => (H.own.lt k hk).1), H.bw⟩
theorem RdL.row {w : World} {b : Nat} {R : LSt → World → Prop} {s : LSt} {v : Value} {h : List Hd.Pr} {W : World} (H : RdL w b R s v h W) : ∃ A c, v = .slice A h.length c ∧ h.length ≤ c ∧ Prs W A h ∧ ∀ a, A = some a → w.heap.size ≤ a.block := by
  obtain ⟨A, c, e, hc, -, hP⟩ := rown_prs H.own
  refine ⟨A, c, e, hc, hP, fun a ha => (H.own.lt a.block ?_).1⟩
  rw [e, ha]; rfl
theorem Prs.grown {w w' : World} {A : Option Addr} {l : List Hd.Pr} {row : Option Nat} (h : Prs w A l) (hg : w.grownBy w' row) (hne : ∀ a, A = some a → some a.block ≠ row) : Prs w' A l := ⟨fun i hi => by
  obtain ⟨b, off, hA, hlt, hat⟩ := h.at_ i hi
  have hb := hne _ hA
  exact ⟨b, off, hA, Nat.lt_of_lt_of_le hlt hg.size, hg.cell hat.c0 hb, hg.cell hat.c1 hb, hg.cell hat.c2 hb, hg.cell hat.c3 hb⟩⟩
end Go.Proofs.YtfbajmiiecmelabDoor
end
section
namespace Go.Proofs.YtfbajmiiecmelabDoor
open Go.ChangeShapes Go.WideShapes Go.ChangeAt Go.RowKit
theorem OutB.zero {w W : World} (h : Below w.heap.size w W) (n : Nat) (hn : n = W.heap.size) (t : TypeId) : OutB w n [] (W.alloc (.cells #[.string ⟨#[]⟩, .int .i64 0] t)) := by
  subst hn
  exact OutB.new h [] t
theorem PrAt.aside {W : World} {b o : Nat} {x : Hd.Pr} (h : PrAt W b o x) {g : Nat} (hg : g ≠ b) (j : Nat) (v : Value) : PrAt (W.setCell ⟨g, j, none⟩ v) b o x :=
  ⟨(aside_cell hg _ _ _).trans h.c0, (aside_cell hg _ _ _).trans h.c1, (aside_cell hg _ _ _).trans h.c2, (aside_cell hg _ _ _).trans h.c3⟩
theorem Prs.aside {W : World} {A : Option Addr} {l : List Hd.Pr} (h : Prs W A l) {g : Nat} (hg : ∀ a, A = some a → g ≠ a.block) (j : Nat) (v : Value) : Prs (W.setCell ⟨g, j, none⟩ v) A l := ⟨fun i hi => by
  obtain ⟨b, off, rfl, hb, hat⟩ := h.at_ i hi
  exact ⟨b, off, rfl, by simpa [World.setCell] using hb, hat.aside (hg _ rfl) j v⟩⟩
/-- a number of cells of a block written, one behind the other -/
def putAll (q : Nat) : Nat → List Value → World → World
  | _, [], W => W
  | j, v :: vs, W => putAll q (j + 1) vs (W.setCell ⟨q, j, none⟩ v)
theorem Prs.putAll {A : Option Addr} {l : List Hd.Pr} {g : Nat} (hg : ∀ a, A = some a → g ≠ a.block) : ∀ (vs : List Value) (j : Nat) {W : World}, Prs W A l → Prs (putAll g j vs W) A l
  | [], _, _, h => h
  | v :: vs, j, _, h => Prs.putAll hg vs (j + 1) (h.aside hg j v)
theorem BoxC.putAll_aside {w : World} {c g : Nat} {xs : List Value} (hg : g ≠ c) : ∀ (vs : List Value) (j : Nat) {W : World}, BoxC w c xs W → BoxC w c xs (putAll g j vs W)
  | [], _, _, h => h
  | v :: vs, j, _, h => BoxC.putAll_aside hg vs (j + 1) (h.aside hg j v)
theorem below_putAll {w : World} {g : Nat} (hg : w.heap.size ≤ g) : ∀ (vs : List Value) (j : Nat) {W : World}, Below w.heap.size w W → Below w.heap.size w (putAll g j vs W)
  | [], _, _, h => h
  | v :: vs, j, _, h => below_putAll hg vs (j + 1) (h.setCell hg v)
theorem Parts.putAll {T : Option Addr} {l : List Nat} {g : Nat} (hg : ∀ a, T = some a → g ≠ a.block) : ∀ (vs : List Value) (j : Nat) {W : World}, Parts W T l → Parts (putAll g j vs W) T l
  | [], _, _, h => h
  | v :: vs, j, _, h => Parts.putAll hg vs (j + 1) (h.aside hg j v)
/-- all cells of a box written -/
theorem BoxC.fill {w W : World} {c : Nat} {xs : List Value} (h : BoxC w c xs W) : ∀ (vs : List Value), vs.length = xs.length → BoxC w c vs (Go.Proofs.YtfbajmiiecmelabDoor.putAll c 0 vs W) := by
  have gen : ∀ (vs us : List Value) (j : Nat) (W : World) (ts : List Value), ts.length = j → us.length = vs.length → BoxC w c (ts ++ us) W → BoxC w c (ts ++ vs) (Go.Proofs.YtfbajmiiecmelabDoor.putAll c j vs W) := by
    intro vs
    induction vs with
    | nil =>
      intro us j W ts _ hu hb
      rw [List.length_eq_zero_iff.1 hu] at hb
      exact hb
    | cons v vs ih =>
      intro us j W ts ht hu hb
      match us, hu with
      | u :: us, hu =>
        have h1 := hb.put j v (by rw [List.length_append, ht]; simp)
        have e : (ts ++ u :: us).set j v = (ts ++ [v]) ++ us := by
          rw [List.set_append_right _ _ (by omega), ht, Nat.sub_self]
          simp
        rw [e] at h1
        have := ih us (j + 1) (W.setCell ⟨c, j, none⟩ v) (ts ++ [v]) (by simp [ht]) (by simpa using hu) h1
        rw [List.append_assoc] at this
        exact this
  intro vs hv
  exact gen vs xs 0 W [] rfl hv.symm h
end Go.Proofs.YtfbajmiiecmelabDoor
end
