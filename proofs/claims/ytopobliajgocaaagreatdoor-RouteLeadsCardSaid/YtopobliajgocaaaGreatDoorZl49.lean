/-
  BOOKS IN BOXES; what is done to other exchanges.
-/
import Derived.Test.YtopobliajgocaaaGreatDoorZl48

section
namespace Go.Proofs.YtopobliajgocaaaGreatDoor
open Go.ChangeShapes Go.WideShapes Go.ChangeAt Go.RowKit
/-- a book in a box, lying where P says -/
def BkBox (w : World) (R : Nat) (P : Nat → Prop) (b : Bk) (W : World) : Prop := ∃ A c B d ps, BoxC w R [.slice A b.shops.length c, .slice B b.binds.length d] W ∧ BkAt W A c B d b ps ∧ BkU P W A B ps
theorem BkBox.on {w W W' : World} {R : Nat} {P : Nat → Prop} {b : Bk} (h : BkBox w R P b W) (hb : Below W.heap.size W W') : BkBox w R P b W' := by
  obtain ⟨A, c, B, d, ps, h1, h2, h3⟩ := h
  exact ⟨A, c, B, d, ps, h1.on hb, h2.on hb, h3.on hb.size⟩
theorem BkBox.new {w W : World} (hs : w.heap.size ≤ W.heap.size) (P : Nat → Prop) (t : TypeId) : BkBox w W.heap.size P Bk.empty (W.alloc (.cells #[.slice none 0 0, .slice none 0 0] t)) :=
  ⟨none, 0, none, 0, [], BoxC.new hs #[.slice none 0 0, .slice none 0 0] t, BkAt.nil _, BkU.nil _ _⟩
theorem BkBox.set {w W : World} {R N : Nat} {P : Nat → Prop} {x y : Value} (h : BoxC w R [x, y] W) {A : Option Addr} {c : Nat} {B : Option Addr} {d : Nat} {b : Bk} {ps : List Bp} (h1 : BkAt W A c B d b ps) (h2 : BkU (fun g => P g ∨ N ≤ g) W A B ps) (hP : ¬ P R) (hPN : ∀ g, N ≤ g → P g) :
    BkBox w R P b ((W.setCell ⟨R, 0, none⟩ (.slice A b.shops.length c)).setCell ⟨R, 1, none⟩ (.slice B b.binds.length d)) := by
  have hU : BkU P W A B ps := h2.mono (fun g h => h.elim id (hPN g))
  have e := h.fill [.slice A b.shops.length c, .slice B b.binds.length d] rfl
  simp only [putAll] at e
  exact ⟨A, c, B, d, ps, e, (h1.put hU hP 0 _).put (hU.put _ _ _) hP 1 _, (hU.put _ _ _).put _ _ _⟩
theorem BkBox.aside {w W : World} {R S : Nat} {P : Nat → Prop} {b : Bk} (h : BkBox w R P b W) (hne : S ≠ R) (hP : ¬ P S) (u v : Value) : BkBox w R P b ((W.setCell ⟨S, 0, none⟩ u).setCell ⟨S, 1, none⟩ v) := by
  obtain ⟨A, c, B, d, ps, h1, h2, h3⟩ := h
  exact ⟨A, c, B, d, ps, (h1.aside hne 0 u).aside hne 1 v, (h2.put h3 hP 0 u).put (h3.put _ _ _) hP 1 v, (h3.put _ _ _).put _ _ _⟩
theorem bk_two {w W : World} {R S N : Nat} {P : Nat → Prop} {x y x' y' : Value} (hr : BoxC w R [x, y] W) (hs : BoxC w S [x', y'] W) (hne : R ≠ S) (hR : ¬ P R) (hS : ¬ P S) (hRN : R < N) (hPN : ∀ g, N ≤ g → P g)
    {A : Option Addr} {c : Nat} {B : Option Addr} {d : Nat} {b : Bk} {ps : List Bp} (h1 : BkAt W A c B d b ps) (h2 : BkU (fun g => P g ∨ N ≤ g) W A B ps)
    {C : Option Addr} {e : Nat} {D : Option Addr} {f : Nat} {q : Bk} {qs : List Bp} (g1 : BkAt W C e D f q qs) (g2 : BkU (fun g => P g ∨ N ≤ g) W C D qs) :
    BkBox w R P b ((((W.setCell ⟨R, 0, none⟩ (.slice A b.shops.length c)).setCell ⟨R, 1, none⟩ (.slice B b.binds.length d)).setCell ⟨S, 0, none⟩ (.slice C q.shops.length e)).setCell ⟨S, 1, none⟩ (.slice D q.binds.length f)) ∧
    BkBox w S P q ((((W.setCell ⟨R, 0, none⟩ (.slice A b.shops.length c)).setCell ⟨R, 1, none⟩ (.slice B b.binds.length d)).setCell ⟨S, 0, none⟩ (.slice C q.shops.length e)).setCell ⟨S, 1, none⟩ (.slice D q.binds.length f)) := by
  have hno : ¬ (P R ∨ N ≤ R) := fun h => h.elim hR (fun h => by omega)
  refine ⟨(BkBox.set hr h1 h2 hR hPN).aside (Ne.symm hne) hS _ _, ?_⟩
  exact BkBox.set ((hs.aside hne 0 _).aside hne 1 _) ((g1.put g2 hno 0 _).put (g2.put _ _ _) hno 1 _) ((g2.put _ _ _).put _ _ _) hS hPN
namespace Bk
theorem Ok.sort {b : Bk} (h : Ok b) : ∀ s ∈ b.shops, s.sort ≤ 4 := by
  intro s hs
  have h1 := h.shops s hs
  unfold scode at h1
  by_cases h4 : 4 < s.sort
  · split at h1
    · omega
    · omega
  · omega
theorem lead_skip (s : Sh) (up : Bool) (key : List UInt8) (h : List Hd.Pr) (l : List Bd) (p : Bd → Bool) (hp : ∀ x ∈ l, x.shop = s.name → p x = true) : lead s up key h (l.filter p) = lead s up key h l := by
  unfold lead
  have : ∀ (l : List Bd) (acc : List (List UInt8)), (∀ x ∈ l, x.shop = s.name → p x = true) → (l.filter p).foldl (fun acc x => if goes s up key h x then Bk.put acc x.to else acc) acc = l.foldl (fun acc x => if goes s up key h x then Bk.put acc x.to else acc) acc := by
    intro l
    induction l with
    | nil => intro acc _; rfl
    | cons x l ih =>
      intro acc hx
      have hx' : ∀ y ∈ l, y.shop = s.name → p y = true := fun y hy => hx y (List.mem_cons_of_mem _ hy)
      rw [List.foldl_cons, List.filter_cons]
      by_cases hpx : p x = true
      · rw [if_pos hpx, List.foldl_cons]; exact ih _ hx'
      · rw [if_neg hpx]
        have hg : goes s up key h x = false := by
          have : x.shop ≠ s.name := fun e => hpx (hx x (List.mem_cons_self ..) e)
          unfold goes
          rw [show (x.shop == s.name) = false from by simpa using this]
          rfl
        rw [hg]
        exact ih _ hx'
  exact this l [] hp
theorem lead_app (s : Sh) (up : Bool) (key : List UInt8) (h : List Hd.Pr) (l : List Bd) (x : Bd) (hx : x.shop ≠ s.name) : lead s up key h (l ++ [x]) = lead s up key h l := by
  rw [lead_snoc]
  have hg : goes s up key h x = false := by
    unfold goes
    rw [show (x.shop == s.name) = false from by simpa using hx]
    rfl
  rw [hg]; rfl
/-- two books in which one exchange is the same -/
def Alike (n : List UInt8) (b c : Bk) : Prop := c.shop n = b.shop n ∧ ∀ s up key h, s.name = n → lead s up key h c.binds = lead s up key h b.binds
theorem Alike.rfl {n : List UInt8} {b : Bk} : Alike n b b := ⟨by simp, by intros; simp⟩
theorem Alike.trans {n : List UInt8} {b c d : Bk} (h : Alike n b c) (g : Alike n c d) : Alike n b d := ⟨g.1.trans h.1, fun s up key l e => (g.2 s up key l e).trans (h.2 s up key l e)⟩
theorem find_skip {l : List Sh} {n m : List UInt8} (h : m ≠ n) : (l.filter fun x => !(x.name == m)).find? (fun x => x.name == n) = l.find? fun x => x.name == n := by
  induction l with
  | nil => rfl
  | cons x l ih =>
    rw [List.filter_cons]
    by_cases hx : x.name = m
    · have hxn : (x.name == n) = false := by rw [hx]; simpa using h
      rw [if_neg (by rw [hx]; simp), List.find?_cons, hxn]
      exact ih
    · rw [if_pos (by simpa using hx), List.find?_cons, List.find?_cons, ih]
theorem Alike.act {n : List UInt8} {b : Bk} {k : Nat} {s : Sh} {x : Bd} (hk : k % 5 < 4) (hs : s.name ≠ n) (hx : x.shop ≠ n) : Alike n b (b.act k s x).1 := by
  unfold Bk.act
  split
  · unfold Bk.make
    split
    · exact .rfl
    · split
      · split <;> exact .rfl
      · split
        · exact .rfl
        · refine ⟨?_, fun _ _ _ _ _ => by simp⟩
          show (b.shops ++ [s]).find? _ = b.shops.find? _
          rw [List.find?_append]
          have : [s].find? (fun x => x.name == n) = none := by
            rw [List.find?_cons, show (s.name == n) = false by simpa using hs]; simp
          rw [this]
          cases b.shops.find? fun x => x.name == n <;> simp
  · split
    · unfold Bk.drop
      split
      · refine ⟨find_skip hs, fun t up key h e => lead_skip t up key h _ _ (fun y _ hy => ?_)⟩
        rw [hy, e]
        simpa using fun e => hs (Eq.symm e)
      · exact .rfl
    · split
      · unfold Bk.bind
        split
        · exact .rfl
        · split
          · exact .rfl
          · split
            · exact .rfl
            · exact ⟨by simp [Bk.shop], fun t up key h e => lead_app t up key h _ x (fun e' => hx (e'.trans e))⟩
      · split
        · unfold Bk.unbind
          split
          · refine ⟨by simp [Bk.shop], fun t up key h e => lead_skip t up key h _ _ (fun y _ hy => ?_)⟩
            simpa using fun e' => hx (by rw [e', hy, e])
          · exact .rfl
        · omega
theorem Alike.qs {n : List UInt8} {b c : Bk} (h : Alike n b c) (key : List UInt8) (l : List Hd.Pr) : c.qs n key l = b.qs n key l ∧ c.pls n key l = b.pls n key l ∧ c.lcode n = b.lcode n := by
  unfold Bk.qs Bk.pls Bk.lcode
  rw [h.1]
  cases hs : b.shop n with
  | none => exact ⟨by simp, by simp, by simp⟩
  | some s =>
    have e := (shop_mem hs).2
    dsimp only
    rw [h.2 s false key l e, h.2 s true key l e]
    exact ⟨by simp, by simp, by simp⟩
end Bk
end Go.Proofs.YtopobliajgocaaaGreatDoor
end
