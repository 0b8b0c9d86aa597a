/-
  THE CHAPTER'S EXAMPLE; what is done, whatever the act: walked. THE CHAPTER'S EXAMPLE: walked. THE LAW MatchSame, walked: whether any two rules are the same. THE LAW MatchGoes, walked: whether any rule may be, and which messages go by it. BOOKS IN BOXES; what is done to other exchanges. THE LAW RouteLeads: walked.
-/
import Derived.Test.YtopobliajgocaaaGreatDoorZp15
import Derived.Test.YtopobliajgocaaaGreatDoorZp20
import Derived.Test.YtopobliajgocaaaGreatDoorZp37
import Derived.Test.YtopobliajgocaaaGreatDoorZp39
import Derived.Test.YtopobliajgocaaaGreatDoorZp40
import Derived.Test.YtopobliajgocaaaGreatDoorZp41
import Derived.Test.YtopobliajgocaaaGreatDoorZp42
import Derived.Test.YtopobliajgocaaaGreatDoorZp43
import Derived.Deep.RegionHeld3
import Derived.Deep.DeepCutAuto
section
namespace Go.Proofs.YtopobliajgocaaaGreatDoor
open Go.ChangeShapes Go.WideShapes Go.ChangeAt Go.RowKit
theorem done14_any (k : Nat) (s : Sh) (x : Bd) (Ax : Option Addr) (cx : Nat) (b q : Bk) (A : Option Addr) (c : Nat) (B : Option Addr) (d : Nat) (ps : List Bp) (C : Option Addr) (e : Nat) (D : Option Addr) (f : Nat) (qs : List Bp) (w : World) (U V : Nat → Prop) (hs1 : s.name.length ≤ 90000) (hs2 : s.to.length ≤ 90000) (hx : BdOk w x Ax cx) (hb : Bk.Ok b) (hq : Bk.Ok q) (hI : BkAt w A c B d b ps) (hU : BkU U w A B ps) (hJ : BkAt w C e D f q qs) (hV : BkU V w C D qs) (hL : Len w) :
    Calls Tryz.prog 8 #[bkV A c B d b, bkV C e D f q, actV k s x Ax cx] w (DonePost U V (b.act k s x).1 (q.act k s x).1 (decide ((b.act k s x).2 = (q.act k s x).2)) w) := by
  have h5 : k % 5 = 0 ∨ k % 5 = 1 ∨ k % 5 = 2 ∨ k % 5 = 3 ∨ k % 5 = 4 := by omega
  rcases h5 with h | h | h | h | h
  · exact done14_0 k s x Ax cx b q A c B d ps C e D f qs w U V h hs1 hs2 hx hb hq hI hU hJ hV hL
  · exact done14_1 k s x Ax cx b q A c B d ps C e D f qs w U V h hs1 hs2 hx hb hq hI hU hJ hV hL
  · exact done14_2 k s x Ax cx b q A c B d ps C e D f qs w U V h hs1 hs2 hx hb hq hI hU hJ hV hL
  · exact done14_3 k s x Ax cx b q A c B d ps C e D f qs w U V h hs1 hs2 hx hb hq hI hU hJ hV hL
  · exact done14_4 k s x Ax cx b q A c B d ps C e D f qs w U V h hs1 hs2 hx hb hq hI hU hJ hV hL
end Go.Proofs.YtopobliajgocaaaGreatDoor
end
section
namespace Go.Proofs.YtopobliajgocaaaGreatDoor
open Go.ChangeShapes Go.WideShapes Go.ChangeAt Go.RowKit
set_option maxRecDepth 100000 in
set_option maxHeartbeats 8000000 in
theorem rt_awake_any (w : World) (hL : Len w) : Calls Tryz.prog 6 #[] w fun e w' => e = .returned (.bool true) ∧ Below w.heap.size w w' := by
  have HM := Lib.hid (ex_make w)
  have HLL := Lib.hid hL
  clear hL
  go_enter Tryz.func6, Tryz.ntmps6
  go_wp2_with fail
  refine HM.out.mono ?_
  rintro e w1 ⟨A, c, B, d, ps, rfl, hI1, hU1, hb1⟩
  have hx1 := rtAt0 w1 #[.slice A 1 c, .slice B 0 d] 28
  have HX1 := Lib.hid hx1
  have hb2 := rtOne w1 (.cells #[.slice A 1 c, .slice B 0 d] 28)
  have HB2 := Lib.hid (bthen hb1 hb2 (Nat.le_refl _))
  have HI2 := Lib.hid (hI1.on hb2)
  have HU2 := Lib.hid (hU1.self.on hb2.size)
  have HL2 := Lib.hid ((HLL.out.on hb1).on hb2)
  have HS2 := Lib.hid (show w.heap.size ≤ w1.heap.size from hb1.size)
  clear hx1 hI1 hU1 hb2 hb1
  go_upto_region 2 with fail
  generalize w1.alloc (.cells #[.slice A 1 c, .slice B 0 d] 28) = w2 at *
  have x0 := HX1.out.cs 0 _ rfl
  have x1 := HX1.out.cs 1 _ rfl
  have xl := HX1.out.lt
  have xf := HX1.out.s
  unfold Soft at xf
  have HP2 := Lib.hid (ex_bind1 w2 A c B d ps _ HI2.out HU2.out HL2.out)
  go_wp2_with fail
  refine HP2.out.mono ?_
  rintro e w3 ⟨A3, c3, B3, d3, ps3, rfl, hI3, hU3, hb3⟩
  have HX3 := Lib.hid (HX1.out.on hb3)
  have HB3 := Lib.hid (bthen HB2.out hb3 (Nat.le_refl _))
  have HL3 := Lib.hid (HL2.out.on hb3)
  have hnu : ¬ ((w.heap.size ≤ w1.heap.size ∧ w1.heap.size < w1.heap.size) ∨ w2.heap.size ≤ w1.heap.size) := by have := HX1.out.lt; omega
  have hi4 := (hI3.put hU3 hnu 0 (.slice A3 1 c3)).put (hU3.put w1.heap.size 0 (.slice A3 1 c3)) hnu 1 (.slice B3 1 d3)
  have hu4 := (hU3.put w1.heap.size 0 (.slice A3 1 c3)).put w1.heap.size 1 (.slice B3 1 d3)
  have hx4 := HX3.out.fill [.slice A3 1 c3, .slice B3 1 d3] rfl
  have hb4 := below_putAll (w := w) (g := w1.heap.size) HS2.out [.slice A3 1 c3, .slice B3 1 d3] 0 HB3.out
  simp only [putAll] at hx4 hb4
  have HX4 := Lib.hid hx4
  have HB4 := Lib.hid hb4
  have HI4 := Lib.hid hi4
  have HU4 := Lib.hid hu4
  have HL4 := Lib.hid (HLL.out.on hb4)
  clear hx4 hb4 hi4 hu4 hnu hI3 hU3 hb3
  clear x0 x1 xl xf
  have x0 := HX3.out.cs 0 _ rfl
  have x1 := HX3.out.cs 1 _ rfl
  have xl := HX3.out.lt
  have xf := HX3.out.s
  unfold Soft at xf
  go_upto_region 3 with fail
  generalize ((w3.setCell ⟨w1.heap.size, 0, none⟩ (.slice A3 1 c3)).setCell ⟨w1.heap.size, 1, none⟩ (.slice B3 1 d3)) = w4 at *
  clear x0 x1 xl xf
  have x0 := HX4.out.cs 0 _ rfl
  have x1 := HX4.out.cs 1 _ rfl
  have xl := HX4.out.lt
  have xf := HX4.out.s
  unfold Soft at xf
  have HP4 := Lib.hid (ex_bind2 w4 A3 c3 B3 d3 ps3 _ HI4.out HU4.out HL4.out)
  go_wp2_with fail
  refine HP4.out.mono ?_
  rintro e w5 ⟨A5, c5, B5, d5, ps5, rfl, hI5, hU5, hb5⟩
  have HX5 := Lib.hid (HX4.out.on hb5)
  have HB5 := Lib.hid (bthen HB4.out hb5 (Nat.le_refl _))
  have HL5 := Lib.hid (HL4.out.on hb5)
  have hnu : ¬ (((w.heap.size ≤ w1.heap.size ∧ w1.heap.size < w1.heap.size) ∨ w2.heap.size ≤ w1.heap.size) ∨ w4.heap.size ≤ w1.heap.size) := by have := HX1.out.lt; have := HX4.out.lt; omega
  have hi6 := (hI5.put hU5 hnu 0 (.slice A5 1 c5)).put (hU5.put w1.heap.size 0 (.slice A5 1 c5)) hnu 1 (.slice B5 2 d5)
  have hx6 := HX5.out.fill [.slice A5 1 c5, .slice B5 2 d5] rfl
  have hb6 := below_putAll (w := w) (g := w1.heap.size) HS2.out [.slice A5 1 c5, .slice B5 2 d5] 0 HB5.out
  simp only [putAll] at hx6 hb6
  have HX6 := Lib.hid hx6
  have HB6 := Lib.hid hb6
  have HI6 := Lib.hid hi6
  have HL6 := Lib.hid (HLL.out.on hb6)
  clear hx6 hb6 hi6 hnu hI5 hU5 hb5
  clear x0 x1 xl xf
  have x0 := HX5.out.cs 0 _ rfl
  have x1 := HX5.out.cs 1 _ rfl
  have xl := HX5.out.lt
  have xf := HX5.out.s
  unfold Soft at xf
  go_upto_region 4 with fail
  generalize ((w5.setCell ⟨w1.heap.size, 0, none⟩ (.slice A5 1 c5)).setCell ⟨w1.heap.size, 1, none⟩ (.slice B5 2 d5)) = w6 at *
  clear x0 x1 xl xf
  have x0 := HX6.out.cs 0 _ rfl
  have x1 := HX6.out.cs 1 _ rfl
  have xl := HX6.out.lt
  have HP6 := Lib.hid (ex_leads w6 A5 c5 B5 d5 ps5 HI6.out HL6.out)
  go_wp2_with fail
  refine HP6.out.mono ?_
  rintro e w7 ⟨A7, c7, B7, d7, rfl, hR7, hb7⟩
  have HB7 := Lib.hid (bthen HB6.out hb7 (Nat.le_refl _))
  have HL7 := Lib.hid (HL6.out.on hb7)
  have HR7 := Lib.hid hR7
  clear hR7 hb7 x0 x1 xl
  go_wp2_with fail
  refine (law4Awake_any _ HL7.out).mono ?_
  rintro e w8 ⟨rfl, hb8⟩
  have HB8 := Lib.hid (bthen HB7.out hb8 (Nat.le_refl _))
  have HL8 := Lib.hid (HL7.out.on hb8)
  have HR8 := Lib.hid (Rws.on HR7.out hb8)
  clear hb8
  go_wp2_with fail
  refine (rt_law10_any _ HL8.out).mono ?_
  rintro e w9 ⟨rfl, hb9⟩
  have HB9 := Lib.hid (bthen HB8.out hb9 (Nat.le_refl _))
  have HL9 := Lib.hid (HL8.out.on hb9)
  have HR9 := Lib.hid (Rws.on HR8.out hb9)
  clear hb9
  have HB10 := Lib.hid (bthen HB9.out (rtOne w9 (.cells #[.string ⟨#[113]⟩] 9)) (Nat.le_refl _))
  go_wp2_with fail
  have hs1 : Rws (w9.alloc (.cells #[.string ⟨#[113]⟩] 9)) (some ⟨w9.heap.size, 0, none⟩) (sts [[113]]) := Rws.of_news (fun j u hu => by
    have hc := (rtAt0 w9 #[.string ⟨#[113]⟩] 9).cs
    exact (congrArg (fun n => (w9.alloc (.cells #[.string ⟨#[113]⟩] 9)).cell? ⟨w9.heap.size, n, none⟩) (Nat.zero_add j)).trans (hc j u hu))
  refine (eqS_any [[113]] [[113]] A7 c7 (some ⟨w9.heap.size, 0, none⟩) 1 _ (by decide) (by decide) (Rws.on HR9.out (rtOne w9 _)) hs1).mono ?_
  rintro e w11 ⟨rfl, hb11⟩
  have HB11 := Lib.hid (bthen HB10.out hb11 (Nat.le_refl _))
  clear hb11 hs1
  rw [show decide ([[113]] = ([[113]] : List (List UInt8))) = true from rfl]
  go_wp2_with fail
  go_ret
  exact ⟨rfl, HB11.out⟩
end Go.Proofs.YtopobliajgocaaaGreatDoor
end
section
namespace Go.Proofs.YtopobliajgocaaaGreatDoor
open Go.ChangeShapes Go.WideShapes Go.ChangeAt Go.RowKit
/-- the law's two boxes, the rows of its rules -/
structure MsC (w : World) (p q : Nat) (r : Ru) (A : Option Addr) (c : Nat) (s : Ru) (B : Option Addr) (d : Nat) (W : World) : Prop where
  rp : Cels W p (ruL r A c)
  rq : Cels W q (ruL s B d)
  lp : p < W.heap.size
  lq : q < W.heap.size
  ra : Prs W A r.want
  rb : Prs W B s.want
  B : Below w.heap.size w W
theorem MsC.on {w : World} {p q : Nat} {r : Ru} {A : Option Addr} {c : Nat} {s : Ru} {B : Option Addr} {d : Nat} {W W' : World} (h : MsC w p q r A c s B d W) (hb : Below W.heap.size W W') : MsC w p q r A c s B d W' :=
  ⟨h.rp.on hb h.lp, h.rq.on hb h.lq, Nat.lt_of_lt_of_le h.lp hb.size, Nat.lt_of_lt_of_le h.lq hb.size, h.ra.on hb, h.rb.on hb, bthen h.B hb (Nat.le_refl _)⟩
abbrev MsS (w : World) (p q : Nat) (r : Ru) (A : Option Addr) (c : Nat) (s : Ru) (B : Option Addr) (d : Nat) (W : World) : Prop :=
  (W.cell? ⟨p, 0, none⟩ = some (.int .u8 (r.sort : Int)) ∧ W.cell? ⟨p, 1, none⟩ = some (.string (ofL r.key)) ∧ W.cell? ⟨p, 2, none⟩ = some (.slice A r.want.length c) ∧ W.cell? ⟨p, 3, none⟩ = some (.bool r.all) ∧ p < W.heap.size ∧
   W.cell? ⟨q, 0, none⟩ = some (.int .u8 (s.sort : Int)) ∧ W.cell? ⟨q, 1, none⟩ = some (.string (ofL s.key)) ∧ W.cell? ⟨q, 2, none⟩ = some (.slice B s.want.length d) ∧ W.cell? ⟨q, 3, none⟩ = some (.bool s.all) ∧ q < W.heap.size) ∧ MsC w p q r A c s B d W
theorem MsC.s {w : World} {p q : Nat} {r : Ru} {A : Option Addr} {c : Nat} {s : Ru} {B : Option Addr} {d : Nat} {W : World} (h : MsC w p q r A c s B d W) : MsS w p q r A c s B d W :=
  ⟨⟨h.rp 0 _ rfl, h.rp 1 _ rfl, h.rp 2 _ rfl, h.rp 3 _ rfl, h.lp, h.rq 0 _ rfl, h.rq 1 _ rfl, h.rq 2 _ rfl, h.rq 3 _ rfl, h.lq⟩, h⟩
theorem MsS.on {w : World} {p q : Nat} {r : Ru} {A : Option Addr} {c : Nat} {s : Ru} {B : Option Addr} {d : Nat} {W W' : World} (h : MsS w p q r A c s B d W) (hb : Below W.heap.size W W') : MsS w p q r A c s B d W' := (h.2.on hb).s
theorem MsC.start (w : World) (r : Ru) (A : Option Addr) (c : Nat) (s : Ru) (B : Option Addr) (d : Nat) (hA : Prs w A r.want) (hB : Prs w B s.want) (t : TypeId) :
    MsC w w.heap.size (w.heap.size + 1) r A c s B d ((w.alloc (.cells #[.int .u8 (r.sort : Int), .string (ofL r.key), .slice A r.want.length c, .bool r.all] t)).alloc (.cells #[.int .u8 (s.sort : Int), .string (ofL s.key), .slice B s.want.length d, .bool s.all] t)) := by
  have e1 : (w.alloc (.cells #[.int .u8 (r.sort : Int), .string (ofL r.key), .slice A r.want.length c, .bool r.all] t)).heap.size = w.heap.size + 1 := by simp
  have hb0 : Below w.heap.size w (w.alloc (.cells #[.int .u8 (r.sort : Int), .string (ofL r.key), .slice A r.want.length c, .bool r.all] t)) := (Below.refl _ _).alloc (Nat.le_refl _) _
  have hb := (Below.refl (w.alloc (.cells #[.int .u8 (r.sort : Int), .string (ofL r.key), .slice A r.want.length c, .bool r.all] t)).heap.size (w.alloc (.cells #[.int .u8 (r.sort : Int), .string (ofL r.key), .slice A r.want.length c, .bool r.all] t))).alloc (Nat.le_refl _) (.cells #[.int .u8 (s.sort : Int), .string (ofL s.key), .slice B s.want.length d, .bool s.all] t)
  refine ⟨(ruBox r A c w t).on hb (by simp), ?_, by simp; omega, by simp, (hA.on hb0).on hb, (hB.on hb0).on hb, bthen hb0 hb (Nat.le_refl _)⟩
  rw [← e1]
  exact Cels.new _ _ _
end Go.Proofs.YtopobliajgocaaaGreatDoor
end
section
namespace Go.Proofs.YtopobliajgocaaaGreatDoor
open Go.ChangeShapes Go.WideShapes Go.ChangeAt Go.RowKit
/-- the law's box; the rows of its rule and of its head; the library's bound -/
structure MgC (w : World) (p : Nat) (r : Ru) (A : Option Addr) (c : Nat) (h : List Hd.Pr) (B : Option Addr) (d : Nat) (W : World) : Prop where
  rp : Cels W p (ruL r A c)
  lp : p < W.heap.size
  ra : Prs W A r.want
  rb : Prs W B h
  L : Len W
  B : Below w.heap.size w W
theorem MgC.on {w : World} {p : Nat} {r : Ru} {A : Option Addr} {c : Nat} {h : List Hd.Pr} {B : Option Addr} {d : Nat} {W W' : World} (H : MgC w p r A c h B d W) (hb : Below W.heap.size W W') : MgC w p r A c h B d W' :=
  ⟨H.rp.on hb H.lp, Nat.lt_of_lt_of_le H.lp hb.size, H.ra.on hb, H.rb.on hb, H.L.on hb, bthen H.B hb (Nat.le_refl _)⟩
abbrev MgS (w : World) (p : Nat) (r : Ru) (A : Option Addr) (c : Nat) (h : List Hd.Pr) (B : Option Addr) (d : Nat) (W : World) : Prop :=
  (W.cell? ⟨p, 0, none⟩ = some (.int .u8 (r.sort : Int)) ∧ W.cell? ⟨p, 1, none⟩ = some (.string (ofL r.key)) ∧ W.cell? ⟨p, 2, none⟩ = some (.slice A r.want.length c) ∧ W.cell? ⟨p, 3, none⟩ = some (.bool r.all) ∧ p < W.heap.size) ∧ MgC w p r A c h B d W
theorem MgC.s {w : World} {p : Nat} {r : Ru} {A : Option Addr} {c : Nat} {h : List Hd.Pr} {B : Option Addr} {d : Nat} {W : World} (H : MgC w p r A c h B d W) : MgS w p r A c h B d W :=
  ⟨⟨H.rp 0 _ rfl, H.rp 1 _ rfl, H.rp 2 _ rfl, H.rp 3 _ rfl, H.lp⟩, H⟩
theorem MgS.on {w : World} {p : Nat} {r : Ru} {A : Option Addr} {c : Nat} {h : List Hd.Pr} {B : Option Addr} {d : Nat} {W W' : World} (H : MgS w p r A c h B d W) (hb : Below W.heap.size W W') : MgS w p r A c h B d W' := (H.2.on hb).s
end Go.Proofs.YtopobliajgocaaaGreatDoor
end
section
namespace Go.Proofs.YtopobliajgocaaaGreatDoor
open Go.ChangeShapes Go.WideShapes Go.ChangeAt Go.RowKit
/-- a book in a box, lying where P says -/
def BkBox (w : World) (R : Nat) (P : Nat → Prop) (b : Bk) (W : World) : Prop := ∃ A c B d ps, BoxC w R [.slice A b.shops.length c, .slice B b.binds.length d] W ∧ BkAt W A c B d b ps ∧ BkU P W A B ps
theorem BkBox.on {w W W' : World} {R : Nat} {P : Nat → Prop} {b : Bk} (h : BkBox w R P b W) (hb : Below W.heap.size W W') : BkBox w R P b W' := by
  obtain ⟨A, c, B, d, ps, h1, h2, h3⟩ := h
  exact ⟨A, c, B, d, ps, h1.on hb, h2.on hb, h3.on hb.size⟩
theorem BkBox.new {w W : World} (hs : w.heap.size ≤ W.heap.size) (P : Nat → Prop) (t : TypeId) : BkBox w W.heap.size P Bk.empty (W.alloc (.cells #[.slice none 0 0, .slice none 0 0] t)) :=
  ⟨none, 0, none, 0, [], BoxC.new hs #[.slice none 0 0, .slice none 0 0] t, BkAt.nil _, BkU.nil _ _⟩
theorem BkBox.set {w W : World} {R N : Nat} {P : Nat → Prop} {x y : Value} (h : BoxC w R [x, y] W) {A : Option Addr} {c : Nat} {B : Option Addr} {d : Nat} {b : Bk} {ps : List Bp} (h1 : BkAt W A c B d b ps) (h2 : BkU (fun g => P g ∨ N ≤ g) W A B ps) (hP : ¬ P R) (hPN : ∀ g, N ≤ g → P g) :
    BkBox w R P b ((W.setCell ⟨R, 0, none⟩ (.slice A b.shops.length c)).setCell ⟨R, 1, none⟩ (.slice B b.binds.length d)) := by
  have hU : BkU P W A B ps := h2.mono (fun g h => h.elim id (hPN g))
  have e := h.fill [.slice A b.shops.length c, .slice B b.binds.length d] rfl
  simp only [putAll] at e
  exact ⟨A, c, B, d, ps, e, (h1.put hU hP 0 _).put (hU.put _ _ _) hP 1 _, (hU.put _ _ _).put _ _ _⟩
theorem BkBox.aside {w W : World} {R S : Nat} {P : Nat → Prop} {b : Bk} (h : BkBox w R P b W) (hne : S ≠ R) (hP : ¬ P S) (u v : Value) : BkBox w R P b ((W.setCell ⟨S, 0, none⟩ u).setCell ⟨S, 1, none⟩ v) := by
  obtain ⟨A, c, B, d, ps, h1, h2, h3⟩ := h
  exact ⟨A, c, B, d, ps, (h1.aside hne 0 u).aside hne 1 v, (h2.put h3 hP 0 u).put (h3.put _ _ _) hP 1 v, (h3.put _ _ _).put _ _ _⟩
theorem bk_two {w W : World} {R S N : Nat} {P : Nat → Prop} {x y x' y' : Value} (hr : BoxC w R [x, y] W) (hs : BoxC w S [x', y'] W) (hne : R ≠ S) (hR : ¬ P R) (hS : ¬ P S) (hRN : R < N) (hPN : ∀ g, N ≤ g → P g)
    {A : Option Addr} {c : Nat} {B : Option Addr} {d : Nat} {b : Bk} {ps : List Bp} (h1 : BkAt W A c B d b ps) (h2 : BkU (fun g => P g ∨ N ≤ g) W A B ps)
    {C : Option Addr} {e : Nat} {D : Option Addr} {f : Nat} {q : Bk} {qs : List Bp} (g1 : BkAt W C e D f q qs) (g2 : BkU (fun g => P g ∨ N ≤ g) W C D qs) :
    BkBox w R P b ((((W.setCell ⟨R, 0, none⟩ (.slice A b.shops.length c)).setCell ⟨R, 1, none⟩ (.slice B b.binds.length d)).setCell ⟨S, 0, none⟩ (.slice C q.shops.length e)).setCell ⟨S, 1, none⟩ (.slice D q.binds.length f)) ∧
    BkBox w S P q ((((W.setCell ⟨R, 0, none⟩ (.slice A b.shops.length c)).setCell ⟨R, 1, none⟩ (.slice B b.binds.length d)).setCell ⟨S, 0, none⟩ (.slice C q.shops.length e)).setCell ⟨S, 1, none⟩ (.slice D q.binds.length f)) := by
  have hno : ¬ (P R ∨ N ≤ R) := fun h => h.elim hR (fun h => by omega)
  refine ⟨(BkBox.set hr h1 h2 hR hPN).aside (Ne.symm hne) hS _ _, ?_⟩
  exact BkBox.set ((hs.aside hne 0 _).aside hne 1 _) ((g1.put g2 hno 0 _).put (g2.put _ _ _) hno 1 _) ((g2.put _ _ _).put _ _ _) hS hPN
namespace Bk
theorem Ok.sort {b : Bk} (h : Ok b) : ∀ s ∈ b.shops, s.sort ≤ 4 := by
  intro s hs
  have h1 := h.shops s hs
  unfold scode at h1
  by_cases h4 : 4 < s.sort
  · split at h1
    · omega
    · omega
  · omega
theorem lead_skip (s : Sh) (up : Bool) (key : List UInt8) (h : List Hd.Pr) (l : List Bd) (p : Bd → Bool) (hp : ∀ x ∈ l, x.shop = s.name → p x = true) : lead s up key h (l.filter p) = lead s up key h l := by
  unfold lead
  have : ∀ (l : List Bd) (acc : List (List UInt8)), (∀ x ∈ l, x.shop = s.name → p x = true) → (l.filter p).foldl (fun acc x => if goes s up key h x then Bk.put acc x.to else acc) acc = l.foldl (fun acc x => if goes s up key h x then Bk.put acc x.to else acc) acc := by
    intro l
    induction l with
    | nil => intro acc _; rfl
    | cons x l ih =>
      intro acc hx
      have hx' : ∀ y ∈ l, y.shop = s.name → p y = true := fun y hy => hx y (List.mem_cons_of_mem _ hy)
      rw [List.foldl_cons, List.filter_cons]
      by_cases hpx : p x = true
      · rw [if_pos hpx, List.foldl_cons]; exact ih _ hx'
      · rw [if_neg hpx]
        have hg : goes s up key h x = false := by
          have : x.shop ≠ s.name := fun e => hpx (hx x (List.mem_cons_self ..) e)
          unfold goes
          rw [show (x.shop == s.name) = false from by simpa using this]
          rfl
        rw [hg]
        exact ih _ hx'
  exact this l [] hp
theorem lead_app (s : Sh) (up : Bool) (key : List UInt8) (h : List Hd.Pr) (l : List Bd) (x : Bd) (hx : x.shop ≠ s.name) : lead s up key h (l ++ [x]) = lead s up key h l := by
  rw [lead_snoc]
  have hg : goes s up key h x = false := by
    unfold goes
    rw [show (x.shop == s.name) = false from by simpa using hx]
    rfl
  rw [hg]; rfl
/-- two books in which one exchange is the same -/
def Alike (n : List UInt8) (b c : Bk) : Prop := c.shop n = b.shop n ∧ ∀ s up key h, s.name = n → lead s up key h c.binds = lead s up key h b.binds
theorem Alike.rfl {n : List UInt8} {b : Bk} : Alike n b b := ⟨by simp, by intros; simp⟩
theorem Alike.trans {n : List UInt8} {b c d : Bk} (h : Alike n b c) (g : Alike n c d) : Alike n b d := ⟨g.1.trans h.1, fun s up key l e => (g.2 s up key l e).trans (h.2 s up key l e)⟩
theorem find_skip {l : List Sh} {n m : List UInt8} (h : m ≠ n) : (l.filter fun x => !(x.name == m)).find? (fun x => x.name == n) = l.find? fun x => x.name == n := by
  induction l with
  | nil => rfl
  | cons x l ih =>
    rw [List.filter_cons]
    by_cases hx : x.name = m
    · have hxn : (x.name == n) = false := by rw [hx]; simpa using h
      rw [if_neg (by rw [hx]; simp), List.find?_cons, hxn]
      exact ih
    · rw [if_pos (by simpa using hx), List.find?_cons, List.find?_cons, ih]
theorem Alike.act {n : List UInt8} {b : Bk} {k : Nat} {s : Sh} {x : Bd} (hk : k % 5 < 4) (hs : s.name ≠ n) (hx : x.shop ≠ n) : Alike n b (b.act k s x).1 := by
  unfold Bk.act
  split
  · unfold Bk.make
    split
    · exact .rfl
    · split
      · split <;> exact .rfl
      · split
        · exact .rfl
        · refine ⟨?_, fun _ _ _ _ _ => by simp⟩
          show (b.shops ++ [s]).find? _ = b.shops.find? _
          rw [List.find?_append]
          have : [s].find? (fun x => x.name == n) = none := by
            rw [List.find?_cons, show (s.name == n) = false by simpa using hs]; simp
          rw [this]
          cases b.shops.find? fun x => x.name == n <;> simp
  · split
    · unfold Bk.drop
      split
      · refine ⟨find_skip hs, fun t up key h e => lead_skip t up key h _ _ (fun y _ hy => ?_)⟩
        rw [hy, e]
        simpa using fun e => hs (Eq.symm e)
      · exact .rfl
    · split
      · unfold Bk.bind
        split
        · exact .rfl
        · split
          · exact .rfl
          · split
            · exact .rfl
            · exact ⟨by simp [Bk.shop], fun t up key h e => lead_app t up key h _ x (fun e' => hx (e'.trans e))⟩
      · split
        · unfold Bk.unbind
          split
          · refine ⟨by simp [Bk.shop], fun t up key h e => lead_skip t up key h _ _ (fun y _ hy => ?_)⟩
            simpa using fun e' => hx (by rw [e', hy, e])
          · exact .rfl
        · omega
theorem Alike.qs {n : List UInt8} {b c : Bk} (h : Alike n b c) (key : List UInt8) (l : List Hd.Pr) : c.qs n key l = b.qs n key l ∧ c.pls n key l = b.pls n key l ∧ c.lcode n = b.lcode n := by
  unfold Bk.qs Bk.pls Bk.lcode
  rw [h.1]
  cases hs : b.shop n with
  | none => exact ⟨by simp, by simp, by simp⟩
  | some s =>
    have e := (shop_mem hs).2
    dsimp only
    rw [h.2 s false key l e, h.2 s true key l e]
    exact ⟨by simp, by simp, by simp⟩
end Bk
end Go.Proofs.YtopobliajgocaaaGreatDoor
end
section
namespace Go.Proofs.YtopobliajgocaaaGreatDoor
open Go.ChangeShapes Go.WideShapes Go.ChangeAt Go.RowKit
def LePost (w : World) (e : Ending) (w' : World) : Prop := e = .returned (.bool true) ∧ Below w.heap.size w w'
/-- the acts' loop -/
def RlSt (w : World) (R : Nat) (n g : Nat) (i : Value) (wr : World) : Prop := ∃ (k : Nat) (b : Bk), k + g = n ∧ i = .int .i64 (k : Int) ∧ Bk.Ok b ∧ BkBox w R (fun g => g ≠ R ∧ g ≠ R + 1) b wr ∧ BkBox w (R + 1) (fun g => g ≠ R ∧ g ≠ R + 1) b wr ∧ Below w.heap.size w wr
attribute [local go_sem] guardRSh
end Go.Proofs.YtopobliajgocaaaGreatDoor
end
