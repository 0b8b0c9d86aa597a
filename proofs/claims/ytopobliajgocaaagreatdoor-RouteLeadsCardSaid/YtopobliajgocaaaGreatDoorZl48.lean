/-
  THE CHAPTER'S EXAMPLE; what is done, whatever the act: walked. THE CHAPTER'S EXAMPLE: walked. THE LAW MatchSame, walked: whether any two rules are the same. THE LAW MatchGoes, walked: whether any rule may be, and which messages go by it.
-/
import Derived.Test.YtopobliajgocaaaGreatDoorZl16
import Derived.Test.YtopobliajgocaaaGreatDoorZl22
import Derived.Test.YtopobliajgocaaaGreatDoorZl41
import Derived.Test.YtopobliajgocaaaGreatDoorZl43
import Derived.Test.YtopobliajgocaaaGreatDoorZl44
import Derived.Test.YtopobliajgocaaaGreatDoorZl45
import Derived.Test.YtopobliajgocaaaGreatDoorZl46
import Derived.Test.YtopobliajgocaaaGreatDoorZl47
import Derived.Deep.RegionHeld3
import Derived.Deep.DeepCutAuto
section
namespace Go.Proofs.YtopobliajgocaaaGreatDoor
open Go.ChangeShapes Go.WideShapes Go.ChangeAt Go.RowKit
theorem done14_any (k : Nat) (s : Sh) (x : Bd) (Ax : Option Addr) (cx : Nat) (b q : Bk) (A : Option Addr) (c : Nat) (B : Option Addr) (d : Nat) (ps : List Bp) (C : Option Addr) (e : Nat) (D : Option Addr) (f : Nat) (qs : List Bp) (w : World) (U V : Nat → Prop) (hs1 : s.name.length ≤ 90000) (hs2 : s.to.length ≤ 90000) (hx : BdOk w x Ax cx) (hb : Bk.Ok b) (hq : Bk.Ok q) (hI : BkAt w A c B d b ps) (hU : BkU U w A B ps) (hJ : BkAt w C e D f q qs) (hV : BkU V w C D qs) (hL : Len w) :
    Calls Tryz.prog 8 #[bkV A c B d b, bkV C e D f q, actV k s x Ax cx] w (DonePost U V (b.act k s x).1 (q.act k s x).1 (decide ((b.act k s x).2 = (q.act k s x).2)) w) := by
  have h5 : k % 5 = 0 ∨ k % 5 = 1 ∨ k % 5 = 2 ∨ k % 5 = 3 ∨ k % 5 = 4 := by omega
  rcases h5 with h | h | h | h | h
  · exact done14_0 k s x Ax cx b q A c B d ps C e D f qs w U V h hs1 hs2 hx hb hq hI hU hJ hV hL
  · exact done14_1 k s x Ax cx b q A c B d ps C e D f qs w U V h hs1 hs2 hx hb hq hI hU hJ hV hL
  · exact done14_2 k s x Ax cx b q A c B d ps C e D f qs w U V h hs1 hs2 hx hb hq hI hU hJ hV hL
  · exact done14_3 k s x Ax cx b q A c B d ps C e D f qs w U V h hs1 hs2 hx hb hq hI hU hJ hV hL
  · exact done14_4 k s x Ax cx b q A c B d ps C e D f qs w U V h hs1 hs2 hx hb hq hI hU hJ hV hL
end Go.Proofs.YtopobliajgocaaaGreatDoor
end
section
namespace Go.Proofs.YtopobliajgocaaaGreatDoor
open Go.ChangeShapes Go.WideShapes Go.ChangeAt Go.RowKit
set_option maxRecDepth 100000 in
set_option maxHeartbeats 8000000 in
theorem rt_awake_any (w : World) (hL : Len w) : Calls Tryz.prog 6 #[] w fun e w' => e = .returned (.bool true) ∧ Below w.heap.size w w' := by
  have HM := Lib.hid (ex_make w)
  have HLL := Lib.hid hL
  clear hL
  go_enter Tryz.func6, Tryz.ntmps6
  go_wp2_with fail
  refine HM.out.mono ?_
  rintro e w1 ⟨A, c, B, d, ps, rfl, hI1, hU1, hb1⟩
  have hx1 := rtAt0 w1 #[.slice A 1 c, .slice B 0 d] 28
  have HX1 := Lib.hid hx1
  have hb2 := rtOne w1 (.cells #[.slice A 1 c, .slice B 0 d] 28)
  have HB2 := Lib.hid (bthen hb1 hb2 (Nat.le_refl _))
  have HI2 := Lib.hid (hI1.on hb2)
  have HU2 := Lib.hid (hU1.self.on hb2.size)
  have HL2 := Lib.hid ((HLL.out.on hb1).on hb2)
  have HS2 := Lib.hid (show w.heap.size ≤ w1.heap.size from hb1.size)
  clear hx1 hI1 hU1 hb2 hb1
  go_upto_region 2 with fail
  generalize w1.alloc (.cells #[.slice A 1 c, .slice B 0 d] 28) = w2 at *
  have x0 := HX1.out.cs 0 _ rfl
  have x1 := HX1.out.cs 1 _ rfl
  have xl := HX1.out.lt
  have xf := HX1.out.s
  unfold Soft at xf
  have HP2 := Lib.hid (ex_bind1 w2 A c B d ps _ HI2.out HU2.out HL2.out)
  go_wp2_with fail
  refine HP2.out.mono ?_
  rintro e w3 ⟨A3, c3, B3, d3, ps3, rfl, hI3, hU3, hb3⟩
  have HX3 := Lib.hid (HX1.out.on hb3)
  have HB3 := Lib.hid (bthen HB2.out hb3 (Nat.le_refl _))
  have HL3 := Lib.hid (HL2.out.on hb3)
  have hnu : ¬ ((w.heap.size ≤ w1.heap.size ∧ w1.heap.size < w1.heap.size) ∨ w2.heap.size ≤ w1.heap.size) := by have := HX1.out.lt; omega
  have hi4 := (hI3.put hU3 hnu 0 (.slice A3 1 c3)).put (hU3.put w1.heap.size 0 (.slice A3 1 c3)) hnu 1 (.slice B3 1 d3)
  have hu4 := (hU3.put w1.heap.size 0 (.slice A3 1 c3)).put w1.heap.size 1 (.slice B3 1 d3)
  have hx4 := HX3.out.fill [.slice A3 1 c3, .slice B3 1 d3] rfl
  have hb4 := below_putAll (w := w) (g := w1.heap.size) HS2.out [.slice A3 1 c3, .slice B3 1 d3] 0 HB3.out
  simp only [putAll] at hx4 hb4
  have HX4 := Lib.hid hx4
  have HB4 := Lib.hid hb4
  have HI4 := Lib.hid hi4
  have HU4 := Lib.hid hu4
  have HL4 := Lib.hid (HLL.out.on hb4)
  clear hx4 hb4 hi4 hu4 hnu hI3 hU3 hb3
  clear x0 x1 xl xf
  have x0 := HX3.out.cs 0 _ rfl
  have x1 := HX3.out.cs 1 _ rfl
  have xl := HX3.out.lt
  have xf := HX3.out.s
  unfold Soft at xf
  go_upto_region 3 with fail
  generalize ((w3.setCell ⟨w1.heap.size, 0, none⟩ (.slice A3 1 c3)).setCell ⟨w1.heap.size, 1, none⟩ (.slice B3 1 d3)) = w4 at *
  clear x0 x1 xl xf
  have x0 := HX4.out.cs 0 _ rfl
  have x1 := HX4.out.cs 1 _ rfl
  have xl := HX4.out.lt
  have xf := HX4.out.s
  unfold Soft at xf
  have HP4 := Lib.hid (ex_bind2 w4 A3 c3 B3 d3 ps3 _ HI4.out HU4.out HL4.out)
  go_wp2_with fail
  refine HP4.out.mono ?_
  rintro e w5 ⟨A5, c5, B5, d5, ps5, rfl, hI5, hU5, hb5⟩
  have HX5 := Lib.hid (HX4.out.on hb5)
  have HB5 := Lib.hid (bthen HB4.out hb5 (Nat.le_refl _))
  have HL5 := Lib.hid (HL4.out.on hb5)
  have hnu : ¬ (((w.heap.size ≤ w1.heap.size ∧ w1.heap.size < w1.heap.size) ∨ w2.heap.size ≤ w1.heap.size) ∨ w4.heap.size ≤ w1.heap.size) := by have := HX1.out.lt; have := HX4.out.lt; omega
  have hi6 := (hI5.put hU5 hnu 0 (.slice A5 1 c5)).put (hU5.put w1.heap.size 0 (.slice A5 1 c5)) hnu 1 (.slice B5 2 d5)
  have hx6 := HX5.out.fill [.slice A5 1 c5, .slice B5 2 d5] rfl
  have hb6 := below_putAll (w := w) (g := w1.heap.size) HS2.out [.slice A5 1 c5, .slice B5 2 d5] 0 HB5.out
  simp only [putAll] at hx6 hb6
  have HX6 := Lib.hid hx6
  have HB6 := Lib.hid hb6
  have HI6 := Lib.hid hi6
  have HL6 := Lib.hid (HLL.out.on hb6)
  clear hx6 hb6 hi6 hnu hI5 hU5 hb5
  clear x0 x1 xl xf
  have x0 := HX5.out.cs 0 _ rfl
  have x1 := HX5.out.cs 1 _ rfl
  have xl := HX5.out.lt
  have xf := HX5.out.s
  unfold Soft at xf
  go_upto_region 4 with fail
  generalize ((w5.setCell ⟨w1.heap.size, 0, none⟩ (.slice A5 1 c5)).setCell ⟨w1.heap.size, 1, none⟩ (.slice B5 2 d5)) = w6 at *
  clear x0 x1 xl xf
  have x0 := HX6.out.cs 0 _ rfl
  have x1 := HX6.out.cs 1 _ rfl
  have xl := HX6.out.lt
  have HP6 := Lib.hid (ex_leads w6 A5 c5 B5 d5 ps5 HI6.out HL6.out)
  go_wp2_with fail
  refine HP6.out.mono ?_
  rintro e w7 ⟨A7, c7, B7, d7, rfl, hR7, hb7⟩
  have HB7 := Lib.hid (bthen HB6.out hb7 (Nat.le_refl _))
  have HL7 := Lib.hid (HL6.out.on hb7)
  have HR7 := Lib.hid hR7
  clear hR7 hb7 x0 x1 xl
  go_wp2_with fail
  refine (law4Awake_any _ HL7.out).mono ?_
  rintro e w8 ⟨rfl, hb8⟩
  have HB8 := Lib.hid (bthen HB7.out hb8 (Nat.le_refl _))
  have HL8 := Lib.hid (HL7.out.on hb8)
  have HR8 := Lib.hid (Rws.on HR7.out hb8)
  clear hb8
  go_wp2_with fail
  refine (rt_law10_any _ HL8.out).mono ?_
  rintro e w9 ⟨rfl, hb9⟩
  have HB9 := Lib.hid (bthen HB8.out hb9 (Nat.le_refl _))
  have HL9 := Lib.hid (HL8.out.on hb9)
  have HR9 := Lib.hid (Rws.on HR8.out hb9)
  clear hb9
  have HB10 := Lib.hid (bthen HB9.out (rtOne w9 (.cells #[.string ⟨#[113]⟩] 9)) (Nat.le_refl _))
  go_wp2_with fail
  have hs1 : Rws (w9.alloc (.cells #[.string ⟨#[113]⟩] 9)) (some ⟨w9.heap.size, 0, none⟩) (sts [[113]]) := Rws.of_news (fun j u hu => by
    have hc := (rtAt0 w9 #[.string ⟨#[113]⟩] 9).cs
    exact (congrArg (fun n => (w9.alloc (.cells #[.string ⟨#[113]⟩] 9)).cell? ⟨w9.heap.size, n, none⟩) (Nat.zero_add j)).trans (hc j u hu))
  refine (eqS_any [[113]] [[113]] A7 c7 (some ⟨w9.heap.size, 0, none⟩) 1 _ (by decide) (by decide) (Rws.on HR9.out (rtOne w9 _)) hs1).mono ?_
  rintro e w11 ⟨rfl, hb11⟩
  have HB11 := Lib.hid (bthen HB10.out hb11 (Nat.le_refl _))
  clear hb11 hs1
  rw [show decide ([[113]] = ([[113]] : List (List UInt8))) = true from rfl]
  go_wp2_with fail
  go_ret
  exact ⟨rfl, HB11.out⟩
end Go.Proofs.YtopobliajgocaaaGreatDoor
end
section
namespace Go.Proofs.YtopobliajgocaaaGreatDoor
open Go.ChangeShapes Go.WideShapes Go.ChangeAt Go.RowKit
/-- the law's two boxes, the rows of its rules -/
structure MsC (w : World) (p q : Nat) (r : Ru) (A : Option Addr) (c : Nat) (s : Ru) (B : Option Addr) (d : Nat) (W : World) : Prop where
  rp : Cels W p (ruL r A c)
  rq : Cels W q (ruL s B d)
  lp : p < W.heap.size
  lq : q < W.heap.size
  ra : Prs W A r.want
  rb : Prs W B s.want
  B : Below w.heap.size w W
theorem MsC.on {w : World} {p q : Nat} {r : Ru} {A : Option Addr} {c : Nat} {s : Ru} {B : Option Addr} {d : Nat} {W W' : World} (h : MsC w p q r A c s B d W) (hb : Below W.heap.size W W') : MsC w p q r A c s B d W' :=
  ⟨h.rp.on hb h.lp, h.rq.on hb h.lq, Nat.lt_of_lt_of_le h.lp hb.size, Nat.lt_of_lt_of_le h.lq hb.size, h.ra.on hb, h.rb.on hb, bthen h.B hb (Nat.le_refl _)⟩
abbrev MsS (w : World) (p q : Nat) (r : Ru) (A : Option Addr) (c : Nat) (s : Ru) (B : Option Addr) (d : Nat) (W : World) : Prop :=
  (W.cell? ⟨p, 0, none⟩ = some (.int .u8 (r.sort : Int)) ∧ W.cell? ⟨p, 1, none⟩ = some (.string (ofL r.key)) ∧ W.cell? ⟨p, 2, none⟩ = some (.slice A r.want.length c) ∧ W.cell? ⟨p, 3, none⟩ = some (.bool r.all) ∧ p < W.heap.size ∧
   W.cell? ⟨q, 0, none⟩ = some (.int .u8 (s.sort : Int)) ∧ W.cell? ⟨q, 1, none⟩ = some (.string (ofL s.key)) ∧ W.cell? ⟨q, 2, none⟩ = some (.slice B s.want.length d) ∧ W.cell? ⟨q, 3, none⟩ = some (.bool s.all) ∧ q < W.heap.size) ∧ MsC w p q r A c s B d W
theorem MsC.s {w : World} {p q : Nat} {r : Ru} {A : Option Addr} {c : Nat} {s : Ru} {B : Option Addr} {d : Nat} {W : World} (h : MsC w p q r A c s B d W) : MsS w p q r A c s B d W :=
  ⟨⟨h.rp 0 _ rfl, h.rp 1 _ rfl, h.rp 2 _ rfl, h.rp 3 _ rfl, h.lp, h.rq 0 _ rfl, h.rq 1 _ rfl, h.rq 2 _ rfl, h.rq 3 _ rfl, h.lq⟩, h⟩
theorem MsS.on {w : World} {p q : Nat} {r : Ru} {A : Option Addr} {c : Nat} {s : Ru} {B : Option Addr} {d : Nat} {W W' : World} (h : MsS w p q r A c s B d W) (hb : Below W.heap.size W W') : MsS w p q r A c s B d W' := (h.2.on hb).s
theorem MsC.start (w : World) (r : Ru) (A : Option Addr) (c : Nat) (s : Ru) (B : Option Addr) (d : Nat) (hA : Prs w A r.want) (hB : Prs w B s.want) (t : TypeId) :
    MsC w w.heap.size (w.heap.size + 1) r A c s B d ((w.alloc (.cells #[.int .u8 (r.sort : Int), .string (ofL r.key), .slice A r.want.length c, .bool r.all] t)).alloc (.cells #[.int .u8 (s.sort : Int), .string (ofL s.key), .slice B s.want.length d, .bool s.all] t)) := by
  have e1 : (w.alloc (.cells #[.int .u8 (r.sort : Int), .string (ofL r.key), .slice A r.want.length c, .bool r.all] t)).heap.size = w.heap.size + 1 := by simp
  have hb0 : Below w.heap.size w (w.alloc (.cells #[.int .u8 (r.sort : Int), .string (ofL r.key), .slice A r.want.length c, .bool r.all] t)) := (Below.refl _ _).alloc (Nat.le_refl _) _
  have hb := (Below.refl (w.alloc (.cells #[.int .u8 (r.sort : Int), .string (ofL r.key), .slice A r.want.length c, .bool r.all] t)).heap.size (w.alloc (.cells #[.int .u8 (r.sort : Int), .string (ofL r.key), .slice A r.want.length c, .bool r.all] t))).alloc (Nat.le_refl _) (.cells #[.int .u8 (s.sort : Int), .string (ofL s.key), .slice B s.want.length d, .bool s.all] t)
  refine ⟨(ruBox r A c w t).on hb (by simp), ?_, by simp; omega, by simp, (hA.on hb0).on hb, (hB.on hb0).on hb, bthen hb0 hb (Nat.le_refl _)⟩
  rw [← e1]
  exact Cels.new _ _ _
end Go.Proofs.YtopobliajgocaaaGreatDoor
end
section
namespace Go.Proofs.YtopobliajgocaaaGreatDoor
open Go.ChangeShapes Go.WideShapes Go.ChangeAt Go.RowKit
/-- the law's box; the rows of its rule and of its head; the library's bound -/
structure MgC (w : World) (p : Nat) (r : Ru) (A : Option Addr) (c : Nat) (h : List Hd.Pr) (B : Option Addr) (d : Nat) (W : World) : Prop where
  rp : Cels W p (ruL r A c)
  lp : p < W.heap.size
  ra : Prs W A r.want
  rb : Prs W B h
  L : Len W
  B : Below w.heap.size w W
theorem MgC.on {w : World} {p : Nat} {r : Ru} {A : Option Addr} {c : Nat} {h : List Hd.Pr} {B : Option Addr} {d : Nat} {W W' : World} (H : MgC w p r A c h B d W) (hb : Below W.heap.size W W') : MgC w p r A c h B d W' :=
  ⟨H.rp.on hb H.lp, Nat.lt_of_lt_of_le H.lp hb.size, H.ra.on hb, H.rb.on hb, H.L.on hb, bthen H.B hb (Nat.le_refl _)⟩
abbrev MgS (w : World) (p : Nat) (r : Ru) (A : Option Addr) (c : Nat) (h : List Hd.Pr) (B : Option Addr) (d : Nat) (W : World) : Prop :=
  (W.cell? ⟨p, 0, none⟩ = some (.int .u8 (r.sort : Int)) ∧ W.cell? ⟨p, 1, none⟩ = some (.string (ofL r.key)) ∧ W.cell? ⟨p, 2, none⟩ = some (.slice A r.want.length c) ∧ W.cell? ⟨p, 3, none⟩ = some (.bool r.all) ∧ p < W.heap.size) ∧ MgC w p r A c h B d W
theorem MgC.s {w : World} {p : Nat} {r : Ru} {A : Option Addr} {c : Nat} {h : List Hd.Pr} {B : Option Addr} {d : Nat} {W : World} (H : MgC w p r A c h B d W) : MgS w p r A c h B d W :=
  ⟨⟨H.rp 0 _ rfl, H.rp 1 _ rfl, H.rp 2 _ rfl, H.rp 3 _ rfl, H.lp⟩, H⟩
theorem MgS.on {w : World} {p : Nat} {r : Ru} {A : Option Addr} {c : Nat} {h : List Hd.Pr} {B : Option Addr} {d : Nat} {W W' : World} (H : MgS w p r A c h B d W) (hb : Below W.heap.size W W') : MgS w p r A c h B d W' := (H.2.on hb).s
theorem rkey_big (l : List UInt8) (w : World) : Calls Tryz.prog 12 #[.string (ofL l), .bool false] w fun e w' => e = .returned (.int .i64 (Wrd.keyCode [] l : Int)) ∧ Below w.heap.size w w' := by
  by_cases hl : l.length ≤ 100000
  · exact rkey_any l false w hl
  · have hsz : (ofL l).size = l.length := ofL_size l
    have HC := Lib.hid (key_long [] (l := l) (by omega))
    have hs : 64 < (ofL l).size := by omega
    go_enter Tryz.func12, Tryz.ntmps12
    go_wp2_with fail
    go_ret
    exact ⟨ret_nat (by rw [HC.out]; rfl), Below.refl _ _⟩
theorem key_len {l : List UInt8} (h : Wrd.keyCode [] l = 0) : l.length ≤ 64 := by
  by_cases h64 : 64 < l.length
  · rw [key_long [] h64] at h; omega
  · omega
end Go.Proofs.YtopobliajgocaaaGreatDoor
end
