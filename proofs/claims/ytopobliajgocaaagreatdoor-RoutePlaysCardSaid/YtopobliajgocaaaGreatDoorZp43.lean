/-
  What is done to the program's book and the document's: case 4.
-/
import Derived.Test.YtopobliajgocaaaGreatDoorZp36
import Derived.Test.YtopobliajgocaaaGreatDoorZp38

section
namespace Go.Proofs.YtopobliajgocaaaGreatDoor
open Go.ChangeShapes Go.WideShapes Go.ChangeAt Go.RowKit
set_option maxRecDepth 100000 in
set_option maxHeartbeats 8000000 in
theorem done14_4 (k : Nat) (s : Sh) (x : Bd) (Ax : Option Addr) (cx : Nat) (b q : Bk) (A : Option Addr) (c : Nat) (B : Option Addr) (d : Nat) (ps : List Bp) (C : Option Addr) (e : Nat) (D : Option Addr) (f : Nat) (qs : List Bp) (w : World) (U V : Nat → Prop) (hk : k % 5 = 4) (_hs1 : s.name.length ≤ 90000) (_hs2 : s.to.length ≤ 90000) (hx : BdOk w x Ax cx) (hb : Bk.Ok b) (hq : Bk.Ok q) (hI : BkAt w A c B d b ps) (hU : BkU U w A B ps) (hJ : BkAt w C e D f q qs) (hV : BkU V w C D qs) (hL : Len w) :
    Calls Tryz.prog 8 #[bkV A c B d b, bkV C e D f q, actV k s x Ax cx] w (DonePost U V (b.act k s x).1 (q.act k s x).1 (decide ((b.act k s x).2 = (q.act k s x).2)) w) := by
  have hact : ∀ b : Bk, b.act k s x = (b.forget x.to, 0) := fun b => by unfold Bk.act; simp only [hk]; rfl
  have hkm : (k : Int) % 5 = 4 := by omega
  rw [hact, hact]
  have hbl := hb.len
  have hbm := hb.blen
  have hql := hq.len
  have hqm := hq.blen
  have hd0 := Dn.new w #[.slice A b.shops.length c, .slice B b.binds.length d] #[.slice C q.shops.length e, .slice D q.binds.length f] #[.int .u8 (k : Int), .string (ofL s.name), .int .u8 (s.sort : Int), .string (ofL s.to), .string (ofL x.shop), .string (ofL x.to), .bool x.up, .string (ofL x.key), .slice Ax x.want.length cx, .bool x.all] 28 32 39 28 32
  have HD0 := Lib.hid hd0
  have HX0 := Lib.hid (hx.on hd0.B)
  have HI0 := Lib.hid (show BkD U w _ A c B d b ps from ⟨hI.on hd0.B, (hU.self.on hd0.B.size).mono (fun g h => .inl h)⟩)
  have HJ0 := Lib.hid (show BkD V w _ C e D f q qs from ⟨hJ.on hd0.B, (hV.self.on hd0.B.size).mono (fun g h => .inl h)⟩)
  have HL0 := Lib.hid (hL.on hd0.B)
  have HOKB := Lib.hid hb
  have HOKQ := Lib.hid hq
  have HPP := Lib.hid (fun W h1 h2 => rtForget_any b A c B d ps x.to W (fun g => (U g ∧ g < w.heap.size) ∨ w.heap.size + 5 ≤ g) (by omega) h1 h2)
  have HQQ := Lib.hid (fun W h1 h2 => r14Forget_any q C e D f qs x.to W (fun g => (V g ∧ g < w.heap.size) ∨ w.heap.size + 5 ≤ g) (by omega) h1 h2)
  clear hact _hs1 _hs2 hx hI hU hJ hV hL hb hq hk hd0
  simp only [actV]
  generalize b.forget x.to = pb1 at *
  generalize q.forget x.to = pq1 at *
  unfold BkPost1 bkV at HPP HQQ
  unfold bkV
  go_enter Tryz.func8, Tryz.ntmps8
  go_upto_region 4 with fail
  generalize (((((w.alloc (.cells #[.slice A b.shops.length c, .slice B b.binds.length d] 28)).alloc (.cells #[.slice C q.shops.length e, .slice D q.binds.length f] 32)).alloc (.cells #[.int .u8 (k : Int), .string (ofL s.name), .int .u8 (s.sort : Int), .string (ofL s.to), .string (ofL x.shop), .string (ofL x.to), .bool x.up, .string (ofL x.key), .slice Ax x.want.length cx, .bool x.all] 39)).alloc (.cells #[.slice none 0 0, .slice none 0 0] 28)).alloc (.cells #[.slice none 0 0, .slice none 0 0] 32)) = w1 at *
  have x0 := HD0.out.bx.cs 0 _ rfl
  have x1 := HD0.out.bx.cs 1 _ rfl
  have xl := HD0.out.bx.lt
  have xf := HD0.out.bx.s
  have y0 := HD0.out.bs.cs 0 _ rfl
  have y1 := HD0.out.bs.cs 1 _ rfl
  have yl := HD0.out.bs.lt
  have yf := HD0.out.bs.s
  have a0 := HD0.out.ba.cs 0 _ rfl
  have a1 := HD0.out.ba.cs 1 _ rfl
  have a2 := HD0.out.ba.cs 2 _ rfl
  have a3 := HD0.out.ba.cs 3 _ rfl
  have a4 := HD0.out.ba.cs 4 _ rfl
  have a5 := HD0.out.ba.cs 5 _ rfl
  have a6 := HD0.out.ba.cs 6 _ rfl
  have a7 := HD0.out.ba.cs 7 _ rfl
  have a8 := HD0.out.ba.cs 8 _ rfl
  have a9 := HD0.out.ba.cs 9 _ rfl
  have al := HD0.out.ba.lt
  unfold Soft at xf yf
  have HDR := Lib.hid (show Below w1.heap.size w1 w1.drew from (Below.refl _ _).drew)
  go_upto_region 3 with fail
  go_region_law (first
    | (go_simp; go_at_call 31; refine (HPP.out _ (HI0.out.on HDR.out).at_ (HI0.out.on HDR.out).u).mono ?_; rintro en w2 ⟨A2, c2, B2, d2, ps2, rfl, hI2, hU2, hb2⟩; have hd2 := bthen HDR.out hb2 (Nat.le_refl _); have HI2 := Lib.hid (BkD.of hI2 hU2 HD0.out.n); have HJ2 := Lib.hid (HJ0.out.on hd2); have HD2 := Lib.hid (HD0.out.on hd2); have HQ := Lib.hid (HQQ.out w2 HJ2.out.at_ HJ2.out.u); clear hI2 hU2 hb2 hd2; clear x0 x1 xl xf y0 y1 yl yf a0 a1 a2 a3 a4 a5 a6 a7 a8 a9 al; have x0 := HD2.out.bx.cs 0 _ rfl; have x1 := HD2.out.bx.cs 1 _ rfl; have xl := HD2.out.bx.lt; have xf := HD2.out.bx.s; have y0 := HD2.out.bs.cs 0 _ rfl; have y1 := HD2.out.bs.cs 1 _ rfl; have yl := HD2.out.bs.lt; have yf := HD2.out.bs.s; have a0 := HD2.out.ba.cs 0 _ rfl; have a1 := HD2.out.ba.cs 1 _ rfl; have a2 := HD2.out.ba.cs 2 _ rfl; have a3 := HD2.out.ba.cs 3 _ rfl; have a4 := HD2.out.ba.cs 4 _ rfl; have a5 := HD2.out.ba.cs 5 _ rfl; have a6 := HD2.out.ba.cs 6 _ rfl; have a7 := HD2.out.ba.cs 7 _ rfl; have a8 := HD2.out.ba.cs 8 _ rfl; have a9 := HD2.out.ba.cs 9 _ rfl; have al := HD2.out.ba.lt; unfold Soft at xf yf)
    | (go_simp; go_at_call 32; refine HQ.out.mono ?_; rintro en w4 ⟨C4, e4, D4, f4, qs4, rfl, hJ4, hV4, hb4⟩; have HJ4 := Lib.hid (BkD.of hJ4 hV4 HD2.out.n); have HI4 := Lib.hid (HI2.out.on hb4); have HD4 := Lib.hid (HD2.out.on hb4); clear hJ4 hV4 hb4 HQ; clear x0 x1 xl xf y0 y1 yl yf a0 a1 a2 a3 a4 a5 a6 a7 a8 a9 al; have x0 := HD4.out.bx.cs 0 _ rfl; have x1 := HD4.out.bx.cs 1 _ rfl; have xl := HD4.out.bx.lt; have xf := HD4.out.bx.s; have y0 := HD4.out.bs.cs 0 _ rfl; have y1 := HD4.out.bs.cs 1 _ rfl; have yl := HD4.out.bs.lt; have yf := HD4.out.bs.s; have a0 := HD4.out.ba.cs 0 _ rfl; have a1 := HD4.out.ba.cs 1 _ rfl; have a2 := HD4.out.ba.cs 2 _ rfl; have a3 := HD4.out.ba.cs 3 _ rfl; have a4 := HD4.out.ba.cs 4 _ rfl; have a5 := HD4.out.ba.cs 5 _ rfl; have a6 := HD4.out.ba.cs 6 _ rfl; have a7 := HD4.out.ba.cs 7 _ rfl; have a8 := HD4.out.ba.cs 8 _ rfl; have a9 := HD4.out.ba.cs 9 _ rfl; have al := HD4.out.ba.lt; unfold Soft at xf yf))
  all_goals
    have hd5 := (HD4.out.putX (u := .slice A2 pb1.shops.length c2) (v := .slice B2 pb1.binds.length d2)).putY (u := .slice C4 pq1.shops.length e4) (v := .slice D4 pq1.binds.length f4)
    have hi5 := (((HI4.out.put (g := w.heap.size) (Nat.le_refl _) (by omega) 0 (.slice A2 pb1.shops.length c2)).put (g := w.heap.size) (Nat.le_refl _) (by omega) 1 (.slice B2 pb1.binds.length d2)).put (g := w.heap.size + 1) (by omega) (by omega) 0 (.slice C4 pq1.shops.length e4)).put (g := w.heap.size + 1) (by omega) (by omega) 1 (.slice D4 pq1.binds.length f4)
    have hj5 := (((HJ4.out.put (g := w.heap.size) (Nat.le_refl _) (by omega) 0 (.slice A2 pb1.shops.length c2)).put (g := w.heap.size) (Nat.le_refl _) (by omega) 1 (.slice B2 pb1.binds.length d2)).put (g := w.heap.size + 1) (by omega) (by omega) 0 (.slice C4 pq1.shops.length e4)).put (g := w.heap.size + 1) (by omega) (by omega) 1 (.slice D4 pq1.binds.length f4)
    have HD6 := Lib.hid hd5
    have HI6 := Lib.hid hi5
    have HJ6 := Lib.hid hj5
    clear hd5 hi5 hj5
    go_upto_region 16 with fail
    generalize ((((w4.setCell ⟨w.heap.size, 0, none⟩ (.slice A2 pb1.shops.length c2)).setCell ⟨w.heap.size, 1, none⟩ (.slice B2 pb1.binds.length d2)).setCell ⟨w.heap.size + 1, 0, none⟩ (.slice C4 pq1.shops.length e4)).setCell ⟨w.heap.size + 1, 1, none⟩ (.slice D4 pq1.binds.length f4)) = w6 at *
    clear x0 x1 xl xf y0 y1 yl yf a0 a1 a2 a3 a4 a5 a6 a7 a8 a9 al
    have x0 := HD6.out.bx.cs 0 _ rfl
    have x1 := HD6.out.bx.cs 1 _ rfl
    have xl := HD6.out.bx.lt
    have y0 := HD6.out.bs.cs 0 _ rfl
    have y1 := HD6.out.bs.cs 1 _ rfl
    have yl := HD6.out.bs.lt
    have p0 := HD6.out.r1.cs 0 _ rfl
    have p1 := HD6.out.r1.cs 1 _ rfl
    have pl := HD6.out.r1.lt
    have pf := HD6.out.r1.s
    have t0 := HD6.out.r2.cs 0 _ rfl
    have t1 := HD6.out.r2.cs 1 _ rfl
    have tl := HD6.out.r2.lt
    have tf := HD6.out.r2.s
    unfold Soft at pf tf
    have hr1 := HD6.out.r1.fill [.slice A2 pb1.shops.length c2, .slice B2 pb1.binds.length d2] rfl
    have hr2 := ((HD6.out.r2.aside (g := w.heap.size + 3) (by omega) 0 (.slice A2 pb1.shops.length c2)).aside (g := w.heap.size + 3) (by omega) 1 (.slice B2 pb1.binds.length d2)).fill [.slice C4 pq1.shops.length e4, .slice D4 pq1.binds.length f4] rfl
    simp only [putAll] at hr1 hr2
    have hs1 := rtDrew ((hr1.aside (g := w.heap.size + 4) (by omega) 0 (.slice C4 pq1.shops.length e4)).aside (g := w.heap.size + 4) (by omega) 1 (.slice D4 pq1.binds.length f4))
    have hs2 := rtDrew hr2
    have hb7 : Below w.heap.size w ((((w6.setCell ⟨w.heap.size + 3, 0, none⟩ (.slice A2 pb1.shops.length c2)).setCell ⟨w.heap.size + 3, 1, none⟩ (.slice B2 pb1.binds.length d2)).setCell ⟨w.heap.size + 4, 0, none⟩ (.slice C4 pq1.shops.length e4)).setCell ⟨w.heap.size + 4, 1, none⟩ (.slice D4 pq1.binds.length f4)).drew := ((((HD6.out.B.setCell (p := ⟨w.heap.size + 3, 0, none⟩) (by simp) (.slice A2 pb1.shops.length c2)).setCell (p := ⟨w.heap.size + 3, 1, none⟩) (by simp) (.slice B2 pb1.binds.length d2)).setCell (p := ⟨w.heap.size + 4, 0, none⟩) (by simp) (.slice C4 pq1.shops.length e4)).setCell (p := ⟨w.heap.size + 4, 1, none⟩) (by simp) (.slice D4 pq1.binds.length f4)).drew
    have hi7 := ((((HI6.out.put (g := w.heap.size + 3) (by omega) (by omega) 0 (.slice A2 pb1.shops.length c2)).put (g := w.heap.size + 3) (by omega) (by omega) 1 (.slice B2 pb1.binds.length d2)).put (g := w.heap.size + 4) (by omega) (by omega) 0 (.slice C4 pq1.shops.length e4)).put (g := w.heap.size + 4) (by omega) (by omega) 1 (.slice D4 pq1.binds.length f4)).on (Below.refl _ _).drew
    have hj7 := ((((HJ6.out.put (g := w.heap.size + 3) (by omega) (by omega) 0 (.slice A2 pb1.shops.length c2)).put (g := w.heap.size + 3) (by omega) (by omega) 1 (.slice B2 pb1.binds.length d2)).put (g := w.heap.size + 4) (by omega) (by omega) 0 (.slice C4 pq1.shops.length e4)).put (g := w.heap.size + 4) (by omega) (by omega) 1 (.slice D4 pq1.binds.length f4)).on (Below.refl _ _).drew
    have HS1 := Lib.hid hs1
    have HS2 := Lib.hid hs2
    have HB7 := Lib.hid hb7
    have HI7 := Lib.hid hi7
    have HJ7 := Lib.hid hj7
    clear hr1 hr2 hs1 hs2 hb7 hi7 hj7
    go_region_law (fail)
    all_goals
      go_wp2_with fail
      have g0 := HS1.out.cs 0 _ rfl
      have g1 := HS1.out.cs 1 _ rfl
      have g2 := HS2.out.cs 0 _ rfl
      have g3 := HS2.out.cs 1 _ rfl
      exact bodyPost_ret (v := .tuple #[.agg #[.slice A2 pb1.shops.length c2, .slice B2 pb1.binds.length d2], .agg #[.slice C4 pq1.shops.length e4, .slice D4 pq1.binds.length f4], .bool true]) (by simp [results, Tryz.results8, go_sem, g0, g1, g2, g3]) rfl ⟨A2, c2, B2, d2, ps2, C4, e4, D4, f4, qs4, rfl, HI7.out.at_, HI7.out.fin, HJ7.out.at_, HJ7.out.fin, HB7.out⟩
end Go.Proofs.YtopobliajgocaaaGreatDoor
end
