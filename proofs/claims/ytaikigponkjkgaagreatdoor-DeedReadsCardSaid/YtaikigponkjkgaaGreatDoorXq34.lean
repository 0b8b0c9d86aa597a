/-
 A part of the proof.
-/
import Derived.Test.YtaikigponkjkgaaGreatDoorXq33

section
namespace Go.Proofs.YtaikigponkjkgaaGreatDoor
open Go.ChangeShapes Go.WideShapes Go.ChangeAt Go.RowKit
open Go.Lib (hid)
set_option maxRecDepth 100000
structure Bm (w : World) (X Y Z : List Value) (W : World) : Prop where
 bx : BoxC w w.heap.size X W
 bs : BoxC w (w.heap.size + 1) Y W
 bz : BoxC w (w.heap.size + 2) Z W
 B : Below w.heap.size w W
 n : w.heap.size + 3 ≤ W.heap.size
theorem Bm.on {w W W' : World} {X Y Z : List Value} (h : Bm w X Y Z W) (hb : Below W.heap.size W W') : Bm w X Y Z W' := ⟨h.bx.on hb, h.bs.on hb, h.bz.on hb, bthen h.B hb (Nat.le_refl _), Nat.le_trans h.n hb.size⟩
theorem Bm.new (w : World) (X Y Z : Array Value) (t t' t'' : TypeId) : Bm w X.toList Y.toList Z.toList (((w.alloc (.cells X t)).alloc (.cells Y t')).alloc (.cells Z t'')) :=
 ⟨rtNext (rtNext (rtAt0 w X t) _) _, rtNext (rtAt1 w _ Y t') _, rtAt2 w _ _ Z t'', rtThree w _ _ _, by simp⟩
def ToBdPost (x : Bd) (w : World) (e : Ending) (w' : World) : Prop := ∃ A' c', e = .returned (bdV x A' c') ∧ OwnPrs w.heap.size w' A' c' x.want ∧ Below w.heap.size w w'
set_option maxHeartbeats 8000000 in
theorem to14_any (x : Bd) (A : Option Addr) (c : Nat) (w : World) (hl : x.want.length ≤ 100000) (hc : x.want.length ≤ c) (hp : Prs w A x.want) :
  Calls Tryz.prog 42 #[bdV x A c] w (ToBdPost x w) := by
 have hm0 := Bm.new w #[.string (ofL x.shop), .string (ofL x.to), .bool x.up, .string (ofL x.key), .slice A x.want.length c, .bool x.all] #[.string ⟨#[]⟩, .string ⟨#[]⟩, .bool false, .string ⟨#[]⟩, .slice none 0 0, .bool false] #[.string (ofL x.shop), .string (ofL x.to), .bool x.up, .string (ofL x.key), .slice A x.want.length c, .bool x.all] 48 57 57
 generalize hW3 : ((w.alloc (.cells #[.string (ofL x.shop), .string (ofL x.to), .bool x.up, .string (ofL x.key), .slice A x.want.length c, .bool x.all] 48)).alloc (.cells #[.string ⟨#[]⟩, .string ⟨#[]⟩, .bool false, .string ⟨#[]⟩, .slice none 0 0, .bool false] 57)).alloc (.cells #[.string (ofL x.shop), .string (ofL x.to), .bool x.up, .string (ofL x.key), .slice A x.want.length c, .bool x.all] 57) = w3 at hm0
 have hb4 := rtOne w3 (.cells #[] 142)
 have hown4 : (w3.alloc (.cells #[] 142)).ownsRow w3.heap.size 142 4 (.slice (some ⟨w3.heap.size, 0, none⟩) 0 0) 0 [] := World.ownsRow_made w3 #[] 0 (Nat.le_refl _) (by unfold maxLen; omega) rfl
 obtain ⟨A', c', w5, hrun, hown5, hgr5, -, -⟩ := copy_run (W := w3.alloc (.cells #[] 142)) (l := x.want) (A := A) (c := c) hl hc ((hp.on hm0.B).on hb4) hown4 (by simp)
 have hm4 := hm0.on hb4
 have hm5 : Bm w [.string (ofL x.shop), .string (ofL x.to), .bool x.up, .string (ofL x.key), .slice A x.want.length c, .bool x.all] [.string ⟨#[]⟩, .string ⟨#[]⟩, .bool false, .string ⟨#[]⟩, .slice none 0 0, .bool false] [.string (ofL x.shop), .string (ofL x.to), .bool x.up, .string (ofL x.key), .slice A x.want.length c, .bool x.all] w5 := ⟨rtKept hm4.bx hgr5 (by have := hm0.n; simp only [ne_eq, Option.some.injEq]; omega), rtKept hm4.bs hgr5 (by have := hm0.n; simp only [ne_eq, Option.some.injEq]; omega), rtKept hm4.bz hgr5 (by have := hm0.n; simp only [ne_eq, Option.some.injEq]; omega), hm4.B.grown hgr5 hm4.B.size (fun k hk => by cases hk; have := hm0.n; omega), Nat.le_trans hm4.n hgr5.size⟩
 have HRUN := hid hrun
 have HOWN := hid hown5
 have HM0 := hid hm0
 have HM5 := hid hm5
 have HA5 := hid (show ∀ a, A' = some a → w.heap.size + 3 ≤ a.block from fun a ha => by
  subst ha
  have := (hown5.lt a.block rfl).1
  have := hm0.n
  omega)
 clear hb4 hown4 hrun hown5 hgr5 hm4 hm5 hm0 hp
 simp only [bdV]
 go_enter Tryz.func42, Tryz.ntmps42
 go_upto_region 2 with fail
 try rw [hW3]
 have x0 := HM0.out.bx.cs 0 _ rfl
 have x1 := HM0.out.bx.cs 1 _ rfl
 have x2 := HM0.out.bx.cs 2 _ rfl
 have x3 := HM0.out.bx.cs 3 _ rfl
 have x4 := HM0.out.bx.cs 4 _ rfl
 have x5 := HM0.out.bx.cs 5 _ rfl
 have xl := HM0.out.bx.lt
 have q0 := HM5.out.bz.cs 0 _ rfl
 have q1 := HM5.out.bz.cs 1 _ rfl
 have q2 := HM5.out.bz.cs 2 _ rfl
 have q3 := HM5.out.bz.cs 3 _ rfl
 have q4 := HM5.out.bz.cs 4 _ rfl
 have q5 := HM5.out.bz.cs 5 _ rfl
 have ql := HM5.out.bz.lt
 have qf := HM5.out.bz.s
 have r0 := HM5.out.bs.cs 0 _ rfl
 have r1 := HM5.out.bs.cs 1 _ rfl
 have r2 := HM5.out.bs.cs 2 _ rfl
 have r3 := HM5.out.bs.cs 3 _ rfl
 have r4 := HM5.out.bs.cs 4 _ rfl
 have r5 := HM5.out.bs.cs 5 _ rfl
 have rl := HM5.out.bs.lt
 have rf := HM5.out.bs.s
 unfold Soft at qf rf
 go_wp2_with (first
  | (at_builtin; (refine wpList_append_run (by rfl) _ _ 46 (by rfl) _ _ (by rfl) (by rfl) HRUN.out ?_)))
 have hQ := (HM5.out.bs.aside (g := w.heap.size + 2) (by omega) 4 (.slice A' x.want.length c')).fill [.string (ofL x.shop), .string (ofL x.to), .bool x.up, .string (ofL x.key), .slice A' x.want.length c', .bool x.all] rfl
 have hO : OwnPrs w3.heap.size w5 A' c' x.want := HOWN.out
 have hO5 := (hO.aside (g := w.heap.size + 2) (fun a ha => by have := HA5.out a ha; omega) 4 (.slice A' x.want.length c')).rtAll (g := w.heap.size + 1) (fun a ha => by have := HA5.out a ha; omega) [.string (ofL x.shop), .string (ofL x.to), .bool x.up, .string (ofL x.key), .slice A' x.want.length c', .bool x.all] 0
 have hB5 := below_putAll (g := w.heap.size + 1) (by omega) [.string (ofL x.shop), .string (ofL x.to), .bool x.up, .string (ofL x.key), .slice A' x.want.length c', .bool x.all] 0 (HM5.out.B.setCell (p := ⟨w.heap.size + 2, 4, none⟩) (by simp) (.slice A' x.want.length c'))
 simp only [putAll] at hQ hO5 hB5
 have g0 := hQ.cs 0 _ rfl
 have g1 := hQ.cs 1 _ rfl
 have g2 := hQ.cs 2 _ rfl
 have g3 := hQ.cs 3 _ rfl
 have g4 := hQ.cs 4 _ rfl
 have g5 := hQ.cs 5 _ rfl
 exact bodyPost_ret (v := .agg #[.string (ofL x.shop), .string (ofL x.to), .bool x.up, .string (ofL x.key), .slice A' x.want.length c', .bool x.all]) (by simp [results, Tryz.results42, go_sem, g0, g1, g2, g3, g4, g5]) rfl ⟨A', c', rfl, World.ownsRow.mono hO5 (by have := HM0.out.n; omega), hB5⟩
def stL (s : List UInt8) : List Value := [.string (ofL s)]
def sts (l : List (List UInt8)) : List Value := l.flatMap stL
theorem sts_app (l m : List (List UInt8)) : sts (l ++ m) = sts l ++ sts m := by simp [sts]
theorem sts_one1 (s : List UInt8) : sts [s] = stL s := by simp [sts]
theorem sts_one (l : List (List UInt8)) : ∀ u ∈ sts l, u.oneCell' = true := by
 intro u hu
 obtain ⟨f, _, hf⟩ := List.mem_flatMap.1 hu
 simp only [stL, List.mem_cons, List.not_mem_nil, or_false] at hf
 rcases hf with rfl; rfl
theorem sts_get {w : World} {A : Option Addr} {l : List (List UInt8)} (h : Rws w A (sts l)) {i : Nat} (hi : i < l.length) :
  ∃ b off, A = some ⟨b, off, none⟩ ∧ b < w.heap.size ∧ w.cell? ⟨b, off + i, none⟩ = some (.string (ofL l[i])) := by
 obtain ⟨b, off, e, hb, hc⟩ := Rws.elt stL 1 (fun _ => rfl) (by decide) h hi
 have := hc 0 _ rfl
 rw [Nat.add_zero, Nat.mul_one] at this
 exact ⟨b, off, e, hb, this⟩
theorem infoStr : (Tryz.prog.info? 9).map (fun i => (i.zero, i.size, i.bytes)) = some (some (.string ⟨#[]⟩), 1, 16) := by kernel_rfl
def StPost (l : List (List UInt8)) (w : World) (A : Option Addr) (c : Nat) (w' : World) : Prop := l.length ≤ c ∧ (A = none → c = 0) ∧ Rws w' A (sts l) ∧ (∀ a, A = some a → w.heap.size ≤ a.block ∧ a.block < w'.heap.size) ∧ Below w.heap.size w w'
namespace Bk
def goes (s : Sh) (up : Bool) (key : List UInt8) (h : List Hd.Pr) (x : Bd) : Bool := (x.shop == s.name) && ((x.up == up) && goesB (bdRu s.sort x) key h)
def lead (s : Sh) (up : Bool) (key : List UInt8) (h : List Hd.Pr) (l : List Bd) : List (List UInt8) := l.foldl (fun acc x => if goes s up key h x then Bk.put acc x.to else acc) []
theorem lead_snoc (s : Sh) (up : Bool) (key : List UInt8) (h : List Hd.Pr) (l : List Bd) (x : Bd) : lead s up key h (l ++ [x]) = if goes s up key h x then Bk.put (lead s up key h l) x.to else lead s up key h l := by
 unfold lead
 rw [List.foldl_append]
 rfl
theorem put_len (l : List (List UInt8)) (s : List UInt8) : (Bk.put l s).length ≤ l.length + 1 := by
 unfold Bk.put
 split
 ·omega
 ·simp
theorem lead_len (s : Sh) (up : Bool) (key : List UInt8) (h : List Hd.Pr) (l : List Bd) : (lead s up key h l).length ≤ l.length := by
 unfold lead
 have : ∀ (l : List Bd) (acc : List (List UInt8)), (l.foldl (fun acc x => if goes s up key h x then Bk.put acc x.to else acc) acc).length ≤ acc.length + l.length := by
  intro l
  induction l with
  | nil => intro acc; simp
  | cons x l ih =>
   intro acc
   rw [List.foldl_cons, List.length_cons]
   split
   ·have := ih (Bk.put acc x.to); have := put_len acc x.to; omega
   ·have := ih acc; omega
 have := this l []
 simpa using this
end Bk
theorem bds_take {ps : List Bp} {l : List Bd} (h : ps.map Bp.x = l) {k : Nat} (hk : k < ps.length) : l.take (k + 1) = l.take k ++ [ps[k].x] := by
 subst h
 rw [List.take_succ_eq_append_getElem (by simpa using hk), List.getElem_map]
def LdSt (s : Sh) (up : Bool) (key : List UInt8) (h : List Hd.Pr) (l : List Bd) (w1 : World) (n g : Nat) (v i : Value) (wr : World) : Prop :=
 ∃ (k : Nat) (acc : List (List UInt8)), k + g = n ∧ i = .int .i64 (k : Int) ∧ acc = Bk.lead s up key h (l.take k) ∧ wr.ownsRow w1.heap.size 9 1 v acc.length (sts acc) ∧ Below w1.heap.size w1 wr
def LiSt (acc : List (List UInt8)) (t : List UInt8) (w4 : World) (g : Nat) (i : Value) (wr : World) : Prop :=
 ∃ m : Nat, m + g = acc.length ∧ i = .int .i64 (m : Int) ∧ (∀ j, j < m → acc.getD j [] ≠ t) ∧ w4 = wr
set_option maxHeartbeats 16000000 in
theorem rtleads_any (b : Bk) (A : Option Addr) (c : Nat) (B : Option Addr) (d : Nat) (ps : List Bp) (s : Sh) (up : Bool) (key : List UInt8) (h : List Hd.Pr) (Bh : Option Addr) (dh : Nat) (w : World) (hl : b.binds.length ≤ 1000) (hs : s.sort ≤ 3) (hI : BkAt w A c B d b ps) (hk : key.length ≤ 90000) (hh : h.length ≤ 100000) (hp : Prs w Bh h) (hL : Len w) :
  Calls Tryz.prog 114 #[bkV A c B d b, shV s, .bool up, .string (ofL key), .slice Bh h.length dh] w fun e w' => ∃ A' c', e = .returned (.slice A' (Bk.lead s up key h b.binds).length c') ∧ StPost (Bk.lead s up key h b.binds) w A' c' w' := by
 obtain ⟨shops, binds⟩ := b
 dsimp only at hl ⊢
 obtain ⟨iN, hiN, hzN0, hzN1, hzN2⟩ := info_parts infoStr
 have hml := hI.len
 dsimp only at hml
 have hb0 := rtTwo w (.cells #[.slice A shops.length c, .slice B binds.length d] 133) (.cells #[.string (ofL s.name), .int .u8 (s.sort : Int), .string (ofL s.to)] 43)
 have HX0 := hid (rtNext (rtAt0 w #[.slice A shops.length c, .slice B binds.length d] 133) (.cells #[.string (ofL s.name), .int .u8 (s.sort : Int), .string (ofL s.to)] 43))
 have HS0 := hid (rtAt1 w (.cells #[.slice A shops.length c, .slice B binds.length d] 133) #[.string (ofL s.name), .int .u8 (s.sort : Int), .string (ofL s.to)] 43)
 have HSZ := hid (show ((w.alloc (.cells #[.slice A shops.length c, .slice B binds.length d] 133)).alloc (.cells #[.string (ofL s.name), .int .u8 (s.sort : Int), .string (ofL s.to)] 43)).heap.size = w.heap.size + 2 by simp)
 have HB0 := hid hb0
 have HI0 := hid hI
 have HP0 := hid (hp.on hb0)
 have HL0 := hid (hL.on hb0)
 have HG := hid (fun x Ax cx W hr hp hL => mGoes_any (bdRu s.sort x) Ax cx key h Bh dh W hr hs hk hh hp hL)
 have HRU := hid (fun x Ax cx W => bdRule_any x Ax cx s.sort W)
 have HLE := hid (fun l => Bk.lead_len s up key h l)
 have HSN := hid (fun l x => Bk.lead_snoc s up key h l x)
 have HGO : Hid (∀ x, Bk.goes s up key h x = ((x.shop == s.name) && ((x.up == up) && goesB (bdRu s.sort x) key h))) := fun x => rfl
 have HML := hid hml
 simp only [bkV, shV]
 rw [← hml] at HX0 HS0 HSZ HB0 HP0 HL0 hl ⊢
 clear hml hI hp hL hb0 hh hk hs
 go_enter Tryz.func114, Tryz.ntmps114
 go_wp2_with fail
 go_step3
 go_wp2_with fail
 go_step3
 go_wp2_with fail
 generalize (w.alloc (.cells #[.slice A shops.length c, .slice B ps.length d] 133)).alloc (.cells #[.string (ofL s.name), .int .u8 (s.sort : Int), .string (ofL s.to)] 43) = w1 at *
 go_loopg [11, 19] ps.length (fun g v i wr => LdSt s up key h binds w1 ps.length g v i wr)
 case atStart => exact ⟨0, [], by omega, rfl, rfl, World.ownsRow_nil _ _ _ _, Below.refl _ _⟩
 case round =>
  obtain ⟨k, acc, hk, rfl, hacc, hown, hB⟩ := hrel
  have HK := hid hk
  have HB := hid hB
  have HACC := hid hacc
  have HOWN := hid hown
  obtain ⟨Av, cv, rfl, -, -⟩ := Rw.own_cells hown
  have hal : acc.length ≤ 1000 := by
   have := HLE.out (binds.take k)
   rw [← hacc, List.length_take] at this
   have := HML.out
   omega
  clear hk hB hown hacc
  have HBW := hid (bthen HB0.out HB.out (Nat.le_refl _))
  by_cases hlt : k < ps.length
  ·have hbd := HI0.out.bds.on HBW.out
   obtain ⟨bb, off, rfl, hbl, hat⟩ := bps_get hbd.row hlt
   have hok := hbd.ok ps[k] (List.getElem_mem hlt)
   have hnx := HSN.out (binds.take k) ps[k].x
   rw [← bds_take HI0.out.xs hlt, ← HACC.out] at hnx
   have HNX := hid hnx
   generalize ps[k] = p at *
   obtain ⟨x, Ax, cx⟩ := p
   unfold bpL bdL at hat
   dsimp only at hat hok HNX
   have c0 := hat 0 _ rfl
   have c1 := hat 1 _ rfl
   have c2 := hat 2 _ rfl
   have c3 := hat 3 _ rfl
   have c4 := hat 4 _ rfl
   have c5 := hat 5 _ rfl
   rw [Nat.add_zero] at c0
   have ha := rtOne wr (.cells #[.string (ofL x.shop), .string (ofL x.to), .bool x.up, .string (ofL x.key), .slice Ax x.want.length cx, .bool x.all] 48)
   have HE0 := hid (rtAt0 wr #[.string (ofL x.shop), .string (ofL x.to), .bool x.up, .string (ofL x.key), .slice Ax x.want.length cx, .bool x.all] 48)
   have HA := hid ha
   have HOK := hid (hok.on ha)
   have HGX := hid (HGO.out x)
   have HX1 := hid (HX0.out.on HB.out)
   have HS1 := hid (HS0.out.on HB.out)
   have s0 := HS1.out.cs 0 _ rfl
   have s1 := HS1.out.cs 1 _ rfl
   have s2 := HS1.out.cs 2 _ rfl
   have sl := HS1.out.lt
   have hq := str_same x.shop s.name
   have hq2 : ((ofL x.shop).toList != (ofL s.name).toList) = !(x.shop == s.name) := by rw [bne, hq]
   clear hat hok hbd ha hnx
   cases e1 : x.shop == s.name with
   | false =>
    rw [e1] at hq hq2
    rw [Bool.not_false] at hq2
    have HST := hid (show acc = Bk.lead s up key h (binds.take (k + 1)) by rw [HNX.out, HGX.out, e1]; rfl)
    clear e1
    go_wp2_with fail
    go_roundg (gk - 1)
    case rel => exact ⟨k + 1, acc, by have := HK.out; omega, by go_num, HST.out, Rw.own_on HOWN.out HA.out, bthen HB.out HA.out (Nat.le_refl _)⟩
    case measure => have := HK.out; omega
   | true =>
    rw [e1] at hq hq2
    rw [Bool.not_true] at hq2
    cases e2 : x.up == up with
    | false =>
     have e3 : (x.up != up) = true := by rw [bne, e2]; rfl
     have HST := hid (show acc = Bk.lead s up key h (binds.take (k + 1)) by rw [HNX.out, HGX.out, e1, e2]; rfl)
     clear e1
     go_wp2_with fail
     go_roundg (gk - 1)
     case rel => exact ⟨k + 1, acc, by have := HK.out; omega, by go_num, HST.out, Rw.own_on HOWN.out HA.out, bthen HB.out HA.out (Nat.le_refl _)⟩
     case measure => have := HK.out; omega
    | true =>
     have e3 : (x.up != up) = false := by rw [bne, e2]; rfl
     have HG1 := hid (HG.out x Ax cx)
     have HNY := hid (show Bk.lead s up key h (binds.take (k + 1)) = if goesB (bdRu s.sort x) key h then Bk.put acc x.to else acc by rw [HNX.out, HGX.out, e1, e2]; simp)
     have HRX := hid (HRU.out x Ax cx (wr.alloc (.cells #[.string (ofL x.shop), .string (ofL x.to), .bool x.up, .string (ofL x.key), .slice Ax x.want.length cx, .bool x.all] 48)))
     generalize goesB (bdRu s.sort x) key h = GB at *
     simp only [bdV, ruV, bdRu] at HRX HG1
     clear e1
     cases GB with
     | false =>
      go_wp2_with fail
      refine HRX.out.mono ?_
      rintro e w3 ⟨rfl, b3⟩
      have hA3 := bthen HA.out b3 (Nat.le_refl _)
      have HG3 := hid (HG1.out w3 ((HOK.out.on b3).ru s.sort) (HP0.out.on (bthen HB.out hA3 (Nat.le_refl _))) (HL0.out.on (bthen HB.out hA3 (Nat.le_refl _))))
      try simp only [bdRu] at HG3
      have HA3 := hid hA3
      have HAE3 := hid b3
      clear b3 hA3 c0 c1 c2 c3 c4 c5 s0 s1 s2 sl
      go_wp2_with fail
      refine HG3.out.mono ?_
      rintro e w4 ⟨rfl, b4⟩
      have HA4 := hid (bthen HA3.out b4 (Nat.le_refl _))
      have HAE := hid (bthen HAE3.out b4 (Nat.le_refl _))
      clear b4
      go_wp2_with fail
      go_roundg (gk - 1)
      case rel => exact ⟨k + 1, acc, by have := HK.out; omega, by go_num, by rw [HNY.out]; rfl, Rw.own_on HOWN.out HA4.out, bthen HB.out HA4.out (Nat.le_refl _)⟩
      case measure => have := HK.out; omega
     | true =>
      have HNZ := hid (show Bk.lead s up key h (binds.take (k + 1)) = Bk.put acc x.to by rw [HNY.out]; rfl)
      clear HNY
      go_wp2_with fail
      refine HRX.out.mono ?_
      rintro e w3 ⟨rfl, b3⟩
      have hA3 := bthen HA.out b3 (Nat.le_refl _)
      have HG3 := hid (HG1.out w3 ((HOK.out.on b3).ru s.sort) (HP0.out.on (bthen HB.out hA3 (Nat.le_refl _))) (HL0.out.on (bthen HB.out hA3 (Nat.le_refl _))))
      try simp only [bdRu] at HG3
      have HA3 := hid hA3
      have HAE3 := hid b3
      clear b3 hA3 c0 c1 c2 c3 c4 c5 s0 s1 s2 sl
      go_wp2_with fail
      refine HG3.out.mono ?_
      rintro e w4 ⟨rfl, b4⟩
      have HA4 := hid (bthen HA3.out b4 (Nat.le_refl _))
      have HAE := hid (bthen HAE3.out b4 (Nat.le_refl _))
      clear b4
      go_wp2_with fail
      obtain ⟨g0, hg0⟩ : ∃ g0, g0 = gk := ⟨_, rfl⟩
      have HO4 := hid (Rw.own_on HOWN.out HA4.out)
      have HR4 := hid (Rws.of_own HO4.out)
      have HE4 := hid (HE0.out.on HAE.out)
      have HK2 := hid (show k + g0 = ps.length by rw [hg0]; exact HK.out)
      have z0 := HE4.out.cs 0 _ rfl
      have z1 := HE4.out.cs 1 _ rfl
      have zl := HE4.out.lt
      go_loopg [46] acc.length (fun g i wr => LiSt acc x.to w4 g i wr)
      case atStart => exact ⟨0, by omega, rfl, fun j hj => absurd hj (by omega), rfl⟩
      case round =>
       obtain ⟨m, hm, rfl, hno, hw⟩ := hrel
       subst hw
       have HM := hid hm
       have HNO := hid hno
       clear hm hno
       by_cases hlm : m < acc.length
       ·obtain ⟨A9, c9, e9, -, -, hr9, -⟩ := HR4.out
        obtain ⟨rfl, -, rfl⟩ := Value.slice.inj e9
        obtain ⟨ba, oa, rfl, hba, hca⟩ := sts_get hr9 hlm
        have hgd : acc[m] = acc.getD m [] := by rw [List.getD_eq_getElem?_getD, List.getElem?_eq_getElem hlm]; rfl
        rw [hgd] at hca
        have hqq := str_same (acc.getD m []) x.to
        cases e5 : acc.getD m [] == x.to with
        | true =>
         rw [e5] at hqq
         have HIN := hid (show Bk.put acc x.to = acc by
          unfold Bk.put
          rw [if_pos]
          rw [beq_iff_eq] at e5
          rw [← e5, ← hgd]
          exact List.getElem_mem hlm)
         generalize acc.getD m [] = y at *
         clear e5 hr9 e9 hgd
         go_wp2_with fail
         go_roundg (g0 - 1)
         case rel => exact ⟨k + 1, acc, by have := HK2.out; omega, by go_num, by rw [HNZ.out, HIN.out], HO4.out, bthen HB.out HA4.out (Nat.le_refl _)⟩
         case measure => have := HK2.out; omega
        | false =>
         rw [e5] at hqq
         have HN2 : Hid (∀ j, j < m + 1 → acc.getD j [] ≠ x.to) := fun j hj => by
          by_cases e : j = m
          ·rw [e]; exact beq_eq_false_iff_ne.1 e5
          ·exact HNO.out j (by omega)
         generalize acc.getD m [] = y at *
         clear e5 hr9 e9 hgd
         go_wp2_with fail
         go_roundg (gk - 1)
         case rel => exact ⟨m + 1, by have := HM.out; omega, by go_num, HN2.out, rfl⟩
         case measure => have := HM.out; omega
       ·have HPT := hid (show Bk.put acc x.to = acc ++ [x.to] by
         unfold Bk.put
         rw [if_neg]
         intro hin
         obtain ⟨j, hj, e⟩ := List.getElem_of_mem hin
         refine HNO.out j (by have := HM.out; omega) ?_
         rw [List.getD_eq_getElem?_getD, List.getElem?_eq_getElem hj]
         exact e)
        have HA5 := hid (rtOne w4 (.cells #[.string (ofL x.to)] 9))
        have HO5 := hid (Rw.own_on HO4.out HA5.out)
        have HNW := hid (Rws.of_news (w := w4.alloc (.cells #[.string (ofL x.to)] 9)) (b := w4.heap.size) (off := 0) (cs := sts [x.to]) (fun j u hu => by
         rw [sts_one1] at hu
         rw [Nat.zero_add]
         exact (BoxC.new (w := w4) (Nat.le_refl _) #[.string (ofL x.to)] 9).cs j u hu))
        have hsz : w1.heap.size ≤ (w4.alloc (.cells #[.string (ofL x.to)] 9)).heap.size := by have := HB.out.size; have := HA4.out.size; have := HA5.out.size; omega
        go_wp2_with (at_builtin; refine wpList_append_rws _ rfl _ _ 137 rfl w1.heap.size 9 iN _ 1 16 Tryz.underlying137 hiN hzN0 hzN1 hzN2 rfl (by decide) (by decide) (by rfl) HO5.out (by rfl) HNW.out (by rfl) (sts_one _) (by omega) (fun e => by cases e) hsz ?_; intro v' w6 hown hgrow; have HO6 := hid hown; have HG6 := hid hgrow; obtain ⟨A6, c6, rfl, -, -⟩ := Rw.own_cells hown; clear hown hgrow)
        go_roundg (g0 - 1)
        case rel => exact ⟨k + 1, acc ++ [x.to], by have := HK2.out; omega, by go_num, by rw [HNZ.out, HPT.out], by rw [List.length_append, sts_app]; exact HO6.out, (bthen (bthen HB.out HA4.out (Nat.le_refl _)) HA5.out (Nat.le_refl _)).grown HG6.out hsz (fun k hk => (HO5.out.lt k hk).1)⟩
        case measure => have := HK2.out; omega
  ·have hkn : k = ps.length := by have := HK.out; omega
   have hE : acc = Bk.lead s up key h binds := by rw [HACC.out, hkn, HML.out, List.take_length]
   have HE := hid hE
   have HQ := hid (Rws.of_own HOWN.out)
   clear hE hkn
   go_wp2_with fail
   rw [Exit.noGoto_ret]
   go_ret
   obtain ⟨A9, c9, e9, hc9, hn9, hr9, hb9⟩ := HQ.out
   obtain ⟨rfl, -, rfl⟩ := Value.slice.inj e9
   rw [← HE.out]
   exact ⟨Av, cv, rfl, hc9, hn9, hr9, fun a ha => ⟨by have := (hb9 a ha).1; have := HSZ.out; omega, (hb9 a ha).2⟩, HBW.out⟩
end Go.Proofs.YtaikigponkjkgaaGreatDoor
end
