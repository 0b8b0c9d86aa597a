/-
 A part of the proof.
-/
import Derived.Test.YtaikigponkjkgaaGreatDoorXr24
import Derived.Deep.Upon
import Derived.Laws.AppendOwnNone
import Derived.BigQuiet
section
namespace Go.Proofs.YtaikigponkjkgaaGreatDoor
open Go.ChangeShapes Go.WideShapes Go.ChangeAt Go.RowKit Go.Lib
theorem infoSh : (Tryz.prog.info? 43).map (fun i => (i.zero, i.size, i.bytes)) = some (some (.agg #[.string ⟨#[]⟩, .int .u8 0, .string ⟨#[]⟩]), 3, 40) := by kernel_rfl
theorem moreSh_run {W : World} {n : Nat} {cs xs : List Value} {A : Option Addr} {b : Nat} (hl : n ≤ 100000) (hp : Rws W A cs) (hlen : cs.length = n * 3) (hxl : xs.length = 3) (hxo : ∀ u ∈ xs, u.oneCell' = true) (hx : ∀ j u, xs[j]? = some u → W.cell? ((⟨b, 0, none⟩ : Addr).add j) = some u) (hn : A = none → n = 0) :
  ∃ g c' w', (Builtin.append_ #[130, 130] 130 #[.slice A n n, .slice (some ⟨b, 0, none⟩) 1 1]).run Tryz.prog W = .ok (.slice (some ⟨g, 0, none⟩) (n + 1) c') w' ∧ w'.ownsRow W.heap.size 43 3 (.slice (some ⟨g, 0, none⟩) (n + 1) c') (n + 1) (cs ++ xs) ∧ W.grownBy w' none := by
 obtain ⟨i1, hi1, hz0, hz1, hz2⟩ := info_parts infoSh
 cases A with
 | none =>
  have h0 := hn rfl
  subst h0
  have hcs := hp.no
  subst hcs
  obtain ⟨gg, cap, w', hr, h2, h3, h4, h5⟩ := run_append_lies (P := Tryz.prog) W 130 130 W.heap.size 43 i1 _ 3 40 Tryz.underlying130 hi1 hz0 hz1 hz2 rfl (by omega) (.slice none 0 0) 0 [] (World.ownsRow_nil _ _ _ _) ⟨b, 0, none⟩ 1 1 xs (by rw [hxl]) hx hxo (by omega) (by unfold maxLen; omega) (by omega) (Nat.le_refl _) W.heap.size rfl
  exact ⟨gg, cap, w', hr, h2, h3⟩
 | some ad =>
  have hcell : ∀ j u, cs[j]? = some u → W.cell? (ad.add j) = some u := by
   intro j u hj
   obtain ⟨b', off, e, -, hc⟩ := hp.at_ j u hj
   cases e
   rw [rws_add]
   exact hc
  obtain ⟨v', w', hr, h2, h3⟩ := run_append_arg_grows (P := Tryz.prog) W 130 130 43 i1 _ 3 40 Tryz.underlying130 hi1 hz0 hz1 hz2 rfl (by omega) ad n n cs hlen hcell ⟨b, 0, none⟩ 1 1 xs (by rw [hxl]) hx (by omega) (by unfold maxLen; omega) (by omega)
  obtain ⟨g, cap, rfl, _, hlt⟩ := h2.form (by omega)
  exact ⟨g, cap, w', hr, h2, h3⟩
theorem infoBd : (Tryz.prog.info? 48).map (fun i => (i.zero, i.size, i.bytes)) = some (some (.agg #[.string ⟨#[]⟩, .string ⟨#[]⟩, .bool false, .string ⟨#[]⟩, .slice none 0 0, .bool false]), 6, 88) := by kernel_rfl
theorem moreBd_run {W : World} {n : Nat} {cs xs : List Value} {A : Option Addr} {b : Nat} (hl : n ≤ 100000) (hp : Rws W A cs) (hlen : cs.length = n * 6) (hxl : xs.length = 6) (hxo : ∀ u ∈ xs, u.oneCell' = true) (hx : ∀ j u, xs[j]? = some u → W.cell? ((⟨b, 0, none⟩ : Addr).add j) = some u) (hn : A = none → n = 0) :
  ∃ g c' w', (Builtin.append_ #[131, 131] 131 #[.slice A n n, .slice (some ⟨b, 0, none⟩) 1 1]).run Tryz.prog W = .ok (.slice (some ⟨g, 0, none⟩) (n + 1) c') w' ∧ w'.ownsRow W.heap.size 48 6 (.slice (some ⟨g, 0, none⟩) (n + 1) c') (n + 1) (cs ++ xs) ∧ W.grownBy w' none := by
 obtain ⟨i1, hi1, hz0, hz1, hz2⟩ := info_parts infoBd
 cases A with
 | none =>
  have h0 := hn rfl
  subst h0
  have hcs := hp.no
  subst hcs
  obtain ⟨gg, cap, w', hr, h2, h3, h4, h5⟩ := run_append_lies (P := Tryz.prog) W 131 131 W.heap.size 48 i1 _ 6 88 Tryz.underlying131 hi1 hz0 hz1 hz2 rfl (by omega) (.slice none 0 0) 0 [] (World.ownsRow_nil _ _ _ _) ⟨b, 0, none⟩ 1 1 xs (by rw [hxl]) hx hxo (by omega) (by unfold maxLen; omega) (by omega) (Nat.le_refl _) W.heap.size rfl
  exact ⟨gg, cap, w', hr, h2, h3⟩
 | some ad =>
  have hcell : ∀ j u, cs[j]? = some u → W.cell? (ad.add j) = some u := by
   intro j u hj
   obtain ⟨b', off, e, -, hc⟩ := hp.at_ j u hj
   cases e
   rw [rws_add]
   exact hc
  obtain ⟨v', w', hr, h2, h3⟩ := run_append_arg_grows (P := Tryz.prog) W 131 131 48 i1 _ 6 88 Tryz.underlying131 hi1 hz0 hz1 hz2 rfl (by omega) ad n n cs hlen hcell ⟨b, 0, none⟩ 1 1 xs (by rw [hxl]) hx (by omega) (by unfold maxLen; omega) (by omega)
  obtain ⟨g, cap, rfl, _, hlt⟩ := h2.form (by omega)
  exact ⟨g, cap, w', hr, h2, h3⟩
end Go.Proofs.YtaikigponkjkgaaGreatDoor
end
section
namespace Go.Proofs.YtaikigponkjkgaaGreatDoor
open Go.ChangeShapes Go.WideShapes Go.ChangeAt Go.RowKit
theorem OwnPrs.rtAll {B : Nat} {A : Option Addr} {c : Nat} {l : List Hd.Pr} {g : Nat} (hg : ∀ a, A = some a → g ≠ a.block) : ∀ (vs : List Value) (j : Nat) {W : World}, OwnPrs B W A c l → OwnPrs B (Go.Proofs.YtaikigponkjkgaaGreatDoor.putAll g j vs W) A c l
 | [], _, _, h => h
 | v :: vs, j, _, h => OwnPrs.rtAll hg vs (j + 1) (h.aside hg j v)
def BdOwnPost (x : Bd) (w : World) (e : Ending) (w' : World) : Prop := ∃ A' c', e = .returned (bdV x A' c') ∧ OwnPrs w.heap.size w' A' c' x.want ∧ Below w.heap.size w w'
set_option maxRecDepth 100000 in
set_option maxHeartbeats 4000000 in
theorem bdOwn_any (x : Bd) (A : Option Addr) (c : Nat) (w : World) (hl : x.want.length ≤ 100000) (hc : x.want.length ≤ c) (hp : Prs w A x.want) : Calls Tryz.prog 113 #[bdV x A c] w (BdOwnPost x w) := by
 have hb0 := rtTwo w (.cells #[.string (ofL x.shop), .string (ofL x.to), .bool x.up, .string (ofL x.key), .slice A x.want.length c, .bool x.all] 48) (.cells #[.string ⟨#[]⟩, .string ⟨#[]⟩, .bool false, .string ⟨#[]⟩, .slice none 0 0, .bool false] 48)
 have HX0 := Lib.hid (rtNext (rtAt0 w #[.string (ofL x.shop), .string (ofL x.to), .bool x.up, .string (ofL x.key), .slice A x.want.length c, .bool x.all] 48) (.cells #[.string ⟨#[]⟩, .string ⟨#[]⟩, .bool false, .string ⟨#[]⟩, .slice none 0 0, .bool false] 48))
 have HR0 := Lib.hid (rtAt1 w (.cells #[.string (ofL x.shop), .string (ofL x.to), .bool x.up, .string (ofL x.key), .slice A x.want.length c, .bool x.all] 48) #[.string ⟨#[]⟩, .string ⟨#[]⟩, .bool false, .string ⟨#[]⟩, .slice none 0 0, .bool false] 48)
 have hC := cloneOwn_any x.want A c _ hl hc (hp.on hb0)
 have HSZ := Lib.hid (show ((w.alloc (.cells #[.string (ofL x.shop), .string (ofL x.to), .bool x.up, .string (ofL x.key), .slice A x.want.length c, .bool x.all] 48)).alloc (.cells #[.string ⟨#[]⟩, .string ⟨#[]⟩, .bool false, .string ⟨#[]⟩, .slice none 0 0, .bool false] 48)).heap.size = w.heap.size + 2 by simp)
 unfold ClOwn at hC
 rw [HSZ.out] at hC
 have HC := Lib.hid hC
 have HB0 := Lib.hid hb0
 clear hC hp hb0
 simp only [bdV]
 go_enter Tryz.func113, Tryz.ntmps113
 go_wp2_with fail
 generalize (w.alloc (.cells #[.string (ofL x.shop), .string (ofL x.to), .bool x.up, .string (ofL x.key), .slice A x.want.length c, .bool x.all] 48)).alloc (.cells #[.string ⟨#[]⟩, .string ⟨#[]⟩, .bool false, .string ⟨#[]⟩, .slice none 0 0, .bool false] 48) = w2 at *
 refine HC.out.mono ?_
 rintro e w3 ⟨A2, k2, rfl, ho, hb⟩
 rw [← HSZ.out] at hb
 have HX3 := Lib.hid (HX0.out.on hb)
 have HR3 := Lib.hid (HR0.out.on hb)
 have HB3 := Lib.hid (bthen HB0.out hb (Nat.le_refl _))
 have HO3 := Lib.hid ho
 have HA3 := Lib.hid (show ∀ a, A2 = some a → w.heap.size + 2 ≤ a.block from fun a ha => (ho.row.2.2 a ha).1)
 clear ho hb
 have cl := HX3.out.lt
 have cf : ∀ j, w3.frozen? ⟨w.heap.size, j, none⟩ = false := HX3.out.s
 have ql := HR3.out.lt
 have qf : ∀ j, w3.frozen? ⟨w.heap.size + 1, j, none⟩ = false := HR3.out.s
 have c0 := HX3.out.cs 0 _ rfl
 have c1 := HX3.out.cs 1 _ rfl
 have c2 := HX3.out.cs 2 _ rfl
 have c3 := HX3.out.cs 3 _ rfl
 have c4 := HX3.out.cs 4 _ rfl
 have c5 := HX3.out.cs 5 _ rfl
 have q0 := HR3.out.cs 0 _ rfl
 have q1 := HR3.out.cs 1 _ rfl
 have q2 := HR3.out.cs 2 _ rfl
 have q3 := HR3.out.cs 3 _ rfl
 have q4 := HR3.out.cs 4 _ rfl
 have q5 := HR3.out.cs 5 _ rfl
 go_wp2_with fail
 have hX4 := HX3.out.put 4 (.slice A2 x.want.length k2) (by simp)
 have hQ4 := (HR3.out.aside (g := w.heap.size) (by omega) 4 (.slice A2 x.want.length k2)).fill [.string (ofL x.shop), .string (ofL x.to), .bool x.up, .string (ofL x.key), .slice A2 x.want.length k2, .bool x.all] rfl
 have hO5 := (HO3.out.aside (g := w.heap.size) (fun a ha => by have := HA3.out a ha; omega) 4 (.slice A2 x.want.length k2)).rtAll (g := w.heap.size + 1) (fun a ha => by have := HA3.out a ha; omega) [.string (ofL x.shop), .string (ofL x.to), .bool x.up, .string (ofL x.key), .slice A2 x.want.length k2, .bool x.all] 0
 have hB5 := below_putAll (g := w.heap.size + 1) (by omega) [.string (ofL x.shop), .string (ofL x.to), .bool x.up, .string (ofL x.key), .slice A2 x.want.length k2, .bool x.all] 0 (HB3.out.setCell (p := ⟨w.heap.size, 4, none⟩) (Nat.le_refl _) (.slice A2 x.want.length k2))
 simp only [putAll] at hQ4 hO5 hB5
 have g0 := hQ4.cs 0 _ rfl
 have g1 := hQ4.cs 1 _ rfl
 have g2 := hQ4.cs 2 _ rfl
 have g3 := hQ4.cs 3 _ rfl
 have g4 := hQ4.cs 4 _ rfl
 have g5 := hQ4.cs 5 _ rfl
 exact bodyPost_ret (v := .agg #[.string (ofL x.shop), .string (ofL x.to), .bool x.up, .string (ofL x.key), .slice A2 x.want.length k2, .bool x.all]) (by simp [results, Tryz.results113, go_sem, g0, g1, g2, g3, g4, g5]) rfl ⟨A2, k2, rfl, World.ownsRow.mono hO5 (by omega), hB5⟩
def AddShPost (n : Nat) (cs : List Value) (w : World) (e : Ending) (w' : World) : Prop := ∃ g c', e = .returned (.slice (some ⟨g, 0, none⟩) (n + 1) c') ∧ w'.ownsRow w.heap.size 43 3 (.slice (some ⟨g, 0, none⟩) (n + 1) c') (n + 1) cs ∧ Below w.heap.size w w'
set_option maxRecDepth 100000 in
set_option maxHeartbeats 4000000 in
theorem addSh_any (n : Nat) (cs : List Value) (A : Option Addr) (c : Nat) (x : Sh) (w : World) (hl : n ≤ 100000) (hc : n ≤ c) (hn : A = none → c = 0) (hlen : cs.length = n * 3) (hp : Rws w A cs) :
  Calls Tryz.prog 109 #[.slice A n c, shV x] w (AddShPost n (cs ++ shL x) w) := by
 have hb0 := rtOne w (.cells #[.string (ofL x.name), .int .u8 (x.sort : Int), .string (ofL x.to)] 43)
 have HX0 := Lib.hid (rtAt0 w #[.string (ofL x.name), .int .u8 (x.sort : Int), .string (ofL x.to)] 43)
 have HSZ := Lib.hid (show (w.alloc (.cells #[.string (ofL x.name), .int .u8 (x.sort : Int), .string (ofL x.to)] 43)).heap.size = w.heap.size + 1 by simp)
 have hdr : Below (w.alloc (.cells #[.string (ofL x.name), .int .u8 (x.sort : Int), .string (ofL x.to)] 43)).heap.size (w.alloc (.cells #[.string (ofL x.name), .int .u8 (x.sort : Int), .string (ofL x.to)] 43)) (w.alloc (.cells #[.string (ofL x.name), .int .u8 (x.sort : Int), .string (ofL x.to)] 43)).drew := (Below.refl _ _).drew
 have hal := rtOne (w.alloc (.cells #[.string (ofL x.name), .int .u8 (x.sort : Int), .string (ofL x.to)] 43)).drew (.cells #[.string (ofL x.name), .int .u8 (x.sort : Int), .string (ofL x.to)] 43)
 have hnew := BoxC.new (w := (w.alloc (.cells #[.string (ofL x.name), .int .u8 (x.sort : Int), .string (ofL x.to)] 43)).drew) (W := (w.alloc (.cells #[.string (ofL x.name), .int .u8 (x.sort : Int), .string (ofL x.to)] 43)).drew) (Nat.le_refl _) #[.string (ofL x.name), .int .u8 (x.sort : Int), .string (ofL x.to)] 43
 obtain ⟨g, c', w7, hrun, hown, hgr⟩ := moreSh_run (W := (w.alloc (.cells #[.string (ofL x.name), .int .u8 (x.sort : Int), .string (ofL x.to)] 43)).drew.alloc (.cells #[.string (ofL x.name), .int .u8 (x.sort : Int), .string (ofL x.to)] 43)) (n := n) (cs := cs) (xs := shL x) (A := A) (b := (w.alloc (.cells #[.string (ofL x.name), .int .u8 (x.sort : Int), .string (ofL x.to)] 43)).drew.heap.size) hl (((hp.on hb0).on hdr).on hal) hlen rfl (by intro u hu; simp only [shL, List.mem_cons, List.not_mem_nil, or_false] at hu; rcases hu with rfl | rfl | rfl <;> rfl) (fun j u hu => by
  rw [rws_add, Nat.zero_add]
  exact hnew.cs j u hu) (fun e => by have := hn e; omega)
 have hb7 : Below w.heap.size w w7 := (bthen (bthen hb0 hdr (Nat.le_refl _)) hal (Nat.le_refl _)).grown hgr (by simp; omega) (fun k hk => by cases hk)
 have HRUN := Lib.hid hrun
 have HE := Lib.hid (show AddShPost n (cs ++ shL x) w (.returned (.slice (some ⟨g, 0, none⟩) (n + 1) c')) w7 from ⟨g, c', rfl, World.ownsRow.mono hown (by simp; omega), hb7⟩)
 have HCL := Lib.hid (fun W => clipSh_any A n c W hc)
 have HD := Lib.hid hdr
 have HN := Lib.hid hnew
 clear hb0 hdr hal hnew hrun hown hgr hb7 hp hn hlen
 simp only [shV]
 go_enter Tryz.func109, Tryz.ntmps109
 go_upto_region 1 with fail
 generalize hw1 : w.alloc (.cells #[.string (ofL x.name), .int .u8 (x.sort : Int), .string (ofL x.to)] 43) = w1 at *
 have HX1 := Lib.hid (HX0.out.on HD.out)
 have x0 := HX1.out.cs 0 _ rfl
 have x1 := HX1.out.cs 1 _ rfl
 have x2 := HX1.out.cs 2 _ rfl
 have xl := HX1.out.lt
 go_region_law (first
  | (go_simp; go_at_call 127; refine (HCL.out _).mono ?_; rintro e w5 ⟨rfl, rfl⟩)
  | (refine step_append_run (by rfl) _ _ 130 (by rfl) _ _ (by rfl) (by rfl) HRUN.out ?_))
 all_goals
  go_wp2_with fail
  go_ret
  exact HE.out
def AddBdPost (n : Nat) (cs : List Value) (w : World) (e : Ending) (w' : World) : Prop := ∃ g c', e = .returned (.slice (some ⟨g, 0, none⟩) (n + 1) c') ∧ w'.ownsRow w.heap.size 48 6 (.slice (some ⟨g, 0, none⟩) (n + 1) c') (n + 1) cs ∧ Below w.heap.size w w'
set_option maxRecDepth 100000 in
set_option maxHeartbeats 4000000 in
theorem addBd_any (n : Nat) (cs : List Value) (A : Option Addr) (c : Nat) (x : Bd) (Ax : Option Addr) (cx : Nat) (w : World) (hl : n ≤ 100000) (hc : n ≤ c) (hn : A = none → c = 0) (hlen : cs.length = n * 6) (hp : Rws w A cs) :
  Calls Tryz.prog 112 #[.slice A n c, bdV x Ax cx] w (AddBdPost n (cs ++ bdL x Ax cx) w) := by
 have hb0 := rtOne w (.cells #[.string (ofL x.shop), .string (ofL x.to), .bool x.up, .string (ofL x.key), .slice Ax x.want.length cx, .bool x.all] 48)
 have HX0 := Lib.hid (rtAt0 w #[.string (ofL x.shop), .string (ofL x.to), .bool x.up, .string (ofL x.key), .slice Ax x.want.length cx, .bool x.all] 48)
 have HSZ := Lib.hid (show (w.alloc (.cells #[.string (ofL x.shop), .string (ofL x.to), .bool x.up, .string (ofL x.key), .slice Ax x.want.length cx, .bool x.all] 48)).heap.size = w.heap.size + 1 by simp)
 have hdr : Below (w.alloc (.cells #[.string (ofL x.shop), .string (ofL x.to), .bool x.up, .string (ofL x.key), .slice Ax x.want.length cx, .bool x.all] 48)).heap.size (w.alloc (.cells #[.string (ofL x.shop), .string (ofL x.to), .bool x.up, .string (ofL x.key), .slice Ax x.want.length cx, .bool x.all] 48)) (w.alloc (.cells #[.string (ofL x.shop), .string (ofL x.to), .bool x.up, .string (ofL x.key), .slice Ax x.want.length cx, .bool x.all] 48)).drew := (Below.refl _ _).drew
 have hal := rtOne (w.alloc (.cells #[.string (ofL x.shop), .string (ofL x.to), .bool x.up, .string (ofL x.key), .slice Ax x.want.length cx, .bool x.all] 48)).drew (.cells #[.string (ofL x.shop), .string (ofL x.to), .bool x.up, .string (ofL x.key), .slice Ax x.want.length cx, .bool x.all] 48)
 have hnew := BoxC.new (w := (w.alloc (.cells #[.string (ofL x.shop), .string (ofL x.to), .bool x.up, .string (ofL x.key), .slice Ax x.want.length cx, .bool x.all] 48)).drew) (W := (w.alloc (.cells #[.string (ofL x.shop), .string (ofL x.to), .bool x.up, .string (ofL x.key), .slice Ax x.want.length cx, .bool x.all] 48)).drew) (Nat.le_refl _) #[.string (ofL x.shop), .string (ofL x.to), .bool x.up, .string (ofL x.key), .slice Ax x.want.length cx, .bool x.all] 48
 obtain ⟨g, c', w7, hrun, hown, hgr⟩ := moreBd_run (W := (w.alloc (.cells #[.string (ofL x.shop), .string (ofL x.to), .bool x.up, .string (ofL x.key), .slice Ax x.want.length cx, .bool x.all] 48)).drew.alloc (.cells #[.string (ofL x.shop), .string (ofL x.to), .bool x.up, .string (ofL x.key), .slice Ax x.want.length cx, .bool x.all] 48)) (n := n) (cs := cs) (xs := bdL x Ax cx) (A := A) (b := (w.alloc (.cells #[.string (ofL x.shop), .string (ofL x.to), .bool x.up, .string (ofL x.key), .slice Ax x.want.length cx, .bool x.all] 48)).drew.heap.size) hl (((hp.on hb0).on hdr).on hal) hlen rfl (by intro u hu; simp only [bdL, List.mem_cons, List.not_mem_nil, or_false] at hu; rcases hu with rfl | rfl | rfl | rfl | rfl | rfl <;> rfl) (fun j u hu => by
  rw [rws_add, Nat.zero_add]
  exact hnew.cs j u hu) (fun e => by have := hn e; omega)
 have hb7 : Below w.heap.size w w7 := (bthen (bthen hb0 hdr (Nat.le_refl _)) hal (Nat.le_refl _)).grown hgr (by simp; omega) (fun k hk => by cases hk)
 have HRUN := Lib.hid hrun
 have HE := Lib.hid (show AddBdPost n (cs ++ bdL x Ax cx) w (.returned (.slice (some ⟨g, 0, none⟩) (n + 1) c')) w7 from ⟨g, c', rfl, World.ownsRow.mono hown (by simp; omega), hb7⟩)
 have HCL := Lib.hid (fun W => clipBd_any A n c W hc)
 have HD := Lib.hid hdr
 have HN := Lib.hid hnew
 clear hb0 hdr hal hnew hrun hown hgr hb7 hp hn hlen
 simp only [bdV]
 go_enter Tryz.func112, Tryz.ntmps112
 go_upto_region 1 with fail
 generalize hw1 : w.alloc (.cells #[.string (ofL x.shop), .string (ofL x.to), .bool x.up, .string (ofL x.key), .slice Ax x.want.length cx, .bool x.all] 48) = w1 at *
 have HX1 := Lib.hid (HX0.out.on HD.out)
 have x0 := HX1.out.cs 0 _ rfl
 have x1 := HX1.out.cs 1 _ rfl
 have x2 := HX1.out.cs 2 _ rfl
 have x3 := HX1.out.cs 3 _ rfl
 have x4 := HX1.out.cs 4 _ rfl
 have x5 := HX1.out.cs 5 _ rfl
 have xl := HX1.out.lt
 go_region_law (first
  | (go_simp; go_at_call 132; refine (HCL.out _).mono ?_; rintro e w5 ⟨rfl, rfl⟩)
  | (refine step_append_run (by rfl) _ _ 131 (by rfl) _ _ (by rfl) (by rfl) HRUN.out ?_))
 all_goals
  go_wp2_with fail
  go_ret
  exact HE.out
theorem rtOwnPut {w : World} {B e sz n : Nat} {v : Value} {xs : List Value} (h : w.ownsRow B e sz v n xs) {g : Nat} (hg : g < B) (j : Nat) (u : Value) : (w.setCell ⟨g, j, none⟩ u).ownsRow B e sz v n xs := h.kept (only_setCell (p := ⟨g, j, none⟩) (World.grownBy.refl w (some g)) rfl u) (.inr (Rw.own_row h hg))
theorem TellsSh.later {f : Nat} {c : Array Value} {q : Sh → Bool} {w w' : World} (h : TellsSh f c q w) (hb : Below w.heap.size w w') : TellsSh f c q w' := fun W x hW => h W x (bthen hb hW (Nat.le_refl _))
namespace Bk
def moved (l : List Sh) (k i : Nat) : List Sh := (l.eraseIdx k).take i ++ l.drop i
end Bk
theorem bd_get {l : List Bp} {i : Nat} (hi : i < l.length) : l[i] = l.getD i ⟨Bk.Bd0, none, 0⟩ := by rw [List.getD_eq_getElem?_getD, List.getElem?_eq_getElem hi]; rfl
def IdxBd (x : Bd) (ps : List Bp) (w : World) (g : Nat) (i : Value) (wr : World) : Prop :=
 ∃ k : Nat, k + g = ps.length ∧ i = .int .i64 (k : Int) ∧ (∀ j, j < k → bdEq x (ps.getD j ⟨Bk.Bd0, none, 0⟩).x = false) ∧ Below w.heap.size w wr
set_option maxHeartbeats 4000000 in
theorem indexBd_any (x : Bd) (Ax : Option Addr) (cx : Nat) (ps : List Bp) (B : Option Addr) (d : Nat) (w : World) (hl : ps.length ≤ 100000) (hx : BdOk w x Ax cx) (hp : Bds w B ps) :
  Calls Tryz.prog 140 #[.slice B ps.length d, .func (.func 129) #[bdV x Ax cx] #[]] w fun e w' => e = .returned (.int .i64 (idx (fun p : Bp => bdEq x p.x) ps)) ∧ Below w.heap.size w w' := by
 have HP := Lib.hid hp
 have HXO := Lib.hid hx
 have HT := Lib.hid (fun (y : Bd) (Ay : Option Addr) (cy : Nat) (W : World) (h1 : BdOk W x Ax cx) (h2 : BdOk W y Ay cy) => bdSame_any x y Ax cx Ay cy W h1.len h2.len h1.row h2.row)
 have HNONE := Lib.hid (fun h => idx_none (q := fun p : Bp => bdEq x p.x) (l := ps) ⟨Bk.Bd0, none, 0⟩ h)
 have HSOME := Lib.hid (fun k (hk : k < ps.length) h hq => idx_some (q := fun p : Bp => bdEq x p.x) (l := ps) ⟨Bk.Bd0, none, 0⟩ hk h hq)
 clear hp hx
 generalize idx (fun p : Bp => bdEq x p.x) ps = M at *
 obtain ⟨n, hn⟩ : ∃ n, n = ps.length := ⟨_, rfl⟩
 rw [← hn]
 have HN := Lib.hid hn
 have hnl : n ≤ 100000 := by omega
 clear hn
 simp only [bdV] at HT ⊢
 go_enter Tryz.func140, Tryz.ntmps140
 go_wp2_with fail
 go_loopg [8] n (fun g i wr => IdxBd x ps w g i wr)
 case atStart => exact ⟨0, by have := HN.out; omega, rfl, fun j hj => absurd hj (by omega), Below.refl _ _⟩
 case round =>
  obtain ⟨k, hk, rfl, hno, hB⟩ := hrel
  have HB := Lib.hid hB
  have HNO := Lib.hid hno
  have HK := Lib.hid hk
  clear hB hno hk
  by_cases hlt : k < n
  ·have hkl : k < ps.length := by have := HN.out; omega
   have hbd := HP.out.on HB.out
   obtain ⟨bb, off, rfl, hbl, hat⟩ := bps_get hbd.row hkl
   have hok := hbd.ok ps[k] (List.getElem_mem hkl)
   rw [bd_get hkl] at hat hok
   have HQ : Hid (∀ h, bdEq x (ps.getD k ⟨Bk.Bd0, none, 0⟩).x = true → M = (k : Int)) := fun h hq => HSOME.out k (by have := HN.out; omega) h hq
   have HNX : Hid (bdEq x (ps.getD k ⟨Bk.Bd0, none, 0⟩).x = false → ∀ j, j < k + 1 → bdEq x (ps.getD j ⟨Bk.Bd0, none, 0⟩).x = false) := fun hq j hj => by
    by_cases e : j = k
    ·rw [e]; exact hq
    ·exact HNO.out j (by omega)
   generalize ps.getD k ⟨Bk.Bd0, none, 0⟩ = p at *
   obtain ⟨y, Ay, cy⟩ := p
   unfold bpL bdL at hat
   dsimp only at hat hok HQ HNX
   have HC := Lib.hid (HT.out y Ay cy wr (HXO.out.on HB.out) hok)
   have c0 := hat 0 _ rfl
   have c1 := hat 1 _ rfl
   have c2 := hat 2 _ rfl
   have c3 := hat 3 _ rfl
   have c4 := hat 4 _ rfl
   have c5 := hat 5 _ rfl
   rw [Nat.add_zero] at c0
   clear hat hok hbd
   cases hq : bdEq x y with
   | true =>
    have HM := Lib.hid (HQ.out HNO.out hq)
    rw [hq] at HC
    clear hq
    go_wp2_with fail
    refine HC.out.mono ?_
    rintro e w' ⟨rfl, hB1⟩
    have HB1 := Lib.hid (HB.out.trans (hB1.mono HB.out.size))
    clear hB1
    go_wp2_with fail
    go_ret
    exact ⟨ret_nat HM.out.symm, HB1.out⟩
   | false =>
    have HNEXT := Lib.hid (HNX.out hq)
    rw [hq] at HC
    clear hq
    go_wp2_with fail
    refine HC.out.mono ?_
    rintro e w' ⟨rfl, hB1⟩
    have HB1 := Lib.hid (HB.out.trans (hB1.mono HB.out.size))
    clear hB1
    go_wp2_with fail
    go_roundg (gk - 1)
    case rel => exact ⟨k + 1, by have := HK.out; have := HN.out; omega, by go_num, HNEXT.out, HB1.out⟩
    case measure => have := HK.out; have := HN.out; omega
  ·have HM := Lib.hid (HNONE.out (fun i hi => HNO.out i (by have := HN.out; omega)))
   go_wp2_with fail
   go_ret
   exact ⟨ret_nat HM.out.symm, HB.out⟩
theorem contBd_any (x : Bd) (Ax : Option Addr) (cx : Nat) (ps : List Bp) (B : Option Addr) (d : Nat) (w : World) (hl : ps.length ≤ 100000) (hx : BdOk w x Ax cx) (hp : Bds w B ps) :
  Calls Tryz.prog 128 #[.slice B ps.length d, .func (.func 129) #[bdV x Ax cx] #[]] w fun e w' => e = .returned (.bool (ps.any fun p => bdEq x p.x)) ∧ Below w.heap.size w w' := by
 have HC := Lib.hid (indexBd_any x Ax cx ps B d w hl hx hp)
 have HA := Lib.hid (idx_any (fun p : Bp => bdEq x p.x) ps)
 clear hx hp
 obtain ⟨M, hM⟩ : ∃ M, M = idx (fun p : Bp => bdEq x p.x) ps := ⟨_, rfl⟩
 rw [← hM] at HC HA
 clear hM
 simp only [bdV] at *
 go_enter Tryz.func128, Tryz.ntmps128
 go_wp2_with fail
 refine HC.out.mono ?_
 rintro e w' ⟨rfl, hB1⟩
 have HB1 := Lib.hid hB1
 clear hB1
 go_wp2_with fail
 go_ret
 exact ⟨ret_bool (by rw [← HA.out]), HB1.out⟩
theorem any_mem {x : Bd} {ps : List Bp} {l : List Bd} (h : ps.map Bp.x = l) : (ps.any fun p => bdEq x p.x) = decide (x ∈ l) := by
 subst h
 rw [Bool.eq_iff_iff, List.any_eq_true, decide_eq_true_eq, List.mem_map]
 constructor
 ·rintro ⟨p, hp, he⟩
  rw [bdEq_dec] at he
  exact ⟨p, hp, (of_decide_eq_true he).symm⟩
 ·rintro ⟨p, hp, he⟩
  exact ⟨p, hp, by rw [bdEq_dec, he]; exact decide_eq_true rfl⟩
theorem rtHas_any (b : Bk) (A : Option Addr) (c : Nat) (B : Option Addr) (d : Nat) (ps : List Bp) (x : Bd) (Ax : Option Addr) (cx : Nat) (w : World) (hl : b.binds.length ≤ 1000) (hI : BkAt w A c B d b ps) (hx : BdOk w x Ax cx) :
  Calls Tryz.prog 110 #[bkV A c B d b, bdV x Ax cx] w fun e w' => e = .returned (.bool (decide (x ∈ b.binds))) ∧ Below w.heap.size w w' := by
 obtain ⟨shops, binds⟩ := b
 dsimp only at hl ⊢
 have hml := hI.len
 dsimp only at hml
 have hb0 := rtTwo w (.cells #[.slice A shops.length c, .slice B binds.length d] 133) (.cells #[.string (ofL x.shop), .string (ofL x.to), .bool x.up, .string (ofL x.key), .slice Ax x.want.length cx, .bool x.all] 48)
 have hc := contBd_any x Ax cx ps B d _ (by omega) (hx.on hb0) (hI.bds.on hb0)
 rw [any_mem hI.xs, hml] at hc
 dsimp only at hc
 have HC := Lib.hid hc
 have HB0 := Lib.hid hb0
 generalize decide (x ∈ binds) = M at *
 simp only [bkV, bdV] at *
 clear hI hx hb0 hc hml
 go_enter Tryz.func110, Tryz.ntmps110
 go_wp2_with fail
 refine HC.out.mono ?_
 rintro e w' ⟨rfl, hB1⟩
 have HB1 := Lib.hid (bthen HB0.out hB1 (Nat.le_refl _))
 clear hB1
 go_wp2_with fail
 go_ret
 exact ⟨rfl, HB1.out⟩
end Go.Proofs.YtaikigponkjkgaaGreatDoor
end
