/-
  ROWS OF EXCHANGES: slices.Grow of none, slices.Concat of two, slices.Clone: walked. ROWS OF BINDINGS: slices.Grow of none, slices.Concat of two, slices.Clone: walked. A BINDING OF ONE's OWN; one more in a list; the list of exchanges: walked.
-/
import Derived.Test.YtaikigponkjkgaaGreatDoorDs02
import Derived.Test.YtaikigponkjkgaaGreatDoorDs03
import Derived.Test.YtaikigponkjkgaaGreatDoorDs05
import Derived.Test.YtaikigponkjkgaaGreatDoorDs26
import Derived.Deep.Upon
import Derived.Laws.AppendOwnNone
import Derived.BigQuiet
section
namespace Go.Proofs.YtaikigponkjkgaaGreatDoor
open Go.ChangeShapes Go.WideShapes Go.ChangeAt Go.RowKit Go.Lib
theorem infoSh : (Tryz.prog.info? 43).map (fun i => (i.zero, i.size, i.bytes)) = some (some (.agg #[.string ⟨#[]⟩, .int .u8 0, .string ⟨#[]⟩]), 3, 40) := by kernel_rfl
/-- one appended to a row that has no room -/
theorem moreSh_run {W : World} {n : Nat} {cs xs : List Value} {A : Option Addr} {b : Nat} (hl : n ≤ 100000) (hp : Rws W A cs) (hlen : cs.length = n * 3) (hxl : xs.length = 3) (hxo : ∀ u ∈ xs, u.oneCell' = true) (hx : ∀ j u, xs[j]? = some u → W.cell? ((⟨b, 0, none⟩ : Addr).add j) = some u) (hn : A = none → n = 0) :
    ∃ g c' w', (Builtin.append_ #[130, 130] 130 #[.slice A n n, .slice (some ⟨b, 0, none⟩) 1 1]).run Tryz.prog W = .ok (.slice (some ⟨g, 0, none⟩) (n + 1) c') w' ∧ w'.ownsRow W.heap.size 43 3 (.slice (some ⟨g, 0, none⟩) (n + 1) c') (n + 1) (cs ++ xs) ∧ W.grownBy w' none := by
  obtain ⟨i1, hi1, hz0, hz1, hz2⟩ := info_parts infoSh
  cases A with
  | none =>
    have h0 := hn rfl
    subst h0
    have hcs := hp.no
    subst hcs
    obtain ⟨gg, cap, w', hr, h2, h3, h4, h5⟩ := run_append_lies (P := Tryz.prog) W 130 130 W.heap.size 43 i1 _ 3 40 Tryz.underlying130 hi1 hz0 hz1 hz2 rfl (by omega) (.slice none 0 0) 0 [] (World.ownsRow_nil _ _ _ _) ⟨b, 0, none⟩ 1 1 xs (by rw [hxl]) hx hxo (by omega) (by unfold maxLen; omega) (by omega) (Nat.le_refl _) W.heap.size rfl
    exact ⟨gg, cap, w', hr, h2, h3⟩
  | some ad =>
    have hcell : ∀ j u, cs[j]? = some u → W.cell? (ad.add j) = some u := by
      intro j u hj
      obtain ⟨b', off, e, -, hc⟩ := hp.at_ j u hj
      cases e
      rw [rws_add]
      exact hc
    obtain ⟨v', w', hr, h2, h3⟩ := run_append_arg_grows (P := Tryz.prog) W 130 130 43 i1 _ 3 40 Tryz.underlying130 hi1 hz0 hz1 hz2 rfl (by omega) ad n n cs hlen hcell ⟨b, 0, none⟩ 1 1 xs (by rw [hxl]) hx (by omega) (by unfold maxLen; omega) (by omega)
    obtain ⟨g, cap, rfl, _, hlt⟩ := h2.form (by omega)
    exact ⟨g, cap, w', hr, h2, h3⟩
end Go.Proofs.YtaikigponkjkgaaGreatDoor
end
section
namespace Go.Proofs.YtaikigponkjkgaaGreatDoor
open Go.ChangeShapes Go.WideShapes Go.ChangeAt Go.RowKit Go.Lib
theorem infoBd : (Tryz.prog.info? 48).map (fun i => (i.zero, i.size, i.bytes)) = some (some (.agg #[.string ⟨#[]⟩, .string ⟨#[]⟩, .bool false, .string ⟨#[]⟩, .slice none 0 0, .bool false]), 6, 88) := by kernel_rfl
/-- one appended to a row that has no room -/
theorem moreBd_run {W : World} {n : Nat} {cs xs : List Value} {A : Option Addr} {b : Nat} (hl : n ≤ 100000) (hp : Rws W A cs) (hlen : cs.length = n * 6) (hxl : xs.length = 6) (hxo : ∀ u ∈ xs, u.oneCell' = true) (hx : ∀ j u, xs[j]? = some u → W.cell? ((⟨b, 0, none⟩ : Addr).add j) = some u) (hn : A = none → n = 0) :
    ∃ g c' w', (Builtin.append_ #[131, 131] 131 #[.slice A n n, .slice (some ⟨b, 0, none⟩) 1 1]).run Tryz.prog W = .ok (.slice (some ⟨g, 0, none⟩) (n + 1) c') w' ∧ w'.ownsRow W.heap.size 48 6 (.slice (some ⟨g, 0, none⟩) (n + 1) c') (n + 1) (cs ++ xs) ∧ W.grownBy w' none := by
  obtain ⟨i1, hi1, hz0, hz1, hz2⟩ := info_parts infoBd
  cases A with
  | none =>
    have h0 := hn rfl
    subst h0
    have hcs := hp.no
    subst hcs
    obtain ⟨gg, cap, w', hr, h2, h3, h4, h5⟩ := run_append_lies (P := Tryz.prog) W 131 131 W.heap.size 48 i1 _ 6 88 Tryz.underlying131 hi1 hz0 hz1 hz2 rfl (by omega) (.slice none 0 0) 0 [] (World.ownsRow_nil _ _ _ _) ⟨b, 0, none⟩ 1 1 xs (by rw [hxl]) hx hxo (by omega) (by unfold maxLen; omega) (by omega) (Nat.le_refl _) W.heap.size rfl
    exact ⟨gg, cap, w', hr, h2, h3⟩
  | some ad =>
    have hcell : ∀ j u, cs[j]? = some u → W.cell? (ad.add j) = some u := by
      intro j u hj
      obtain ⟨b', off, e, -, hc⟩ := hp.at_ j u hj
      cases e
      rw [rws_add]
      exact hc
    obtain ⟨v', w', hr, h2, h3⟩ := run_append_arg_grows (P := Tryz.prog) W 131 131 48 i1 _ 6 88 Tryz.underlying131 hi1 hz0 hz1 hz2 rfl (by omega) ad n n cs hlen hcell ⟨b, 0, none⟩ 1 1 xs (by rw [hxl]) hx (by omega) (by unfold maxLen; omega) (by omega)
    obtain ⟨g, cap, rfl, _, hlt⟩ := h2.form (by omega)
    exact ⟨g, cap, w', hr, h2, h3⟩
end Go.Proofs.YtaikigponkjkgaaGreatDoor
end
section
namespace Go.Proofs.YtaikigponkjkgaaGreatDoor
open Go.ChangeShapes Go.WideShapes Go.ChangeAt Go.RowKit
theorem OwnPrs.rtAll {B : Nat} {A : Option Addr} {c : Nat} {l : List Hd.Pr} {g : Nat} (hg : ∀ a, A = some a → g ≠ a.block) : ∀ (vs : List Value) (j : Nat) {W : World}, OwnPrs B W A c l → OwnPrs B (Go.Proofs.YtaikigponkjkgaaGreatDoor.putAll g j vs W) A c l
  | [], _, _, h => h
  | v :: vs, j, _, h => OwnPrs.rtAll hg vs (j + 1) (h.aside hg j v)
def BdOwnPost (x : Bd) (w : World) (e : Ending) (w' : World) : Prop := ∃ A' c', e = .returned (bdV x A' c') ∧ OwnPrs w.heap.size w' A' c' x.want ∧ Below w.heap.size w w'
set_option maxRecDepth 100000 in
set_option maxHeartbeats 4000000 in
theorem bdOwn_any (x : Bd) (A : Option Addr) (c : Nat) (w : World) (hl : x.want.length ≤ 100000) (hc : x.want.length ≤ c) (hp : Prs w A x.want) : Calls Tryz.prog 113 #[bdV x A c] w (BdOwnPost x w) := by
  have hb0 := rtTwo w (.cells #[.string (ofL x.shop), .string (ofL x.to), .bool x.up, .string (ofL x.key), .slice A x.want.length c, .bool x.all] 48) (.cells #[.string ⟨#[]⟩, .string ⟨#[]⟩, .bool false, .string ⟨#[]⟩, .slice none 0 0, .bool false] 48)
  have HX0 := Lib.hid (rtNext (rtAt0 w #[.string (ofL x.shop), .string (ofL x.to), .bool x.up, .string (ofL x.key), .slice A x.want.length c, .bool x.all] 48) (.cells #[.string ⟨#[]⟩, .string ⟨#[]⟩, .bool false, .string ⟨#[]⟩, .slice none 0 0, .bool false] 48))
  have HR0 := Lib.hid (rtAt1 w (.cells #[.string (ofL x.shop), .string (ofL x.to), .bool x.up, .string (ofL x.key), .slice A x.want.length c, .bool x.all] 48) #[.string ⟨#[]⟩, .string ⟨#[]⟩, .bool false, .string ⟨#[]⟩, .slice none 0 0, .bool false] 48)
  have hC := cloneOwn_any x.want A c _ hl hc (hp.on hb0)
  have HSZ := Lib.hid (show ((w.alloc (.cells #[.string (ofL x.shop), .string (ofL x.to), .bool x.up, .string (ofL x.key), .slice A x.want.length c, .bool x.all] 48)).alloc (.cells #[.string ⟨#[]⟩, .string ⟨#[]⟩, .bool false, .string ⟨#[]⟩, .slice none 0 0, .bool false] 48)).heap.size = w.heap.size + 2 by simp)
  unfold ClOwn at hC
  rw [HSZ.out] at hC
  have HC := Lib.hid hC
  have HB0 := Lib.hid hb0
  clear hC hp hb0
  simp only [bdV]
  go_enter Tryz.func113, Tryz.ntmps113
  go_wp2_with fail
  generalize (w.alloc (.cells #[.string (ofL x.shop), .string (ofL x.to), .bool x.up, .string (ofL x.key), .slice A x.want.length c, .bool x.all] 48)).alloc (.cells #[.string ⟨#[]⟩, .string ⟨#[]⟩, .bool false, .string ⟨#[]⟩, .slice none 0 0, .bool false] 48) = w2 at *
  refine HC.out.mono ?_
  rintro e w3 ⟨A2, k2, rfl, ho, hb⟩
  rw [← HSZ.out] at hb
  have HX3 := Lib.hid (HX0.out.on hb)
  have HR3 := Lib.hid (HR0.out.on hb)
  have HB3 := Lib.hid (bthen HB0.out hb (Nat.le_refl _))
  have HO3 := Lib.hid ho
  have HA3 := Lib.hid (show ∀ a, A2 = some a → w.heap.size + 2 ≤ a.block from fun a ha => (ho.row.2.2 a ha).1)
  clear ho hb
  have cl := HX3.out.lt
  have cf : ∀ j, w3.frozen? ⟨w.heap.size, j, none⟩ = false := HX3.out.s
  have ql := HR3.out.lt
  have qf : ∀ j, w3.frozen? ⟨w.heap.size + 1, j, none⟩ = false := HR3.out.s
  have c0 := HX3.out.cs 0 _ rfl
  have c1 := HX3.out.cs 1 _ rfl
  have c2 := HX3.out.cs 2 _ rfl
  have c3 := HX3.out.cs 3 _ rfl
  have c4 := HX3.out.cs 4 _ rfl
  have c5 := HX3.out.cs 5 _ rfl
  have q0 := HR3.out.cs 0 _ rfl
  have q1 := HR3.out.cs 1 _ rfl
  have q2 := HR3.out.cs 2 _ rfl
  have q3 := HR3.out.cs 3 _ rfl
  have q4 := HR3.out.cs 4 _ rfl
  have q5 := HR3.out.cs 5 _ rfl
  go_wp2_with fail
  have hX4 := HX3.out.put 4 (.slice A2 x.want.length k2) (by simp)
  have hQ4 := (HR3.out.aside (g := w.heap.size) (by omega) 4 (.slice A2 x.want.length k2)).fill [.string (ofL x.shop), .string (ofL x.to), .bool x.up, .string (ofL x.key), .slice A2 x.want.length k2, .bool x.all] rfl
  have hO5 := (HO3.out.aside (g := w.heap.size) (fun a ha => by have := HA3.out a ha; omega) 4 (.slice A2 x.want.length k2)).rtAll (g := w.heap.size + 1) (fun a ha => by have := HA3.out a ha; omega) [.string (ofL x.shop), .string (ofL x.to), .bool x.up, .string (ofL x.key), .slice A2 x.want.length k2, .bool x.all] 0
  have hB5 := below_putAll (g := w.heap.size + 1) (by omega) [.string (ofL x.shop), .string (ofL x.to), .bool x.up, .string (ofL x.key), .slice A2 x.want.length k2, .bool x.all] 0 (HB3.out.setCell (p := ⟨w.heap.size, 4, none⟩) (Nat.le_refl _) (.slice A2 x.want.length k2))
  simp only [putAll] at hQ4 hO5 hB5
  have g0 := hQ4.cs 0 _ rfl
  have g1 := hQ4.cs 1 _ rfl
  have g2 := hQ4.cs 2 _ rfl
  have g3 := hQ4.cs 3 _ rfl
  have g4 := hQ4.cs 4 _ rfl
  have g5 := hQ4.cs 5 _ rfl
  exact bodyPost_ret (v := .agg #[.string (ofL x.shop), .string (ofL x.to), .bool x.up, .string (ofL x.key), .slice A2 x.want.length k2, .bool x.all]) (by simp [results, Tryz.results113, go_sem, g0, g1, g2, g3, g4, g5]) rfl ⟨A2, k2, rfl, World.ownsRow.mono hO5 (by omega), hB5⟩
def AddShPost (n : Nat) (cs : List Value) (w : World) (e : Ending) (w' : World) : Prop := ∃ g c', e = .returned (.slice (some ⟨g, 0, none⟩) (n + 1) c') ∧ w'.ownsRow w.heap.size 43 3 (.slice (some ⟨g, 0, none⟩) (n + 1) c') (n + 1) cs ∧ Below w.heap.size w w'
set_option maxRecDepth 100000 in
set_option maxHeartbeats 4000000 in
theorem addSh_any (n : Nat) (cs : List Value) (A : Option Addr) (c : Nat) (x : Sh) (w : World) (hl : n ≤ 100000) (hc : n ≤ c) (hn : A = none → c = 0) (hlen : cs.length = n * 3) (hp : Rws w A cs) :
    Calls Tryz.prog 109 #[.slice A n c, shV x] w (AddShPost n (cs ++ shL x) w) := by
  have hb0 := rtOne w (.cells #[.string (ofL x.name), .int .u8 (x.sort : Int), .string (ofL x.to)] 43)
  have HX0 := Lib.hid (rtAt0 w #[.string (ofL x.name), .int .u8 (x.sort : Int), .string (ofL x.to)] 43)
  have HSZ := Lib.hid (show (w.alloc (.cells #[.string (ofL x.name), .int .u8 (x.sort : Int), .string (ofL x.to)] 43)).heap.size = w.heap.size + 1 by simp)
  have hdr : Below (w.alloc (.cells #[.string (ofL x.name), .int .u8 (x.sort : Int), .string (ofL x.to)] 43)).heap.size (w.alloc (.cells #[.string (ofL x.name), .int .u8 (x.sort : Int), .string (ofL x.to)] 43)) (w.alloc (.cells #[.string (ofL x.name), .int .u8 (x.sort : Int), .string (ofL x.to)] 43)).drew := (Below.refl _ _).drew
  have hal := rtOne (w.alloc (.cells #[.string (ofL x.name), .int .u8 (x.sort : Int), .string (ofL x.to)] 43)).drew (.cells #[.string (ofL x.name), .int .u8 (x.sort : Int), .string (ofL x.to)] 43)
  have hnew := BoxC.new (w := (w.alloc (.cells #[.string (ofL x.name), .int .u8 (x.sort : Int), .string (ofL x.to)] 43)).drew) (W := (w.alloc (.cells #[.string (ofL x.name), .int .u8 (x.sort : Int), .string (ofL x.to)] 43)).drew) (Nat.le_refl _) #[.string (ofL x.name), .int .u8 (x.sort : Int), .string (ofL x.to)] 43
  obtain ⟨g, c', w7, hrun, hown, hgr⟩ := moreSh_run (W := (w.alloc (.cells #[.string (ofL x.name), .int .u8 (x.sort : Int), .string (ofL x.to)] 43)).drew.alloc (.cells #[.string (ofL x.name), .int .u8 (x.sort : Int), .string (ofL x.to)] 43)) (n := n) (cs := cs) (xs := shL x) (A := A) (b := (w.alloc (.cells #[.string (ofL x.name), .int .u8 (x.sort : Int), .string (ofL x.to)] 43)).drew.heap.size) hl (((hp.on hb0).on hdr).on hal) hlen rfl (by intro u hu; simp only [shL, List.mem_cons, List.not_mem_nil, or_false] at hu; rcases hu with rfl | rfl | rfl <;> rfl) (fun j u hu => by
    rw [rws_add, Nat.zero_add]
    exact hnew.cs j u hu) (fun e => by have := hn e; omega)
  have hb7 : Below w.heap.size w w7 := (bthen (bthen hb0 hdr (Nat.le_refl _)) hal (Nat.le_refl _)).grown hgr (by simp; omega) (fun k hk => by cases hk)
  have HRUN := Lib.hid hrun
  have HE := Lib.hid (show AddShPost n (cs ++ shL x) w (.returned (.slice (some ⟨g, 0, none⟩) (n + 1) c')) w7 from ⟨g, c', rfl, World.ownsRow.mono hown (by simp; omega), hb7⟩)
  have HCL := Lib.hid (fun W => clipSh_any A n c W hc)
  have HD := Lib.hid hdr
  have HN := Lib.hid hnew
  clear hb0 hdr hal hnew hrun hown hgr hb7 hp hn hlen
  simp only [shV]
  go_enter Tryz.func109, Tryz.ntmps109
  go_upto_region 1 with fail
  generalize hw1 : w.alloc (.cells #[.string (ofL x.name), .int .u8 (x.sort : Int), .string (ofL x.to)] 43) = w1 at *
  have HX1 := Lib.hid (HX0.out.on HD.out)
  have x0 := HX1.out.cs 0 _ rfl
  have x1 := HX1.out.cs 1 _ rfl
  have x2 := HX1.out.cs 2 _ rfl
  have xl := HX1.out.lt
  go_region_law (first
    | (go_simp; go_at_call 127; refine (HCL.out _).mono ?_; rintro e w5 ⟨rfl, rfl⟩)
    | (refine step_append_run (by rfl) _ _ 130 (by rfl) _ _ (by rfl) (by rfl) HRUN.out ?_))
  all_goals
    go_wp2_with fail
    go_ret
    exact HE.out
def AddBdPost (n : Nat) (cs : List Value) (w : World) (e : Ending) (w' : World) : Prop := ∃ g c', e = .returned (.slice (some ⟨g, 0, none⟩) (n + 1) c') ∧ w'.ownsRow w.heap.size 48 6 (.slice (some ⟨g, 0, none⟩) (n + 1) c') (n + 1) cs ∧ Below w.heap.size w w'
set_option maxRecDepth 100000 in
set_option maxHeartbeats 4000000 in
theorem addBd_any (n : Nat) (cs : List Value) (A : Option Addr) (c : Nat) (x : Bd) (Ax : Option Addr) (cx : Nat) (w : World) (hl : n ≤ 100000) (hc : n ≤ c) (hn : A = none → c = 0) (hlen : cs.length = n * 6) (hp : Rws w A cs) :
    Calls Tryz.prog 112 #[.slice A n c, bdV x Ax cx] w (AddBdPost n (cs ++ bdL x Ax cx) w) := by
  have hb0 := rtOne w (.cells #[.string (ofL x.shop), .string (ofL x.to), .bool x.up, .string (ofL x.key), .slice Ax x.want.length cx, .bool x.all] 48)
  have HX0 := Lib.hid (rtAt0 w #[.string (ofL x.shop), .string (ofL x.to), .bool x.up, .string (ofL x.key), .slice Ax x.want.length cx, .bool x.all] 48)
  have HSZ := Lib.hid (show (w.alloc (.cells #[.string (ofL x.shop), .string (ofL x.to), .bool x.up, .string (ofL x.key), .slice Ax x.want.length cx, .bool x.all] 48)).heap.size = w.heap.size + 1 by simp)
  have hdr : Below (w.alloc (.cells #[.string (ofL x.shop), .string (ofL x.to), .bool x.up, .string (ofL x.key), .slice Ax x.want.length cx, .bool x.all] 48)).heap.size (w.alloc (.cells #[.string (ofL x.shop), .string (ofL x.to), .bool x.up, .string (ofL x.key), .slice Ax x.want.length cx, .bool x.all] 48)) (w.alloc (.cells #[.string (ofL x.shop), .string (ofL x.to), .bool x.up, .string (ofL x.key), .slice Ax x.want.length cx, .bool x.all] 48)).drew := (Below.refl _ _).drew
  have hal := rtOne (w.alloc (.cells #[.string (ofL x.shop), .string (ofL x.to), .bool x.up, .string (ofL x.key), .slice Ax x.want.length cx, .bool x.all] 48)).drew (.cells #[.string (ofL x.shop), .string (ofL x.to), .bool x.up, .string (ofL x.key), .slice Ax x.want.length cx, .bool x.all] 48)
  have hnew := BoxC.new (w := (w.alloc (.cells #[.string (ofL x.shop), .string (ofL x.to), .bool x.up, .string (ofL x.key), .slice Ax x.want.length cx, .bool x.all] 48)).drew) (W := (w.alloc (.cells #[.string (ofL x.shop), .string (ofL x.to), .bool x.up, .string (ofL x.key), .slice Ax x.want.length cx, .bool x.all] 48)).drew) (Nat.le_refl _) #[.string (ofL x.shop), .string (ofL x.to), .bool x.up, .string (ofL x.key), .slice Ax x.want.length cx, .bool x.all] 48
  obtain ⟨g, c', w7, hrun, hown, hgr⟩ := moreBd_run (W := (w.alloc (.cells #[.string (ofL x.shop), .string (ofL x.to), .bool x.up, .string (ofL x.key), .slice Ax x.want.length cx, .bool x.all] 48)).drew.alloc (.cells #[.string (ofL x.shop), .string (ofL x.to), .bool x.up, .string (ofL x.key), .slice Ax x.want.length cx, .bool x.all] 48)) (n := n) (cs := cs) (xs := bdL x Ax cx) (A := A) (b := (w.alloc (.cells #[.string (ofL x.shop), .string (ofL x.to), .bool x.up, .string (ofL x.key), .slice Ax x.want.length cx, .bool x.all] 48)).drew.heap.size) hl (((hp.on hb0).on hdr).on hal) hlen rfl (by intro u hu; simp only [bdL, List.mem_cons, List.not_mem_nil, or_false] at hu; rcases hu with rfl | rfl | rfl | rfl | rfl | rfl <;> rfl) (fun j u hu => by
    rw [rws_add, Nat.zero_add]
    exact hnew.cs j u hu) (fun e => by have := hn e; omega)
  have hb7 : Below w.heap.size w w7 := (bthen (bthen hb0 hdr (Nat.le_refl _)) hal (Nat.le_refl _)).grown hgr (by simp; omega) (fun k hk => by cases hk)
  have HRUN := Lib.hid hrun
  have HE := Lib.hid (show AddBdPost n (cs ++ bdL x Ax cx) w (.returned (.slice (some ⟨g, 0, none⟩) (n + 1) c')) w7 from ⟨g, c', rfl, World.ownsRow.mono hown (by simp; omega), hb7⟩)
  have HCL := Lib.hid (fun W => clipBd_any A n c W hc)
  have HD := Lib.hid hdr
  have HN := Lib.hid hnew
  clear hb0 hdr hal hnew hrun hown hgr hb7 hp hn hlen
  simp only [bdV]
  go_enter Tryz.func112, Tryz.ntmps112
  go_upto_region 1 with fail
  generalize hw1 : w.alloc (.cells #[.string (ofL x.shop), .string (ofL x.to), .bool x.up, .string (ofL x.key), .slice Ax x.want.length cx, .bool x.all] 48) = w1 at *
  have HX1 := Lib.hid (HX0.out.on HD.out)
  have x0 := HX1.out.cs 0 _ rfl
  have x1 := HX1.out.cs 1 _ rfl
  have x2 := HX1.out.cs 2 _ rfl
  have x3 := HX1.out.cs 3 _ rfl
  have x4 := HX1.out.cs 4 _ rfl
  have x5 := HX1.out.cs 5 _ rfl
  have xl := HX1.out.lt
  go_region_law (first
    | (go_simp; go_at_call 132; refine (HCL.out _).mono ?_; rintro e w5 ⟨rfl, rfl⟩)
    | (refine step_append_run (by rfl) _ _ 131 (by rfl) _ _ (by rfl) (by rfl) HRUN.out ?_))
  all_goals
    go_wp2_with fail
    go_ret
    exact HE.out
end Go.Proofs.YtaikigponkjkgaaGreatDoor
end
