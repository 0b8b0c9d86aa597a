/-
  ROWS OF EXCHANGES: slices.Grow of none, slices.Concat of two, slices.Clone: walked. ROWS OF BINDINGS: slices.Grow of none, slices.Concat of two, slices.Clone: walked. A BINDING OF ONE's OWN; one more in a list; the list of exchanges: walked. CHANNELS: made, a credit, room, what is unsettled, one lent more: walked.
-/
import Derived.Test.YtgaggelpjaiabaaGreatDoorSp02
import Derived.Test.YtgaggelpjaiabaaGreatDoorSp03
import Derived.Test.YtgaggelpjaiabaaGreatDoorSp04
import Derived.Test.YtgaggelpjaiabaaGreatDoorSp31
import Derived.Deep.Upon
import Derived.Laws.AppendOwnNone
import Derived.BigQuiet
section
namespace Go.Proofs.YtgaggelpjaiabaaGreatDoor
open Go.ChangeShapes Go.WideShapes Go.ChangeAt Go.RowKit Go.Lib
theorem infoSh : (Tryz.prog.info? 105).map (fun i => (i.zero, i.size, i.bytes)) = some (some (.agg #[.string ⟨#[]⟩, .int .u8 0, .string ⟨#[]⟩]), 3, 40) := by kernel_rfl
/-- one appended to a row that has no room -/
theorem moreSh_run {W : World} {n : Nat} {cs xs : List Value} {A : Option Addr} {b : Nat} (hl : n ≤ 100000) (hp : Rws W A cs) (hlen : cs.length = n * 3) (hxl : xs.length = 3) (hxo : ∀ u ∈ xs, u.oneCell' = true) (hx : ∀ j u, xs[j]? = some u → W.cell? ((⟨b, 0, none⟩ : Addr).add j) = some u) (hn : A = none → n = 0) :
    ∃ g c' w', (Builtin.append_ #[242, 242] 242 #[.slice A n n, .slice (some ⟨b, 0, none⟩) 1 1]).run Tryz.prog W = .ok (.slice (some ⟨g, 0, none⟩) (n + 1) c') w' ∧ w'.ownsRow W.heap.size 105 3 (.slice (some ⟨g, 0, none⟩) (n + 1) c') (n + 1) (cs ++ xs) ∧ W.grownBy w' none := by
  obtain ⟨i1, hi1, hz0, hz1, hz2⟩ := info_parts infoSh
  cases A with
  | none =>
    have h0 := hn rfl
    subst h0
    have hcs := hp.no
    subst hcs
    obtain ⟨gg, cap, w', hr, h2, h3, h4, h5⟩ := run_append_lies (P := Tryz.prog) W 242 242 W.heap.size 105 i1 _ 3 40 Tryz.underlying242 hi1 hz0 hz1 hz2 rfl (by omega) (.slice none 0 0) 0 [] (World.ownsRow_nil _ _ _ _) ⟨b, 0, none⟩ 1 1 xs (by rw [hxl]) hx hxo (by omega) (by unfold maxLen; omega) (by omega) (Nat.le_refl _) W.heap.size rfl
    exact ⟨gg, cap, w', hr, h2, h3⟩
  | some ad =>
    have hcell : ∀ j u, cs[j]? = some u → W.cell? (ad.add j) = some u := by
      intro j u hj
      obtain ⟨b', off, e, -, hc⟩ := hp.at_ j u hj
      cases e
      rw [rws_add]
      exact hc
    obtain ⟨v', w', hr, h2, h3⟩ := run_append_arg_grows (P := Tryz.prog) W 242 242 105 i1 _ 3 40 Tryz.underlying242 hi1 hz0 hz1 hz2 rfl (by omega) ad n n cs hlen hcell ⟨b, 0, none⟩ 1 1 xs (by rw [hxl]) hx (by omega) (by unfold maxLen; omega) (by omega)
    obtain ⟨g, cap, rfl, _, hlt⟩ := h2.form (by omega)
    exact ⟨g, cap, w', hr, h2, h3⟩
end Go.Proofs.YtgaggelpjaiabaaGreatDoor
end
section
namespace Go.Proofs.YtgaggelpjaiabaaGreatDoor
open Go.ChangeShapes Go.WideShapes Go.ChangeAt Go.RowKit Go.Lib
theorem infoBd : (Tryz.prog.info? 109).map (fun i => (i.zero, i.size, i.bytes)) = some (some (.agg #[.string ⟨#[]⟩, .string ⟨#[]⟩, .bool false, .string ⟨#[]⟩, .slice none 0 0, .bool false]), 6, 88) := by kernel_rfl
/-- one appended to a row that has no room -/
theorem moreBd_run {W : World} {n : Nat} {cs xs : List Value} {A : Option Addr} {b : Nat} (hl : n ≤ 100000) (hp : Rws W A cs) (hlen : cs.length = n * 6) (hxl : xs.length = 6) (hxo : ∀ u ∈ xs, u.oneCell' = true) (hx : ∀ j u, xs[j]? = some u → W.cell? ((⟨b, 0, none⟩ : Addr).add j) = some u) (hn : A = none → n = 0) :
    ∃ g c' w', (Builtin.append_ #[243, 243] 243 #[.slice A n n, .slice (some ⟨b, 0, none⟩) 1 1]).run Tryz.prog W = .ok (.slice (some ⟨g, 0, none⟩) (n + 1) c') w' ∧ w'.ownsRow W.heap.size 109 6 (.slice (some ⟨g, 0, none⟩) (n + 1) c') (n + 1) (cs ++ xs) ∧ W.grownBy w' none := by
  obtain ⟨i1, hi1, hz0, hz1, hz2⟩ := info_parts infoBd
  cases A with
  | none =>
    have h0 := hn rfl
    subst h0
    have hcs := hp.no
    subst hcs
    obtain ⟨gg, cap, w', hr, h2, h3, h4, h5⟩ := run_append_lies (P := Tryz.prog) W 243 243 W.heap.size 109 i1 _ 6 88 Tryz.underlying243 hi1 hz0 hz1 hz2 rfl (by omega) (.slice none 0 0) 0 [] (World.ownsRow_nil _ _ _ _) ⟨b, 0, none⟩ 1 1 xs (by rw [hxl]) hx hxo (by omega) (by unfold maxLen; omega) (by omega) (Nat.le_refl _) W.heap.size rfl
    exact ⟨gg, cap, w', hr, h2, h3⟩
  | some ad =>
    have hcell : ∀ j u, cs[j]? = some u → W.cell? (ad.add j) = some u := by
      intro j u hj
      obtain ⟨b', off, e, -, hc⟩ := hp.at_ j u hj
      cases e
      rw [rws_add]
      exact hc
    obtain ⟨v', w', hr, h2, h3⟩ := run_append_arg_grows (P := Tryz.prog) W 243 243 109 i1 _ 6 88 Tryz.underlying243 hi1 hz0 hz1 hz2 rfl (by omega) ad n n cs hlen hcell ⟨b, 0, none⟩ 1 1 xs (by rw [hxl]) hx (by omega) (by unfold maxLen; omega) (by omega)
    obtain ⟨g, cap, rfl, _, hlt⟩ := h2.form (by omega)
    exact ⟨g, cap, w', hr, h2, h3⟩
end Go.Proofs.YtgaggelpjaiabaaGreatDoor
end
section
namespace Go.Proofs.YtgaggelpjaiabaaGreatDoor
open Go.ChangeShapes Go.WideShapes Go.ChangeAt Go.RowKit
theorem OwnPrs.rtAll {B : Nat} {A : Option Addr} {c : Nat} {l : List Hd.Pr} {g : Nat} (hg : ∀ a, A = some a → g ≠ a.block) : ∀ (vs : List Value) (j : Nat) {W : World}, OwnPrs B W A c l → OwnPrs B (Go.Proofs.YtgaggelpjaiabaaGreatDoor.putAll g j vs W) A c l
  | [], _, _, h => h
  | v :: vs, j, _, h => OwnPrs.rtAll hg vs (j + 1) (h.aside hg j v)
def BdOwnPost (x : Bd) (w : World) (e : Ending) (w' : World) : Prop := ∃ A' c', e = .returned (bdV x A' c') ∧ OwnPrs w.heap.size w' A' c' x.want ∧ Below w.heap.size w w'
set_option maxRecDepth 100000 in
set_option maxHeartbeats 4000000 in
theorem bdOwn_any (x : Bd) (A : Option Addr) (c : Nat) (w : World) (hl : x.want.length ≤ 100000) (hc : x.want.length ≤ c) (hp : Prs w A x.want) : Calls Tryz.prog 220 #[bdV x A c] w (BdOwnPost x w) := by
  have hb0 := rtTwo w (.cells #[.string (ofL x.shop), .string (ofL x.to), .bool x.up, .string (ofL x.key), .slice A x.want.length c, .bool x.all] 109) (.cells #[.string ⟨#[]⟩, .string ⟨#[]⟩, .bool false, .string ⟨#[]⟩, .slice none 0 0, .bool false] 109)
  have HX0 := Lib.hid (rtNext (rtAt0 w #[.string (ofL x.shop), .string (ofL x.to), .bool x.up, .string (ofL x.key), .slice A x.want.length c, .bool x.all] 109) (.cells #[.string ⟨#[]⟩, .string ⟨#[]⟩, .bool false, .string ⟨#[]⟩, .slice none 0 0, .bool false] 109))
  have HR0 := Lib.hid (rtAt1 w (.cells #[.string (ofL x.shop), .string (ofL x.to), .bool x.up, .string (ofL x.key), .slice A x.want.length c, .bool x.all] 109) #[.string ⟨#[]⟩, .string ⟨#[]⟩, .bool false, .string ⟨#[]⟩, .slice none 0 0, .bool false] 109)
  have hC := cloneOwn_any x.want A c _ hl hc (hp.on hb0)
  have HSZ := Lib.hid (show ((w.alloc (.cells #[.string (ofL x.shop), .string (ofL x.to), .bool x.up, .string (ofL x.key), .slice A x.want.length c, .bool x.all] 109)).alloc (.cells #[.string ⟨#[]⟩, .string ⟨#[]⟩, .bool false, .string ⟨#[]⟩, .slice none 0 0, .bool false] 109)).heap.size = w.heap.size + 2 by simp)
  unfold ClOwn at hC
  rw [HSZ.out] at hC
  have HC := Lib.hid hC
  have HB0 := Lib.hid hb0
  clear hC hp hb0
  simp only [bdV]
  go_enter Tryz.func220, Tryz.ntmps220
  go_wp2_with fail
  generalize (w.alloc (.cells #[.string (ofL x.shop), .string (ofL x.to), .bool x.up, .string (ofL x.key), .slice A x.want.length c, .bool x.all] 109)).alloc (.cells #[.string ⟨#[]⟩, .string ⟨#[]⟩, .bool false, .string ⟨#[]⟩, .slice none 0 0, .bool false] 109) = w2 at *
  refine HC.out.mono ?_
  rintro e w3 ⟨A2, k2, rfl, ho, hb⟩
  rw [← HSZ.out] at hb
  have HX3 := Lib.hid (HX0.out.on hb)
  have HR3 := Lib.hid (HR0.out.on hb)
  have HB3 := Lib.hid (bthen HB0.out hb (Nat.le_refl _))
  have HO3 := Lib.hid ho
  have HA3 := Lib.hid (show ∀ a, A2 = some a → w.heap.size + 2 ≤ a.block from fun a ha => (ho.row.2.2 a ha).1)
  clear ho hb
  have cl := HX3.out.lt
  have cf : ∀ j, w3.frozen? ⟨w.heap.size, j, none⟩ = false := HX3.out.s
  have ql := HR3.out.lt
  have qf : ∀ j, w3.frozen? ⟨w.heap.size + 1, j, none⟩ = false := HR3.out.s
  have c0 := HX3.out.cs 0 _ rfl
  have c1 := HX3.out.cs 1 _ rfl
  have c2 := HX3.out.cs 2 _ rfl
  have c3 := HX3.out.cs 3 _ rfl
  have c4 := HX3.out.cs 4 _ rfl
  have c5 := HX3.out.cs 5 _ rfl
  have q0 := HR3.out.cs 0 _ rfl
  have q1 := HR3.out.cs 1 _ rfl
  have q2 := HR3.out.cs 2 _ rfl
  have q3 := HR3.out.cs 3 _ rfl
  have q4 := HR3.out.cs 4 _ rfl
  have q5 := HR3.out.cs 5 _ rfl
  go_wp2_with fail
  have hX4 := HX3.out.put 4 (.slice A2 x.want.length k2) (by simp)
  have hQ4 := (HR3.out.aside (g := w.heap.size) (by omega) 4 (.slice A2 x.want.length k2)).fill [.string (ofL x.shop), .string (ofL x.to), .bool x.up, .string (ofL x.key), .slice A2 x.want.length k2, .bool x.all] rfl
  have hO5 := (HO3.out.aside (g := w.heap.size) (fun a ha => by have := HA3.out a ha; omega) 4 (.slice A2 x.want.length k2)).rtAll (g := w.heap.size + 1) (fun a ha => by have := HA3.out a ha; omega) [.string (ofL x.shop), .string (ofL x.to), .bool x.up, .string (ofL x.key), .slice A2 x.want.length k2, .bool x.all] 0
  have hB5 := below_putAll (g := w.heap.size + 1) (by omega) [.string (ofL x.shop), .string (ofL x.to), .bool x.up, .string (ofL x.key), .slice A2 x.want.length k2, .bool x.all] 0 (HB3.out.setCell (p := ⟨w.heap.size, 4, none⟩) (Nat.le_refl _) (.slice A2 x.want.length k2))
  simp only [putAll] at hQ4 hO5 hB5
  have g0 := hQ4.cs 0 _ rfl
  have g1 := hQ4.cs 1 _ rfl
  have g2 := hQ4.cs 2 _ rfl
  have g3 := hQ4.cs 3 _ rfl
  have g4 := hQ4.cs 4 _ rfl
  have g5 := hQ4.cs 5 _ rfl
  exact bodyPost_ret (v := .agg #[.string (ofL x.shop), .string (ofL x.to), .bool x.up, .string (ofL x.key), .slice A2 x.want.length k2, .bool x.all]) (by simp [results, Tryz.results220, go_sem, g0, g1, g2, g3, g4, g5]) rfl ⟨A2, k2, rfl, World.ownsRow.mono hO5 (by omega), hB5⟩
def AddShPost (n : Nat) (cs : List Value) (w : World) (e : Ending) (w' : World) : Prop := ∃ g c', e = .returned (.slice (some ⟨g, 0, none⟩) (n + 1) c') ∧ w'.ownsRow w.heap.size 105 3 (.slice (some ⟨g, 0, none⟩) (n + 1) c') (n + 1) cs ∧ Below w.heap.size w w'
set_option maxRecDepth 100000 in
set_option maxHeartbeats 4000000 in
theorem addSh_any (n : Nat) (cs : List Value) (A : Option Addr) (c : Nat) (x : Sh) (w : World) (hl : n ≤ 100000) (hc : n ≤ c) (hn : A = none → c = 0) (hlen : cs.length = n * 3) (hp : Rws w A cs) :
    Calls Tryz.prog 216 #[.slice A n c, shV x] w (AddShPost n (cs ++ shL x) w) := by
  have hb0 := rtOne w (.cells #[.string (ofL x.name), .int .u8 (x.sort : Int), .string (ofL x.to)] 105)
  have HX0 := Lib.hid (rtAt0 w #[.string (ofL x.name), .int .u8 (x.sort : Int), .string (ofL x.to)] 105)
  have HSZ := Lib.hid (show (w.alloc (.cells #[.string (ofL x.name), .int .u8 (x.sort : Int), .string (ofL x.to)] 105)).heap.size = w.heap.size + 1 by simp)
  have hdr : Below (w.alloc (.cells #[.string (ofL x.name), .int .u8 (x.sort : Int), .string (ofL x.to)] 105)).heap.size (w.alloc (.cells #[.string (ofL x.name), .int .u8 (x.sort : Int), .string (ofL x.to)] 105)) (w.alloc (.cells #[.string (ofL x.name), .int .u8 (x.sort : Int), .string (ofL x.to)] 105)).drew := (Below.refl _ _).drew
  have hal := rtOne (w.alloc (.cells #[.string (ofL x.name), .int .u8 (x.sort : Int), .string (ofL x.to)] 105)).drew (.cells #[.string (ofL x.name), .int .u8 (x.sort : Int), .string (ofL x.to)] 105)
  have hnew := BoxC.new (w := (w.alloc (.cells #[.string (ofL x.name), .int .u8 (x.sort : Int), .string (ofL x.to)] 105)).drew) (W := (w.alloc (.cells #[.string (ofL x.name), .int .u8 (x.sort : Int), .string (ofL x.to)] 105)).drew) (Nat.le_refl _) #[.string (ofL x.name), .int .u8 (x.sort : Int), .string (ofL x.to)] 105
  obtain ⟨g, c', w7, hrun, hown, hgr⟩ := moreSh_run (W := (w.alloc (.cells #[.string (ofL x.name), .int .u8 (x.sort : Int), .string (ofL x.to)] 105)).drew.alloc (.cells #[.string (ofL x.name), .int .u8 (x.sort : Int), .string (ofL x.to)] 105)) (n := n) (cs := cs) (xs := shL x) (A := A) (b := (w.alloc (.cells #[.string (ofL x.name), .int .u8 (x.sort : Int), .string (ofL x.to)] 105)).drew.heap.size) hl (((hp.on hb0).on hdr).on hal) hlen rfl (by intro u hu; simp only [shL, List.mem_cons, List.not_mem_nil, or_false] at hu; rcases hu with rfl | rfl | rfl <;> rfl) (fun j u hu => by
    rw [rws_add, Nat.zero_add]
    exact hnew.cs j u hu) (fun e => by have := hn e; omega)
  have hb7 : Below w.heap.size w w7 := (bthen (bthen hb0 hdr (Nat.le_refl _)) hal (Nat.le_refl _)).grown hgr (by simp; omega) (fun k hk => by cases hk)
  have HRUN := Lib.hid hrun
  have HE := Lib.hid (show AddShPost n (cs ++ shL x) w (.returned (.slice (some ⟨g, 0, none⟩) (n + 1) c')) w7 from ⟨g, c', rfl, World.ownsRow.mono hown (by simp; omega), hb7⟩)
  have HCL := Lib.hid (fun W => clipSh_any A n c W hc)
  have HD := Lib.hid hdr
  have HN := Lib.hid hnew
  clear hb0 hdr hal hnew hrun hown hgr hb7 hp hn hlen
  simp only [shV]
  go_enter Tryz.func216, Tryz.ntmps216
  go_upto_region 1 with fail
  generalize hw1 : w.alloc (.cells #[.string (ofL x.name), .int .u8 (x.sort : Int), .string (ofL x.to)] 105) = w1 at *
  have HX1 := Lib.hid (HX0.out.on HD.out)
  have x0 := HX1.out.cs 0 _ rfl
  have x1 := HX1.out.cs 1 _ rfl
  have x2 := HX1.out.cs 2 _ rfl
  have xl := HX1.out.lt
  go_region_law (first
    | (go_simp; go_at_call 228; refine (HCL.out _).mono ?_; rintro e w5 ⟨rfl, rfl⟩)
    | (refine step_append_run (by rfl) _ _ 242 (by rfl) _ _ (by rfl) (by rfl) HRUN.out ?_))
  all_goals
    go_wp2_with fail
    go_ret
    exact HE.out
def AddBdPost (n : Nat) (cs : List Value) (w : World) (e : Ending) (w' : World) : Prop := ∃ g c', e = .returned (.slice (some ⟨g, 0, none⟩) (n + 1) c') ∧ w'.ownsRow w.heap.size 109 6 (.slice (some ⟨g, 0, none⟩) (n + 1) c') (n + 1) cs ∧ Below w.heap.size w w'
set_option maxRecDepth 100000 in
set_option maxHeartbeats 4000000 in
theorem addBd_any (n : Nat) (cs : List Value) (A : Option Addr) (c : Nat) (x : Bd) (Ax : Option Addr) (cx : Nat) (w : World) (hl : n ≤ 100000) (hc : n ≤ c) (hn : A = none → c = 0) (hlen : cs.length = n * 6) (hp : Rws w A cs) :
    Calls Tryz.prog 219 #[.slice A n c, bdV x Ax cx] w (AddBdPost n (cs ++ bdL x Ax cx) w) := by
  have hb0 := rtOne w (.cells #[.string (ofL x.shop), .string (ofL x.to), .bool x.up, .string (ofL x.key), .slice Ax x.want.length cx, .bool x.all] 109)
  have HX0 := Lib.hid (rtAt0 w #[.string (ofL x.shop), .string (ofL x.to), .bool x.up, .string (ofL x.key), .slice Ax x.want.length cx, .bool x.all] 109)
  have HSZ := Lib.hid (show (w.alloc (.cells #[.string (ofL x.shop), .string (ofL x.to), .bool x.up, .string (ofL x.key), .slice Ax x.want.length cx, .bool x.all] 109)).heap.size = w.heap.size + 1 by simp)
  have hdr : Below (w.alloc (.cells #[.string (ofL x.shop), .string (ofL x.to), .bool x.up, .string (ofL x.key), .slice Ax x.want.length cx, .bool x.all] 109)).heap.size (w.alloc (.cells #[.string (ofL x.shop), .string (ofL x.to), .bool x.up, .string (ofL x.key), .slice Ax x.want.length cx, .bool x.all] 109)) (w.alloc (.cells #[.string (ofL x.shop), .string (ofL x.to), .bool x.up, .string (ofL x.key), .slice Ax x.want.length cx, .bool x.all] 109)).drew := (Below.refl _ _).drew
  have hal := rtOne (w.alloc (.cells #[.string (ofL x.shop), .string (ofL x.to), .bool x.up, .string (ofL x.key), .slice Ax x.want.length cx, .bool x.all] 109)).drew (.cells #[.string (ofL x.shop), .string (ofL x.to), .bool x.up, .string (ofL x.key), .slice Ax x.want.length cx, .bool x.all] 109)
  have hnew := BoxC.new (w := (w.alloc (.cells #[.string (ofL x.shop), .string (ofL x.to), .bool x.up, .string (ofL x.key), .slice Ax x.want.length cx, .bool x.all] 109)).drew) (W := (w.alloc (.cells #[.string (ofL x.shop), .string (ofL x.to), .bool x.up, .string (ofL x.key), .slice Ax x.want.length cx, .bool x.all] 109)).drew) (Nat.le_refl _) #[.string (ofL x.shop), .string (ofL x.to), .bool x.up, .string (ofL x.key), .slice Ax x.want.length cx, .bool x.all] 109
  obtain ⟨g, c', w7, hrun, hown, hgr⟩ := moreBd_run (W := (w.alloc (.cells #[.string (ofL x.shop), .string (ofL x.to), .bool x.up, .string (ofL x.key), .slice Ax x.want.length cx, .bool x.all] 109)).drew.alloc (.cells #[.string (ofL x.shop), .string (ofL x.to), .bool x.up, .string (ofL x.key), .slice Ax x.want.length cx, .bool x.all] 109)) (n := n) (cs := cs) (xs := bdL x Ax cx) (A := A) (b := (w.alloc (.cells #[.string (ofL x.shop), .string (ofL x.to), .bool x.up, .string (ofL x.key), .slice Ax x.want.length cx, .bool x.all] 109)).drew.heap.size) hl (((hp.on hb0).on hdr).on hal) hlen rfl (by intro u hu; simp only [bdL, List.mem_cons, List.not_mem_nil, or_false] at hu; rcases hu with rfl | rfl | rfl | rfl | rfl | rfl <;> rfl) (fun j u hu => by
    rw [rws_add, Nat.zero_add]
    exact hnew.cs j u hu) (fun e => by have := hn e; omega)
  have hb7 : Below w.heap.size w w7 := (bthen (bthen hb0 hdr (Nat.le_refl _)) hal (Nat.le_refl _)).grown hgr (by simp; omega) (fun k hk => by cases hk)
  have HRUN := Lib.hid hrun
  have HE := Lib.hid (show AddBdPost n (cs ++ bdL x Ax cx) w (.returned (.slice (some ⟨g, 0, none⟩) (n + 1) c')) w7 from ⟨g, c', rfl, World.ownsRow.mono hown (by simp; omega), hb7⟩)
  have HCL := Lib.hid (fun W => clipBd_any A n c W hc)
  have HD := Lib.hid hdr
  have HN := Lib.hid hnew
  clear hb0 hdr hal hnew hrun hown hgr hb7 hp hn hlen
  simp only [bdV]
  go_enter Tryz.func219, Tryz.ntmps219
  go_upto_region 1 with fail
  generalize hw1 : w.alloc (.cells #[.string (ofL x.shop), .string (ofL x.to), .bool x.up, .string (ofL x.key), .slice Ax x.want.length cx, .bool x.all] 109) = w1 at *
  have HX1 := Lib.hid (HX0.out.on HD.out)
  have x0 := HX1.out.cs 0 _ rfl
  have x1 := HX1.out.cs 1 _ rfl
  have x2 := HX1.out.cs 2 _ rfl
  have x3 := HX1.out.cs 3 _ rfl
  have x4 := HX1.out.cs 4 _ rfl
  have x5 := HX1.out.cs 5 _ rfl
  have xl := HX1.out.lt
  go_region_law (first
    | (go_simp; go_at_call 232; refine (HCL.out _).mono ?_; rintro e w5 ⟨rfl, rfl⟩)
    | (refine step_append_run (by rfl) _ _ 243 (by rfl) _ _ (by rfl) (by rfl) HRUN.out ?_))
  all_goals
    go_wp2_with fail
    go_ret
    exact HE.out
end Go.Proofs.YtgaggelpjaiabaaGreatDoor
end
section
namespace Go.Proofs.YtgaggelpjaiabaaGreatDoor
open Go.ChangeShapes Go.WideShapes Go.ChangeAt Go.RowKit
/-- a channel, as it stands in memory -/
structure Cn where
  cr : Nat
  tA : Option Addr
  tn : Nat
  tc : Nat
  su : Bool
  num : Nat
  dr : Bool
  dA : Option Addr
  dn : Nat
  dc : Nat
def Cn.new : Cn := ⟨16, none, 0, 0, false, 0, false, none, 0, 0⟩
def chV (x : Cn) (A : Option Addr) (n c : Nat) : Value := .agg #[.int .i64 (x.cr : Int), .slice x.tA x.tn x.tc, .slice A n c, .bool x.su, .int .u64 (x.num : Int), .bool x.dr, .slice x.dA x.dn x.dc]
def ltL (id : Nat) (q : List UInt8) : List Value := [.int .u64 (id : Int), .string (ofL q)]
theorem max2_runC {P : Program} (w : World) (ts : Array TypeId) (t : TypeId) (a b : Int) : (Builtin.max_ ts t #[.int .i64 a, .int .i64 b]).run P w = .ok (.int .i64 (max a b)) w := by
  have h : ∀ x y : Int, (if y > x then y else x) = max x y := fun x y => by
    rw [Int.max_def]
    split <;> split <;> omega
  simp [Builtin.max_, Builtin.max2, h]
theorem rwsAll {A : Option Addr} {cs : List Value} {g : Nat} (hg : ∀ a, A = some a → a.block ≠ g) : ∀ (vs : List Value) (j : Nat) {W : World}, Rws W A cs → Rws (putAll g j vs W) A cs
  | [], _, _, h => h
  | v :: vs, j, _, h => rwsAll hg vs (j + 1) (rwsPut h hg j v)
theorem clipLt_any (A : Option Addr) (n c : Nat) (w : World) (hc : n ≤ c) : Calls Tryz.prog 112 #[.slice A n c] w fun e w' => e = .returned (.slice A n n) ∧ w = w' := by
  go_enter Tryz.func112, Tryz.ntmps112
  go_wp2_with fail
  go_ret
  exact ⟨rfl, rfl⟩
set_option maxRecDepth 100000 in
theorem chNew_any (w : World) : Calls Tryz.prog 45 #[] w fun e w' => e = .returned (chV Cn.new none 0 0) ∧ Below w.heap.size w w' := by
  go_enter Tryz.func45, Tryz.ntmps45
  go_wp2_with fail
  refine bodyPost_ret (v := chV Cn.new none 0 0) (by simp [results, Tryz.results45, go_sem, chV, Cn.new]) rfl ?_
  exact ⟨rfl, (Below.refl _ _).alloc (Nat.le_refl _) _⟩
def crOk (n : Nat) : Bool := decide (1 ≤ n) && decide (n ≤ 16)
set_option maxRecDepth 100000 in
set_option maxHeartbeats 4000000 in
theorem chCredit_any (x : Cn) (A : Option Addr) (n c N : Nat) (w : World) (hN : N < 18446744073709551616) :
    Calls Tryz.prog 71 #[chV x A n c, .int .u64 (N : Int)] w fun e w' => e = .returned (.tuple #[chV (if crOk N then { x with cr := N } else x) A n c, .int .i64 (if crOk N then 0 else 7)]) ∧ Below w.heap.size w w' := by
  obtain ⟨cr, tA, tn, tc, su, num, dr, dA, dn, dc⟩ := x
  have hb2 : Below w.heap.size w ((w.alloc (.cells #[.int .i64 (cr : Int), .slice tA tn tc, .slice A n c, .bool su, .int .u64 (num : Int), .bool dr, .slice dA dn dc] 40)).alloc (.cells #[.int .i64 (cr : Int), .slice tA tn tc, .slice A n c, .bool su, .int .u64 (num : Int), .bool dr, .slice dA dn dc] 40)) := ((Below.refl _ _).alloc (Nat.le_refl _) _).alloc (by simp) _
  by_cases h0 : N = 0
  · subst h0
    have e : crOk 0 = false := rfl
    rw [e]
    simp only [chV, if_neg Bool.false_ne_true]
    go_enter Tryz.func71, Tryz.ntmps71
    go_wp2_with fail
    refine bodyPost_ret (v := .tuple #[.agg #[.int .i64 (cr : Int), .slice tA tn tc, .slice A n c, .bool su, .int .u64 (num : Int), .bool dr, .slice dA dn dc], .int .i64 7]) (by simp [results, Tryz.results71, go_sem]) rfl ⟨rfl, hb2⟩
  · have z0 : ((N : Int) == 0) = false := by simp; omega
    by_cases h1 : N ≤ 16
    · have z1 : decide ((N : Int) > 16) = false := decide_eq_false (by omega)
      have e : crOk N = true := by unfold crOk; rw [decide_eq_true (by omega : 1 ≤ N), decide_eq_true h1]; rfl
      have hw : IntKind.i64.wrap (N : Int) = (N : Int) := by rw [IntKind.wrap_i64]; omega
      rw [e]
      simp only [chV, if_pos]
      go_enter Tryz.func71, Tryz.ntmps71
      go_wp2_with fail
      refine bodyPost_ret (v := .tuple #[.agg #[.int .i64 (N : Int), .slice tA tn tc, .slice A n c, .bool su, .int .u64 (num : Int), .bool dr, .slice dA dn dc], .int .i64 0]) (by simp [results, Tryz.results71, go_sem]) rfl ⟨rfl, ?_⟩
      exact ((Below.refl _ _).alloc (Nat.le_refl _) _).alloc (by simp) _
    · have z1 : decide ((N : Int) > 16) = true := decide_eq_true (by omega)
      have e : crOk N = false := by unfold crOk; rw [decide_eq_false h1]; simp
      rw [e]
      simp only [chV, if_neg Bool.false_ne_true]
      go_enter Tryz.func71, Tryz.ntmps71
      go_wp2_with fail
      refine bodyPost_ret (v := .tuple #[.agg #[.int .i64 (cr : Int), .slice tA tn tc, .slice A n c, .bool su, .int .u64 (num : Int), .bool dr, .slice dA dn dc], .int .i64 7]) (by simp [results, Tryz.results71, go_sem]) rfl ⟨rfl, hb2⟩
set_option maxRecDepth 100000 in
theorem chRoom_any (x : Cn) (A : Option Addr) (n c : Nat) (w : World) (hcr : x.cr ≤ 16) (hn : n ≤ 100000) :
    Calls Tryz.prog 30 #[chV x A n c] w fun e w' => e = .returned (.int .i64 ((x.cr - n : Nat) : Int)) ∧ Below w.heap.size w w' := by
  obtain ⟨cr, tA, tn, tc, su, num, dr, dA, dn, dc⟩ := x
  dsimp only at hcr ⊢
  have hw : IntKind.i64.wrap ((cr : Int) - (n : Int)) = (cr : Int) - (n : Int) := by rw [IntKind.wrap_i64]; omega
  have hm : ∀ (W : World) (ts : Array TypeId) (t : TypeId), (Builtin.max_ ts t #[.int .i64 ((cr : Int) - (n : Int)), .int .i64 0]).run Tryz.prog W = .ok (.int .i64 ((cr - n : Nat) : Int)) W := fun W ts t => by
    rw [max2_runC, show max ((cr : Int) - (n : Int)) 0 = ((cr - n : Nat) : Int) by omega]
  simp only [chV]
  go_enter Tryz.func30, Tryz.ntmps30
  go_wp2_with fail
  go_ret
  exact ⟨rfl, (Below.refl _ _).alloc (Nat.le_refl _) _⟩
def LendPost (x : Cn) (n : Nat) (cs : List Value) (w : World) (e : Ending) (w' : World) : Prop := ∃ g c', e = .returned (chV x (some ⟨g, 0, none⟩) (n + 1) c') ∧ n + 1 ≤ c' ∧ Rws w' (some ⟨g, 0, none⟩) cs ∧ w.heap.size ≤ g ∧ Below w.heap.size w w'
set_option maxRecDepth 100000 in
set_option maxHeartbeats 8000000 in
theorem chLend_any (x : Cn) (A : Option Addr) (n c : Nat) (cs : List Value) (id : Nat) (q : List UInt8) (w : World) (hl : n ≤ 100000) (hc : n ≤ c) (hn : A = none → n = 0) (hlen : cs.length = n * 2) (hp : Rws w A cs) :
    Calls Tryz.prog 73 #[chV x A n c, .agg #[.int .u64 (id : Int), .string (ofL q)]] w (LendPost x n (cs ++ ltL id q) w) := by
  obtain ⟨cr, tA, tn, tc, su, num, dr, dA, dn, dc⟩ := x
  have hb0 := rtThree w (.cells #[.int .i64 (cr : Int), .slice tA tn tc, .slice A n c, .bool su, .int .u64 (num : Int), .bool dr, .slice dA dn dc] 40) (.cells #[.int .u64 (id : Int), .string (ofL q)] 120) (.cells #[.int .i64 0, .slice none 0 0, .slice none 0 0, .bool false, .int .u64 0, .bool false, .slice none 0 0] 40)
  have HX0 := Lib.hid (rtNext (rtNext (rtAt0 w #[.int .i64 (cr : Int), .slice tA tn tc, .slice A n c, .bool su, .int .u64 (num : Int), .bool dr, .slice dA dn dc] 40) (.cells #[.int .u64 (id : Int), .string (ofL q)] 120)) (.cells #[.int .i64 0, .slice none 0 0, .slice none 0 0, .bool false, .int .u64 0, .bool false, .slice none 0 0] 40))
  have HQ0 := Lib.hid (rtNext (rtAt1 w (.cells #[.int .i64 (cr : Int), .slice tA tn tc, .slice A n c, .bool su, .int .u64 (num : Int), .bool dr, .slice dA dn dc] 40) #[.int .u64 (id : Int), .string (ofL q)] 120) (.cells #[.int .i64 0, .slice none 0 0, .slice none 0 0, .bool false, .int .u64 0, .bool false, .slice none 0 0] 40))
  have HR0 := Lib.hid (rtAt2 w (.cells #[.int .i64 (cr : Int), .slice tA tn tc, .slice A n c, .bool su, .int .u64 (num : Int), .bool dr, .slice dA dn dc] 40) (.cells #[.int .u64 (id : Int), .string (ofL q)] 120) #[.int .i64 0, .slice none 0 0, .slice none 0 0, .bool false, .int .u64 0, .bool false, .slice none 0 0] 40)
  have HSZ := Lib.hid (show (((w.alloc (.cells #[.int .i64 (cr : Int), .slice tA tn tc, .slice A n c, .bool su, .int .u64 (num : Int), .bool dr, .slice dA dn dc] 40)).alloc (.cells #[.int .u64 (id : Int), .string (ofL q)] 120)).alloc (.cells #[.int .i64 0, .slice none 0 0, .slice none 0 0, .bool false, .int .u64 0, .bool false, .slice none 0 0] 40)).heap.size = w.heap.size + 3 by simp)
  generalize hw3 : ((w.alloc (.cells #[.int .i64 (cr : Int), .slice tA tn tc, .slice A n c, .bool su, .int .u64 (num : Int), .bool dr, .slice dA dn dc] 40)).alloc (.cells #[.int .u64 (id : Int), .string (ofL q)] 120)).alloc (.cells #[.int .i64 0, .slice none 0 0, .slice none 0 0, .bool false, .int .u64 0, .bool false, .slice none 0 0] 40) = w3 at *
  have hdr : Below w3.heap.size w3 w3.drew := (Below.refl _ _).drew
  have hal := rtOne w3.drew (.cells #[.int .u64 (id : Int), .string (ofL q)] 120)
  have hnew := BoxC.new (w := w3.drew) (W := w3.drew) (Nat.le_refl _) #[.int .u64 (id : Int), .string (ofL q)] 120
  obtain ⟨g, c', w7, hrun, hown, hgr⟩ := moreLt_run (W := w3.drew.alloc (.cells #[.int .u64 (id : Int), .string (ofL q)] 120)) (n := n) (cs := cs) (xs := ltL id q) (A := A) (b := w3.drew.heap.size) hl (((hp.on hb0).on hdr).on hal) hlen rfl (by intro u hu; simp only [ltL, List.mem_cons, List.not_mem_nil, or_false] at hu; rcases hu with rfl | rfl <;> rfl) (fun j u hu => by
    rw [rws_add, Nat.zero_add]
    exact hnew.cs j u hu) hn
  have hs3 : w3.drew.heap.size = w3.heap.size := rfl
  have hs4 : (w3.drew.alloc (.cells #[.int .u64 (id : Int), .string (ofL q)] 120)).heap.size = w3.heap.size + 1 := by simp [hs3]
  have hsz := HSZ.out
  have hb7 : Below w.heap.size w w7 := (bthen (bthen hb0 hdr (Nat.le_refl _)) hal (Nat.le_refl _)).grown hgr (by omega) (fun k hk => by cases hk)
  have HX7 := Lib.hid (rtKept ((HX0.out.on hdr).on hal) hgr (by simp))
  have HR7 := Lib.hid (rtKept ((HR0.out.on hdr).on hal) hgr (by simp))
  obtain ⟨A9, c9, e9, hc9, -, hr9, hb9⟩ := Rws.of_own hown
  obtain ⟨rfl, -, rfl⟩ := Value.slice.inj e9
  have HG := Lib.hid (show w.heap.size + 4 ≤ g from by have := (hb9 _ rfl).1; dsimp only at this; omega)
  have HC9 := Lib.hid hc9
  have HR9 := Lib.hid hr9
  have HRUN := Lib.hid hrun
  have HB7 := Lib.hid hb7
  have HCL := Lib.hid (fun W => clipLt_any A n c W hc)
  have HX1 := Lib.hid (HX0.out.on hdr)
  have HQ1 := Lib.hid (HQ0.out.on hdr)
  clear hb0 hdr hal hnew hrun hown hgr hb7 hp hn hlen hs3 hs4 hsz hc9 hr9 hb9 e9 HX0 HQ0 HR0
  simp only [chV]
  go_enter Tryz.func73, Tryz.ntmps73
  go_upto_region 1 with fail
  try rw [hw3]
  have x0 := HX1.out.cs 0 _ rfl
  have x1 := HX1.out.cs 1 _ rfl
  have x2 := HX1.out.cs 2 _ rfl
  have x3 := HX1.out.cs 3 _ rfl
  have x4 := HX1.out.cs 4 _ rfl
  have x5 := HX1.out.cs 5 _ rfl
  have x6 := HX1.out.cs 6 _ rfl
  have xl := HX1.out.lt
  have q0 := HQ1.out.cs 0 _ rfl
  have q1 := HQ1.out.cs 1 _ rfl
  have ql := HQ1.out.lt
  have y2 := HX7.out.cs 2 _ rfl
  have yl := HX7.out.lt
  have yf := HX7.out.s
  unfold Soft at yf
  have xl2 : w.heap.size < w3.heap.size := HX1.out.lt
  have ql2 : w.heap.size + 1 < w3.heap.size := HQ1.out.lt
  have z2 : w3.cell? ⟨w.heap.size, 2, none⟩ = some (.slice A n c) := HX1.out.cs 2 _ rfl
  go_region_law (first
    | (go_simp; go_at_call 112; refine (HCL.out _).mono ?_; rintro e w5 ⟨rfl, rfl⟩)
    | (refine step_append_run (by rfl) _ _ 35 (by rfl) _ _ (by rfl) (by rfl) HRUN.out ?_))
  all_goals
    have HX8 := Lib.hid (HX7.out.put 2 (.slice (some ⟨g, 0, none⟩) (n + 1) c') (by simp))
    have HR8 := Lib.hid (HR7.out.aside (g := w.heap.size) (by omega) 2 (.slice (some ⟨g, 0, none⟩) (n + 1) c'))
    have HB8 := Lib.hid (HB7.out.setCell (p := ⟨w.heap.size, 2, none⟩) (Nat.le_refl _) (.slice (some ⟨g, 0, none⟩) (n + 1) c'))
    have HW8 := Lib.hid (rwsPut HR9.out (b := w.heap.size) (fun a ha => by cases ha; have := HG.out; dsimp only; omega) 2 (.slice (some ⟨g, 0, none⟩) (n + 1) c'))
    clear x0 x1 x2 x3 x4 x5 x6 xl q0 q1 ql y2 yl yf xl2 ql2 z2
    generalize w7.setCell ⟨w.heap.size, 2, none⟩ (.slice (some ⟨g, 0, none⟩) (n + 1) c') = w8 at *
    have x0 := HX8.out.cs 0 _ rfl
    have x1 := HX8.out.cs 1 _ rfl
    have x2 := HX8.out.cs 2 _ rfl
    have x3 := HX8.out.cs 3 _ rfl
    have x4 := HX8.out.cs 4 _ rfl
    have x5 := HX8.out.cs 5 _ rfl
    have x6 := HX8.out.cs 6 _ rfl
    have xl := HX8.out.lt
    have r0 := HR8.out.cs 0 _ rfl
    have r1 := HR8.out.cs 1 _ rfl
    have r2 := HR8.out.cs 2 _ rfl
    have r3 := HR8.out.cs 3 _ rfl
    have r4 := HR8.out.cs 4 _ rfl
    have r5 := HR8.out.cs 5 _ rfl
    have r6 := HR8.out.cs 6 _ rfl
    have rl := HR8.out.lt
    have rf := HR8.out.s
    unfold Soft at rf
    go_wp2_with fail
    have hR := HR8.out.fill [.int .i64 (cr : Int), .slice tA tn tc, .slice (some ⟨g, 0, none⟩) (n + 1) c', .bool su, .int .u64 (num : Int), .bool dr, .slice dA dn dc] rfl
    have hB := below_putAll (g := w.heap.size + 2) (by omega) [.int .i64 (cr : Int), .slice tA tn tc, .slice (some ⟨g, 0, none⟩) (n + 1) c', .bool su, .int .u64 (num : Int), .bool dr, .slice dA dn dc] 0 HB8.out
    have hW := rwsAll (g := w.heap.size + 2) (fun a ha => by cases ha; have := HG.out; dsimp only; omega) [.int .i64 (cr : Int), .slice tA tn tc, .slice (some ⟨g, 0, none⟩) (n + 1) c', .bool su, .int .u64 (num : Int), .bool dr, .slice dA dn dc] 0 HW8.out
    simp only [putAll] at hR hB hW
    have g0 := hR.cs 0 _ rfl
    have g1 := hR.cs 1 _ rfl
    have g2 := hR.cs 2 _ rfl
    have g3 := hR.cs 3 _ rfl
    have g4 := hR.cs 4 _ rfl
    have g5 := hR.cs 5 _ rfl
    have g6 := hR.cs 6 _ rfl
    exact bodyPost_ret (v := .agg #[.int .i64 (cr : Int), .slice tA tn tc, .slice (some ⟨g, 0, none⟩) (n + 1) c', .bool su, .int .u64 (num : Int), .bool dr, .slice dA dn dc]) (by simp [results, Tryz.results73, go_sem, g0, g1, g2, g3, g4, g5, g6]) rfl ⟨g, c', rfl, HC9.out, hW, by have := HG.out; omega, hB⟩
end Go.Proofs.YtgaggelpjaiabaaGreatDoor
end
