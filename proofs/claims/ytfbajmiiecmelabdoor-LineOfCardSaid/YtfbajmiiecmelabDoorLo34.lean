/-
  A LINE WOKEN; one brought back: walked.
-/
import Derived.Test.YtfbajmiiecmelabDoorLo33

section
namespace Go.Proofs.YtfbajmiiecmelabDoor
open Go.ChangeShapes Go.WideShapes Go.ChangeAt Go.RowKit
theorem three_allocs (w : World) (o o' o'' : Obj) : Below w.heap.size w (((w.alloc o).alloc o').alloc o'') := (two_allocs w o o').alloc (by simp; omega) _
theorem box_at0 (w : World) (c : Array Value) (t : TypeId) : BoxC w w.heap.size c.toList (w.alloc (.cells c t)) := BoxC.new (Nat.le_refl _) c t
theorem box_next {w W : World} {c : Nat} {xs : List Value} (h : BoxC w c xs W) (o : Obj) : BoxC w c xs (W.alloc o) := h.on (one_alloc W o)
theorem box_at1 (w : World) (o : Obj) (c : Array Value) (t : TypeId) : BoxC w (w.heap.size + 1) c.toList ((w.alloc o).alloc (.cells c t)) := by
  have := BoxC.new (w := w) (W := w.alloc o) (by simp) c t
  rwa [show (w.alloc o).heap.size = w.heap.size + 1 by simp] at this
theorem box_at2 (w : World) (o o' : Obj) (c : Array Value) (t : TypeId) : BoxC w (w.heap.size + 2) c.toList (((w.alloc o).alloc o').alloc (.cells c t)) := by
  have := BoxC.new (w := w) (W := (w.alloc o).alloc o') (by simp; omega) c t
  rwa [show ((w.alloc o).alloc o').heap.size = w.heap.size + 2 by simp] at this
theorem LnU.form {U : Nat → Prop} {w : World} {v : Value} {l : List It} (h : LnU U w v l) : ∃ A c, v = .agg #[.slice A l.length c] ∧ l.length ≤ c := by
  obtain ⟨A, c, m, h1, h2, h3, h4, _⟩ := h
  exact ⟨A, c, h1, h3⟩
theorem LnU.get {U : Nat → Prop} {w : World} {A : Option Addr} {n c : Nat} {l : List It} (h : LnU U w (.agg #[.slice A n c]) l) {k : Nat} (hk : k < l.length) :
    ∃ b off Ax cx, A = some ⟨b, off, none⟩ ∧ b < w.heap.size ∧ (∀ j v, (itL (l.getD k it0) Ax cx)[j]? = some v → w.cell? ⟨b, off + k * 9 + j, none⟩ = some v) ∧ MaGo w (l.getD k it0).m Ax cx := by
  obtain ⟨A', c', m, e, hm, -, hI, -⟩ := h
  obtain ⟨rfl, -, rfl⟩ : A = A' ∧ n = l.length ∧ c = c' := by simpa using e
  have hkm : k < m.length := by rw [xs_len hm]; exact hk
  obtain ⟨b, off, hA, hlt, hc⟩ := hI.at_ k hkm
  have ho := hI.ok m[k] (List.getElem_mem hkm)
  rw [xs_get hm hkm] at hc ho
  exact ⟨b, off, _, _, hA, hlt, hc, ho⟩
def LnCode (U : Nat → Prop) (l : List It) (code : Nat) (w : World) (e : Ending) (w' : World) : Prop := ∃ v, e = .returned (.tuple #[v, .int .i64 (code : Int)]) ∧ LnU (fun g => U g ∨ w.heap.size ≤ g) w' v l ∧ Below w.heap.size w w'
set_option maxHeartbeats 4000000 in
theorem lnBack_any (id : Nat) (v : Value) (l : List It) (w : World) (U : Nat → Prop) (hl : l.length ≤ 100000) (h : LnU U w v l) : Calls Tryd.prog 14 #[v, .int .u64 (id : Int)] w (LnCode U (Ln.back l id) (Ln.bcode l id) w) := by
  have hc := h.cut
  obtain ⟨A, c, rfl, -⟩ := h.form
  have hb0 := three_allocs w (.cells #[.slice A l.length c] 34) (.cells #[.int .u64 (id : Int)] 25) (.cells #[.slice none 0 0] 34)
  have HX0 := Lib.hid (box_next (box_next (box_at0 w #[.slice A l.length c] 34) (.cells #[.int .u64 (id : Int)] 25)) (.cells #[.slice none 0 0] 34))
  have HY0 := Lib.hid (box_next (box_at1 w (.cells #[.slice A l.length c] 34) #[.int .u64 (id : Int)] 25) (.cells #[.slice none 0 0] 34))
  have HR0 := Lib.hid (box_at2 w (.cells #[.slice A l.length c] 34) (.cells #[.int .u64 (id : Int)] 25) #[.slice none 0 0] 34)
  have HF := Lib.hid (lnFind_any id _ l _ hl (h.in.on hb0))
  have HB0 := Lib.hid hb0
  have HU0 := Lib.hid (hc.on hb0)
  have HSZ := Lib.hid (show (((w.alloc (.cells #[.slice A l.length c] 34)).alloc (.cells #[.int .u64 (id : Int)] 25)).alloc (.cells #[.slice none 0 0] 34)).heap.size = w.heap.size + 3 by simp)
  have HG := Lib.hid (fun h => Ln.idx_ge (q := fun x : It => x.m.id == id) (l := l) it0 h)
  have HLL := Lib.hid hl
  clear hc hb0 h hl
  by_cases hn : Ln.find l id < 0
  · have e1 : Ln.bcode l id = 10 := by unfold Ln.bcode; rw [if_pos hn]
    have e2 : Ln.back l id = l := by unfold Ln.back; rw [e1]; rfl
    rw [e1, e2]
    have hd : decide (Ln.find l id < 0) = true := decide_eq_true hn
    generalize Ln.find l id = M at *
    clear e1 e2 hn HG
    go_enter Tryd.func14, Tryd.ntmps14
    go_wp2_with fail
    generalize (((w.alloc (.cells #[.slice A l.length c] 34)).alloc (.cells #[.int .u64 (id : Int)] 25)).alloc (.cells #[.slice none 0 0] 34)) = w2 at *
    refine HF.out.mono ?_
    rintro e w3 ⟨rfl, hb⟩
    have HL3 := Lib.hid (HU0.out.on hb)
    have HX3 := Lib.hid (HX0.out.on hb)
    have HR3 := Lib.hid (HR0.out.on hb)
    have HB3 := Lib.hid (bthen HB0.out hb (Nat.le_refl _))
    clear hb
    have x0 := HX3.out.cs 0 _ rfl
    have xl := HX3.out.lt
    have r0 := HR3.out.cs 0 _ rfl
    have rl := HR3.out.lt
    have rf := HR3.out.s 0
    go_wp2_with fail
    have hR4 := HR3.out.put 0 (.slice A l.length c) (by simp)
    have g0 := hR4.cs 0 _ rfl
    have hB4 := HB3.out.setCell (p := ⟨w.heap.size + 2, 0, none⟩) (by simp) (.slice A l.length c)
    have hL4 := HL3.out.aside (g := w.heap.size + 2) (by omega) 0 (.slice A l.length c)
    exact bodyPost_ret (v := .tuple #[.agg #[.slice A l.length c], .int .i64 10]) (by simp [results, Tryd.results14, go_sem, g0]) rfl ⟨_, rfl, hL4.mono (fun g hg => .inl hg.1), hB4⟩
  · obtain ⟨k, hk, hkl, hq, -⟩ := HG.out hn
    have hk' : Ln.find l id = (k : Int) := hk
    have hd : decide ((k : Int) < 0) = false := decide_eq_false (by omega)
    rw [hk'] at HF
    obtain ⟨b, off, Ax, cx, rfl, hbl, hat, -⟩ := HU0.out.get hkl
    have c7 := hat 7 _ rfl
    have HKL := Lib.hid hkl
    have hll := HLL.out
    clear hat
    cases hle : (l.getD k it0).lent
    · have e1 : Ln.bcode l id = 13 := by unfold Ln.bcode; rw [if_neg hn, hk', Int.toNat_natCast, if_pos hle]
      have e2 : Ln.back l id = l := by unfold Ln.back; rw [e1]; rfl
      rw [e1, e2]
      rw [hle] at c7
      clear e1 e2 hn HG hk hk' hle hq
      go_enter Tryd.func14, Tryd.ntmps14
      go_wp2_with fail
      generalize (((w.alloc (.cells #[.slice (some ⟨b, off, none⟩) l.length c] 34)).alloc (.cells #[.int .u64 (id : Int)] 25)).alloc (.cells #[.slice none 0 0] 34)) = w2 at *
      refine HF.out.mono ?_
      rintro e w3 ⟨rfl, hb⟩
      have HL3 := Lib.hid (HU0.out.on hb)
      have HX3 := Lib.hid (HX0.out.on hb)
      have HR3 := Lib.hid (HR0.out.on hb)
      have HB3 := Lib.hid (bthen HB0.out hb (Nat.le_refl _))
      have d7 := (hb.cell (p := ⟨b, off + k * 9 + 7, none⟩) hbl).trans c7
      have hbl3 := Nat.lt_of_lt_of_le hbl hb.size
      clear hb c7 hbl
      have x0 := HX3.out.cs 0 _ rfl
      have xl := HX3.out.lt
      have r0 := HR3.out.cs 0 _ rfl
      have rl := HR3.out.lt
      have rf := HR3.out.s 0
      go_wp2_with fail
      have hR4 := HR3.out.put 0 (.slice (some ⟨b, off, none⟩) l.length c) (by simp)
      have g0 := hR4.cs 0 _ rfl
      have hB4 := HB3.out.setCell (p := ⟨w.heap.size + 2, 0, none⟩) (by simp) (.slice (some ⟨b, off, none⟩) l.length c)
      have hL4 := HL3.out.aside (g := w.heap.size + 2) (by omega) 0 (.slice (some ⟨b, off, none⟩) l.length c)
      exact bodyPost_ret (v := .tuple #[.agg #[.slice (some ⟨b, off, none⟩) l.length c], .int .i64 13]) (by simp [results, Tryd.results14, go_sem, g0]) rfl ⟨_, rfl, hL4.mono (fun g hg => .inl hg.1), hB4⟩
    · have e1 : Ln.bcode l id = 0 := by unfold Ln.bcode; rw [if_neg hn, hk', Int.toNat_natCast, if_neg (by rw [hle]; decide)]
      have e2 : Ln.back l id = Ln.backAll l id := by unfold Ln.back; rw [if_pos e1]
      rw [e1, e2]
      rw [hle] at c7
      have HTN := Lib.hid (fun W (hY : BoxC w (w.heap.size + 1) [.int .u64 (id : Int)] W) hW => lnTurn_any 30 #[.pointer (some ⟨w.heap.size + 1, 0, none⟩)] (.inr ⟨.inr rfl, _, rfl⟩) (fun y => if y.m.id == id then Ln.back1 y else y) (fun y => by split <;> rfl) (.agg #[.slice (some ⟨b, off, none⟩) l.length c]) l W (fun g => U g ∧ g < w.heap.size) HLL.out hW (fun W' x A k hb => lnBack1_any x A k _ id W' ((hb.cell (p := ⟨w.heap.size + 1, 0, none⟩) hY.lt).trans (hY.cs 0 _ rfl))))
      rw [show l.map (fun y => if y.m.id == id then Ln.back1 y else y) = Ln.backAll l id from rfl] at HTN
      clear e1 e2 hn HG hk hk' hle hq
      go_enter Tryd.func14, Tryd.ntmps14
      go_wp2_with fail
      generalize (((w.alloc (.cells #[.slice (some ⟨b, off, none⟩) l.length c] 34)).alloc (.cells #[.int .u64 (id : Int)] 25)).alloc (.cells #[.slice none 0 0] 34)) = w2 at *
      refine HF.out.mono ?_
      rintro e w3 ⟨rfl, hb⟩
      have HL3 := Lib.hid (HU0.out.on hb)
      have HX3 := Lib.hid (HX0.out.on hb)
      have HY3 := Lib.hid (HY0.out.on hb)
      have HR3 := Lib.hid (HR0.out.on hb)
      have HB3 := Lib.hid (bthen HB0.out hb (Nat.le_refl _))
      have d7 := (hb.cell (p := ⟨b, off + k * 9 + 7, none⟩) hbl).trans c7
      have hbl3 := Nat.lt_of_lt_of_le hbl hb.size
      have HS3 := Lib.hid (show w.heap.size + 3 ≤ w3.heap.size from by have := hb.size; have := HSZ.out; omega)
      clear hb c7 hbl
      have x0 := HX3.out.cs 0 _ rfl
      have xl := HX3.out.lt
      go_wp2_with fail
      refine (HTN.out w3 HY3.out HL3.out).mono ?_
      rintro e w4 ⟨v', rfl, h4, hb⟩
      obtain ⟨A', c', rfl, -⟩ := h4.form
      have HL4 := Lib.hid h4
      have HX4 := Lib.hid (HX3.out.on hb)
      have HR4 := Lib.hid (HR3.out.on hb)
      have HB4 := Lib.hid (bthen HB3.out hb (Nat.le_refl _))
      clear hb h4 x0 xl d7 hbl3
      have x0 := HX4.out.cs 0 _ rfl
      have xl := HX4.out.lt
      have xf := HX4.out.s 0
      have r0 := HR4.out.cs 0 _ rfl
      have rl := HR4.out.lt
      have rf := HR4.out.s 0
      generalize (Ln.backAll l id).length = nn at *
      go_wp2_with fail
      have hR5 := (HR4.out.aside (g := w.heap.size) (by omega) 0 (.slice A' nn c')).put 0 (.slice A' nn c') (by simp)
      have g0 := hR5.cs 0 _ rfl
      have hB5 := (HB4.out.setCell (p := ⟨w.heap.size, 0, none⟩) (Nat.le_refl _) (.slice A' nn c')).setCell (p := ⟨w.heap.size + 2, 0, none⟩) (by simp) (.slice A' nn c')
      have hL5 := (HL4.out.aside (g := w.heap.size) (by have := HS3.out; omega) 0 (.slice A' nn c')).aside (g := w.heap.size + 2) (by have := HS3.out; omega) 0 (.slice A' nn c')
      exact bodyPost_ret (v := .tuple #[.agg #[.slice A' nn c'], .int .i64 0]) (by simp [results, Tryd.results14, go_sem, g0]) rfl ⟨_, rfl, hL5.mono (fun g hg => hg.elim (fun a => .inl a.1) (fun a => .inr (by have := HS3.out; omega))), hB5⟩
end Go.Proofs.YtfbajmiiecmelabDoor
end
