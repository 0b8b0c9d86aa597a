/-
  ONE REMOVED: walked.
-/
import Derived.Test.YtabnkbdbbneihaaGreatDoorLg39

section
namespace Go.Proofs.YtabnkbdbbneihaaGreatDoor
open Go.ChangeShapes Go.WideShapes Go.ChangeAt Go.RowKit
def RemPost (U : Nat → Prop) (l' : List It) (x : It) (code : Nat) (w : World) (e : Ending) (w' : World) : Prop := ∃ v A c, e = .returned (.tuple #[v, itV x A c, .int .i64 (code : Int)]) ∧ LnU (fun g => U g ∨ w.heap.size ≤ g) w' v l' ∧ OwnPrs w.heap.size w' A c x.m.head ∧ Below w.heap.size w w'
theorem BoxC.front {w W : World} {g : Nat} {xs ys : List Value} (h : BoxC w g (xs ++ ys) W) : BoxC w g xs W := ⟨fun j x hj => h.cs j x (by rw [List.getElem?_append_left (List.getElem?_eq_some_iff.1 hj).1]; exact hj), h.s, h.lt, h.ge⟩
theorem MaOk.putAll {x : Ml} {A : Option Addr} {c g : Nat} (hg : x.head ≠ [] → ∀ a, A = some a → g ≠ a.block) : ∀ (vs : List Value) (j : Nat) {w : World}, MaOk w x A c → MaOk (Go.Proofs.YtabnkbdbbneihaaGreatDoor.putAll g j vs w) x A c
  | [], _, _, h => h
  | v :: vs, j, _, h => MaOk.putAll hg vs (j + 1) (h.aside hg j v)
theorem ownRow_some {w : World} {B e size n c : Nat} {A : Option Addr} {xs : List Value} (h : w.ownsRow B e size (.slice A n c) n xs) (hn : 0 < n) : ∃ R, A = some ⟨R, 0, none⟩ ∧ B ≤ R ∧ R < w.heap.size ∧ n ≤ c := by
  obtain ⟨A2, c2, e2, hc, hb, hx⟩ := Rw.own_cells h
  obtain ⟨rfl, -, rfl⟩ := Value.slice.inj e2
  obtain ⟨R, rfl, hR, -⟩ := hx hn
  exact ⟨R, rfl, (h.lt R rfl).1, hR, hc⟩
theorem eraseIdx_xs {m : List ItP} {l : List It} (h : m.map (·.x) = l) (k : Nat) : (m.eraseIdx k).map (·.x) = l.eraseIdx k := by
  rw [← h, List.eraseIdx_eq_take_drop_succ, List.eraseIdx_eq_take_drop_succ, List.map_append, List.map_take, List.map_drop]
set_option maxRecDepth 100000 in
set_option maxHeartbeats 8000000 in
theorem lnRemove_any (id : Nat) (v : Value) (l : List It) (w : World) (U : Nat → Prop) (hl : l.length ≤ 100000) (h : LnU U w v l) : Calls Tryz.prog 44 #[v, .int .u64 (id : Int)] w (RemPost U (Ln.remove l id) (Ln.gone l id) (if Ln.find l id < 0 then 10 else 0) w) := by
  have hc := h.cut
  obtain ⟨A, c, rfl, -⟩ := h.form
  have hb0 := three_allocs w (.cells #[.slice A l.length c] 27) (.cells #[.slice none 0 0] 27) (.cells #[.int .u64 0, .string ⟨#[]⟩, .string ⟨#[]⟩, .slice none 0 0, .string ⟨#[]⟩, .int .u64 0, .int .u8 0, .bool false, .bool false] 41)
  have HX0 := Lib.hid (box_next (box_next (box_at0 w #[.slice A l.length c] 27) (.cells #[.slice none 0 0] 27)) (.cells #[.int .u64 0, .string ⟨#[]⟩, .string ⟨#[]⟩, .slice none 0 0, .string ⟨#[]⟩, .int .u64 0, .int .u8 0, .bool false, .bool false] 41))
  have HR0 := Lib.hid (box_next (box_at1 w (.cells #[.slice A l.length c] 27) #[.slice none 0 0] 27) (.cells #[.int .u64 0, .string ⟨#[]⟩, .string ⟨#[]⟩, .slice none 0 0, .string ⟨#[]⟩, .int .u64 0, .int .u8 0, .bool false, .bool false] 41))
  have HQ0 := Lib.hid (box_at2 w (.cells #[.slice A l.length c] 27) (.cells #[.slice none 0 0] 27) #[.int .u64 0, .string ⟨#[]⟩, .string ⟨#[]⟩, .slice none 0 0, .string ⟨#[]⟩, .int .u64 0, .int .u8 0, .bool false, .bool false] 41)
  have HB0 := Lib.hid hb0
  have HU0 := Lib.hid (hc.on hb0)
  have HN := Lib.hid (lnFind_any id _ l _ hl (h.in.on hb0))
  have HSZ := Lib.hid (show (((w.alloc (.cells #[.slice A l.length c] 27)).alloc (.cells #[.slice none 0 0] 27)).alloc (.cells #[.int .u64 0, .string ⟨#[]⟩, .string ⟨#[]⟩, .slice none 0 0, .string ⟨#[]⟩, .int .u64 0, .int .u8 0, .bool false, .bool false] 41)).heap.size = w.heap.size + 3 by simp)
  have HG := Lib.hid (fun h => Ln.idx_ge (q := fun x : It => x.m.id == id) (l := l) it0 h)
  clear hc hb0 h
  by_cases hn : Ln.find l id < 0
  · have e1 : Ln.remove l id = l := by unfold Ln.remove; rw [if_pos hn]
    have e2 : Ln.gone l id = it0 := by unfold Ln.gone; rw [if_pos hn]
    rw [e1, e2, if_pos hn]
    have hd : decide (Ln.find l id < 0) = true := decide_eq_true hn
    generalize Ln.find l id = M at *
    clear e1 e2 hn HG hl
    go_enter Tryz.func44, Tryz.ntmps44
    go_wp2_with fail
    generalize (((w.alloc (.cells #[.slice A l.length c] 27)).alloc (.cells #[.slice none 0 0] 27)).alloc (.cells #[.int .u64 0, .string ⟨#[]⟩, .string ⟨#[]⟩, .slice none 0 0, .string ⟨#[]⟩, .int .u64 0, .int .u8 0, .bool false, .bool false] 41)) = w2 at *
    refine HN.out.mono ?_
    rintro e w3 ⟨rfl, hb⟩
    have HL3 := Lib.hid (HU0.out.on hb)
    have HX3 := Lib.hid (HX0.out.on hb)
    have HR3 := Lib.hid (HR0.out.on hb)
    have HQ3 := Lib.hid (HQ0.out.on hb)
    have HB3 := Lib.hid (bthen HB0.out hb (Nat.le_refl _))
    clear hb
    have x0 := HX3.out.cs 0 _ rfl
    have xl := HX3.out.lt
    have r0 := HR3.out.cs 0 _ rfl
    have rl := HR3.out.lt
    have rf := HR3.out.s 0
    have q0 := HQ3.out.cs 0 _ rfl
    have q1 := HQ3.out.cs 1 _ rfl
    have q2 := HQ3.out.cs 2 _ rfl
    have q3 := HQ3.out.cs 3 _ rfl
    have q4 := HQ3.out.cs 4 _ rfl
    have q5 := HQ3.out.cs 5 _ rfl
    have q6 := HQ3.out.cs 6 _ rfl
    have q7 := HQ3.out.cs 7 _ rfl
    have q8 := HQ3.out.cs 8 _ rfl
    have ql := HQ3.out.lt
    have qf : ∀ j, w3.frozen? ⟨w.heap.size + 2, j, none⟩ = false := HQ3.out.s
    go_wp2_with fail
    have hR4 := (HR3.out.put 0 (.slice A l.length c) (by simp)).putAll_aside (g := w.heap.size + 2) (by omega) [.int .u64 0, .string ⟨#[]⟩, .string ⟨#[]⟩, .slice none 0 0, .string ⟨#[]⟩, .int .u64 0, .int .u8 0, .bool false, .bool false] 0
    have hQ4 := (HQ3.out.aside (g := w.heap.size + 1) (by omega) 0 (.slice A l.length c)).fill [.int .u64 0, .string ⟨#[]⟩, .string ⟨#[]⟩, .slice none 0 0, .string ⟨#[]⟩, .int .u64 0, .int .u8 0, .bool false, .bool false] rfl
    have hB4 := below_putAll (g := w.heap.size + 2) (by omega) [.int .u64 0, .string ⟨#[]⟩, .string ⟨#[]⟩, .slice none 0 0, .string ⟨#[]⟩, .int .u64 0, .int .u8 0, .bool false, .bool false] 0 (HB3.out.setCell (p := ⟨w.heap.size + 1, 0, none⟩) (by simp) (.slice A l.length c))
    have hL4 := (HL3.out.aside (g := w.heap.size + 1) (by omega) 0 (.slice A l.length c)).putAll (g := w.heap.size + 2) (by omega) [.int .u64 0, .string ⟨#[]⟩, .string ⟨#[]⟩, .slice none 0 0, .string ⟨#[]⟩, .int .u64 0, .int .u8 0, .bool false, .bool false] 0
    simp only [putAll] at hR4 hQ4 hB4 hL4
    have r0' := hR4.cs 0 _ rfl
    have g0 := hQ4.cs 0 _ rfl
    have g1 := hQ4.cs 1 _ rfl
    have g2 := hQ4.cs 2 _ rfl
    have g3 := hQ4.cs 3 _ rfl
    have g4 := hQ4.cs 4 _ rfl
    have g5 := hQ4.cs 5 _ rfl
    have g6 := hQ4.cs 6 _ rfl
    have g7 := hQ4.cs 7 _ rfl
    have g8 := hQ4.cs 8 _ rfl
    exact bodyPost_ret (v := .tuple #[.agg #[.slice A l.length c], .agg #[.int .u64 0, .string ⟨#[]⟩, .string ⟨#[]⟩, .slice none 0 0, .string ⟨#[]⟩, .int .u64 0, .int .u8 0, .bool false, .bool false], .int .i64 10]) (by simp [results, Tryz.results44, go_sem, r0', g0, g1, g2, g3, g4, g5, g6, g7, g8]) rfl ⟨_, none, 0, rfl, hL4.mono (fun g hg => .inl hg.1), OwnPrs.nil _ _, hB4⟩
  · obtain ⟨k, hk, hkl, hq, -⟩ := HG.out hn
    have hk' : Ln.find l id = (k : Int) := hk
    have e1 : Ln.remove l id = l.eraseIdx k := by unfold Ln.remove; rw [if_neg hn, hk', Int.toNat_natCast]
    have e2 : Ln.gone l id = l.getD k it0 := by unfold Ln.gone; rw [if_neg hn, hk', Int.toNat_natCast]
    rw [e1, e2, if_neg hn]
    have hd : decide ((k : Int) < 0) = false := decide_eq_false (by omega)
    have hw1 : IntKind.i64.wrap ((k : Int) + 1) = ((k + 1 : Nat) : Int) := by rw [IntKind.wrap_i64]; omega
    rw [hk'] at HN
    obtain ⟨b, off, Ax, cx, rfl, hbl, hat, hgo⟩ := HU0.out.get hkl
    have c0 := hat 0 _ rfl
    have c1 := hat 1 _ rfl
    have c2 := hat 2 _ rfl
    have c3 := hat 3 _ rfl
    have c4 := hat 4 _ rfl
    have c5 := hat 5 _ rfl
    have c6 := hat 6 _ rfl
    have c7 := hat 7 _ rfl
    have c8 := hat 8 _ rfl
    rw [Nat.add_zero] at c0
    have HOW := Lib.hid (fun W hp => itOwn_any (l.getD k it0) Ax cx W hgo.ok.len hgo.ok.cap hp)
    have HPR := Lib.hid hgo.ok.row
    generalize l.getD k it0 = y at *
    unfold ItOwnPost at HOW
    simp only [itV] at HOW
    obtain ⟨A1, c1, m, em, hm, hlc, hI, hUs⟩ := HU0.out
    obtain ⟨rfl, rfl⟩ : some ⟨b, off, none⟩ = A1 ∧ c = c1 := by simpa using em
    have hml := xs_len hm
    have HM := Lib.hid hm
    have HI := Lib.hid hI
    have HUS := Lib.hid hUs
    obtain ⟨N, hN⟩ : ∃ N, m.length = N + 1 := ⟨m.length - 1, by omega⟩
    have HNN := Lib.hid hN
    have HKN := Lib.hid (show k ≤ N by omega)
    have hlN : l.length = N + 1 := by omega
    have HCL := Lib.hid (fun W h => cloneIt_any m (some ⟨b, off, none⟩) c W (by omega) h)
    unfold ClIt at HCL
    rw [hN] at HCL
    rw [hlN] at HX0 HR0 HQ0 HB0 HN HSZ HI HPR hbl c0 c1 c2 c3 c4 c5 c6 c7 c8 ⊢
    have HDE := Lib.hid (fun W R c' h hc => deleteIt_any (w0 := w) (m := m) (k := k) (N := N) (R := R) (c := c') W h hN (by omega) hc)
    have HLN := Lib.hid hlN
    have hkN : k < N + 1 := by omega
    obtain ⟨K1, hK1⟩ : ∃ K1, K1 = k + 1 := ⟨_, rfl⟩
    have HK1 := Lib.hid hK1
    rw [← hK1] at hw1 HDE
    have HGOOD := Lib.hid (show (m.eraseIdx k).map (·.x) = l.eraseIdx k ∧ (m.eraseIdx k).length = N ∧ (l.eraseIdx k).length = N from by
      have h1 := eraseIdx_xs hm k
      have h2 : (m.eraseIdx k).length = N := by rw [List.length_eraseIdx, if_pos (by omega)]; omega
      exact ⟨h1, h2, by rw [← h1, List.length_map, h2]⟩)
    clear hat e1 e2 em hgo hn hk hk' hq HG hm hI hUs hN hml hlN hK1 hkl hl hlc
    go_enter Tryz.func44, Tryz.ntmps44
    go_wp2_with fail
    generalize (((w.alloc (.cells #[.slice (some ⟨b, off, none⟩) (N + 1) c] 27)).alloc (.cells #[.slice none 0 0] 27)).alloc (.cells #[.int .u64 0, .string ⟨#[]⟩, .string ⟨#[]⟩, .slice none 0 0, .string ⟨#[]⟩, .int .u64 0, .int .u8 0, .bool false, .bool false] 41)) = w2 at *
    refine HN.out.mono ?_
    rintro e w3 ⟨rfl, hb⟩
    have HX3 := Lib.hid (HX0.out.on hb)
    have HR3 := Lib.hid (HR0.out.on hb)
    have HQ3 := Lib.hid (HQ0.out.on hb)
    have HB3 := Lib.hid (bthen HB0.out hb (Nat.le_refl _))
    have HI3 := Lib.hid (HI.out.on hb)
    have HPR3 := Lib.hid (HPR.out.on hb)
    have d0 := (hb.cell (p := ⟨b, off + k * 9, none⟩) hbl).trans c0
    have d1 := (hb.cell (p := ⟨b, off + k * 9 + 1, none⟩) hbl).trans c1
    have d2 := (hb.cell (p := ⟨b, off + k * 9 + 2, none⟩) hbl).trans c2
    have d3 := (hb.cell (p := ⟨b, off + k * 9 + 3, none⟩) hbl).trans c3
    have d4 := (hb.cell (p := ⟨b, off + k * 9 + 4, none⟩) hbl).trans c4
    have d5 := (hb.cell (p := ⟨b, off + k * 9 + 5, none⟩) hbl).trans c5
    have d6 := (hb.cell (p := ⟨b, off + k * 9 + 6, none⟩) hbl).trans c6
    have d7 := (hb.cell (p := ⟨b, off + k * 9 + 7, none⟩) hbl).trans c7
    have d8 := (hb.cell (p := ⟨b, off + k * 9 + 8, none⟩) hbl).trans c8
    have hbl3 := Nat.lt_of_lt_of_le hbl hb.size
    have HS3 := Lib.hid (show w.heap.size + 3 ≤ w3.heap.size from by have := hb.size; have := HSZ.out; omega)
    clear hb c0 c1 c2 c3 c4 c5 c6 c7 c8 hbl
    have x0 := HX3.out.cs 0 _ rfl
    have xl := HX3.out.lt
    go_wp2_with fail
    refine (HOW.out _ HPR3.out).mono ?_
    rintro e w4 ⟨Aq, cq, rfl, ho, hb⟩
    have HX4 := Lib.hid ((HX3.out.on hb).on (one_alloc w4 (.cells #[.int .u64 (y.m.id : Int), .string (ofL y.m.shop), .string (ofL y.m.key), .slice Aq y.m.head.length cq, .string (ofL y.m.body), .int .u64 (y.m.due : Int), .int .u8 (y.m.hops : Int), .bool y.lent, .bool y.again] 41)))
    have HR4 := Lib.hid ((HR3.out.on hb).on (one_alloc w4 (.cells #[.int .u64 (y.m.id : Int), .string (ofL y.m.shop), .string (ofL y.m.key), .slice Aq y.m.head.length cq, .string (ofL y.m.body), .int .u64 (y.m.due : Int), .int .u8 (y.m.hops : Int), .bool y.lent, .bool y.again] 41)))
    have HQ4 := Lib.hid ((HQ3.out.on hb).on (one_alloc w4 (.cells #[.int .u64 (y.m.id : Int), .string (ofL y.m.shop), .string (ofL y.m.key), .slice Aq y.m.head.length cq, .string (ofL y.m.body), .int .u64 (y.m.due : Int), .int .u8 (y.m.hops : Int), .bool y.lent, .bool y.again] 41)))
    have HB4 := Lib.hid (bthen (bthen HB3.out hb (Nat.le_refl _)) (one_alloc w4 (.cells #[.int .u64 (y.m.id : Int), .string (ofL y.m.shop), .string (ofL y.m.key), .slice Aq y.m.head.length cq, .string (ofL y.m.body), .int .u64 (y.m.due : Int), .int .u8 (y.m.hops : Int), .bool y.lent, .bool y.again] 41)) (Nat.le_refl _))
    have HI4 := Lib.hid ((HI3.out.on hb).on (one_alloc w4 (.cells #[.int .u64 (y.m.id : Int), .string (ofL y.m.shop), .string (ofL y.m.key), .slice Aq y.m.head.length cq, .string (ofL y.m.body), .int .u64 (y.m.due : Int), .int .u8 (y.m.hops : Int), .bool y.lent, .bool y.again] 41)))
    have HY4 := Lib.hid (BoxC.new (w := w) (W := w4) (Nat.le_trans HB3.out.size hb.size) #[.int .u64 (y.m.id : Int), .string (ofL y.m.shop), .string (ofL y.m.key), .slice Aq y.m.head.length cq, .string (ofL y.m.body), .int .u64 (y.m.due : Int), .int .u8 (y.m.hops : Int), .bool y.lent, .bool y.again] 41)
    have HO4 := Lib.hid (ho.on (one_alloc w4 (.cells #[.int .u64 (y.m.id : Int), .string (ofL y.m.shop), .string (ofL y.m.key), .slice Aq y.m.head.length cq, .string (ofL y.m.body), .int .u64 (y.m.due : Int), .int .u8 (y.m.hops : Int), .bool y.lent, .bool y.again] 41)))
    have HA4 := Lib.hid (show ∀ a, Aq = some a → w3.heap.size ≤ a.block ∧ a.block < w4.heap.size from (ho.row.2.2))
    have HS4 := Lib.hid (show w3.heap.size ≤ w4.heap.size ∧ (w4.alloc (.cells #[.int .u64 (y.m.id : Int), .string (ofL y.m.shop), .string (ofL y.m.key), .slice Aq y.m.head.length cq, .string (ofL y.m.body), .int .u64 (y.m.due : Int), .int .u8 (y.m.hops : Int), .bool y.lent, .bool y.again] 41)).heap.size = w4.heap.size + 1 from ⟨hb.size, by simp⟩)
    clear hb ho d0 d1 d2 d3 d4 d5 d6 d7 d8 hbl3 x0 xl
    have x0 := HX4.out.cs 0 _ rfl
    have xl := HX4.out.lt
    go_wp2_with fail
    generalize (w4.alloc (.cells #[.int .u64 (y.m.id : Int), .string (ofL y.m.shop), .string (ofL y.m.key), .slice Aq y.m.head.length cq, .string (ofL y.m.body), .int .u64 (y.m.due : Int), .int .u8 (y.m.hops : Int), .bool y.lent, .bool y.again] 41)) = w5 at *
    refine (HCL.out _ HI4.out).mono ?_
    rintro e w6 ⟨A6, c6, rfl, ho, hb⟩
    obtain ⟨R, rfl, hR1, hR2, hR3⟩ := ownRow_some ho (by omega)
    have HX6 := Lib.hid (HX4.out.on hb)
    have HR6 := Lib.hid (HR4.out.on hb)
    have HQ6 := Lib.hid (HQ4.out.on hb)
    have HY6 := Lib.hid (HY4.out.on hb)
    have HB6 := Lib.hid (bthen HB4.out hb (Nat.le_refl _))
    have HI6 := Lib.hid (HI4.out.on hb)
    have HO6 := Lib.hid (HO4.out.on hb)
    have HRW := Lib.hid (BoxC.of_own (w0 := w) ho HB4.out.size)
    have HRR := Lib.hid hR1
    have HRC := Lib.hid hR3
    clear hb ho hR1 hR2 hR3 x0 xl
    go_wp2_with fail
    refine (HDE.out _ R c6 HRW.out HRC.out).mono ?_
    rintro e w7 ⟨rfl, hw7⟩
    rw [← putAll_eq, ← putAll_eq] at hw7
    have hl1 := its_len m
    have hl2 : (its (m.drop (k + 1))).length = (N - k) * 9 := by rw [its_len, List.length_drop, HNN.out]; omega
    have hne : R ≠ w.heap.size ∧ R ≠ w.heap.size + 1 ∧ R ≠ w.heap.size + 2 ∧ R ≠ w4.heap.size := by have := HRR.out; have := HS4.out; have := HS3.out; omega
    have HRW7 := Lib.hid (show BoxC w R (its (m.eraseIdx k)) w7 from by
      have h1 := BoxC.putSome [.int .u64 0, .string ⟨#[]⟩, .string ⟨#[]⟩, .slice none 0 0, .string ⟨#[]⟩, .int .u64 0, .int .u8 0, .bool false, .bool false] (N * 9) (BoxC.putSome (its (m.drop (k + 1))) (k * 9) (HRW.out.on (Below.refl _ _).drew) (by rw [hl1, hl2, HNN.out]; have := HKN.out; omega)) (by
        rw [setAll_split _ _ _ (by rw [hl1, hl2, HNN.out]; have := HKN.out; omega)]
        simp only [List.length_append, List.length_take, List.length_drop, hl1, hl2, HNN.out, List.length_cons, List.length_nil]
        have := HKN.out; omega)
      rw [del_cells HKN.out HNN.out [.int .u64 0, .string ⟨#[]⟩, .string ⟨#[]⟩, .slice none 0 0, .string ⟨#[]⟩, .int .u64 0, .int .u8 0, .bool false, .bool false] rfl] at h1
      rw [← HK1.out] at h1
      rw [hw7]
      exact h1.front)
    have HX7 := Lib.hid (show BoxC w w.heap.size [.slice (some ⟨b, off, none⟩) (N + 1) c] w7 from by rw [hw7]; exact ((HX6.out.on (Below.refl _ _).drew).putAll_aside hne.1 _ _).putAll_aside hne.1 _ _)
    have HR7 := Lib.hid (show BoxC w (w.heap.size + 1) [.slice none 0 0] w7 from by rw [hw7]; exact ((HR6.out.on (Below.refl _ _).drew).putAll_aside hne.2.1 _ _).putAll_aside hne.2.1 _ _)
    have HQ7 := Lib.hid (show BoxC w (w.heap.size + 2) [.int .u64 0, .string ⟨#[]⟩, .string ⟨#[]⟩, .slice none 0 0, .string ⟨#[]⟩, .int .u64 0, .int .u8 0, .bool false, .bool false] w7 from by rw [hw7]; exact ((HQ6.out.on (Below.refl _ _).drew).putAll_aside hne.2.2.1 _ _).putAll_aside hne.2.2.1 _ _)
    have HY7 := Lib.hid (show BoxC w w4.heap.size [.int .u64 (y.m.id : Int), .string (ofL y.m.shop), .string (ofL y.m.key), .slice Aq y.m.head.length cq, .string (ofL y.m.body), .int .u64 (y.m.due : Int), .int .u8 (y.m.hops : Int), .bool y.lent, .bool y.again] w7 from by rw [hw7]; exact ((HY6.out.on (Below.refl _ _).drew).putAll_aside hne.2.2.2 _ _).putAll_aside hne.2.2.2 _ _)
    have HB7 := Lib.hid (show Below w.heap.size w w7 from by rw [hw7]; exact below_putAll (w := w) (g := R) (by have := HRR.out; have := HS4.out; have := HS3.out; omega) _ _ (below_putAll (w := w) (g := R) (by have := HRR.out; have := HS4.out; have := HS3.out; omega) _ _ HB6.out.drew))
    have HO7 := Lib.hid (show OwnPrs w3.heap.size w7 Aq cq y.m.head from by
      have hg : ∀ a, Aq = some a → R ≠ a.block := fun a ha => by have := HA4.out a ha; have := HRR.out; have := HS4.out; omega
      rw [hw7]; exact ((HO6.out.on (Below.refl _ _).drew).putAll hg _ _).putAll hg _ _)
    have HM7 := Lib.hid (show ∀ p ∈ m, MaGo w7 p.x.m p.A p.c from fun p hp => by
      have h1 := HI6.out.ok p hp
      have hg : p.x.m.head ≠ [] → ∀ a, p.A = some a → R ≠ a.block := fun hh a ha => by
        have h2 := (HUS.out a.block (.inr ⟨p, hp, hh, a, ha, rfl⟩)).2
        have := HRR.out; have := HS4.out; have := HS3.out; omega
      rw [hw7]
      exact ⟨MaOk.putAll hg _ _ (MaOk.putAll hg _ _ (h1.ok.on (Below.refl _ _).drew)), h1.fits⟩)
    clear hw7 hl1 hl2 hne
    have x0 := HX7.out.cs 0 _ rfl
    have xl := HX7.out.lt
    have xf := HX7.out.s 0
    have HX8 := Lib.hid (HX7.out.put 0 (.slice (some ⟨R, 0, none⟩) N c6) (by simp))
    have HR8 := Lib.hid (HR7.out.aside (g := w.heap.size) (by omega) 0 (.slice (some ⟨R, 0, none⟩) N c6))
    have HQ8 := Lib.hid (HQ7.out.aside (g := w.heap.size) (by omega) 0 (.slice (some ⟨R, 0, none⟩) N c6))
    have HY8 := Lib.hid (HY7.out.aside (g := w.heap.size) (by have := HS3.out; have := HS4.out; omega) 0 (.slice (some ⟨R, 0, none⟩) N c6))
    have HB8 := Lib.hid (HB7.out.setCell (p := ⟨w.heap.size, 0, none⟩) (Nat.le_refl _) (.slice (some ⟨R, 0, none⟩) N c6))
    have HO8 := Lib.hid (HO7.out.aside (g := w.heap.size) (fun a ha => by have := HA4.out a ha; have := HS3.out; omega) 0 (.slice (some ⟨R, 0, none⟩) N c6))
    have HL7 := Lib.hid (show LnU (fun g => (U g ∧ g < w.heap.size) ∨ w3.heap.size ≤ g) w7 (.agg #[.slice (some ⟨R, 0, none⟩) N c6]) (l.eraseIdx k) from
      ⟨some ⟨R, 0, none⟩, c6, m.eraseIdx k, by rw [HGOOD.out.2.2], HGOOD.out.1, by rw [HGOOD.out.2.2]; have := HRC.out; omega, Its.of_box HRW7.out (fun p hp => HM7.out p (List.mem_of_mem_eraseIdx hp)), fun g hg => by
        rcases hg with ⟨_, a, ha, rfl⟩ | ⟨p, hp, hh, a, ha, rfl⟩
        · obtain rfl := Option.some.inj ha
          exact .inr (by have := HRR.out; have := HS4.out; show w3.heap.size ≤ R; omega)
        · exact .inl (HUS.out _ (.inr ⟨p, List.mem_of_mem_eraseIdx hp, hh, a, ha, rfl⟩))⟩)
    have HL8 := Lib.hid (HL7.out.aside (g := w.heap.size) (by have := HS3.out; omega) 0 (.slice (some ⟨R, 0, none⟩) N c6))
    go_upto_region 6 with fail
    generalize w7.setCell ⟨w.heap.size, 0, none⟩ (.slice (some ⟨R, 0, none⟩) N c6) = w8 at *
    clear x0 xl xf
    have x0 := HX8.out.cs 0 _ rfl
    have xl := HX8.out.lt
    have r0 := HR8.out.cs 0 _ rfl
    have rl := HR8.out.lt
    have rf := HR8.out.s 0
    have y0 := HY8.out.cs 0 _ rfl
    have y1 := HY8.out.cs 1 _ rfl
    have y2 := HY8.out.cs 2 _ rfl
    have y3 := HY8.out.cs 3 _ rfl
    have y4 := HY8.out.cs 4 _ rfl
    have y5 := HY8.out.cs 5 _ rfl
    have y6 := HY8.out.cs 6 _ rfl
    have y7 := HY8.out.cs 7 _ rfl
    have y8 := HY8.out.cs 8 _ rfl
    have yl := HY8.out.lt
    have q0 := HQ8.out.cs 0 _ rfl
    have q1 := HQ8.out.cs 1 _ rfl
    have q2 := HQ8.out.cs 2 _ rfl
    have q3 := HQ8.out.cs 3 _ rfl
    have q4 := HQ8.out.cs 4 _ rfl
    have q5 := HQ8.out.cs 5 _ rfl
    have q6 := HQ8.out.cs 6 _ rfl
    have q7 := HQ8.out.cs 7 _ rfl
    have q8 := HQ8.out.cs 8 _ rfl
    have ql := HQ8.out.lt
    have qf : ∀ j, w8.frozen? ⟨w.heap.size + 2, j, none⟩ = false := HQ8.out.s
    have hne4 : w4.heap.size ≠ w.heap.size + 1 := by have := HS3.out; have := HS4.out; omega
    have hne5 : w.heap.size + 1 ≠ w4.heap.size := fun e => hne4 e.symm
    go_region
    all_goals
      go_wp2_with fail
      have hR9 := (HR8.out.put 0 (.slice (some ⟨R, 0, none⟩) N c6) (by simp)).putAll_aside (g := w.heap.size + 2) (by omega) [.int .u64 (y.m.id : Int), .string (ofL y.m.shop), .string (ofL y.m.key), .slice Aq y.m.head.length cq, .string (ofL y.m.body), .int .u64 (y.m.due : Int), .int .u8 (y.m.hops : Int), .bool y.lent, .bool y.again] 0
      have hQ9 := (HQ8.out.aside (g := w.heap.size + 1) (by omega) 0 (.slice (some ⟨R, 0, none⟩) N c6)).fill [.int .u64 (y.m.id : Int), .string (ofL y.m.shop), .string (ofL y.m.key), .slice Aq y.m.head.length cq, .string (ofL y.m.body), .int .u64 (y.m.due : Int), .int .u8 (y.m.hops : Int), .bool y.lent, .bool y.again] rfl
      have hB9 := below_putAll (g := w.heap.size + 2) (by omega) [.int .u64 (y.m.id : Int), .string (ofL y.m.shop), .string (ofL y.m.key), .slice Aq y.m.head.length cq, .string (ofL y.m.body), .int .u64 (y.m.due : Int), .int .u8 (y.m.hops : Int), .bool y.lent, .bool y.again] 0 (HB8.out.setCell (p := ⟨w.heap.size + 1, 0, none⟩) (by simp) (.slice (some ⟨R, 0, none⟩) N c6))
      have hL9 := (HL8.out.aside (g := w.heap.size + 1) (by have := HS3.out; omega) 0 (.slice (some ⟨R, 0, none⟩) N c6)).putAll (g := w.heap.size + 2) (by have := HS3.out; omega) [.int .u64 (y.m.id : Int), .string (ofL y.m.shop), .string (ofL y.m.key), .slice Aq y.m.head.length cq, .string (ofL y.m.body), .int .u64 (y.m.due : Int), .int .u8 (y.m.hops : Int), .bool y.lent, .bool y.again] 0
      have hO9 := (HO8.out.aside (g := w.heap.size + 1) (fun a ha => by have := HA4.out a ha; have := HS3.out; omega) 0 (.slice (some ⟨R, 0, none⟩) N c6)).putAll (g := w.heap.size + 2) (fun a ha => by have := HA4.out a ha; have := HS3.out; omega) [.int .u64 (y.m.id : Int), .string (ofL y.m.shop), .string (ofL y.m.key), .slice Aq y.m.head.length cq, .string (ofL y.m.body), .int .u64 (y.m.due : Int), .int .u8 (y.m.hops : Int), .bool y.lent, .bool y.again] 0
      simp only [putAll] at hR9 hQ9 hB9 hL9 hO9
      have r0' := hR9.drew.cs 0 _ rfl
      have g0 := hQ9.drew.cs 0 _ rfl
      have g1 := hQ9.drew.cs 1 _ rfl
      have g2 := hQ9.drew.cs 2 _ rfl
      have g3 := hQ9.drew.cs 3 _ rfl
      have g4 := hQ9.drew.cs 4 _ rfl
      have g5 := hQ9.drew.cs 5 _ rfl
      have g6 := hQ9.drew.cs 6 _ rfl
      have g7 := hQ9.drew.cs 7 _ rfl
      have g8 := hQ9.drew.cs 8 _ rfl
      exact bodyPost_ret (v := .tuple #[.agg #[.slice (some ⟨R, 0, none⟩) N c6], .agg #[.int .u64 (y.m.id : Int), .string (ofL y.m.shop), .string (ofL y.m.key), .slice Aq y.m.head.length cq, .string (ofL y.m.body), .int .u64 (y.m.due : Int), .int .u8 (y.m.hops : Int), .bool y.lent, .bool y.again], .int .i64 0]) (by simp [results, Tryz.results44, go_sem, r0', g0, g1, g2, g3, g4, g5, g6, g7, g8]) rfl ⟨_, Aq, cq, rfl, hL9.drew.mono (fun g hg => hg.elim (fun a => .inl a.1) (fun a => .inr (by have := HS3.out; omega))), World.ownsRow.mono (hO9.on (Below.refl _ _).drew) (by have := HS3.out; omega), hB9.drew⟩
end Go.Proofs.YtabnkbdbbneihaaGreatDoor
end
