/-
  ONE LENT, ONE REMOVED by an act: walked.
-/
import Derived.Test.YtabnkbdbbneihaaGreatDoorLg44

section
namespace Go.Proofs.YtabnkbdbbneihaaGreatDoor
open Go.ChangeShapes Go.WideShapes Go.ChangeAt Go.RowKit
theorem idx_at_few {l : List It} (h : ∀ x ∈ l, x.m.head.length ≤ 100000) (k : Nat) : (l.getD k it0).m.head.length ≤ 100000 := by
  rw [List.getD_eq_getElem?_getD]
  cases hk : l[k]? with
  | none => simp [it0, Ml.zero]
  | some x => exact h x (List.mem_of_getElem? hk)
theorem lent_few {l : List It} (h : ∀ x ∈ l, x.m.head.length ≤ 100000) : (Ln.lentIt l).m.head.length ≤ 100000 := by
  unfold Ln.lentIt
  split
  · simp [it0, Ml.zero]
  · refine idx_at_few (fun y hy => ?_) _
    unfold Ln.lend at hy
    split at hy
    · exact h y hy
    · obtain ⟨z, hz, rfl⟩ := List.mem_map.1 hy
      exact h z hz
theorem gone_few {l : List It} (h : ∀ x ∈ l, x.m.head.length ≤ 100000) (id : Nat) : (Ln.gone l id).m.head.length ≤ 100000 := by
  unfold Ln.gone
  split
  · simp [it0, Ml.zero]
  · exact idx_at_few h _
set_option maxRecDepth 100000 in
set_option maxHeartbeats 8000000 in
theorem done18_lend (d : Nat) (x : Ml) (Ax : Option Addr) (cx : Nat) (v : Value) (l : List It) (w : World) (U : Nat → Prop) (hl : l.length ≤ 1000) (h : LnU U w v l) (hm : (d : Int) % 6 = 2) (hfw : ∀ y ∈ l, y.m.head.length ≤ 100000) : Calls Tryz.prog 10 #[v, .slice none 0 0, .agg #[.int .u8 (d : Int), .int .u64 (x.id : Int), .string (ofL x.shop), .string (ofL x.key), .slice Ax x.head.length cx, .string (ofL x.body), .int .u64 (x.due : Int), .int .u8 (x.hops : Int)]] w (DoneN U (Ln.lend l) w) := by
  have hc := h.cut
  obtain ⟨A, c, rfl, hlc⟩ := h.form
  have hb0 := three_allocs w (.cells #[.slice A l.length c] 27) (.cells #[.int .u8 (d : Int), .int .u64 (x.id : Int), .string (ofL x.shop), .string (ofL x.key), .slice Ax x.head.length cx, .string (ofL x.body), .int .u64 (x.due : Int), .int .u8 (x.hops : Int)] 33) (.cells #[.slice none 0 0] 27)
  have HX0 := Lib.hid (box_next (box_next (box_at0 w #[.slice A l.length c] 27) (.cells #[.int .u8 (d : Int), .int .u64 (x.id : Int), .string (ofL x.shop), .string (ofL x.key), .slice Ax x.head.length cx, .string (ofL x.body), .int .u64 (x.due : Int), .int .u8 (x.hops : Int)] 33)) (.cells #[.slice none 0 0] 27))
  have HA0 := Lib.hid (box_next (box_at1 w (.cells #[.slice A l.length c] 27) #[.int .u8 (d : Int), .int .u64 (x.id : Int), .string (ofL x.shop), .string (ofL x.key), .slice Ax x.head.length cx, .string (ofL x.body), .int .u64 (x.due : Int), .int .u8 (x.hops : Int)] 33) (.cells #[.slice none 0 0] 27))
  have HR0 := Lib.hid (box_at2 w (.cells #[.slice A l.length c] 27) (.cells #[.int .u8 (d : Int), .int .u64 (x.id : Int), .string (ofL x.shop), .string (ofL x.key), .slice Ax x.head.length cx, .string (ofL x.body), .int .u64 (x.due : Int), .int .u8 (x.hops : Int)] 33) #[.slice none 0 0] 27)
  have HB0 := Lib.hid hb0
  have HU0 := Lib.hid (hc.on hb0)
  have HSZ := Lib.hid (show (((w.alloc (.cells #[.slice A l.length c] 27)).alloc (.cells #[.int .u8 (d : Int), .int .u64 (x.id : Int), .string (ofL x.shop), .string (ofL x.key), .slice Ax x.head.length cx, .string (ofL x.body), .int .u64 (x.due : Int), .int .u8 (x.hops : Int)] 33)).alloc (.cells #[.slice none 0 0] 27)).heap.size = w.heap.size + 3 by simp)
  have HC := Lib.hid (fun W h => lnLend_any (.agg #[.slice A l.length c]) l W (fun g => U g ∧ g < w.heap.size) (by omega) h)
  have HD := Lib.hid (fun W => r18Lend_nil W)
  have HLE := Lib.hid (show (Ln.lentIt l).m.head.length ≤ 100000 from lent_few hfw)
  generalize decide (0 ≤ Ln.next l) = ok at *
  generalize Ln.lentIt l = y at *
  unfold LentPost at HC
  simp only [itV] at HC
  rw [show itV it0 none 0 = .agg #[.int .u64 0, .string ⟨#[]⟩, .string ⟨#[]⟩, .slice none 0 0, .string ⟨#[]⟩, .int .u64 0, .int .u8 0, .bool false, .bool false] from rfl] at HD
  clear hc h
  go_enter Tryz.func10, Tryz.ntmps10
  go_upto_region 6 with fail
  clear hb0
  generalize (((w.alloc (.cells #[.slice A l.length c] 27)).alloc (.cells #[.int .u8 (d : Int), .int .u64 (x.id : Int), .string (ofL x.shop), .string (ofL x.key), .slice Ax x.head.length cx, .string (ofL x.body), .int .u64 (x.due : Int), .int .u8 (x.hops : Int)] 33)).alloc (.cells #[.slice none 0 0] 27)) = w2 at *
  have x0 := HX0.out.cs 0 _ rfl
  have xl := HX0.out.lt
  have a0 := HA0.out.cs 0 _ rfl
  have a1 := HA0.out.cs 1 _ rfl
  have a2 := HA0.out.cs 2 _ rfl
  have a3 := HA0.out.cs 3 _ rfl
  have a4 := HA0.out.cs 4 _ rfl
  have a5 := HA0.out.cs 5 _ rfl
  have a6 := HA0.out.cs 6 _ rfl
  have a7 := HA0.out.cs 7 _ rfl
  have al := HA0.out.lt
  go_wp2_with fail
  refine (HC.out _ HU0.out).mono ?_
  rintro e w3 ⟨v', Aq, cq, rfl, h3, ho, hb⟩
  obtain ⟨A', c', rfl, -⟩ := h3.form
  have HL3 := Lib.hid h3
  have HX3 := Lib.hid (HX0.out.on hb)
  have HA3 := Lib.hid (HA0.out.on hb)
  have HR3 := Lib.hid (HR0.out.on hb)
  have HB3 := Lib.hid (bthen HB0.out hb (Nat.le_refl _))
  have HP3 := Lib.hid ho.row
  have HS3 := Lib.hid (show w.heap.size + 3 ≤ w3.heap.size from by have := hb.size; have := HSZ.out; omega)
  clear hb h3 ho
  clear x0 xl a0 a1 a2 a3 a4 a5 a6 a7 al
  generalize (Ln.lend l).length = nn at *
  have h4 := two_allocs w3 (.cells #[.slice A' nn c'] 27) (.cells #[.int .u64 (y.m.id : Int), .string (ofL y.m.shop), .string (ofL y.m.key), .slice Aq y.m.head.length cq, .string (ofL y.m.body), .int .u64 (y.m.due : Int), .int .u8 (y.m.hops : Int), .bool y.lent, .bool y.again] 41)
  have HY4 := Lib.hid (box_next (box_at0 w3 #[.slice A' nn c'] 27) (.cells #[.int .u64 (y.m.id : Int), .string (ofL y.m.shop), .string (ofL y.m.key), .slice Aq y.m.head.length cq, .string (ofL y.m.body), .int .u64 (y.m.due : Int), .int .u8 (y.m.hops : Int), .bool y.lent, .bool y.again] 41))
  have HZ4 := Lib.hid (box_at1 w3 (.cells #[.slice A' nn c'] 27) #[.int .u64 (y.m.id : Int), .string (ofL y.m.shop), .string (ofL y.m.key), .slice Aq y.m.head.length cq, .string (ofL y.m.body), .int .u64 (y.m.due : Int), .int .u8 (y.m.hops : Int), .bool y.lent, .bool y.again] 41)
  have HR4 := Lib.hid (HR3.out.on h4)
  have HA4 := Lib.hid (HA3.out.on h4)
  have HB4 := Lib.hid (bthen HB3.out h4 (Nat.le_refl _))
  have HL4 := Lib.hid (HL3.out.on h4)
  have HP4 := Lib.hid (HP3.out.1.on h4)
  clear h4
  go_upto_region 7 with fail
  generalize ((w3.alloc (.cells #[.slice A' nn c'] 27)).alloc (.cells #[.int .u64 (y.m.id : Int), .string (ofL y.m.shop), .string (ofL y.m.key), .slice Aq y.m.head.length cq, .string (ofL y.m.body), .int .u64 (y.m.due : Int), .int .u8 (y.m.hops : Int), .bool y.lent, .bool y.again] 41)) = w4 at *
  go_wp2_with fail
  refine (HD.out _).mono ?_
  rintro e w5 ⟨rfl, hb⟩
  have HB5 := Lib.hid (bthen HB4.out hb (Nat.le_refl _))
  have HY5 := Lib.hid (HY4.out.on hb)
  have HZ5 := Lib.hid (HZ4.out.on hb)
  have HR5 := Lib.hid (HR4.out.on hb)
  have HL5 := Lib.hid (HL4.out.on hb)
  have HP5 := Lib.hid (HP4.out.on hb)
  clear hb
  have h6 := one_alloc w5 (.cells #[.int .u64 0, .string ⟨#[]⟩, .string ⟨#[]⟩, .slice none 0 0, .string ⟨#[]⟩, .int .u64 0, .int .u8 0, .bool false, .bool false] 82)
  have HB6 := Lib.hid (bthen HB5.out h6 (Nat.le_refl _))
  have HY6 := Lib.hid (HY5.out.on h6)
  have HZ6 := Lib.hid (HZ5.out.on h6)
  have HR6 := Lib.hid (HR5.out.on h6)
  have HL6 := Lib.hid (HL5.out.on h6)
  have HP6 := Lib.hid (HP5.out.on h6)
  have HQ6 := Lib.hid (box_at0 w5 #[.int .u64 0, .string ⟨#[]⟩, .string ⟨#[]⟩, .slice none 0 0, .string ⟨#[]⟩, .int .u64 0, .int .u8 0, .bool false, .bool false] 82)
  clear h6
  go_upto_region 8 with fail
  generalize w5.alloc (.cells #[.int .u64 0, .string ⟨#[]⟩, .string ⟨#[]⟩, .slice none 0 0, .string ⟨#[]⟩, .int .u64 0, .int .u8 0, .bool false, .bool false] 82) = w6 at *
  generalize w5.heap.size = b5 at *
  have y0 := HY6.out.cs 0 _ rfl
  have yl := HY6.out.lt
  have z0 := HZ6.out.cs 0 _ rfl
  have z1 := HZ6.out.cs 1 _ rfl
  have z2 := HZ6.out.cs 2 _ rfl
  have z3 := HZ6.out.cs 3 _ rfl
  have z4 := HZ6.out.cs 4 _ rfl
  have z5 := HZ6.out.cs 5 _ rfl
  have z6 := HZ6.out.cs 6 _ rfl
  have z7 := HZ6.out.cs 7 _ rfl
  have z8 := HZ6.out.cs 8 _ rfl
  have zl := HZ6.out.lt
  have q0 := HQ6.out.cs 0 _ rfl
  have q1 := HQ6.out.cs 1 _ rfl
  have q2 := HQ6.out.cs 2 _ rfl
  have q3 := HQ6.out.cs 3 _ rfl
  have q4 := HQ6.out.cs 4 _ rfl
  have q5 := HQ6.out.cs 5 _ rfl
  have q6 := HQ6.out.cs 6 _ rfl
  have q7 := HQ6.out.cs 7 _ rfl
  have q8 := HQ6.out.cs 8 _ rfl
  have ql := HQ6.out.lt
  have r0 := HR6.out.cs 0 _ rfl
  have rl := HR6.out.lt
  have rf := HR6.out.s 0
  have hne1 : w3.heap.size ≠ w.heap.size + 2 := by have := HS3.out; omega
  cases ok
  · have HSM := Lib.hid (fun W h => r18SameItem_any y it0 Aq none cq 0 W HLE.out (by simp [it0, Ml.zero]) h (Prs.nil _ _))
    rw [show itV it0 none 0 = .agg #[.int .u64 0, .string ⟨#[]⟩, .string ⟨#[]⟩, .slice none 0 0, .string ⟨#[]⟩, .int .u64 0, .int .u8 0, .bool false, .bool false] from rfl] at HSM
    simp only [itV] at HSM
    obtain ⟨B, hB⟩ : ∃ B, itEqR y it0 = B := ⟨_, rfl⟩
    rw [hB] at HSM
    go_region_with (first
      | (go_at_call 42; refine (HSM.out _ (HP6.out.on (Below.refl _ _).drew)).mono ?_; rintro e w7 ⟨rfl, hb⟩; have HR7 := Lib.hid (HR6.out.drew.on hb); have HB7 := Lib.hid (bthen HB6.out.drew hb (Nat.le_refl _)); have HL7 := Lib.hid (HL6.out.drew.on hb); have HY7 := Lib.hid (HY6.out.drew.on hb); have s0 := HY7.out.cs 0 _ rfl; have sl := HY7.out.lt; have t0 := HR7.out.cs 0 _ rfl; have tl := HR7.out.lt; have tf := HR7.out.s 0; clear hb))
    all_goals
      go_wp2_with fail
      have hR9 := HR7.out.put 0 (.slice A' nn c') (by simp)
      have hB9 := HB7.out.setCell (p := ⟨w.heap.size + 2, 0, none⟩) (by simp) (.slice A' nn c')
      have hL9 := HL7.out.aside (g := w.heap.size + 2) (by have := HSZ.out; omega) 0 (.slice A' nn c')
      have g0 := hR9.cs 0 _ rfl
      exact bodyPost_ret (v := .tuple #[.agg #[.slice A' nn c'], .slice none 0 0, .bool B]) (by simp [results, Tryz.results10, go_sem, g0]) rfl ⟨_, none, 0, 0, B, rfl, hL9.mono (fun g hg => hg.elim (fun a => .inl a.1) (fun a => .inr (by have := HSZ.out; omega))), hB9⟩
  · go_region
    all_goals
      go_wp2_with fail
      have hR9 := HR6.out.put 0 (.slice A' nn c') (by simp)
      have hB9 := HB6.out.setCell (p := ⟨w.heap.size + 2, 0, none⟩) (by simp) (.slice A' nn c')
      have hL9 := HL6.out.aside (g := w.heap.size + 2) (by have := HSZ.out; omega) 0 (.slice A' nn c')
      have g0 := hR9.cs 0 _ rfl
      exact bodyPost_ret (v := .tuple #[.agg #[.slice A' nn c'], .slice none 0 0, .bool false]) (by simp [results, Tryz.results10, go_sem, g0]) rfl ⟨_, none, 0, 0, false, rfl, hL9.drew.mono (fun g hg => hg.elim (fun a => .inl a.1) (fun a => .inr (by have := HSZ.out; omega))), hB9.drew⟩
set_option maxRecDepth 100000 in
set_option maxHeartbeats 8000000 in
theorem done18_remove (d : Nat) (x : Ml) (Ax : Option Addr) (cx : Nat) (v : Value) (l : List It) (w : World) (U : Nat → Prop) (hl : l.length ≤ 1000) (h : LnU U w v l) (hm : (d : Int) % 6 = 4) (hfw : ∀ y ∈ l, y.m.head.length ≤ 100000) : Calls Tryz.prog 10 #[v, .slice none 0 0, .agg #[.int .u8 (d : Int), .int .u64 (x.id : Int), .string (ofL x.shop), .string (ofL x.key), .slice Ax x.head.length cx, .string (ofL x.body), .int .u64 (x.due : Int), .int .u8 (x.hops : Int)]] w (DoneN U (Ln.remove l x.id) w) := by
  have hc := h.cut
  obtain ⟨A, c, rfl, hlc⟩ := h.form
  have hb0 := three_allocs w (.cells #[.slice A l.length c] 27) (.cells #[.int .u8 (d : Int), .int .u64 (x.id : Int), .string (ofL x.shop), .string (ofL x.key), .slice Ax x.head.length cx, .string (ofL x.body), .int .u64 (x.due : Int), .int .u8 (x.hops : Int)] 33) (.cells #[.slice none 0 0] 27)
  have HX0 := Lib.hid (box_next (box_next (box_at0 w #[.slice A l.length c] 27) (.cells #[.int .u8 (d : Int), .int .u64 (x.id : Int), .string (ofL x.shop), .string (ofL x.key), .slice Ax x.head.length cx, .string (ofL x.body), .int .u64 (x.due : Int), .int .u8 (x.hops : Int)] 33)) (.cells #[.slice none 0 0] 27))
  have HA0 := Lib.hid (box_next (box_at1 w (.cells #[.slice A l.length c] 27) #[.int .u8 (d : Int), .int .u64 (x.id : Int), .string (ofL x.shop), .string (ofL x.key), .slice Ax x.head.length cx, .string (ofL x.body), .int .u64 (x.due : Int), .int .u8 (x.hops : Int)] 33) (.cells #[.slice none 0 0] 27))
  have HR0 := Lib.hid (box_at2 w (.cells #[.slice A l.length c] 27) (.cells #[.int .u8 (d : Int), .int .u64 (x.id : Int), .string (ofL x.shop), .string (ofL x.key), .slice Ax x.head.length cx, .string (ofL x.body), .int .u64 (x.due : Int), .int .u8 (x.hops : Int)] 33) #[.slice none 0 0] 27)
  have HB0 := Lib.hid hb0
  have HU0 := Lib.hid (hc.on hb0)
  have HSZ := Lib.hid (show (((w.alloc (.cells #[.slice A l.length c] 27)).alloc (.cells #[.int .u8 (d : Int), .int .u64 (x.id : Int), .string (ofL x.shop), .string (ofL x.key), .slice Ax x.head.length cx, .string (ofL x.body), .int .u64 (x.due : Int), .int .u8 (x.hops : Int)] 33)).alloc (.cells #[.slice none 0 0] 27)).heap.size = w.heap.size + 3 by simp)
  have HC := Lib.hid (fun W h => lnRemove_any x.id (.agg #[.slice A l.length c]) l W (fun g => U g ∧ g < w.heap.size) (by omega) h)
  have HD := Lib.hid (fun W => r18Remove_nil x.id W)
  have HLE := Lib.hid (show (Ln.gone l x.id).m.head.length ≤ 100000 from gone_few hfw x.id)
  generalize (if Ln.find l x.id < 0 then 10 else 0) = cd at *
  generalize Ln.gone l x.id = y at *
  unfold RemPost at HC
  simp only [itV] at HC
  rw [show itV it0 none 0 = .agg #[.int .u64 0, .string ⟨#[]⟩, .string ⟨#[]⟩, .slice none 0 0, .string ⟨#[]⟩, .int .u64 0, .int .u8 0, .bool false, .bool false] from rfl] at HD
  clear hc h
  go_enter Tryz.func10, Tryz.ntmps10
  go_upto_region 13 with fail
  clear hb0
  generalize (((w.alloc (.cells #[.slice A l.length c] 27)).alloc (.cells #[.int .u8 (d : Int), .int .u64 (x.id : Int), .string (ofL x.shop), .string (ofL x.key), .slice Ax x.head.length cx, .string (ofL x.body), .int .u64 (x.due : Int), .int .u8 (x.hops : Int)] 33)).alloc (.cells #[.slice none 0 0] 27)) = w2 at *
  have x0 := HX0.out.cs 0 _ rfl
  have xl := HX0.out.lt
  have a0 := HA0.out.cs 0 _ rfl
  have a1 := HA0.out.cs 1 _ rfl
  have a2 := HA0.out.cs 2 _ rfl
  have a3 := HA0.out.cs 3 _ rfl
  have a4 := HA0.out.cs 4 _ rfl
  have a5 := HA0.out.cs 5 _ rfl
  have a6 := HA0.out.cs 6 _ rfl
  have a7 := HA0.out.cs 7 _ rfl
  have al := HA0.out.lt
  go_wp2_with fail
  refine (HC.out _ HU0.out).mono ?_
  rintro e w3 ⟨v', Aq, cq, rfl, h3, ho, hb⟩
  obtain ⟨A', c', rfl, -⟩ := h3.form
  have HL3 := Lib.hid h3
  have HX3 := Lib.hid (HX0.out.on hb)
  have HA3 := Lib.hid (HA0.out.on hb)
  have HR3 := Lib.hid (HR0.out.on hb)
  have HB3 := Lib.hid (bthen HB0.out hb (Nat.le_refl _))
  have HP3 := Lib.hid ho.row
  have HS3 := Lib.hid (show w.heap.size + 3 ≤ w3.heap.size from by have := hb.size; have := HSZ.out; omega)
  clear hb h3 ho
  clear x0 xl a0 a1 a2 a3 a4 a5 a6 a7 al
  generalize (Ln.remove l x.id).length = nn at *
  have h4 := two_allocs w3 (.cells #[.slice A' nn c'] 27) (.cells #[.int .u64 (y.m.id : Int), .string (ofL y.m.shop), .string (ofL y.m.key), .slice Aq y.m.head.length cq, .string (ofL y.m.body), .int .u64 (y.m.due : Int), .int .u8 (y.m.hops : Int), .bool y.lent, .bool y.again] 41)
  have HY4 := Lib.hid (box_next (box_at0 w3 #[.slice A' nn c'] 27) (.cells #[.int .u64 (y.m.id : Int), .string (ofL y.m.shop), .string (ofL y.m.key), .slice Aq y.m.head.length cq, .string (ofL y.m.body), .int .u64 (y.m.due : Int), .int .u8 (y.m.hops : Int), .bool y.lent, .bool y.again] 41))
  have HZ4 := Lib.hid (box_at1 w3 (.cells #[.slice A' nn c'] 27) #[.int .u64 (y.m.id : Int), .string (ofL y.m.shop), .string (ofL y.m.key), .slice Aq y.m.head.length cq, .string (ofL y.m.body), .int .u64 (y.m.due : Int), .int .u8 (y.m.hops : Int), .bool y.lent, .bool y.again] 41)
  have HR4 := Lib.hid (HR3.out.on h4)
  have HA4 := Lib.hid (HA3.out.on h4)
  have HB4 := Lib.hid (bthen HB3.out h4 (Nat.le_refl _))
  have HL4 := Lib.hid (HL3.out.on h4)
  have HP4 := Lib.hid (HP3.out.1.on h4)
  clear h4
  go_upto_region 14 with fail
  generalize ((w3.alloc (.cells #[.slice A' nn c'] 27)).alloc (.cells #[.int .u64 (y.m.id : Int), .string (ofL y.m.shop), .string (ofL y.m.key), .slice Aq y.m.head.length cq, .string (ofL y.m.body), .int .u64 (y.m.due : Int), .int .u8 (y.m.hops : Int), .bool y.lent, .bool y.again] 41)) = w4 at *
  have a1 := HA4.out.cs 1 _ rfl
  have al := HA4.out.lt
  go_wp2_with fail
  refine (HD.out _).mono ?_
  rintro e w5 ⟨rfl, hb⟩
  have HB5 := Lib.hid (bthen HB4.out hb (Nat.le_refl _))
  have HY5 := Lib.hid (HY4.out.on hb)
  have HZ5 := Lib.hid (HZ4.out.on hb)
  have HR5 := Lib.hid (HR4.out.on hb)
  have HL5 := Lib.hid (HL4.out.on hb)
  have HP5 := Lib.hid (HP4.out.on hb)
  clear hb
  have h6 := one_alloc w5 (.cells #[.int .u64 0, .string ⟨#[]⟩, .string ⟨#[]⟩, .slice none 0 0, .string ⟨#[]⟩, .int .u64 0, .int .u8 0, .bool false, .bool false] 82)
  have HB6 := Lib.hid (bthen HB5.out h6 (Nat.le_refl _))
  have HY6 := Lib.hid (HY5.out.on h6)
  have HZ6 := Lib.hid (HZ5.out.on h6)
  have HR6 := Lib.hid (HR5.out.on h6)
  have HL6 := Lib.hid (HL5.out.on h6)
  have HP6 := Lib.hid (HP5.out.on h6)
  have HQ6 := Lib.hid (box_at0 w5 #[.int .u64 0, .string ⟨#[]⟩, .string ⟨#[]⟩, .slice none 0 0, .string ⟨#[]⟩, .int .u64 0, .int .u8 0, .bool false, .bool false] 82)
  clear h6
  go_upto_region 15 with fail
  generalize w5.alloc (.cells #[.int .u64 0, .string ⟨#[]⟩, .string ⟨#[]⟩, .slice none 0 0, .string ⟨#[]⟩, .int .u64 0, .int .u8 0, .bool false, .bool false] 82) = w6 at *
  generalize w5.heap.size = b5 at *
  have y0 := HY6.out.cs 0 _ rfl
  have yl := HY6.out.lt
  have z0 := HZ6.out.cs 0 _ rfl
  have z1 := HZ6.out.cs 1 _ rfl
  have z2 := HZ6.out.cs 2 _ rfl
  have z3 := HZ6.out.cs 3 _ rfl
  have z4 := HZ6.out.cs 4 _ rfl
  have z5 := HZ6.out.cs 5 _ rfl
  have z6 := HZ6.out.cs 6 _ rfl
  have z7 := HZ6.out.cs 7 _ rfl
  have z8 := HZ6.out.cs 8 _ rfl
  have zl := HZ6.out.lt
  have q0 := HQ6.out.cs 0 _ rfl
  have q1 := HQ6.out.cs 1 _ rfl
  have q2 := HQ6.out.cs 2 _ rfl
  have q3 := HQ6.out.cs 3 _ rfl
  have q4 := HQ6.out.cs 4 _ rfl
  have q5 := HQ6.out.cs 5 _ rfl
  have q6 := HQ6.out.cs 6 _ rfl
  have q7 := HQ6.out.cs 7 _ rfl
  have q8 := HQ6.out.cs 8 _ rfl
  have ql := HQ6.out.lt
  have r0 := HR6.out.cs 0 _ rfl
  have rl := HR6.out.lt
  have rf := HR6.out.s 0
  have hne1 : w3.heap.size ≠ w.heap.size + 2 := by have := HS3.out; omega
  by_cases h10 : cd = 10
  · have hcd : ((cd : Int) == 10) = true := by simp; omega
    have hcd2 : (cd == 10) = true := by simp; omega
    have HSM := Lib.hid (fun W h => r18SameItem_any y it0 Aq none cq 0 W HLE.out (by simp [it0, Ml.zero]) h (Prs.nil _ _))
    rw [show itV it0 none 0 = .agg #[.int .u64 0, .string ⟨#[]⟩, .string ⟨#[]⟩, .slice none 0 0, .string ⟨#[]⟩, .int .u64 0, .int .u8 0, .bool false, .bool false] from rfl] at HSM
    simp only [itV] at HSM
    obtain ⟨B, hB⟩ : ∃ B, itEqR y it0 = B := ⟨_, rfl⟩
    rw [hB] at HSM
    go_region_with (first
      | (go_at_call 42; refine (HSM.out _ (HP6.out.on (Below.refl _ _).drew)).mono ?_; rintro e w7 ⟨rfl, hb⟩; have HR7 := Lib.hid (HR6.out.drew.on hb); have HB7 := Lib.hid (bthen HB6.out.drew hb (Nat.le_refl _)); have HL7 := Lib.hid (HL6.out.drew.on hb); have HY7 := Lib.hid (HY6.out.drew.on hb); have s0 := HY7.out.cs 0 _ rfl; have sl := HY7.out.lt; have t0 := HR7.out.cs 0 _ rfl; have tl := HR7.out.lt; have tf := HR7.out.s 0; clear hb))
    all_goals
      go_wp2_with fail
      have hR9 := HR7.out.put 0 (.slice A' nn c') (by simp)
      have hB9 := HB7.out.setCell (p := ⟨w.heap.size + 2, 0, none⟩) (by simp) (.slice A' nn c')
      have hL9 := HL7.out.aside (g := w.heap.size + 2) (by have := HSZ.out; omega) 0 (.slice A' nn c')
      have g0 := hR9.cs 0 _ rfl
      exact bodyPost_ret (v := .tuple #[.agg #[.slice A' nn c'], .slice none 0 0, .bool B]) (by simp [results, Tryz.results10, go_sem, g0]) rfl ⟨_, none, 0, 0, B, rfl, hL9.mono (fun g hg => hg.elim (fun a => .inl a.1) (fun a => .inr (by have := HSZ.out; omega))), hB9⟩
  · have hcd : ((cd : Int) == 10) = false := by simp; omega
    have hcd2 : (cd == 10) = false := by simp; omega
    go_region
    all_goals
      go_wp2_with fail
      have hR9 := HR6.out.put 0 (.slice A' nn c') (by simp)
      have hB9 := HB6.out.setCell (p := ⟨w.heap.size + 2, 0, none⟩) (by simp) (.slice A' nn c')
      have hL9 := HL6.out.aside (g := w.heap.size + 2) (by have := HSZ.out; omega) 0 (.slice A' nn c')
      have g0 := hR9.cs 0 _ rfl
      exact bodyPost_ret (v := .tuple #[.agg #[.slice A' nn c'], .slice none 0 0, .bool false]) (by simp [results, Tryz.results10, go_sem, g0]) rfl ⟨_, none, 0, 0, false, rfl, hL9.drew.mono (fun g hg => hg.elim (fun a => .inl a.1) (fun a => .inr (by have := HSZ.out; omega))), hB9.drew⟩
end Go.Proofs.YtabnkbdbbneihaaGreatDoor
end
