/-
  AN ACT DONE TO A LINE (beside the document's of nothing): walked.
-/
import Derived.Test.YtabnkbdbbneihaaGreatDoorLg43

section
namespace Go.Proofs.YtabnkbdbbneihaaGreatDoor
open Go.ChangeShapes Go.WideShapes Go.ChangeAt Go.RowKit
def DoneN (U : Nat → Prop) (l' : List It) (w : World) (e : Ending) (w' : World) : Prop := ∃ v A n c b, e = .returned (.tuple #[v, .slice A n c, .bool b]) ∧ LnU (fun g => U g ∨ w.heap.size ≤ g) w' v l' ∧ Below w.heap.size w w'
set_option maxRecDepth 100000 in
set_option maxHeartbeats 8000000 in
theorem done18_wake (d : Nat) (x : Ml) (Ax : Option Addr) (cx : Nat) (v : Value) (l : List It) (w : World) (U : Nat → Prop) (hl : l.length ≤ 1000) (h : LnU U w v l) (hm : (d : Int) % 6 = 5) : Calls Tryz.prog 10 #[v, .slice none 0 0, .agg #[.int .u8 (d : Int), .int .u64 (x.id : Int), .string (ofL x.shop), .string (ofL x.key), .slice Ax x.head.length cx, .string (ofL x.body), .int .u64 (x.due : Int), .int .u8 (x.hops : Int)]] w (DoneN U (Ln.wake l) w) := by
  have hc := h.cut
  obtain ⟨A, c, rfl, hlc⟩ := h.form
  have hb0 := three_allocs w (.cells #[.slice A l.length c] 27) (.cells #[.int .u8 (d : Int), .int .u64 (x.id : Int), .string (ofL x.shop), .string (ofL x.key), .slice Ax x.head.length cx, .string (ofL x.body), .int .u64 (x.due : Int), .int .u8 (x.hops : Int)] 33) (.cells #[.slice none 0 0] 27)
  have HX0 := Lib.hid (box_next (box_next (box_at0 w #[.slice A l.length c] 27) (.cells #[.int .u8 (d : Int), .int .u64 (x.id : Int), .string (ofL x.shop), .string (ofL x.key), .slice Ax x.head.length cx, .string (ofL x.body), .int .u64 (x.due : Int), .int .u8 (x.hops : Int)] 33)) (.cells #[.slice none 0 0] 27))
  have HA0 := Lib.hid (box_next (box_at1 w (.cells #[.slice A l.length c] 27) #[.int .u8 (d : Int), .int .u64 (x.id : Int), .string (ofL x.shop), .string (ofL x.key), .slice Ax x.head.length cx, .string (ofL x.body), .int .u64 (x.due : Int), .int .u8 (x.hops : Int)] 33) (.cells #[.slice none 0 0] 27))
  have HR0 := Lib.hid (box_at2 w (.cells #[.slice A l.length c] 27) (.cells #[.int .u8 (d : Int), .int .u64 (x.id : Int), .string (ofL x.shop), .string (ofL x.key), .slice Ax x.head.length cx, .string (ofL x.body), .int .u64 (x.due : Int), .int .u8 (x.hops : Int)] 33) #[.slice none 0 0] 27)
  have HB0 := Lib.hid hb0
  have HU0 := Lib.hid (hc.on hb0)
  have HSZ := Lib.hid (show (((w.alloc (.cells #[.slice A l.length c] 27)).alloc (.cells #[.int .u8 (d : Int), .int .u64 (x.id : Int), .string (ofL x.shop), .string (ofL x.key), .slice Ax x.head.length cx, .string (ofL x.body), .int .u64 (x.due : Int), .int .u8 (x.hops : Int)] 33)).alloc (.cells #[.slice none 0 0] 27)).heap.size = w.heap.size + 3 by simp)
  have HC := Lib.hid (fun W h => lnWake_any (.agg #[.slice A l.length c]) l W (fun g => U g ∧ g < w.heap.size) (by omega) h)
  have HD := Lib.hid (fun W => r18Wake_nil W)
  clear hc h
  go_enter Tryz.func10, Tryz.ntmps10
  go_upto_region 17 with fail
  clear hb0
  generalize (((w.alloc (.cells #[.slice A l.length c] 27)).alloc (.cells #[.int .u8 (d : Int), .int .u64 (x.id : Int), .string (ofL x.shop), .string (ofL x.key), .slice Ax x.head.length cx, .string (ofL x.body), .int .u64 (x.due : Int), .int .u8 (x.hops : Int)] 33)).alloc (.cells #[.slice none 0 0] 27)) = w2 at *
  have x0 := HX0.out.cs 0 _ rfl
  have xl := HX0.out.lt
  have a0 := HA0.out.cs 0 _ rfl
  have a1 := HA0.out.cs 1 _ rfl
  have a2 := HA0.out.cs 2 _ rfl
  have a3 := HA0.out.cs 3 _ rfl
  have a4 := HA0.out.cs 4 _ rfl
  have a5 := HA0.out.cs 5 _ rfl
  have a6 := HA0.out.cs 6 _ rfl
  have a7 := HA0.out.cs 7 _ rfl
  have al := HA0.out.lt
  go_wp2_with fail
  refine (HC.out _ HU0.out).mono ?_
  rintro e w3 ⟨v', rfl, h3, hb⟩
  obtain ⟨A', c', rfl, -⟩ := h3.form
  have HL3 := Lib.hid h3
  have HX3 := Lib.hid (HX0.out.on hb)
  have HA3 := Lib.hid (HA0.out.on hb)
  have HR3 := Lib.hid (HR0.out.on hb)
  have HB3 := Lib.hid (bthen HB0.out hb (Nat.le_refl _))
  clear hb h3
  clear x0 xl a0 a1 a2 a3 a4 a5 a6 a7 al
  generalize (Ln.wake l).length = nn at *
  go_wp2_with fail
  refine (HD.out _).mono ?_
  rintro e w5 ⟨rfl, rfl⟩
  have x0 := HX3.out.cs 0 _ rfl
  have xl := HX3.out.lt
  have xf := HX3.out.s 0
  have HX4 := Lib.hid (HX3.out.put 0 (.slice A' nn c') (by simp))
  have HA4 := Lib.hid (HA3.out.aside (g := w.heap.size) (by omega) 0 (.slice A' nn c'))
  have HR4 := Lib.hid (HR3.out.aside (g := w.heap.size) (by omega) 0 (.slice A' nn c'))
  have HB4 := Lib.hid (HB3.out.setCell (p := ⟨w.heap.size, 0, none⟩) (Nat.le_refl _) (.slice A' nn c'))
  have HL4 := Lib.hid (HL3.out.aside (g := w.heap.size) (by have := HSZ.out; omega) 0 (.slice A' nn c'))
  have HS4 := Lib.hid (show (w3.setCell ⟨w.heap.size, 0, none⟩ (.slice A' nn c')).heap.size = w3.heap.size by simp [World.setCell])
  go_upto_region 18 with fail
  generalize w3.setCell ⟨w.heap.size, 0, none⟩ (.slice A' nn c') = w4 at *
  clear x0 xl xf
  have x0 := HX4.out.cs 0 _ rfl
  have xl := HX4.out.lt
  have r0 := HR4.out.cs 0 _ rfl
  have rl := HR4.out.lt
  have rf := HR4.out.s 0
  go_wp2_with fail
  have hR9 := HR4.out.put 0 (.slice A' nn c') (by simp)
  have g0 := hR9.cs 0 _ rfl
  have hB9 := HB4.out.setCell (p := ⟨w.heap.size + 2, 0, none⟩) (by simp) (.slice A' nn c')
  have hL9 := HL4.out.aside (g := w.heap.size + 2) (by have := HSZ.out; omega) 0 (.slice A' nn c')
  exact bodyPost_ret (v := .tuple #[.agg #[.slice A' nn c'], .slice none 0 0, .bool true]) (by simp [results, Tryz.results10, go_sem, g0]) rfl ⟨_, none, 0, 0, true, rfl, hL9.mono (fun g hg => hg.elim (fun a => .inl a.1) (fun a => .inr (by have := HSZ.out; omega))), hB9⟩
set_option maxRecDepth 100000 in
set_option maxHeartbeats 8000000 in
theorem done18_back (d : Nat) (x : Ml) (Ax : Option Addr) (cx : Nat) (v : Value) (l : List It) (w : World) (U : Nat → Prop) (hl : l.length ≤ 1000) (h : LnU U w v l) (hm : (d : Int) % 6 = 3) : Calls Tryz.prog 10 #[v, .slice none 0 0, .agg #[.int .u8 (d : Int), .int .u64 (x.id : Int), .string (ofL x.shop), .string (ofL x.key), .slice Ax x.head.length cx, .string (ofL x.body), .int .u64 (x.due : Int), .int .u8 (x.hops : Int)]] w (DoneN U (Ln.back l x.id) w) := by
  have hc := h.cut
  obtain ⟨A, c, rfl, hlc⟩ := h.form
  have hb0 := three_allocs w (.cells #[.slice A l.length c] 27) (.cells #[.int .u8 (d : Int), .int .u64 (x.id : Int), .string (ofL x.shop), .string (ofL x.key), .slice Ax x.head.length cx, .string (ofL x.body), .int .u64 (x.due : Int), .int .u8 (x.hops : Int)] 33) (.cells #[.slice none 0 0] 27)
  have HX0 := Lib.hid (box_next (box_next (box_at0 w #[.slice A l.length c] 27) (.cells #[.int .u8 (d : Int), .int .u64 (x.id : Int), .string (ofL x.shop), .string (ofL x.key), .slice Ax x.head.length cx, .string (ofL x.body), .int .u64 (x.due : Int), .int .u8 (x.hops : Int)] 33)) (.cells #[.slice none 0 0] 27))
  have HA0 := Lib.hid (box_next (box_at1 w (.cells #[.slice A l.length c] 27) #[.int .u8 (d : Int), .int .u64 (x.id : Int), .string (ofL x.shop), .string (ofL x.key), .slice Ax x.head.length cx, .string (ofL x.body), .int .u64 (x.due : Int), .int .u8 (x.hops : Int)] 33) (.cells #[.slice none 0 0] 27))
  have HR0 := Lib.hid (box_at2 w (.cells #[.slice A l.length c] 27) (.cells #[.int .u8 (d : Int), .int .u64 (x.id : Int), .string (ofL x.shop), .string (ofL x.key), .slice Ax x.head.length cx, .string (ofL x.body), .int .u64 (x.due : Int), .int .u8 (x.hops : Int)] 33) #[.slice none 0 0] 27)
  have HB0 := Lib.hid hb0
  have HU0 := Lib.hid (hc.on hb0)
  have HSZ := Lib.hid (show (((w.alloc (.cells #[.slice A l.length c] 27)).alloc (.cells #[.int .u8 (d : Int), .int .u64 (x.id : Int), .string (ofL x.shop), .string (ofL x.key), .slice Ax x.head.length cx, .string (ofL x.body), .int .u64 (x.due : Int), .int .u8 (x.hops : Int)] 33)).alloc (.cells #[.slice none 0 0] 27)).heap.size = w.heap.size + 3 by simp)
  have HC := Lib.hid (fun W h => lnBack_any x.id (.agg #[.slice A l.length c]) l W (fun g => U g ∧ g < w.heap.size) (by omega) h)
  have HD := Lib.hid (fun W => r18Back_nil x.id W)
  obtain ⟨B, hB⟩ : ∃ B, ((Ln.bcode l x.id : Int) == 10) = B := ⟨_, rfl⟩
  have hB2 : ((Ln.bcode l x.id) == 10) = B := by rw [← hB]; rw [Bool.eq_iff_iff]; simp only [beq_iff_eq]; omega
  generalize Ln.bcode l x.id = cd at *
  clear hc h
  go_enter Tryz.func10, Tryz.ntmps10
  go_upto_region 10 with fail
  clear hb0
  generalize (((w.alloc (.cells #[.slice A l.length c] 27)).alloc (.cells #[.int .u8 (d : Int), .int .u64 (x.id : Int), .string (ofL x.shop), .string (ofL x.key), .slice Ax x.head.length cx, .string (ofL x.body), .int .u64 (x.due : Int), .int .u8 (x.hops : Int)] 33)).alloc (.cells #[.slice none 0 0] 27)) = w2 at *
  have x0 := HX0.out.cs 0 _ rfl
  have xl := HX0.out.lt
  have a0 := HA0.out.cs 0 _ rfl
  have a1 := HA0.out.cs 1 _ rfl
  have a2 := HA0.out.cs 2 _ rfl
  have a3 := HA0.out.cs 3 _ rfl
  have a4 := HA0.out.cs 4 _ rfl
  have a5 := HA0.out.cs 5 _ rfl
  have a6 := HA0.out.cs 6 _ rfl
  have a7 := HA0.out.cs 7 _ rfl
  have al := HA0.out.lt
  go_wp2_with fail
  refine (HC.out _ HU0.out).mono ?_
  rintro e w3 ⟨v', rfl, h3, hb⟩
  obtain ⟨A', c', rfl, -⟩ := h3.form
  have HL3 := Lib.hid h3
  have HX3 := Lib.hid (HX0.out.on hb)
  have HA3 := Lib.hid (HA0.out.on hb)
  have HR3 := Lib.hid (HR0.out.on hb)
  have HB3 := Lib.hid (bthen HB0.out hb (Nat.le_refl _))
  clear hb h3
  clear x0 xl a0 a1 a2 a3 a4 a5 a6 a7 al
  generalize (Ln.back l x.id).length = nn at *
  have x0 := HX3.out.cs 0 _ rfl
  have xl := HX3.out.lt
  have xf := HX3.out.s 0
  have HX4 := Lib.hid (HX3.out.put 0 (.slice A' nn c') (by simp))
  have HA4 := Lib.hid (HA3.out.aside (g := w.heap.size) (by omega) 0 (.slice A' nn c'))
  have HR4 := Lib.hid (HR3.out.aside (g := w.heap.size) (by omega) 0 (.slice A' nn c'))
  have HB4 := Lib.hid (HB3.out.setCell (p := ⟨w.heap.size, 0, none⟩) (Nat.le_refl _) (.slice A' nn c'))
  have HL4 := Lib.hid (HL3.out.aside (g := w.heap.size) (by have := HSZ.out; omega) 0 (.slice A' nn c'))
  have HS4 := Lib.hid (show (w3.setCell ⟨w.heap.size, 0, none⟩ (.slice A' nn c')).heap.size = w3.heap.size by simp [World.setCell])
  have a1 := HA4.out.cs 1 _ rfl
  have al := HA4.out.lt
  go_upto_region 11 with fail
  generalize w3.setCell ⟨w.heap.size, 0, none⟩ (.slice A' nn c') = w4 at *
  clear x0 xl xf
  go_wp2_with fail
  refine (HD.out _).mono ?_
  rintro e w5 ⟨rfl, rfl⟩
  have x0 := HX4.out.cs 0 _ rfl
  have xl := HX4.out.lt
  have r0 := HR4.out.cs 0 _ rfl
  have rl := HR4.out.lt
  have rf := HR4.out.s 0
  go_wp2_with fail
  have hR9 := HR4.out.put 0 (.slice A' nn c') (by simp)
  have g0 := hR9.cs 0 _ rfl
  have hB9 := HB4.out.setCell (p := ⟨w.heap.size + 2, 0, none⟩) (by simp) (.slice A' nn c')
  have hL9 := HL4.out.aside (g := w.heap.size + 2) (by have := HSZ.out; omega) 0 (.slice A' nn c')
  exact bodyPost_ret (v := .tuple #[.agg #[.slice A' nn c'], .slice none 0 0, .bool B]) (by simp [results, Tryz.results10, go_sem, g0]) rfl ⟨_, none, 0, 0, B, rfl, hL9.mono (fun g hg => hg.elim (fun a => .inl a.1) (fun a => .inr (by have := HSZ.out; omega))), hB9⟩
set_option maxRecDepth 100000 in
set_option maxHeartbeats 8000000 in
theorem done18_add (d : Nat) (x : Ml) (Ax : Option Addr) (cx : Nat) (v : Value) (l : List It) (w : World) (U : Nat → Prop) (hl : l.length ≤ 1000) (h : LnU U w v l) (m : Nat) (hm : (d : Int) % 6 = (m : Int)) (hm3 : m < 2) (hg : MaGo w x Ax cx) (hL : Len w) : Calls Tryz.prog 10 #[v, .slice none 0 0, .agg #[.int .u8 (d : Int), .int .u64 (x.id : Int), .string (ofL x.shop), .string (ofL x.key), .slice Ax x.head.length cx, .string (ofL x.body), .int .u64 (x.due : Int), .int .u8 (x.hops : Int)]] w (DoneN U (Ln.add l ⟨x, false, false⟩) w) := by
  have hc := h.cut
  obtain ⟨A, c, rfl, hlc⟩ := h.form
  have hb0 := three_allocs w (.cells #[.slice A l.length c] 27) (.cells #[.int .u8 (d : Int), .int .u64 (x.id : Int), .string (ofL x.shop), .string (ofL x.key), .slice Ax x.head.length cx, .string (ofL x.body), .int .u64 (x.due : Int), .int .u8 (x.hops : Int)] 33) (.cells #[.slice none 0 0] 27)
  have HX0 := Lib.hid (box_next (box_next (box_at0 w #[.slice A l.length c] 27) (.cells #[.int .u8 (d : Int), .int .u64 (x.id : Int), .string (ofL x.shop), .string (ofL x.key), .slice Ax x.head.length cx, .string (ofL x.body), .int .u64 (x.due : Int), .int .u8 (x.hops : Int)] 33)) (.cells #[.slice none 0 0] 27))
  have HA0 := Lib.hid (box_next (box_at1 w (.cells #[.slice A l.length c] 27) #[.int .u8 (d : Int), .int .u64 (x.id : Int), .string (ofL x.shop), .string (ofL x.key), .slice Ax x.head.length cx, .string (ofL x.body), .int .u64 (x.due : Int), .int .u8 (x.hops : Int)] 33) (.cells #[.slice none 0 0] 27))
  have HR0 := Lib.hid (box_at2 w (.cells #[.slice A l.length c] 27) (.cells #[.int .u8 (d : Int), .int .u64 (x.id : Int), .string (ofL x.shop), .string (ofL x.key), .slice Ax x.head.length cx, .string (ofL x.body), .int .u64 (x.due : Int), .int .u8 (x.hops : Int)] 33) #[.slice none 0 0] 27)
  have HB0 := Lib.hid hb0
  have HU0 := Lib.hid (hc.on hb0)
  have HSZ := Lib.hid (show (((w.alloc (.cells #[.slice A l.length c] 27)).alloc (.cells #[.int .u8 (d : Int), .int .u64 (x.id : Int), .string (ofL x.shop), .string (ofL x.key), .slice Ax x.head.length cx, .string (ofL x.body), .int .u64 (x.due : Int), .int .u8 (x.hops : Int)] 33)).alloc (.cells #[.slice none 0 0] 27)).heap.size = w.heap.size + 3 by simp)
  have HC := Lib.hid (fun W h h1 h2 => lnAdd_any x Ax cx (.agg #[.slice A l.length c]) l W (fun g => U g ∧ g < w.heap.size) (by omega) h h1 h2)
  have HD := Lib.hid (fun W h => r18Add_nil x Ax cx W h)
  have HG0 := Lib.hid (hg.on hb0)
  have HGW := Lib.hid hg
  have HL0 := Lib.hid (hL.on hb0)
  simp only [maV] at HC HD
  have hb2 : ((m : Int) == 2) = false := by simp; omega
  have hb3 : ((m : Int) == 3) = false := by simp; omega
  have hb4 : ((m : Int) == 4) = false := by simp; omega
  have hb5 : ((m : Int) == 5) = false := by simp; omega
  obtain ⟨B, hB⟩ : ∃ B, ((Ln.acode l ⟨x, false, false⟩ : Int) == (x.code : Int)) = B := ⟨_, rfl⟩
  have hB2 : ((Ln.acode l ⟨x, false, false⟩) == x.code) = B := by rw [← hB]; rw [Bool.eq_iff_iff]; simp only [beq_iff_eq]; omega
  generalize Ln.acode l ⟨x, false, false⟩ = cd at *
  generalize x.code = cx2 at *
  clear hg hL hm3
  clear hc h
  go_enter Tryz.func10, Tryz.ntmps10
  go_upto_region 3 with fail
  clear hb0
  generalize (((w.alloc (.cells #[.slice A l.length c] 27)).alloc (.cells #[.int .u8 (d : Int), .int .u64 (x.id : Int), .string (ofL x.shop), .string (ofL x.key), .slice Ax x.head.length cx, .string (ofL x.body), .int .u64 (x.due : Int), .int .u8 (x.hops : Int)] 33)).alloc (.cells #[.slice none 0 0] 27)) = w2 at *
  have x0 := HX0.out.cs 0 _ rfl
  have xl := HX0.out.lt
  have a0 := HA0.out.cs 0 _ rfl
  have a1 := HA0.out.cs 1 _ rfl
  have a2 := HA0.out.cs 2 _ rfl
  have a3 := HA0.out.cs 3 _ rfl
  have a4 := HA0.out.cs 4 _ rfl
  have a5 := HA0.out.cs 5 _ rfl
  have a6 := HA0.out.cs 6 _ rfl
  have a7 := HA0.out.cs 7 _ rfl
  have al := HA0.out.lt
  go_wp2_with fail
  refine (HC.out _ HU0.out HG0.out HL0.out).mono ?_
  rintro e w3 ⟨v', rfl, h3, hb⟩
  obtain ⟨A', c', rfl, -⟩ := h3.form
  have HL3 := Lib.hid h3
  have HG3 := Lib.hid (HG0.out.on hb)
  have HX3 := Lib.hid (HX0.out.on hb)
  have HA3 := Lib.hid (HA0.out.on hb)
  have HR3 := Lib.hid (HR0.out.on hb)
  have HB3 := Lib.hid (bthen HB0.out hb (Nat.le_refl _))
  clear hb h3
  clear x0 xl a0 a1 a2 a3 a4 a5 a6 a7 al
  have hg4 : Below w3.heap.size w3 w3 := Below.refl _ _
  generalize (Ln.add l ⟨x, false, false⟩).length = nn at *
  have x0 := HX3.out.cs 0 _ rfl
  have xl := HX3.out.lt
  have xf := HX3.out.s 0
  have HX4 := Lib.hid (HX3.out.put 0 (.slice A' nn c') (by simp))
  have HA4 := Lib.hid (HA3.out.aside (g := w.heap.size) (by omega) 0 (.slice A' nn c'))
  have HR4 := Lib.hid (HR3.out.aside (g := w.heap.size) (by omega) 0 (.slice A' nn c'))
  have HB4 := Lib.hid (HB3.out.setCell (p := ⟨w.heap.size, 0, none⟩) (Nat.le_refl _) (.slice A' nn c'))
  have HL4 := Lib.hid (HL3.out.aside (g := w.heap.size) (by have := HSZ.out; omega) 0 (.slice A' nn c'))
  have HS4 := Lib.hid (show (w3.setCell ⟨w.heap.size, 0, none⟩ (.slice A' nn c')).heap.size = w3.heap.size by simp [World.setCell])
  have HG4 := Lib.hid (MaOk.aside (g := w.heap.size) (c := cx) (A := Ax) (x := x) (w := w3) HG3.out.ok (fun hh a ha e => by have := prs_in HGW.out.ok.row hh ha; omega) 0 (.slice A' nn c'))
  have a0 := HA4.out.cs 0 _ rfl
  have a1 := HA4.out.cs 1 _ rfl
  have a2 := HA4.out.cs 2 _ rfl
  have a3 := HA4.out.cs 3 _ rfl
  have a4 := HA4.out.cs 4 _ rfl
  have a5 := HA4.out.cs 5 _ rfl
  have a6 := HA4.out.cs 6 _ rfl
  have a7 := HA4.out.cs 7 _ rfl
  have al := HA4.out.lt
  clear hg4
  go_upto_region 4 with fail
  generalize w3.setCell ⟨w.heap.size, 0, none⟩ (.slice A' nn c') = w4 at *
  clear x0 xl xf
  go_wp2_with fail
  refine (HD.out _ HG4.out).mono ?_
  rintro e w5 ⟨pa, pn, pc, rfl, hb⟩
  have HL5 := Lib.hid (HL4.out.on hb)
  have HX5 := Lib.hid (HX4.out.on hb)
  have HA5 := Lib.hid (HA4.out.on hb)
  have HR5 := Lib.hid (HR4.out.on hb)
  have HB5 := Lib.hid (bthen HB4.out hb (Nat.le_refl _))
  clear hb
  have x0 := HX5.out.cs 0 _ rfl
  have xl := HX5.out.lt
  have r0 := HR5.out.cs 0 _ rfl
  have rl := HR5.out.lt
  have rf := HR5.out.s 0
  go_wp2_with fail
  have hR9 := HR5.out.put 0 (.slice A' nn c') (by simp)
  have g0 := hR9.cs 0 _ rfl
  have hB9 := HB5.out.setCell (p := ⟨w.heap.size + 2, 0, none⟩) (by simp) (.slice A' nn c')
  have hL9 := HL5.out.aside (g := w.heap.size + 2) (by have := HSZ.out; omega) 0 (.slice A' nn c')
  exact bodyPost_ret (v := .tuple #[.agg #[.slice A' nn c'], .slice pa pn pc, .bool B]) (by simp [results, Tryz.results10, go_sem, g0]) rfl ⟨_, pa, pn, pc, B, rfl, hL9.mono (fun g hg => hg.elim (fun a => .inl a.1) (fun a => .inr (by have := HSZ.out; omega))), hB9⟩
end Go.Proofs.YtabnkbdbbneihaaGreatDoor
end
