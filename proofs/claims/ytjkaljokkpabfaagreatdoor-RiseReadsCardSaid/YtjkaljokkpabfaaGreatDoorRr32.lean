/-
  RISE: one more message: walked.
-/
import Derived.Test.YtjkaljokkpabfaaGreatDoorRr31

section
namespace Go.Proofs.YtjkaljokkpabfaaGreatDoor
open Go.ChangeShapes Go.WideShapes Go.ChangeAt Go.RowKit
/-- messages, each where U says -/
structure MasU (U : Nat → Prop) (w : World) (A : Option Addr) (l : List Mp) : Prop where
  m : Mas w A l
  r : ∀ a, A = some a → U a.block
  h : ∀ p ∈ l, ∀ a, p.A = some a → U a.block
theorem MasU.on {U : Nat → Prop} {w w' : World} {A : Option Addr} {l : List Mp} (h : MasU U w A l) (hb : Below w.heap.size w w') : MasU U w' A l := ⟨h.m.on hb, h.r, h.h⟩
theorem MasU.mono {U V : Nat → Prop} {w : World} {A : Option Addr} {l : List Mp} (h : MasU U w A l) (hu : ∀ g, U g → V g) : MasU V w A l := ⟨h.m, fun a ha => hu _ (h.r a ha), fun p hp a ha => hu _ (h.h p hp a ha)⟩
theorem MasU.nil (U : Nat → Prop) (w : World) : MasU U w none [] := ⟨Mas.nil w none, fun a h => by simp at h, fun p h => by simp at h⟩
theorem MaOk.put {w : World} {x : Ml} {A : Option Addr} {c b : Nat} (h : MaOk w x A c) (hne : ∀ a, A = some a → a.block ≠ b) (j : Nat) (v : Value) : MaOk (w.setCell ⟨b, j, none⟩ v) x A c :=
  ⟨h.shop, h.key, h.body, h.len, h.cap, h.lite, h.row.aside (fun a ha => (hne a ha).symm) j v⟩
theorem MasU.put {U : Nat → Prop} {w : World} {A : Option Addr} {l : List Mp} {b : Nat} (h : MasU U w A l) (hb : ¬ U b) (j : Nat) (v : Value) : MasU U (w.setCell ⟨b, j, none⟩ v) A l :=
  ⟨⟨h.m.row.putR (fun a ha e => hb (by rw [← e]; exact h.r a ha)) j v, fun p hp => (h.m.hd p hp).put (fun a ha e => hb (by rw [← e]; exact h.h p hp a ha)) j v⟩, h.r, h.h⟩
def RsPutPost (U : Nat → Prop) (T : Nat) (l : List Mp) (x : Ml) (w : World) (e : Ending) (w' : World) : Prop := ∃ A' c' l', e = .returned (.tuple #[.agg #[.int .u64 (Rs.addT T x : Int), .slice A' l'.length c'], .int .i64 (Rs.addC T x : Int)]) ∧ l'.map Mp.x = Rs.addK T (l.map Mp.x) x ∧ l'.length ≤ c' ∧ (A' = none → c' = 0) ∧ MasU (fun g => U g ∨ w.heap.size ≤ g) w' A' l' ∧ Below w.heap.size w w'
def RsPutPostB (U : Nat → Prop) (T : Nat) (l : List Mp) (x : Ml) (w : World) (e : Ending) (w' : World) : Prop := ∃ A' c' l', e = .returned (.tuple #[.agg #[.int .u64 (Rs.addT T x : Int), .slice A' l'.length c'], .int .i64 (Rs.addC T x : Int)]) ∧ l'.map Mp.x = Rs.addK T (l.map Mp.x) x ∧ l'.length ≤ c' ∧ (A' = none → c' = 0) ∧ MasU (fun g => U g ∨ w.heap.size ≤ g ∧ g < w'.heap.size) w' A' l' ∧ Below w.heap.size w w'
set_option maxRecDepth 100000 in
set_option maxHeartbeats 4000000 in
theorem rsPutB_any (U : Nat → Prop) (T c : Nat) (A : Option Addr) (l : List Mp) (x : Ml) (Ax : Option Addr) (cx : Nat) (w : World) (hl : l.length ≤ 16) (hc : l.length ≤ c) (hn : A = none → c = 0) (hT : T < 18446744073709551616) (hx : MaOk w x Ax cx) (h : MasU U w A l) (hL : Len w) :
    Calls Tryz.prog 13 #[.agg #[.int .u64 (T : Int), .slice A l.length c], maV x Ax cx] w (RsPutPostB U T l x w) := by
  have hb0 : Below w.heap.size w (((w.alloc (.cells #[.int .u64 (T : Int), .slice A l.length c] 35)).alloc (.cells #[.int .u64 (x.id : Int), .string (ofL x.shop), .string (ofL x.key), .slice Ax x.head.length cx, .string (ofL x.body), .int .u64 (x.due : Int), .int .u8 (x.hops : Int)] 25)).alloc (.cells #[.int .u64 0, .slice none 0 0] 35)) := (((Below.refl _ _).alloc (Nat.le_refl _) _).alloc (by simp) _).alloc (by simp; omega) _
  have hsz : (((w.alloc (.cells #[.int .u64 (T : Int), .slice A l.length c] 35)).alloc (.cells #[.int .u64 (x.id : Int), .string (ofL x.shop), .string (ofL x.key), .slice Ax x.head.length cx, .string (ofL x.body), .int .u64 (x.due : Int), .int .u8 (x.hops : Int)] 25)).alloc (.cells #[.int .u64 0, .slice none 0 0] 35)).heap.size = w.heap.size + 3 := by simp
  have b1 := rs_two (w.alloc (.cells #[.int .u64 (T : Int), .slice A l.length c] 35)) (.cells #[.int .u64 (x.id : Int), .string (ofL x.shop), .string (ofL x.key), .slice Ax x.head.length cx, .string (ofL x.body), .int .u64 (x.due : Int), .int .u8 (x.hops : Int)] 25) (.cells #[.int .u64 0, .slice none 0 0] 35)
  have HP := Lib.hid ((BoxC.new (w := w) (Nat.le_refl _) #[.int .u64 (T : Int), .slice A l.length c] 35).on b1)
  have HQ := Lib.hid ((rs_box1 w (.cells #[.int .u64 (T : Int), .slice A l.length c] 35) #[.int .u64 (x.id : Int), .string (ofL x.shop), .string (ofL x.key), .slice Ax x.head.length cx, .string (ofL x.body), .int .u64 (x.due : Int), .int .u8 (x.hops : Int)] 25).on ((Below.refl _ _).alloc (Nat.le_refl _) (.cells #[.int .u64 0, .slice none 0 0] 35)))
  have HR := Lib.hid (show BoxC w (w.heap.size + 1 + 1) [.int .u64 0, .slice none 0 0] (((w.alloc (.cells #[.int .u64 (T : Int), .slice A l.length c] 35)).alloc (.cells #[.int .u64 (x.id : Int), .string (ofL x.shop), .string (ofL x.key), .slice Ax x.head.length cx, .string (ofL x.body), .int .u64 (x.due : Int), .int .u8 (x.hops : Int)] 25)).alloc (.cells #[.int .u64 0, .slice none 0 0] 35)) from by
    have := BoxC.new (w := w) (W := ((w.alloc (.cells #[.int .u64 (T : Int), .slice A l.length c] 35)).alloc (.cells #[.int .u64 (x.id : Int), .string (ofL x.shop), .string (ofL x.key), .slice Ax x.head.length cx, .string (ofL x.body), .int .u64 (x.due : Int), .int .u8 (x.hops : Int)] 25))) (by simp; omega) #[.int .u64 0, .slice none 0 0] 35
    rwa [show ((w.alloc (.cells #[.int .u64 (T : Int), .slice A l.length c] 35)).alloc (.cells #[.int .u64 (x.id : Int), .string (ofL x.shop), .string (ofL x.key), .slice Ax x.head.length cx, .string (ofL x.body), .int .u64 (x.due : Int), .int .u8 (x.hops : Int)] 25)).heap.size = w.heap.size + 1 + 1 by simp] at this)
  have HK := Lib.hid (ml_Check_any x Ax cx _ (hx.on hb0) (hL.on hb0))
  have HB0 := Lib.hid hb0
  have HSZ := Lib.hid hsz
  have HX := Lib.hid hx
  have H := Lib.hid h
  have HN := Lib.hid hn
  simp only [maV] at HK ⊢
  clear hb0 hsz hx h hn b1
  go_enter Tryz.func13, Tryz.ntmps13
  go_wp2_with fail
  generalize (((w.alloc (.cells #[.int .u64 (T : Int), .slice A l.length c] 35)).alloc (.cells #[.int .u64 (x.id : Int), .string (ofL x.shop), .string (ofL x.key), .slice Ax x.head.length cx, .string (ofL x.body), .int .u64 (x.due : Int), .int .u8 (x.hops : Int)] 25)).alloc (.cells #[.int .u64 0, .slice none 0 0] 35)) = w1 at *
  refine HK.out.mono ?_
  rintro e w2 ⟨rfl, b⟩
  have HP2 := Lib.hid (HP.out.on b)
  have HQ2 := Lib.hid (HQ.out.on b)
  have HR2 := Lib.hid (HR.out.on b)
  have HB2 := Lib.hid (bthen HB0.out b (Nat.le_refl _))
  have HS2 := Lib.hid (show w.heap.size + 3 ≤ w2.heap.size from by have := b.size; have := HSZ.out; omega)
  clear b
  have p0 := HP2.out.cs 0 _ rfl
  have p1 := HP2.out.cs 1 _ rfl
  have r0 := HR2.out.cs 0 _ rfl
  have r1 := HR2.out.cs 1 _ rfl
  have rl := HR2.out.lt
  have rf : ∀ j, w2.frozen? ⟨w.heap.size + 1 + 1, j, none⟩ = false := HR2.out.s
  by_cases h1 : x.code ≠ 0
  · have hd : ((x.code : Int) == 0) = false := by simpa using h1
    go_wp2_with fail
    have hB := (HB2.out.setCell (p := ⟨w.heap.size + 1 + 1, 0, none⟩) (by show w.heap.size ≤ w.heap.size + 1 + 1; omega) (.int .u64 (T : Int))).setCell (p := ⟨w.heap.size + 1 + 1, 1, none⟩) (by show w.heap.size ≤ w.heap.size + 1 + 1; omega) (.slice A l.length c)
    have hR3 := HR2.out.fill [.int .u64 (T : Int), .slice A l.length c] rfl
    simp only [putAll] at hR3
    have g0 := hR3.cs 0 _ rfl
    have g1 := hR3.cs 1 _ rfl
    refine bodyPost_ret (v := .tuple #[.agg #[.int .u64 (T : Int), .slice A l.length c], .int .i64 (x.code : Int)]) (by simp [results, Tryz.results13, go_sem, g0, g1]) rfl ?_
    exact ⟨A, c, l, by simp [Rs.addT, Rs.addC, h1], by simp [Rs.addK, h1], hc, HN.out, (H.out.on hB).mono (fun _ h => .inl h), hB⟩
  have h1' : x.code = 0 := by omega
  rw [show (x.code : Int) = 0 by omega]
  by_cases h2 : T = 18446744073709551615
  · subst h2
    go_wp2_with fail
    have hB := (HB2.out.setCell (p := ⟨w.heap.size + 1 + 1, 0, none⟩) (by show w.heap.size ≤ w.heap.size + 1 + 1; omega) (.int .u64 18446744073709551615)).setCell (p := ⟨w.heap.size + 1 + 1, 1, none⟩) (by show w.heap.size ≤ w.heap.size + 1 + 1; omega) (.slice A l.length c)
    have hR3 := HR2.out.fill [.int .u64 18446744073709551615, .slice A l.length c] rfl
    simp only [putAll] at hR3
    have g0 := hR3.cs 0 _ rfl
    have g1 := hR3.cs 1 _ rfl
    refine bodyPost_ret (v := .tuple #[.agg #[.int .u64 18446744073709551615, .slice A l.length c], .int .i64 18]) (by simp [results, Tryz.results13, go_sem, g0, g1]) rfl ?_
    exact ⟨A, c, l, by simp [Rs.addT, Rs.addC, h1], by simp [Rs.addK, h1], hc, HN.out, (H.out.on hB).mono (fun _ h => .inl h), hB⟩
  obtain ⟨G, hG, hGl⟩ : ∃ G : Nat, max 0 ((l.length : Int) + 1 - 16) = (G : Int) ∧ G = l.length - 15 := ⟨l.length - 15, by omega, rfl⟩
  subst hGl
  have hT2 : T < 18446744073709551615 := by omega
  have hwr : IntKind.u64.wrap ((T : Int) + 1) = (T : Int) + 1 := by simp [IntKind.wrap, IntKind.signed, IntKind.bits]; omega
  have HRW := Lib.hid (rws_slice (G := l.length - 15) (by omega) hc HN.out (mcs_len l) H.out.m.row)
  rw [mcs_drop] at HRW
  have HS0 := Lib.hid (show (fun a => BoxC w w.heap.size [.int .u64 (T : Int), .slice A l.length c] a ∧ a.cell? ⟨w.heap.size, 0, none⟩ = some (.int .u64 (T : Int)) ∧ a.cell? ⟨w.heap.size, 1, none⟩ = some (.slice A l.length c) ∧ a.cell? ⟨w.heap.size + 1, 0, none⟩ = some (.int .u64 (x.id : Int)) ∧ a.cell? ⟨w.heap.size + 1, 1, none⟩ = some (.string (ofL x.shop)) ∧ a.cell? ⟨w.heap.size + 1, 2, none⟩ = some (.string (ofL x.key)) ∧ a.cell? ⟨w.heap.size + 1, 3, none⟩ = some (.slice Ax x.head.length cx) ∧ a.cell? ⟨w.heap.size + 1, 4, none⟩ = some (.string (ofL x.body)) ∧ a.cell? ⟨w.heap.size + 1, 5, none⟩ = some (.int .u64 (x.due : Int)) ∧ a.cell? ⟨w.heap.size + 1, 6, none⟩ = some (.int .u8 (x.hops : Int)) ∧ Below w.heap.size w a ∧ w.heap.size + 3 ≤ a.heap.size) w2.drew from ⟨HP2.out.on (Below.refl _ _).drew, (HP2.out.on (Below.refl _ _).drew).cs 0 _ rfl, (HP2.out.on (Below.refl _ _).drew).cs 1 _ rfl, (HQ2.out.on (Below.refl _ _).drew).cs 0 _ rfl, (HQ2.out.on (Below.refl _ _).drew).cs 1 _ rfl, (HQ2.out.on (Below.refl _ _).drew).cs 2 _ rfl, (HQ2.out.on (Below.refl _ _).drew).cs 3 _ rfl, (HQ2.out.on (Below.refl _ _).drew).cs 4 _ rfl, (HQ2.out.on (Below.refl _ _).drew).cs 5 _ rfl, (HQ2.out.on (Below.refl _ _).drew).cs 6 _ rfl, HB2.out.drew, HS2.out⟩)
  have HCA := Lib.hid (fun (W W' : World) (h : (fun a => BoxC w w.heap.size [.int .u64 (T : Int), .slice A l.length c] a ∧ a.cell? ⟨w.heap.size, 0, none⟩ = some (.int .u64 (T : Int)) ∧ a.cell? ⟨w.heap.size, 1, none⟩ = some (.slice A l.length c) ∧ a.cell? ⟨w.heap.size + 1, 0, none⟩ = some (.int .u64 (x.id : Int)) ∧ a.cell? ⟨w.heap.size + 1, 1, none⟩ = some (.string (ofL x.shop)) ∧ a.cell? ⟨w.heap.size + 1, 2, none⟩ = some (.string (ofL x.key)) ∧ a.cell? ⟨w.heap.size + 1, 3, none⟩ = some (.slice Ax x.head.length cx) ∧ a.cell? ⟨w.heap.size + 1, 4, none⟩ = some (.string (ofL x.body)) ∧ a.cell? ⟨w.heap.size + 1, 5, none⟩ = some (.int .u64 (x.due : Int)) ∧ a.cell? ⟨w.heap.size + 1, 6, none⟩ = some (.int .u8 (x.hops : Int)) ∧ Below w.heap.size w a ∧ w.heap.size + 3 ≤ a.heap.size) W) (hb : Below W.heap.size W W') => show (fun a => BoxC w w.heap.size [.int .u64 (T : Int), .slice A l.length c] a ∧ a.cell? ⟨w.heap.size, 0, none⟩ = some (.int .u64 (T : Int)) ∧ a.cell? ⟨w.heap.size, 1, none⟩ = some (.slice A l.length c) ∧ a.cell? ⟨w.heap.size + 1, 0, none⟩ = some (.int .u64 (x.id : Int)) ∧ a.cell? ⟨w.heap.size + 1, 1, none⟩ = some (.string (ofL x.shop)) ∧ a.cell? ⟨w.heap.size + 1, 2, none⟩ = some (.string (ofL x.key)) ∧ a.cell? ⟨w.heap.size + 1, 3, none⟩ = some (.slice Ax x.head.length cx) ∧ a.cell? ⟨w.heap.size + 1, 4, none⟩ = some (.string (ofL x.body)) ∧ a.cell? ⟨w.heap.size + 1, 5, none⟩ = some (.int .u64 (x.due : Int)) ∧ a.cell? ⟨w.heap.size + 1, 6, none⟩ = some (.int .u8 (x.hops : Int)) ∧ Below w.heap.size w a ∧ w.heap.size + 3 ≤ a.heap.size) W' from by
    obtain ⟨hP, h0, h1, h2, h3, h4, h5, h6, h7, h8, hB, hZ⟩ := h
    exact ⟨hP.on hb, (hb.cell (p := ⟨w.heap.size, 0, none⟩) (by show w.heap.size < _; omega)).trans h0, (hb.cell (p := ⟨w.heap.size, 1, none⟩) (by show w.heap.size < _; omega)).trans h1, (hb.cell (p := ⟨w.heap.size + 1, 0, none⟩) (by show w.heap.size + 1 < _; omega)).trans h2, (hb.cell (p := ⟨w.heap.size + 1, 1, none⟩) (by show w.heap.size + 1 < _; omega)).trans h3, (hb.cell (p := ⟨w.heap.size + 1, 2, none⟩) (by show w.heap.size + 1 < _; omega)).trans h4, (hb.cell (p := ⟨w.heap.size + 1, 3, none⟩) (by show w.heap.size + 1 < _; omega)).trans h5, (hb.cell (p := ⟨w.heap.size + 1, 4, none⟩) (by show w.heap.size + 1 < _; omega)).trans h6, (hb.cell (p := ⟨w.heap.size + 1, 5, none⟩) (by show w.heap.size + 1 < _; omega)).trans h7, (hb.cell (p := ⟨w.heap.size + 1, 6, none⟩) (by show w.heap.size + 1 < _; omega)).trans h8, bthen hB hb (Nat.le_refl _), Nat.le_trans hZ hb.size⟩)
  have HAL := Lib.hid (fun (W : World) o (h : (fun a => BoxC w w.heap.size [.int .u64 (T : Int), .slice A l.length c] a ∧ a.cell? ⟨w.heap.size, 0, none⟩ = some (.int .u64 (T : Int)) ∧ a.cell? ⟨w.heap.size, 1, none⟩ = some (.slice A l.length c) ∧ a.cell? ⟨w.heap.size + 1, 0, none⟩ = some (.int .u64 (x.id : Int)) ∧ a.cell? ⟨w.heap.size + 1, 1, none⟩ = some (.string (ofL x.shop)) ∧ a.cell? ⟨w.heap.size + 1, 2, none⟩ = some (.string (ofL x.key)) ∧ a.cell? ⟨w.heap.size + 1, 3, none⟩ = some (.slice Ax x.head.length cx) ∧ a.cell? ⟨w.heap.size + 1, 4, none⟩ = some (.string (ofL x.body)) ∧ a.cell? ⟨w.heap.size + 1, 5, none⟩ = some (.int .u64 (x.due : Int)) ∧ a.cell? ⟨w.heap.size + 1, 6, none⟩ = some (.int .u8 (x.hops : Int)) ∧ Below w.heap.size w a ∧ w.heap.size + 3 ≤ a.heap.size) W) => show (fun a => BoxC w w.heap.size [.int .u64 (T : Int), .slice A l.length c] a ∧ a.cell? ⟨w.heap.size, 0, none⟩ = some (.int .u64 (T : Int)) ∧ a.cell? ⟨w.heap.size, 1, none⟩ = some (.slice A l.length c) ∧ a.cell? ⟨w.heap.size + 1, 0, none⟩ = some (.int .u64 (x.id : Int)) ∧ a.cell? ⟨w.heap.size + 1, 1, none⟩ = some (.string (ofL x.shop)) ∧ a.cell? ⟨w.heap.size + 1, 2, none⟩ = some (.string (ofL x.key)) ∧ a.cell? ⟨w.heap.size + 1, 3, none⟩ = some (.slice Ax x.head.length cx) ∧ a.cell? ⟨w.heap.size + 1, 4, none⟩ = some (.string (ofL x.body)) ∧ a.cell? ⟨w.heap.size + 1, 5, none⟩ = some (.int .u64 (x.due : Int)) ∧ a.cell? ⟨w.heap.size + 1, 6, none⟩ = some (.int .u8 (x.hops : Int)) ∧ Below w.heap.size w a ∧ w.heap.size + 3 ≤ a.heap.size) (W.alloc o) from HCA.out W _ h ((Below.refl _ _).alloc (Nat.le_refl _) _))
  have HST := Lib.hid (fun (W : World) u v (h : (fun a => BoxC w w.heap.size [.int .u64 (T : Int), .slice A l.length c] a ∧ a.cell? ⟨w.heap.size, 0, none⟩ = some (.int .u64 (T : Int)) ∧ a.cell? ⟨w.heap.size, 1, none⟩ = some (.slice A l.length c) ∧ a.cell? ⟨w.heap.size + 1, 0, none⟩ = some (.int .u64 (x.id : Int)) ∧ a.cell? ⟨w.heap.size + 1, 1, none⟩ = some (.string (ofL x.shop)) ∧ a.cell? ⟨w.heap.size + 1, 2, none⟩ = some (.string (ofL x.key)) ∧ a.cell? ⟨w.heap.size + 1, 3, none⟩ = some (.slice Ax x.head.length cx) ∧ a.cell? ⟨w.heap.size + 1, 4, none⟩ = some (.string (ofL x.body)) ∧ a.cell? ⟨w.heap.size + 1, 5, none⟩ = some (.int .u64 (x.due : Int)) ∧ a.cell? ⟨w.heap.size + 1, 6, none⟩ = some (.int .u8 (x.hops : Int)) ∧ Below w.heap.size w a ∧ w.heap.size + 3 ≤ a.heap.size) W) => show (fun a => BoxC w w.heap.size [.int .u64 (T : Int), .slice A l.length c] a ∧ a.cell? ⟨w.heap.size, 0, none⟩ = some (.int .u64 (T : Int)) ∧ a.cell? ⟨w.heap.size, 1, none⟩ = some (.slice A l.length c) ∧ a.cell? ⟨w.heap.size + 1, 0, none⟩ = some (.int .u64 (x.id : Int)) ∧ a.cell? ⟨w.heap.size + 1, 1, none⟩ = some (.string (ofL x.shop)) ∧ a.cell? ⟨w.heap.size + 1, 2, none⟩ = some (.string (ofL x.key)) ∧ a.cell? ⟨w.heap.size + 1, 3, none⟩ = some (.slice Ax x.head.length cx) ∧ a.cell? ⟨w.heap.size + 1, 4, none⟩ = some (.string (ofL x.body)) ∧ a.cell? ⟨w.heap.size + 1, 5, none⟩ = some (.int .u64 (x.due : Int)) ∧ a.cell? ⟨w.heap.size + 1, 6, none⟩ = some (.int .u8 (x.hops : Int)) ∧ Below w.heap.size w a ∧ w.heap.size + 3 ≤ a.heap.size) ((W.setCell ⟨w.heap.size + 1 + 1, 0, none⟩ u).setCell ⟨w.heap.size + 1 + 1, 1, none⟩ v) from by
    obtain ⟨hP, h0, h1, h2, h3, h4, h5, h6, h7, h8, hB, hZ⟩ := h
    have hs : Below (w.heap.size + 1 + 1) W ((W.setCell ⟨w.heap.size + 1 + 1, 0, none⟩ u).setCell ⟨w.heap.size + 1 + 1, 1, none⟩ v) := ((Below.refl (w.heap.size + 1 + 1) W).setCell (p := ⟨w.heap.size + 1 + 1, 0, none⟩) (Nat.le_refl _) u).setCell (p := ⟨w.heap.size + 1 + 1, 1, none⟩) (Nat.le_refl _) v
    exact ⟨(hP.aside (g := w.heap.size + 1 + 1) (by omega) 0 u).aside (g := w.heap.size + 1 + 1) (by omega) 1 v, (hs.cell (p := ⟨w.heap.size, 0, none⟩) (by show w.heap.size < _; omega)).trans h0, (hs.cell (p := ⟨w.heap.size, 1, none⟩) (by show w.heap.size < _; omega)).trans h1, (hs.cell (p := ⟨w.heap.size + 1, 0, none⟩) (by show w.heap.size + 1 < _; omega)).trans h2, (hs.cell (p := ⟨w.heap.size + 1, 1, none⟩) (by show w.heap.size + 1 < _; omega)).trans h3, (hs.cell (p := ⟨w.heap.size + 1, 2, none⟩) (by show w.heap.size + 1 < _; omega)).trans h4, (hs.cell (p := ⟨w.heap.size + 1, 3, none⟩) (by show w.heap.size + 1 < _; omega)).trans h5, (hs.cell (p := ⟨w.heap.size + 1, 4, none⟩) (by show w.heap.size + 1 < _; omega)).trans h6, (hs.cell (p := ⟨w.heap.size + 1, 5, none⟩) (by show w.heap.size + 1 < _; omega)).trans h7, (hs.cell (p := ⟨w.heap.size + 1, 6, none⟩) (by show w.heap.size + 1 < _; omega)).trans h8, hB.trans (hs.mono (by omega)), Nat.le_trans hZ hs.size⟩)
  go_wp2_with fail
  refine wp_region_noPanic ?_
  refine wp_region_held_drew (S := (fun a => BoxC w w.heap.size [.int .u64 (T : Int), .slice A l.length c] a ∧ a.cell? ⟨w.heap.size, 0, none⟩ = some (.int .u64 (T : Int)) ∧ a.cell? ⟨w.heap.size, 1, none⟩ = some (.slice A l.length c) ∧ a.cell? ⟨w.heap.size + 1, 0, none⟩ = some (.int .u64 (x.id : Int)) ∧ a.cell? ⟨w.heap.size + 1, 1, none⟩ = some (.string (ofL x.shop)) ∧ a.cell? ⟨w.heap.size + 1, 2, none⟩ = some (.string (ofL x.key)) ∧ a.cell? ⟨w.heap.size + 1, 3, none⟩ = some (.slice Ax x.head.length cx) ∧ a.cell? ⟨w.heap.size + 1, 4, none⟩ = some (.string (ofL x.body)) ∧ a.cell? ⟨w.heap.size + 1, 5, none⟩ = some (.int .u64 (x.due : Int)) ∧ a.cell? ⟨w.heap.size + 1, 6, none⟩ = some (.int .u8 (x.hops : Int)) ∧ Below w.heap.size w a ∧ w.heap.size + 3 ≤ a.heap.size)) (by kernel_rfl) ?_ (fun hHeld => ?_)
  · (try dsimp only); first | exact HS0.out | exact HAL.out _ _ (by assumption) | exact HCA.out _ _ (by assumption) b3 | exact HCA.out _ _ (by assumption) b1 | exact HST.out _ _ _ (by assumption)
  refine wpAnyH_take (i := 0) (v := ?_) rfl (by kernel_rfl) (by kernel_rfl) (by kernel_rfl) (fun _ _ _ h => h) (Or.inl ⟨by rfl, ?_⟩) (by assumption) ?_
  rotate_left
  · intro w hSw; (try dsimp only at hSw); go_simp; try with_reducible rfl
  (try simp only [List.getElem_toArray, List.getElem_cons_zero, Act.put, List.setIfInBounds_toArray, List.set_cons_zero, List.set_cons_succ])
  refine wpAnyH_take (i := 1) (v := ?_) rfl (by kernel_rfl) (by kernel_rfl) (by kernel_rfl) (fun _ _ _ h => h) (Or.inl ⟨by rfl, ?_⟩) (by assumption) ?_
  rotate_left
  · intro w hSw; (try dsimp only at hSw); go_simp; try with_reducible rfl
  (try simp only [List.getElem_toArray, List.getElem_cons_succ, List.getElem_cons_zero, Act.put, List.setIfInBounds_toArray, List.set_cons_zero, List.set_cons_succ])
  refine wpAnyH_take (i := 2) (v := ?_) rfl (by kernel_rfl) (by kernel_rfl) (by kernel_rfl) (fun _ _ _ h => h) (Or.inl ⟨by rfl, ?_⟩) (by assumption) ?_
  rotate_left
  · intro w hSw; (try dsimp only at hSw); go_simp; try with_reducible rfl
  (try simp only [List.getElem_toArray, List.getElem_cons_succ, List.getElem_cons_zero, Act.put, List.setIfInBounds_toArray, List.set_cons_zero, List.set_cons_succ])
  refine wpAnyH_take (i := 3) (v := ?_) rfl (by kernel_rfl) (by kernel_rfl) (by kernel_rfl) (fun _ _ _ h => h) (Or.inl ⟨by rfl, ?_⟩) (by assumption) ?_
  rotate_left
  · intro w hSw; (try dsimp only at hSw); go_simp; try with_reducible rfl
  (try simp only [List.getElem_toArray, List.getElem_cons_succ, List.getElem_cons_zero, Act.put, List.setIfInBounds_toArray, List.set_cons_zero, List.set_cons_succ])
  refine wpAnyH_take (i := 4) (v := ?_) rfl (by kernel_rfl) (by kernel_rfl) (by kernel_rfl) (fun _ _ _ h => h) (Or.inl ⟨by rfl, ?_⟩) (by assumption) ?_
  rotate_left
  · intro w hSw; (try dsimp only at hSw); go_simp; try with_reducible rfl
  (try simp only [List.getElem_toArray, List.getElem_cons_succ, List.getElem_cons_zero, Act.put, List.setIfInBounds_toArray, List.set_cons_zero, List.set_cons_succ])
  refine wpAnyH_take (i := 5) (v := ?_) rfl (by kernel_rfl) (by kernel_rfl) (by kernel_rfl) (fun _ _ _ h => h) (Or.inl ⟨by rfl, ?_⟩) (by assumption) ?_
  rotate_left
  · intro w hSw; (try dsimp only at hSw); go_simp; try with_reducible rfl
  (try simp only [List.getElem_toArray, List.getElem_cons_succ, List.getElem_cons_zero, Act.put, List.setIfInBounds_toArray, List.set_cons_zero, List.set_cons_succ])
  refine wpAnyH_take (i := 6) (v := ?_) rfl (by kernel_rfl) (by kernel_rfl) (by kernel_rfl) (fun _ _ _ h => h) (Or.inl ⟨by rfl, ?_⟩) (by assumption) ?_
  rotate_left
  · intro w hSw; (try dsimp only at hSw); go_simp; try with_reducible rfl
  (try simp only [List.getElem_toArray, List.getElem_cons_succ, List.getElem_cons_zero, Act.put, List.setIfInBounds_toArray, List.set_cons_zero, List.set_cons_succ])
  refine wpAnyH_take (i := 7) (v := ?_) rfl (by kernel_rfl) (by kernel_rfl) (by kernel_rfl) (fun _ _ _ h => h) (Or.inl ⟨by rfl, ?_⟩) (by assumption) ?_
  rotate_left
  · intro w hSw; (try dsimp only at hSw); go_simp; try with_reducible rfl
  (try simp only [List.getElem_toArray, List.getElem_cons_succ, List.getElem_cons_zero, Act.put, List.setIfInBounds_toArray, List.set_cons_zero, List.set_cons_succ])
  refine wpAnyH_ready (rs := [8]) (by kernel_rfl) (by simp) ?_
  refine AllReadyH.cons rfl (fun K hK => ?_) (AllReadyH.nil)
  · go_simp
    (have hBc := hHeld.2.2.2.2.2.2.2.2.2.2.1
     have hBz := hHeld.2.2.2.2.2.2.2.2.2.2.2
     have hMC := maCopy_any x Ax cx w2.drew (HX.out.on hBc).len (HX.out.on hBc).cap (HX.out.on hBc).row
     unfold MaCopyPost at hMC
     simp only [maV] at hMC
     refine hMC.mono ?_
     rintro e w3 ⟨A8, c8, rfl, hO8, b3⟩
     have HO8 := Lib.hid hO8
     have HB8 := Lib.hid (bthen hBc b3 (Nat.le_refl _))
     have HZ8 := Lib.hid (Nat.le_trans hBz b3.size)
     have q0 := (b3.cell (p := ⟨w.heap.size + 1 + 1, 0, none⟩) rl).trans r0
     have q1 := (b3.cell (p := ⟨w.heap.size + 1 + 1, 1, none⟩) rl).trans r1
     have qf := fun j => (b3.frozen (p := ⟨w.heap.size + 1 + 1, j, none⟩) rl).trans (rf j)
     have ql : w.heap.size + 1 + 1 < w3.heap.size := Nat.lt_of_lt_of_le rl b3.size
     clear hO8 hMC)
    refine hK.out _ _ ?_ (fun hHeld => ?_)
    · (try dsimp only); first | exact HS0.out | exact HAL.out _ _ (by assumption) | exact HCA.out _ _ (by assumption) b3 | exact HCA.out _ _ (by assumption) b1 | exact HST.out _ _ _ (by assumption)
    clear hK K
    (try simp only [List.getElem_toArray, List.getElem_cons_succ, List.getElem_cons_zero, Act.put, List.setIfInBounds_toArray, List.set_cons_zero, List.set_cons_succ])
    refine wpAnyH_ready (rs := [9]) (by kernel_rfl) (by simp) ?_
    refine AllReadyH.cons rfl (fun K hK => ?_) (AllReadyH.nil)
    · go_simp
      refine hK.out _ _ ?_ (fun hHeld => ?_)
      · (try dsimp only); first | exact HS0.out | exact HAL.out _ _ (by assumption) | exact HCA.out _ _ (by assumption) b3 | exact HCA.out _ _ (by assumption) b1 | exact HST.out _ _ _ (by assumption)
      clear hK K
      (try simp only [List.getElem_toArray, List.getElem_cons_succ, List.getElem_cons_zero, Act.put, List.setIfInBounds_toArray, List.set_cons_zero, List.set_cons_succ])
      refine wpAnyH_ready (rs := [10]) (by kernel_rfl) (by simp) ?_
      refine AllReadyH.cons rfl (fun K hK => ?_) (AllReadyH.nil)
      · go_simp
        refine hK.out _ _ ?_ (fun hHeld => ?_)
        · (try dsimp only); first | exact HS0.out | exact HAL.out _ _ (by assumption) | exact HCA.out _ _ (by assumption) b3 | exact HCA.out _ _ (by assumption) b1 | exact HST.out _ _ _ (by assumption)
        clear hK K
        (try simp only [List.getElem_toArray, List.getElem_cons_succ, List.getElem_cons_zero, Act.put, List.setIfInBounds_toArray, List.set_cons_zero, List.set_cons_succ])
        refine wpAnyH_ready (rs := [11]) (by kernel_rfl) (by simp) ?_
        refine AllReadyH.cons rfl (fun K hK => ?_) (AllReadyH.nil)
        · go_simp
          (have hB5 := hHeld.2.2.2.2.2.2.2.2.2.2.1
           refine (concatMa_any (if c = l.length - 15 then A else Option.map (fun x => x.add ((l.length - 15) * 7)) A) (some ⟨w3.heap.size, 0, none⟩) (l.length - (l.length - 15)) 1 (c - (l.length - 15)) 1 (w3.heap.size + 1) 2 (mcs (l.drop (l.length - 15))) (mcs [⟨x, A8, c8⟩]) _ (by omega) ?h0 ?h1 (HRW.out.1.on hB5) ?h2 (by rw [mcs_len, List.length_drop]) (by rw [mcs_len]; rfl) (mcs_one _) (mcs_one _) HRW.out.2 (fun e => by cases e)).mono ?h3
           case h0 => go_simp
           case h1 => go_simp
           case h2 =>
             rw [mcs_one1]
             refine Rws.of_news fun j u hu => ?_
             match j, hu with
             | 0, hu => obtain rfl := Option.some.inj hu; go_simp
             | 1, hu => obtain rfl := Option.some.inj hu; go_simp
             | 2, hu => obtain rfl := Option.some.inj hu; go_simp
             | 3, hu => obtain rfl := Option.some.inj hu; go_simp
             | 4, hu => obtain rfl := Option.some.inj hu; go_simp
             | 5, hu => obtain rfl := Option.some.inj hu; go_simp
             | 6, hu => obtain rfl := Option.some.inj hu; go_simp
           rintro e w5 ⟨v, rfl, ho, b1⟩
           obtain ⟨N1, hN1⟩ : ∃ N1, l.length - (l.length - 15) + 1 = N1 := ⟨_, rfl⟩
           rw [hN1] at ho
           have HN1 := Lib.hid hN1
           clear hN1
           have b9 := bthen (rs_two w3 _ _) b1 (Nat.le_refl _)
           have s0 := (b9.cell (p := ⟨w.heap.size + 1 + 1, 0, none⟩) ql).trans q0
           have s1 := (b9.cell (p := ⟨w.heap.size + 1 + 1, 1, none⟩) ql).trans q1
           have sf := fun j => (b9.frozen (p := ⟨w.heap.size + 1 + 1, j, none⟩) ql).trans (qf j)
           have sl : w.heap.size + 1 + 1 < w5.heap.size := Nat.lt_of_lt_of_le ql b9.size
           have HB9 := Lib.hid b9
           have HB5 := Lib.hid (bthen hB5 b1 (Nat.le_refl _))
           have HO := Lib.hid ho
           have HLT := Lib.hid hHeld.2.2.2.2.2.2.2.2.2.2.2
           clear b9 q0 q1 qf
           obtain ⟨A6, c6, rfl, -, -⟩ := Rw.own_cells ho
           clear ho)
          refine hK.out _ _ ?_ (fun hHeld => ?_)
          · (try dsimp only); first | exact HS0.out | exact HAL.out _ _ (by assumption) | exact HCA.out _ _ (by assumption) b3 | exact HCA.out _ _ (by assumption) b1 | exact HST.out _ _ _ (by assumption)
          clear hK K
          (try simp only [List.getElem_toArray, List.getElem_cons_succ, List.getElem_cons_zero, Act.put, List.setIfInBounds_toArray, List.set_cons_zero, List.set_cons_succ])
          refine wpAnyH_take (i := 12) (v := ?_) rfl (by kernel_rfl) (by kernel_rfl) (by kernel_rfl) (fun _ _ _ h => h) (Or.inl ⟨by rfl, ?_⟩) (by assumption) ?_
          rotate_left
          · intro w hSw; (try dsimp only at hSw); go_simp; try with_reducible rfl
          (try simp only [List.getElem_toArray, List.getElem_cons_succ, List.getElem_cons_zero, Act.put, List.setIfInBounds_toArray, List.set_cons_zero, List.set_cons_succ])
          refine wpAnyH_ready (rs := [13]) (by kernel_rfl) (by simp) ?_
          refine AllReadyH.cons rfl (fun K hK => ?_) (AllReadyH.nil)
          · go_simp
            refine hK.out _ _ ?_ (fun hHeld => ?_)
            · (try dsimp only); first | exact HS0.out | exact HAL.out _ _ (by assumption) | exact HCA.out _ _ (by assumption) b3 | exact HCA.out _ _ (by assumption) b1 | exact HST.out _ _ _ (by assumption)
            clear hK K
            (try simp only [List.getElem_toArray, List.getElem_cons_succ, List.getElem_cons_zero, Act.put, List.setIfInBounds_toArray, List.set_cons_zero, List.set_cons_succ])
            refine wpAnyH_take (i := 14) (v := ?_) rfl (by kernel_rfl) (by kernel_rfl) (by kernel_rfl) (fun _ _ _ h => h) (Or.inl ⟨by rfl, ?_⟩) (by assumption) ?_
            rotate_left
            · intro w hSw; (try dsimp only at hSw); go_simp; try with_reducible rfl
            (try simp only [List.getElem_toArray, List.getElem_cons_succ, List.getElem_cons_zero, Act.put, List.setIfInBounds_toArray, List.set_cons_zero, List.set_cons_succ])
            refine wpAnyH_done (by kernel_rfl) ?_ _
            refine NoPanic.normal ?_
            have HB6 := Lib.hid hHeld.2.2.2.2.2.2.2.2.2.2.1
            clear hHeld
            have g0 : ((w5.setCell ⟨w.heap.size + 1 + 1, 0, none⟩ (.int .u64 ((T : Int) + 1))).setCell ⟨w.heap.size + 1 + 1, 1, none⟩ (.slice A6 N1 c6)).cell? ⟨w.heap.size + 1 + 1, 0, none⟩ = some (.int .u64 ((T : Int) + 1)) := (World.cell?_setCell_other _ _ _ _ (by simp)).trans (World.cell?_setCell_same _ _ _ s0)
            have g1 : ((w5.setCell ⟨w.heap.size + 1 + 1, 0, none⟩ (.int .u64 ((T : Int) + 1))).setCell ⟨w.heap.size + 1 + 1, 1, none⟩ (.slice A6 N1 c6)).cell? ⟨w.heap.size + 1 + 1, 1, none⟩ = some (.slice A6 N1 c6) := World.cell?_setCell_same _ _ _ ((World.cell?_setCell_other _ _ _ _ (by simp)).trans s1)
            have hg := only_setCell (p := ⟨w.heap.size + 1 + 1, 1, none⟩) (only_setCell (p := ⟨w.heap.size + 1 + 1, 0, none⟩) (World.grownBy.refl w5 (some (w.heap.size + 1 + 1))) rfl (.int .u64 ((T : Int) + 1))) rfl (.slice A6 N1 c6)
            have HO6 := Lib.hid (HO.out.kept hg (.inr (Rw.own_row HO.out (by have := HLT.out; omega))))
            have HE := Lib.hid (show MaOk ((w5.setCell ⟨w.heap.size + 1 + 1, 0, none⟩ (.int .u64 ((T : Int) + 1))).setCell ⟨w.heap.size + 1 + 1, 1, none⟩ (.slice A6 N1 c6)) x A8 c8 from by
              have hr := HO8.out.row
              have hne : ∀ a, A8 = some a → a.block ≠ w.heap.size + 1 + 1 := fun a ha => by
                have h1 := (hr.2.2 a ha).1
                have h2 := HS2.out
                have h3 : w2.drew.heap.size = w2.heap.size := rfl
                omega
              have h5 : MaOk w5 x A8 c8 := ⟨HX.out.shop, HX.out.key, HX.out.body, HX.out.len, hr.2.1, HX.out.lite, hr.1.on HB9.out⟩
              exact (h5.put hne 0 _).put hne 1 _)
            have HA8 := Lib.hid (show ∀ a, A8 = some a → w.heap.size ≤ a.block ∧ a.block < w5.heap.size from fun a ha => by
              have h1 := HO8.out.row.2.2 a ha
              have h2 := HS2.out
              have h3 : w2.drew.heap.size = w2.heap.size := rfl
              have h4 := HB9.out.size
              omega)
            clear hg
            generalize (if c = l.length - 15 then A else Option.map (fun x => x.add ((l.length - 15) * 7)) A) = A9
            go_wp2_with fail
            refine bodyPost_ret (v := .tuple #[.agg #[.int .u64 ((T : Int) + 1), .slice A6 N1 c6], .int .i64 0]) (by simp [results, Tryz.results13, go_sem, g0, g1]) rfl ?_
            obtain ⟨A7, c7, e7, hc7, hn7, hr7, hb7⟩ := Rws.of_own HO6.out
            obtain ⟨rfl, -, rfl⟩ := Value.slice.inj e7
            have hlen : N1 = (l.drop (l.length - 15) ++ [(⟨x, A8, c8⟩ : Mp)]).length := by rw [← HN1.out, List.length_append, List.length_drop]; rfl
            rw [← mcs_app] at hr7
            subst hlen
            refine ⟨A6, c6, l.drop (l.length - 15) ++ [⟨x, A8, c8⟩], by simp [Rs.addT, Rs.addC, h1', h2], by simp [Rs.addK, h1', h2], hc7, hn7, ⟨⟨hr7, fun p hp => ?_⟩, fun a ha => .inr ⟨by have := hb7 a ha; have := HLT.out; omega, (hb7 a ha).2⟩, fun p hp a ha => ?_⟩, HB6.out⟩
            · rcases List.mem_append.1 hp with hp | hp
              · exact (H.out.m.hd p (List.mem_of_mem_drop hp)).on HB6.out
              · obtain rfl := List.mem_singleton.1 hp
                exact HE.out
            · rcases List.mem_append.1 hp with hp | hp
              · exact .inl (H.out.h p (List.mem_of_mem_drop hp) a ha)
              · obtain rfl := List.mem_singleton.1 hp
                exact .inr (by simpa using HA8.out a ha)
theorem rsPut_any (U : Nat → Prop) (T c : Nat) (A : Option Addr) (l : List Mp) (x : Ml) (Ax : Option Addr) (cx : Nat) (w : World) (hl : l.length ≤ 16) (hc : l.length ≤ c) (hn : A = none → c = 0) (hT : T < 18446744073709551616) (hx : MaOk w x Ax cx) (h : MasU U w A l) (hL : Len w) :
    Calls Tryz.prog 13 #[.agg #[.int .u64 (T : Int), .slice A l.length c], maV x Ax cx] w (RsPutPost U T l x w) :=
  (rsPutB_any U T c A l x Ax cx w hl hc hn hT hx h hL).mono fun _ _ ⟨A', c', l', h1, h2, h3, h4, h5, h6⟩ => ⟨A', c', l', h1, h2, h3, h4, h5.mono (fun _ hg => hg.imp id fun h => h.1), h6⟩
end Go.Proofs.YtjkaljokkpabfaaGreatDoor
end
