/-
  ANY ACT; two lines that are the same; whether one is there: walked. THE FIRST LATE ONE; the laws' acts: walked.
-/
import Derived.Test.YtgpnhccekpiijaaGreatDoorLf47

section
namespace Go.Proofs.YtgpnhccekpiijaaGreatDoor
open Go.ChangeShapes Go.WideShapes Go.ChangeAt Go.RowKit
def doL (l : List It) (d : Nat) (x : Ml) : List It := if d % 6 = 2 then Ln.lend l else if d % 6 = 3 then Ln.back l x.id else if d % 6 = 4 then Ln.remove l x.id else if d % 6 = 5 then Ln.wake l else Ln.add l ⟨x, false, false⟩
/-- such lines come about here -/
structure FineS (l : List It) : Prop where
  fine : Ln.Fine l
  few : ∀ x ∈ l, maLight x.m = true
theorem FineS.nil : FineS [] := ⟨Ln.Fine.nil, fun x hx => by simp at hx⟩
theorem FineS.heads {l : List It} (h : FineS l) : ∀ x ∈ l, x.m.head.length ≤ 100000 := fun x hx => by have := ml_len (h.few x hx); omega
theorem FineS.map {l : List It} (h : FineS l) {f : It → It} (hf : ∀ x, (f x).m = x.m) : FineS (l.map f) := ⟨h.fine.map hf, fun x hx => by
  obtain ⟨y, hy, rfl⟩ := List.mem_map.1 hx
  rw [hf]; exact h.few y hy⟩
theorem FineS.wake {l : List It} (h : FineS l) : FineS (Ln.wake l) := h.map fun _ => rfl
theorem FineS.lend {l : List It} (h : FineS l) : FineS (Ln.lend l) := by
  unfold Ln.lend
  split
  · exact h
  · exact h.map fun _ => rfl
theorem FineS.step {l : List It} (h : FineS l) (d : Nat) {x : Ml} (hx : Ml.Fits x) (hl : maLight x = true) : FineS (doL l d x) := by
  unfold doL
  split
  · exact h.lend
  · split
    · unfold Ln.back
      split
      · exact h.map fun y => by split <;> rfl
      · exact h
    · split
      · refine ⟨h.fine.remove _, fun y hy => ?_⟩
        unfold Ln.remove at hy
        split at hy
        · exact h.few y hy
        · exact h.few y (List.mem_of_mem_eraseIdx hy)
      · split
        · exact h.wake
        · refine ⟨h.fine.add hx, fun y hy => ?_⟩
          unfold Ln.add at hy
          split at hy
          · rcases List.mem_append.1 hy with hy | hy
            · exact h.few y hy
            · obtain rfl := List.mem_singleton.1 hy; exact hl
          · exact h.few y hy
theorem done18_any (d : Nat) (x : Ml) (Ax : Option Addr) (cx : Nat) (v : Value) (l : List It) (w : World) (U : Nat → Prop) (hf : FineS l) (h : LnU U w v l) (hg : MaGo w x Ax cx) (hL : Len w) : Calls Tryz.prog 25 #[v, .slice none 0 0, .agg #[.int .u8 (d : Int), .int .u64 (x.id : Int), .string (ofL x.shop), .string (ofL x.key), .slice Ax x.head.length cx, .string (ofL x.body), .int .u64 (x.due : Int), .int .u8 (x.hops : Int)]] w (DoneN U (doL l d x) w) := by
  have hl : l.length ≤ 1000 := by have := hf.fine.len; omega
  unfold doL
  by_cases h2 : d % 6 = 2
  · rw [if_pos h2]; exact done18_lend d x Ax cx v l w U hl h (by omega) hf.heads
  · rw [if_neg h2]
    by_cases h3 : d % 6 = 3
    · rw [if_pos h3]; exact done18_back d x Ax cx v l w U hl h (by omega)
    · rw [if_neg h3]
      by_cases h4 : d % 6 = 4
      · rw [if_pos h4]; exact done18_remove d x Ax cx v l w U hl h (by omega) hf.heads
      · rw [if_neg h4]
        by_cases h5 : d % 6 = 5
        · rw [if_pos h5]; exact done18_wake d x Ax cx v l w U hl h (by omega)
        · rw [if_neg h5]; exact done18_add d x Ax cx v l w U hl h (d % 6) (by omega) (by omega) hg hL
/-! ### two lines that are the same -/
/-! ### is one of an ID there? -/
end Go.Proofs.YtgpnhccekpiijaaGreatDoor
end
section
namespace Go.Proofs.YtgpnhccekpiijaaGreatDoor
open Go.ChangeShapes Go.WideShapes Go.ChangeAt Go.RowKit
set_option maxHeartbeats 4000000 in
theorem lnLate_any (t : Nat) (v : Value) (l : List It) (w : World) (U : Nat → Prop) (hl : l.length ≤ 100000) (h : LnU U w v l) : Calls Tryz.prog 38 #[v, .int .u64 (t : Int)] w (MaOut (tellM l (Ln.nextLate l t)) (decide (0 ≤ Ln.nextLate l t)) w) := by
  obtain ⟨A, c, rfl, -⟩ := h.form
  have hb0 := three_allocs w (.cells #[.slice A l.length c] 55) (.cells #[.int .u64 (t : Int)] 33) (.cells #[.int .u64 0, .string ⟨#[]⟩, .string ⟨#[]⟩, .slice none 0 0, .string ⟨#[]⟩, .int .u64 0, .int .u8 0] 59)
  have HB0 := Lib.hid hb0
  have HX0 := Lib.hid (box_next (box_next (box_at0 w #[.slice A l.length c] 55) (.cells #[.int .u64 (t : Int)] 33)) (.cells #[.int .u64 0, .string ⟨#[]⟩, .string ⟨#[]⟩, .slice none 0 0, .string ⟨#[]⟩, .int .u64 0, .int .u8 0] 59))
  have HI0 := Lib.hid (box_next (box_at1 w (.cells #[.slice A l.length c] 55) #[.int .u64 (t : Int)] 33) (.cells #[.int .u64 0, .string ⟨#[]⟩, .string ⟨#[]⟩, .slice none 0 0, .string ⟨#[]⟩, .int .u64 0, .int .u8 0] 59))
  have HR0 := Lib.hid (box_at2 w (.cells #[.slice A l.length c] 55) (.cells #[.int .u64 (t : Int)] 33) #[.int .u64 0, .string ⟨#[]⟩, .string ⟨#[]⟩, .slice none 0 0, .string ⟨#[]⟩, .int .u64 0, .int .u8 0] 59)
  have HU0 := Lib.hid (h.on hb0)
  have HN := Lib.hid (fun W (hi : BoxC w (w.heap.size + 1) [.int .u64 (t : Int)] W) h => lnFR_any lnLateN #[.pointer (some ⟨w.heap.size + 1, 0, none⟩)] (.inr ⟨rfl, _, rfl⟩) (fun m => m.due != 0 && decide (m.due ≤ t)) (.agg #[.slice A l.length c]) l W hl h (fun W' x A k hb => lnLate1_any x A k _ t W' ((hb.cell (p := ⟨w.heap.size + 1, 0, none⟩) hi.lt).trans (hi.cs 0 _ rfl))))
  rw [show (fun x : It => Ln.rdy x && (x.m.due != 0 && decide (x.m.due ≤ t))) = Ln.late t from rfl, show idx (Ln.late t) l = Ln.nextLate l t from rfl] at HN
  unfold lnLateN at HN
  have HT := Lib.hid (fun W h => lnTell_any (Ln.nextLate l t) (.agg #[.slice A l.length c]) l W U (idx_lt _ l).2 h)
  have HSZ := Lib.hid (show (((w.alloc (.cells #[.slice A l.length c] 55)).alloc (.cells #[.int .u64 (t : Int)] 33)).alloc (.cells #[.int .u64 0, .string ⟨#[]⟩, .string ⟨#[]⟩, .slice none 0 0, .string ⟨#[]⟩, .int .u64 0, .int .u8 0] 59)).heap.size = w.heap.size + 3 by simp)
  generalize tellM l (Ln.nextLate l t) = y at *
  generalize decide (0 ≤ Ln.nextLate l t) = ok at *
  generalize Ln.nextLate l t = M at *
  unfold MaOut at HT
  simp only [maV] at HT
  clear h hb0
  go_enter Tryz.func38, Tryz.ntmps38
  go_upto_region 1 with fail
  generalize (((w.alloc (.cells #[.slice A l.length c] 55)).alloc (.cells #[.int .u64 (t : Int)] 33)).alloc (.cells #[.int .u64 0, .string ⟨#[]⟩, .string ⟨#[]⟩, .slice none 0 0, .string ⟨#[]⟩, .int .u64 0, .int .u8 0] 59)) = w2 at *
  have x0 := HX0.out.cs 0 _ rfl
  have xl := HX0.out.lt
  have HDR := Lib.hid (show Below w2.heap.size w2 w2.drew from (Below.refl _ _).drew)
  go_region_with (first
    | (go_at_call 97; refine (HN.out _ (HI0.out.on HDR.out) (HU0.out.on HDR.out).in).mono ?_; rintro e w3 ⟨rfl, hb⟩; have HX3 := Lib.hid ((HX0.out.on HDR.out).on hb); have HR3 := Lib.hid ((HR0.out.on HDR.out).on hb); have HB3 := Lib.hid (bthen HB0.out.drew hb (Nat.le_refl _)); have HU3 := Lib.hid ((HU0.out.on HDR.out).on hb); have y0 := HX3.out.cs 0 _ rfl; have yl := HX3.out.lt; have HS3 := Lib.hid hb.size; clear hb)
    | (go_at_call 96; refine (HT.out _ HU3.out).mono ?_; rintro e w4 ⟨Aq, cq, rfl, ho, hb⟩; have HR4 := Lib.hid (HR3.out.on hb); have HO4 := Lib.hid ho; have HB4 := Lib.hid (bthen HB3.out hb (Nat.le_refl _)); have HA4 := Lib.hid (show ∀ a, Aq = some a → w.heap.size + 3 ≤ a.block from fun a ha => by have := (ho.row.2.2 a ha).1; have := HSZ.out; have := HS3.out; simp only [World.drew] at this; omega); have q0 := HR4.out.cs 0 _ rfl; have q1 := HR4.out.cs 1 _ rfl; have q2 := HR4.out.cs 2 _ rfl; have q3 := HR4.out.cs 3 _ rfl; have q4 := HR4.out.cs 4 _ rfl; have q5 := HR4.out.cs 5 _ rfl; have q6 := HR4.out.cs 6 _ rfl; have ql := HR4.out.lt; have qf : ∀ j, w4.frozen? ⟨w.heap.size + 2, j, none⟩ = false := HR4.out.s; clear ho hb))
  all_goals
    go_wp2_with fail
    have hQ4 := HR4.out.fill [.int .u64 (y.id : Int), .string (ofL y.shop), .string (ofL y.key), .slice Aq y.head.length cq, .string (ofL y.body), .int .u64 (y.due : Int), .int .u8 (y.hops : Int)] rfl
    have hO4 := HO4.out.putAll (g := w.heap.size + 2) (fun a ha => by have := HA4.out a ha; omega) [.int .u64 (y.id : Int), .string (ofL y.shop), .string (ofL y.key), .slice Aq y.head.length cq, .string (ofL y.body), .int .u64 (y.due : Int), .int .u8 (y.hops : Int)] 0
    have hB4 := below_putAll (g := w.heap.size + 2) (by omega) [.int .u64 (y.id : Int), .string (ofL y.shop), .string (ofL y.key), .slice Aq y.head.length cq, .string (ofL y.body), .int .u64 (y.due : Int), .int .u8 (y.hops : Int)] 0 HB4.out
    simp only [putAll] at hQ4 hO4 hB4
    have g0 := hQ4.cs 0 _ rfl
    have g1 := hQ4.cs 1 _ rfl
    have g2 := hQ4.cs 2 _ rfl
    have g3 := hQ4.cs 3 _ rfl
    have g4 := hQ4.cs 4 _ rfl
    have g5 := hQ4.cs 5 _ rfl
    have g6 := hQ4.cs 6 _ rfl
    exact bodyPost_ret (v := .tuple #[.agg #[.int .u64 (y.id : Int), .string (ofL y.shop), .string (ofL y.key), .slice Aq y.head.length cq, .string (ofL y.body), .int .u64 (y.due : Int), .int .u8 (y.hops : Int)], .bool ok]) (by simp [results, Tryz.results38, go_sem, g0, g1, g2, g3, g4, g5, g6]) rfl ⟨Aq, cq, rfl, World.ownsRow.mono hO4 (by have := HSZ.out; have := HS3.out; simp only [World.drew] at this; omega), hB4⟩
def AcSt (w : World) (b n g : Nat) (i : Value) (wr : World) : Prop := ∃ (k : Nat) (q : List It), k + g = n ∧ i = .int .i64 (k : Int) ∧ FineS q ∧ LnBox w b q wr ∧ Below w.heap.size w wr
end Go.Proofs.YtgpnhccekpiijaaGreatDoor
end
