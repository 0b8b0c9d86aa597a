/-
  WHAT A LINE TELLS: walked.
-/
import Derived.Test.YtfbajmiiecmelabDoorLo34

section
namespace Go.Proofs.YtfbajmiiecmelabDoor
open Go.ChangeShapes Go.WideShapes Go.ChangeAt Go.RowKit
def MaOut (x : Ml) (ok : Bool) (w : World) (e : Ending) (w' : World) : Prop := ∃ A c, e = .returned (.tuple #[maV x A c, .bool ok]) ∧ OwnPrs w.heap.size w' A c x.head ∧ Below w.heap.size w w'
def tellM (l : List It) (a : Int) : Ml := if a < 0 then Ml.zero else (l.getD a.toNat it0).m
set_option maxHeartbeats 4000000 in
theorem lnTell_any (a : Int) (v : Value) (l : List It) (w : World) (U : Nat → Prop) (ha : a < l.length) (h : LnU U w v l) : Calls Tryd.prog 32 #[v, .int .i64 a] w (MaOut (tellM l a) (decide (0 ≤ a)) w) := by
  obtain ⟨A, c, rfl, -⟩ := h.form
  have hb0 := two_allocs w (.cells #[.slice A l.length c] 34) (.cells #[.int .u64 0, .string ⟨#[]⟩, .string ⟨#[]⟩, .slice none 0 0, .string ⟨#[]⟩, .int .u64 0, .int .u8 0] 28)
  have HB0 := Lib.hid hb0
  have HR0 := Lib.hid (box_at1 w (.cells #[.slice A l.length c] 34) #[.int .u64 0, .string ⟨#[]⟩, .string ⟨#[]⟩, .slice none 0 0, .string ⟨#[]⟩, .int .u64 0, .int .u8 0] 28)
  have HU0 := Lib.hid (h.on hb0)
  unfold tellM
  by_cases hn : a < 0
  · rw [if_pos hn, decide_eq_false (show ¬ 0 ≤ a by omega)]
    have hd : decide (a < 0) = true := decide_eq_true hn
    clear hn h hb0 ha
    go_enter Tryd.func32, Tryd.ntmps32
    go_wp2_with fail
    exact bodyPost_ret (v := .tuple #[.agg #[.int .u64 0, .string ⟨#[]⟩, .string ⟨#[]⟩, .slice none 0 0, .string ⟨#[]⟩, .int .u64 0, .int .u8 0], .bool false]) (by simp [results, Tryd.results32, go_sem]) rfl ⟨none, 0, rfl, World.ownsRow_nil _ _ _ _, HB0.out⟩
  · obtain ⟨k, rfl⟩ : ∃ k : Nat, a = (k : Int) := ⟨a.toNat, by omega⟩
    have hkl : k < l.length := by omega
    rw [if_neg hn, decide_eq_true (show 0 ≤ (k : Int) by omega), Int.toNat_natCast]
    have hd : decide ((k : Int) < 0) = false := decide_eq_false hn
    obtain ⟨b, off, Ax, cx, rfl, hbl, hat, hgo⟩ := HU0.out.get hkl
    have HC := Lib.hid (fun W hp => maCopy_any (l.getD k it0).m Ax cx W hgo.ok.len hgo.ok.cap hp)
    have HP := Lib.hid hgo.ok.row
    clear hn h hb0 ha hgo
    generalize l.getD k it0 = it at *
    obtain ⟨y, lt, ag⟩ := it
    dsimp only at *
    unfold MaCopyPost at HC
    simp only [maV] at HC
    have HSZ := Lib.hid (show ((w.alloc (.cells #[.slice (some ⟨b, off, none⟩) l.length c] 34)).alloc (.cells #[.int .u64 0, .string ⟨#[]⟩, .string ⟨#[]⟩, .slice none 0 0, .string ⟨#[]⟩, .int .u64 0, .int .u8 0] 28)).heap.size = w.heap.size + 2 by simp)
    have c0 := hat 0 _ rfl
    have c1 := hat 1 _ rfl
    have c2 := hat 2 _ rfl
    have c3 := hat 3 _ rfl
    have c4 := hat 4 _ rfl
    have c5 := hat 5 _ rfl
    have c6 := hat 6 _ rfl
    rw [Nat.add_zero] at c0
    clear hat
    go_enter Tryd.func32, Tryd.ntmps32
    go_wp2_with fail
    generalize ((w.alloc (.cells #[.slice (some ⟨b, off, none⟩) l.length c] 34)).alloc (.cells #[.int .u64 0, .string ⟨#[]⟩, .string ⟨#[]⟩, .slice none 0 0, .string ⟨#[]⟩, .int .u64 0, .int .u8 0] 28)) = w2 at *
    refine (HC.out _ HP.out).mono ?_
    rintro e w3 ⟨Aq, cq, rfl, ho, hb⟩
    have HR3 := Lib.hid (HR0.out.on hb)
    have HO3 := Lib.hid ho
    have HB3 := Lib.hid (bthen HB0.out hb (Nat.le_refl _))
    have HA3 := Lib.hid (show ∀ a, Aq = some a → w.heap.size + 2 ≤ a.block from fun a ha => by have := (ho.row.2.2 a ha).1; have := HSZ.out; omega)
    clear ho hb
    have q0 := HR3.out.cs 0 _ rfl
    have q1 := HR3.out.cs 1 _ rfl
    have q2 := HR3.out.cs 2 _ rfl
    have q3 := HR3.out.cs 3 _ rfl
    have q4 := HR3.out.cs 4 _ rfl
    have q5 := HR3.out.cs 5 _ rfl
    have q6 := HR3.out.cs 6 _ rfl
    have ql := HR3.out.lt
    have qf : ∀ j, w3.frozen? ⟨w.heap.size + 1, j, none⟩ = false := HR3.out.s
    go_wp2_with fail
    have hQ4 := HR3.out.fill [.int .u64 (y.id : Int), .string (ofL y.shop), .string (ofL y.key), .slice Aq y.head.length cq, .string (ofL y.body), .int .u64 (y.due : Int), .int .u8 (y.hops : Int)] rfl
    have hO4 := HO3.out.putAll (g := w.heap.size + 1) (fun a ha => by have := HA3.out a ha; omega) [.int .u64 (y.id : Int), .string (ofL y.shop), .string (ofL y.key), .slice Aq y.head.length cq, .string (ofL y.body), .int .u64 (y.due : Int), .int .u8 (y.hops : Int)] 0
    have hB4 := below_putAll (g := w.heap.size + 1) (by omega) [.int .u64 (y.id : Int), .string (ofL y.shop), .string (ofL y.key), .slice Aq y.head.length cq, .string (ofL y.body), .int .u64 (y.due : Int), .int .u8 (y.hops : Int)] 0 HB3.out
    simp only [putAll] at hQ4 hO4 hB4
    have g0 := hQ4.cs 0 _ rfl
    have g1 := hQ4.cs 1 _ rfl
    have g2 := hQ4.cs 2 _ rfl
    have g3 := hQ4.cs 3 _ rfl
    have g4 := hQ4.cs 4 _ rfl
    have g5 := hQ4.cs 5 _ rfl
    have g6 := hQ4.cs 6 _ rfl
    exact bodyPost_ret (v := .tuple #[.agg #[.int .u64 (y.id : Int), .string (ofL y.shop), .string (ofL y.key), .slice Aq y.head.length cq, .string (ofL y.body), .int .u64 (y.due : Int), .int .u8 (y.hops : Int)], .bool true]) (by simp [results, Tryd.results32, go_sem, g0, g1, g2, g3, g4, g5, g6]) rfl ⟨Aq, cq, rfl, World.ownsRow.mono hO4 (by have := HSZ.out; omega), hB4⟩
set_option maxHeartbeats 4000000 in
theorem lnFirst_any (v : Value) (l : List It) (w : World) (U : Nat → Prop) (hl : l.length ≤ 100000) (h : LnU U w v l) : Calls Tryd.prog 15 #[v] w (MaOut (tellM l (Ln.next l)) (decide (0 ≤ Ln.next l)) w) := by
  obtain ⟨A, c, rfl, -⟩ := h.form
  have hb0 := two_allocs w (.cells #[.slice A l.length c] 34) (.cells #[.int .u64 0, .string ⟨#[]⟩, .string ⟨#[]⟩, .slice none 0 0, .string ⟨#[]⟩, .int .u64 0, .int .u8 0] 28)
  have HB0 := Lib.hid hb0
  have HX0 := Lib.hid (box_next (box_at0 w #[.slice A l.length c] 34) (.cells #[.int .u64 0, .string ⟨#[]⟩, .string ⟨#[]⟩, .slice none 0 0, .string ⟨#[]⟩, .int .u64 0, .int .u8 0] 28))
  have HR0 := Lib.hid (box_at1 w (.cells #[.slice A l.length c] 34) #[.int .u64 0, .string ⟨#[]⟩, .string ⟨#[]⟩, .slice none 0 0, .string ⟨#[]⟩, .int .u64 0, .int .u8 0] 28)
  have HU0 := Lib.hid (h.on hb0)
  have HN := Lib.hid (fun W h => lnNext_any (.agg #[.slice A l.length c]) l W hl h)
  have HT := Lib.hid (fun W h => lnTell_any (Ln.next l) (.agg #[.slice A l.length c]) l W U (idx_lt _ l).2 h)
  have HSZ := Lib.hid (show ((w.alloc (.cells #[.slice A l.length c] 34)).alloc (.cells #[.int .u64 0, .string ⟨#[]⟩, .string ⟨#[]⟩, .slice none 0 0, .string ⟨#[]⟩, .int .u64 0, .int .u8 0] 28)).heap.size = w.heap.size + 2 by simp)
  generalize tellM l (Ln.next l) = y at *
  generalize decide (0 ≤ Ln.next l) = ok at *
  generalize Ln.next l = M at *
  unfold MaOut at HT
  simp only [maV] at HT
  clear h hb0
  go_enter Tryd.func15, Tryd.ntmps15
  go_upto_region 1 with fail
  generalize ((w.alloc (.cells #[.slice A l.length c] 34)).alloc (.cells #[.int .u64 0, .string ⟨#[]⟩, .string ⟨#[]⟩, .slice none 0 0, .string ⟨#[]⟩, .int .u64 0, .int .u8 0] 28)) = w2 at *
  have x0 := HX0.out.cs 0 _ rfl
  have xl := HX0.out.lt
  go_region_with (first
    | (go_at_call 26; refine (HN.out _ (HU0.out.on (Below.refl _ _).drew).in).mono ?_; rintro e w3 ⟨rfl, hb⟩; have HX3 := Lib.hid ((HX0.out.on (Below.refl _ _).drew).on hb); have HR3 := Lib.hid ((HR0.out.on (Below.refl _ _).drew).on hb); have HB3 := Lib.hid (bthen HB0.out.drew hb (Nat.le_refl _)); have HU3 := Lib.hid ((HU0.out.on (Below.refl _ _).drew).on hb); have y0 := HX3.out.cs 0 _ rfl; have yl := HX3.out.lt; have HS3 := Lib.hid hb.size; clear hb)
    | (go_at_call 32; refine (HT.out _ HU3.out).mono ?_; rintro e w4 ⟨Aq, cq, rfl, ho, hb⟩; have HR4 := Lib.hid (HR3.out.on hb); have HO4 := Lib.hid ho; have HB4 := Lib.hid (bthen HB3.out hb (Nat.le_refl _)); have HA4 := Lib.hid (show ∀ a, Aq = some a → w.heap.size + 2 ≤ a.block from fun a ha => by have := (ho.row.2.2 a ha).1; have := HSZ.out; have := HS3.out; simp only [World.drew] at this; omega); have q0 := HR4.out.cs 0 _ rfl; have q1 := HR4.out.cs 1 _ rfl; have q2 := HR4.out.cs 2 _ rfl; have q3 := HR4.out.cs 3 _ rfl; have q4 := HR4.out.cs 4 _ rfl; have q5 := HR4.out.cs 5 _ rfl; have q6 := HR4.out.cs 6 _ rfl; have ql := HR4.out.lt; have qf : ∀ j, w4.frozen? ⟨w.heap.size + 1, j, none⟩ = false := HR4.out.s; clear ho hb))
  all_goals
    go_wp2_with fail
    have hQ4 := HR4.out.fill [.int .u64 (y.id : Int), .string (ofL y.shop), .string (ofL y.key), .slice Aq y.head.length cq, .string (ofL y.body), .int .u64 (y.due : Int), .int .u8 (y.hops : Int)] rfl
    have hO4 := HO4.out.putAll (g := w.heap.size + 1) (fun a ha => by have := HA4.out a ha; omega) [.int .u64 (y.id : Int), .string (ofL y.shop), .string (ofL y.key), .slice Aq y.head.length cq, .string (ofL y.body), .int .u64 (y.due : Int), .int .u8 (y.hops : Int)] 0
    have hB4 := below_putAll (g := w.heap.size + 1) (by omega) [.int .u64 (y.id : Int), .string (ofL y.shop), .string (ofL y.key), .slice Aq y.head.length cq, .string (ofL y.body), .int .u64 (y.due : Int), .int .u8 (y.hops : Int)] 0 HB4.out
    simp only [putAll] at hQ4 hO4 hB4
    have g0 := hQ4.cs 0 _ rfl
    have g1 := hQ4.cs 1 _ rfl
    have g2 := hQ4.cs 2 _ rfl
    have g3 := hQ4.cs 3 _ rfl
    have g4 := hQ4.cs 4 _ rfl
    have g5 := hQ4.cs 5 _ rfl
    have g6 := hQ4.cs 6 _ rfl
    exact bodyPost_ret (v := .tuple #[.agg #[.int .u64 (y.id : Int), .string (ofL y.shop), .string (ofL y.key), .slice Aq y.head.length cq, .string (ofL y.body), .int .u64 (y.due : Int), .int .u8 (y.hops : Int)], .bool ok]) (by simp [results, Tryd.results15, go_sem, g0, g1, g2, g3, g4, g5, g6]) rfl ⟨Aq, cq, rfl, World.ownsRow.mono hO4 (by have := HSZ.out; have := HS3.out; simp only [World.drew] at this; omega), hB4⟩
end Go.Proofs.YtfbajmiiecmelabDoor
end
