/-
  A MESSAGE's COPY; THE CHAPTER's EXAMPLE: walked.
-/
import Derived.Test.YtjkaljokkpabfaaGreatDoorRr27
import Derived.Test.YtjkaljokkpabfaaGreatDoorRr28
import Derived.Test.YtjkaljokkpabfaaGreatDoorRr29

section
namespace Go.Proofs.YtjkaljokkpabfaaGreatDoor
open Go.ChangeShapes Go.WideShapes Go.ChangeAt Go.RowKit
def MaCopyPost (x : Ml) (w : World) (e : Ending) (w' : World) : Prop := ∃ A' c', e = .returned (maV x A' c') ∧ OwnPrs w.heap.size w' A' c' x.head ∧ Below w.heap.size w w'
set_option maxRecDepth 100000 in
set_option maxHeartbeats 4000000 in
theorem maCopy_any (x : Ml) (A : Option Addr) (c : Nat) (w : World) (hl : x.head.length ≤ 100000) (hc : x.head.length ≤ c) (hp : Prs w A x.head) : Calls Tryz.prog 32 #[maV x A c] w (MaCopyPost x w) := by
  have a0 : Below w.heap.size w (w.alloc (.cells #[.int .u64 (x.id : Int), .string (ofL x.shop), .string (ofL x.key), .slice A x.head.length c, .string (ofL x.body), .int .u64 (x.due : Int), .int .u8 (x.hops : Int)] 25)) := (Below.refl _ _).alloc (Nat.le_refl _) _
  have a1 : Below (w.alloc (.cells #[.int .u64 (x.id : Int), .string (ofL x.shop), .string (ofL x.key), .slice A x.head.length c, .string (ofL x.body), .int .u64 (x.due : Int), .int .u8 (x.hops : Int)] 25)).heap.size (w.alloc (.cells #[.int .u64 (x.id : Int), .string (ofL x.shop), .string (ofL x.key), .slice A x.head.length c, .string (ofL x.body), .int .u64 (x.due : Int), .int .u8 (x.hops : Int)] 25)) ((w.alloc (.cells #[.int .u64 (x.id : Int), .string (ofL x.shop), .string (ofL x.key), .slice A x.head.length c, .string (ofL x.body), .int .u64 (x.due : Int), .int .u8 (x.hops : Int)] 25)).alloc (.cells #[.int .u64 0, .string ⟨#[]⟩, .string ⟨#[]⟩, .slice none 0 0, .string ⟨#[]⟩, .int .u64 0, .int .u8 0] 25)) := (Below.refl _ _).alloc (Nat.le_refl _) _
  have b0 : Below w.heap.size w ((w.alloc (.cells #[.int .u64 (x.id : Int), .string (ofL x.shop), .string (ofL x.key), .slice A x.head.length c, .string (ofL x.body), .int .u64 (x.due : Int), .int .u8 (x.hops : Int)] 25)).alloc (.cells #[.int .u64 0, .string ⟨#[]⟩, .string ⟨#[]⟩, .slice none 0 0, .string ⟨#[]⟩, .int .u64 0, .int .u8 0] 25)) := bthen a0 a1 (Nat.le_refl _)
  have h1 : BoxC w w.heap.size (maL x A c) ((w.alloc (.cells #[.int .u64 (x.id : Int), .string (ofL x.shop), .string (ofL x.key), .slice A x.head.length c, .string (ofL x.body), .int .u64 (x.due : Int), .int .u8 (x.hops : Int)] 25)).alloc (.cells #[.int .u64 0, .string ⟨#[]⟩, .string ⟨#[]⟩, .slice none 0 0, .string ⟨#[]⟩, .int .u64 0, .int .u8 0] 25)) := (BoxC.new (Nat.le_refl _) #[.int .u64 (x.id : Int), .string (ofL x.shop), .string (ofL x.key), .slice A x.head.length c, .string (ofL x.body), .int .u64 (x.due : Int), .int .u8 (x.hops : Int)] 25).on a1
  have h2 : BoxC w (w.heap.size + 1) [.int .u64 0, .string ⟨#[]⟩, .string ⟨#[]⟩, .slice none 0 0, .string ⟨#[]⟩, .int .u64 0, .int .u8 0] ((w.alloc (.cells #[.int .u64 (x.id : Int), .string (ofL x.shop), .string (ofL x.key), .slice A x.head.length c, .string (ofL x.body), .int .u64 (x.due : Int), .int .u8 (x.hops : Int)] 25)).alloc (.cells #[.int .u64 0, .string ⟨#[]⟩, .string ⟨#[]⟩, .slice none 0 0, .string ⟨#[]⟩, .int .u64 0, .int .u8 0] 25)) := by
    have := BoxC.new (w := w) (W := (w.alloc (.cells #[.int .u64 (x.id : Int), .string (ofL x.shop), .string (ofL x.key), .slice A x.head.length c, .string (ofL x.body), .int .u64 (x.due : Int), .int .u8 (x.hops : Int)] 25))) (by simp) #[.int .u64 0, .string ⟨#[]⟩, .string ⟨#[]⟩, .slice none 0 0, .string ⟨#[]⟩, .int .u64 0, .int .u8 0] 25
    simpa using this
  have HC := Lib.hid (cloneOwn_any x.head A c ((w.alloc (.cells #[.int .u64 (x.id : Int), .string (ofL x.shop), .string (ofL x.key), .slice A x.head.length c, .string (ofL x.body), .int .u64 (x.due : Int), .int .u8 (x.hops : Int)] 25)).alloc (.cells #[.int .u64 0, .string ⟨#[]⟩, .string ⟨#[]⟩, .slice none 0 0, .string ⟨#[]⟩, .int .u64 0, .int .u8 0] 25)) hl hc (hp.on b0))
  have hsz : ((w.alloc (.cells #[.int .u64 (x.id : Int), .string (ofL x.shop), .string (ofL x.key), .slice A x.head.length c, .string (ofL x.body), .int .u64 (x.due : Int), .int .u8 (x.hops : Int)] 25)).alloc (.cells #[.int .u64 0, .string ⟨#[]⟩, .string ⟨#[]⟩, .slice none 0 0, .string ⟨#[]⟩, .int .u64 0, .int .u8 0] 25)).heap.size = w.heap.size + 1 + 1 := by simp
  have HH1 := Lib.hid h1
  have HH2 := Lib.hid h2
  have HB := Lib.hid b0
  unfold ClOwn at HC
  rw [hsz] at HC
  clear hp a0 a1 b0 h1 h2
  simp only [maV]
  go_enter Tryz.func32, Tryz.ntmps32
  go_wp2_with fail
  generalize ((w.alloc (.cells #[.int .u64 (x.id : Int), .string (ofL x.shop), .string (ofL x.key), .slice A x.head.length c, .string (ofL x.body), .int .u64 (x.due : Int), .int .u8 (x.hops : Int)] 25)).alloc (.cells #[.int .u64 0, .string ⟨#[]⟩, .string ⟨#[]⟩, .slice none 0 0, .string ⟨#[]⟩, .int .u64 0, .int .u8 0] 25)) = w2 at *
  refine HC.out.mono ?_
  rintro e w3 ⟨A2, k2, rfl, ho, hb⟩
  rw [← hsz] at hb
  have HP3 := Lib.hid (HH1.out.on hb)
  have HQ3 := Lib.hid (HH2.out.on hb)
  have HB3 := Lib.hid (bthen HB.out hb (by omega))
  have HO3 := Lib.hid ho
  have HA3 := Lib.hid (show ∀ a, A2 = some a → w.heap.size + 1 + 1 ≤ a.block from fun a ha => (ho.row.2.2 a ha).1)
  clear ho hb
  have c0 := HP3.out.cs 0 _ rfl
  have c1 := HP3.out.cs 1 _ rfl
  have c2 := HP3.out.cs 2 _ rfl
  have c3 := HP3.out.cs 3 _ rfl
  have c4 := HP3.out.cs 4 _ rfl
  have c5 := HP3.out.cs 5 _ rfl
  have c6 := HP3.out.cs 6 _ rfl
  have cl := HP3.out.lt
  have cf : ∀ j, w3.frozen? ⟨w.heap.size, j, none⟩ = false := HP3.out.s
  have q0 := HQ3.out.cs 0 _ rfl
  have q1 := HQ3.out.cs 1 _ rfl
  have q2 := HQ3.out.cs 2 _ rfl
  have q3 := HQ3.out.cs 3 _ rfl
  have q4 := HQ3.out.cs 4 _ rfl
  have q5 := HQ3.out.cs 5 _ rfl
  have q6 := HQ3.out.cs 6 _ rfl
  have ql := HQ3.out.lt
  have qf : ∀ j, w3.frozen? ⟨w.heap.size + 1, j, none⟩ = false := HQ3.out.s
  go_wp2_with fail
  have hP4 := HP3.out.put 3 (.slice A2 x.head.length k2) (by simp [maL])
  have hQ4 := (HQ3.out.aside (g := w.heap.size) (by omega) 3 (.slice A2 x.head.length k2)).fill [.int .u64 (x.id : Int), .string (ofL x.shop), .string (ofL x.key), .slice A2 x.head.length k2, .string (ofL x.body), .int .u64 (x.due : Int), .int .u8 (x.hops : Int)] rfl
  have hO4 := HO3.out.aside (g := w.heap.size) (fun a ha => by have := HA3.out a ha; omega) 3 (.slice A2 x.head.length k2)
  have hB4 := HB3.out.setCell (p := ⟨w.heap.size, 3, none⟩) (Nat.le_refl _) (.slice A2 x.head.length k2)
  have hB5 := below_putAll (g := w.heap.size + 1) (by omega) [.int .u64 (x.id : Int), .string (ofL x.shop), .string (ofL x.key), .slice A2 x.head.length k2, .string (ofL x.body), .int .u64 (x.due : Int), .int .u8 (x.hops : Int)] 0 hB4
  have hO5 : OwnPrs (w.heap.size + 1 + 1) (putAll (w.heap.size + 1) 0 [.int .u64 (x.id : Int), .string (ofL x.shop), .string (ofL x.key), .slice A2 x.head.length k2, .string (ofL x.body), .int .u64 (x.due : Int), .int .u8 (x.hops : Int)] (w3.setCell ⟨w.heap.size, 3, none⟩ (.slice A2 x.head.length k2))) A2 k2 x.head := by
    have ne : ∀ a, A2 = some a → w.heap.size + 1 ≠ a.block := fun a ha => by have := HA3.out a ha; omega
    exact ((((((hO4.aside ne 0 _).aside ne 1 _).aside ne 2 _).aside ne 3 _).aside ne 4 _).aside ne 5 _).aside ne 6 _
  simp only [putAll] at hQ4 hB5 hO5
  have g0 := hQ4.cs 0 _ rfl
  have g1 := hQ4.cs 1 _ rfl
  have g2 := hQ4.cs 2 _ rfl
  have g3 := hQ4.cs 3 _ rfl
  have g4 := hQ4.cs 4 _ rfl
  have g5 := hQ4.cs 5 _ rfl
  have g6 := hQ4.cs 6 _ rfl
  exact bodyPost_ret (v := .agg #[.int .u64 (x.id : Int), .string (ofL x.shop), .string (ofL x.key), .slice A2 x.head.length k2, .string (ofL x.body), .int .u64 (x.due : Int), .int .u8 (x.hops : Int)]) (by simp [results, Tryz.results32, go_sem, g0, g1, g2, g3, g4, g5, g6]) rfl ⟨A2, k2, rfl, World.ownsRow.mono hO5 (by omega), hB5⟩
/-- the chapter's example -/
def exMl : Ml := ⟨0, [97], [], [], [], 0, 0⟩
theorem exMl_code : exMl.code = 0 := by decide
theorem exMl_len : exMl.enc.length = 25 := by decide
theorem ex13_bytes (w : World) (hL : Len w) : Calls Tryz.prog 55 #[.agg #[.int .u64 0, .string ⟨#[97]⟩, .string ⟨#[]⟩, .slice none 0 0, .string ⟨#[]⟩, .int .u64 0, .int .u8 0]] w fun e w' => e = .returned (.tuple #[.string (ofL exMl.enc), .int .i64 0]) ∧ Below w.heap.size w w' := by
  have h := maBytes_any exMl none 0 w ⟨by decide, by decide, by decide, by decide, by decide, lite_nil, Prs.nil _ _⟩ ⟨by decide, by decide, by decide, fun p hp => absurd hp (by simp [exMl])⟩ hL
  rw [show maBytesV exMl = .tuple #[.string (ofL exMl.enc), .int .i64 0] by unfold maBytesV; rw [if_pos exMl_code]] at h
  exact h
theorem ml_law9Awake (w : World) (hL : Len w) : Calls Tryz.prog 56 #[] w fun e w' => e = .returned (.bool true) ∧ Below w.heap.size w w' := by
  have HA := Lib.hid (awake9_any w hL)
  go_enter Tryz.func56, Tryz.ntmps56
  go_wp2_with fail
  refine HA.out.mono ?_
  rintro x w1 ⟨rfl, b1⟩
  have B1 := Lib.hid b1
  clear b1
  go_wp2_with fail
  go_ret
  exact ⟨rfl, B1.out⟩
set_option maxHeartbeats 1000000 in
theorem awake13_any (w : World) (hL : Len w) : Calls Tryz.prog 34 #[] w fun e w' => e = .returned (.bool true) ∧ Below w.heap.size w w' := by
  have HL := Lib.hid hL
  have HX := Lib.hid (ex13_bytes w hL)
  have hz : (ofL exMl.enc).size = 25 := by rw [ofL_size, exMl_len]
  clear hL
  generalize ofL exMl.enc = E at *
  go_enter Tryz.func34, Tryz.ntmps34
  go_wp2_with fail
  refine HX.out.mono ?_
  rintro e w1 ⟨rfl, b1⟩
  have HL1 := Lib.hid (HL.out.on b1)
  have HB1 := Lib.hid b1
  clear b1
  go_wp2_with fail
  refine (ml_law9Awake _ HL1.out).mono ?_
  rintro e w2 ⟨rfl, b2⟩
  have HB2 := Lib.hid (bthen HB1.out b2 (Nat.le_refl _))
  clear b2
  go_wp2_with fail
  go_ret
  exact ⟨rfl, HB2.out⟩
end Go.Proofs.YtjkaljokkpabfaaGreatDoor
end
