/-
  AN ITEM OF ONE's OWN; one that comes back; slices.Clip: walked.
-/
import Derived.Test.YtfbajmiiecmelabDoorLo20
import Derived.Test.YtfbajmiiecmelabDoorLo30

section
namespace Go.Proofs.YtfbajmiiecmelabDoor
open Go.ChangeShapes Go.WideShapes Go.ChangeAt Go.RowKit
theorem OwnPrs.putAll {B : Nat} {A : Option Addr} {c : Nat} {l : List Hd.Pr} {g : Nat} (hg : ∀ a, A = some a → g ≠ a.block) : ∀ (vs : List Value) (j : Nat) {W : World}, OwnPrs B W A c l → OwnPrs B (Go.Proofs.YtfbajmiiecmelabDoor.putAll g j vs W) A c l
  | [], _, _, h => h
  | v :: vs, j, _, h => OwnPrs.putAll hg vs (j + 1) (h.aside hg j v)
def setAll : List Value → Nat → List Value → List Value
  | xs, _, [] => xs
  | xs, j, v :: vs => setAll (xs.set j v) (j + 1) vs
theorem BoxC.putSome {w : World} {c : Nat} : ∀ (vs : List Value) (j : Nat) {xs : List Value} {W : World}, BoxC w c xs W → j + vs.length ≤ xs.length → BoxC w c (setAll xs j vs) (putAll c j vs W)
  | [], _, _, _, h, _ => h
  | v :: vs, j, _, _, h, hl => BoxC.putSome vs (j + 1) (h.put j v (by simp at hl; omega)) (by simp at hl ⊢; omega)
def ItOwnPost (x : It) (w : World) (e : Ending) (w' : World) : Prop := ∃ A' c', e = .returned (itV x A' c') ∧ OwnPrs w.heap.size w' A' c' x.m.head ∧ Below w.heap.size w w'
set_option maxRecDepth 100000 in
set_option maxHeartbeats 4000000 in
theorem itOwn_any (x : It) (A : Option Addr) (c : Nat) (w : World) (hl : x.m.head.length ≤ 100000) (hc : x.m.head.length ≤ c) (hp : Prs w A x.m.head) : Calls Tryd.prog 22 #[itV x A c] w (ItOwnPost x w) := by
  have a0 : Below w.heap.size w (w.alloc (.cells #[.int .u64 (x.m.id : Int), .string (ofL x.m.shop), .string (ofL x.m.key), .slice A x.m.head.length c, .string (ofL x.m.body), .int .u64 (x.m.due : Int), .int .u8 (x.m.hops : Int), .bool x.lent, .bool x.again] 30)) := (Below.refl _ _).alloc (Nat.le_refl _) _
  have a1 : Below (w.alloc (.cells #[.int .u64 (x.m.id : Int), .string (ofL x.m.shop), .string (ofL x.m.key), .slice A x.m.head.length c, .string (ofL x.m.body), .int .u64 (x.m.due : Int), .int .u8 (x.m.hops : Int), .bool x.lent, .bool x.again] 30)).heap.size (w.alloc (.cells #[.int .u64 (x.m.id : Int), .string (ofL x.m.shop), .string (ofL x.m.key), .slice A x.m.head.length c, .string (ofL x.m.body), .int .u64 (x.m.due : Int), .int .u8 (x.m.hops : Int), .bool x.lent, .bool x.again] 30)) ((w.alloc (.cells #[.int .u64 (x.m.id : Int), .string (ofL x.m.shop), .string (ofL x.m.key), .slice A x.m.head.length c, .string (ofL x.m.body), .int .u64 (x.m.due : Int), .int .u8 (x.m.hops : Int), .bool x.lent, .bool x.again] 30)).alloc (.cells #[.int .u64 0, .string ⟨#[]⟩, .string ⟨#[]⟩, .slice none 0 0, .string ⟨#[]⟩, .int .u64 0, .int .u8 0, .bool false, .bool false] 30)) := (Below.refl _ _).alloc (Nat.le_refl _) _
  have b0 : Below w.heap.size w ((w.alloc (.cells #[.int .u64 (x.m.id : Int), .string (ofL x.m.shop), .string (ofL x.m.key), .slice A x.m.head.length c, .string (ofL x.m.body), .int .u64 (x.m.due : Int), .int .u8 (x.m.hops : Int), .bool x.lent, .bool x.again] 30)).alloc (.cells #[.int .u64 0, .string ⟨#[]⟩, .string ⟨#[]⟩, .slice none 0 0, .string ⟨#[]⟩, .int .u64 0, .int .u8 0, .bool false, .bool false] 30)) := bthen a0 a1 (Nat.le_refl _)
  have h1 : BoxC w w.heap.size (itL x A c) ((w.alloc (.cells #[.int .u64 (x.m.id : Int), .string (ofL x.m.shop), .string (ofL x.m.key), .slice A x.m.head.length c, .string (ofL x.m.body), .int .u64 (x.m.due : Int), .int .u8 (x.m.hops : Int), .bool x.lent, .bool x.again] 30)).alloc (.cells #[.int .u64 0, .string ⟨#[]⟩, .string ⟨#[]⟩, .slice none 0 0, .string ⟨#[]⟩, .int .u64 0, .int .u8 0, .bool false, .bool false] 30)) := (BoxC.new (Nat.le_refl _) #[.int .u64 (x.m.id : Int), .string (ofL x.m.shop), .string (ofL x.m.key), .slice A x.m.head.length c, .string (ofL x.m.body), .int .u64 (x.m.due : Int), .int .u8 (x.m.hops : Int), .bool x.lent, .bool x.again] 30).on a1
  have h2 : BoxC w (w.heap.size + 1) [.int .u64 0, .string ⟨#[]⟩, .string ⟨#[]⟩, .slice none 0 0, .string ⟨#[]⟩, .int .u64 0, .int .u8 0, .bool false, .bool false] ((w.alloc (.cells #[.int .u64 (x.m.id : Int), .string (ofL x.m.shop), .string (ofL x.m.key), .slice A x.m.head.length c, .string (ofL x.m.body), .int .u64 (x.m.due : Int), .int .u8 (x.m.hops : Int), .bool x.lent, .bool x.again] 30)).alloc (.cells #[.int .u64 0, .string ⟨#[]⟩, .string ⟨#[]⟩, .slice none 0 0, .string ⟨#[]⟩, .int .u64 0, .int .u8 0, .bool false, .bool false] 30)) := by
    have := BoxC.new (w := w) (W := (w.alloc (.cells #[.int .u64 (x.m.id : Int), .string (ofL x.m.shop), .string (ofL x.m.key), .slice A x.m.head.length c, .string (ofL x.m.body), .int .u64 (x.m.due : Int), .int .u8 (x.m.hops : Int), .bool x.lent, .bool x.again] 30))) (by simp) #[.int .u64 0, .string ⟨#[]⟩, .string ⟨#[]⟩, .slice none 0 0, .string ⟨#[]⟩, .int .u64 0, .int .u8 0, .bool false, .bool false] 30
    simpa using this
  have HC := Lib.hid (maCopy_any x.m A c ((w.alloc (.cells #[.int .u64 (x.m.id : Int), .string (ofL x.m.shop), .string (ofL x.m.key), .slice A x.m.head.length c, .string (ofL x.m.body), .int .u64 (x.m.due : Int), .int .u8 (x.m.hops : Int), .bool x.lent, .bool x.again] 30)).alloc (.cells #[.int .u64 0, .string ⟨#[]⟩, .string ⟨#[]⟩, .slice none 0 0, .string ⟨#[]⟩, .int .u64 0, .int .u8 0, .bool false, .bool false] 30)) hl hc (hp.on b0))
  have hsz : ((w.alloc (.cells #[.int .u64 (x.m.id : Int), .string (ofL x.m.shop), .string (ofL x.m.key), .slice A x.m.head.length c, .string (ofL x.m.body), .int .u64 (x.m.due : Int), .int .u8 (x.m.hops : Int), .bool x.lent, .bool x.again] 30)).alloc (.cells #[.int .u64 0, .string ⟨#[]⟩, .string ⟨#[]⟩, .slice none 0 0, .string ⟨#[]⟩, .int .u64 0, .int .u8 0, .bool false, .bool false] 30)).heap.size = w.heap.size + 1 + 1 := by simp
  have HH1 := Lib.hid h1
  have HH2 := Lib.hid h2
  have HB := Lib.hid b0
  unfold MaCopyPost at HC
  simp only [maV] at HC
  rw [hsz] at HC
  clear hp a0 a1 b0 h1 h2
  simp only [itV]
  go_enter Tryd.func22, Tryd.ntmps22
  go_wp2_with fail
  generalize ((w.alloc (.cells #[.int .u64 (x.m.id : Int), .string (ofL x.m.shop), .string (ofL x.m.key), .slice A x.m.head.length c, .string (ofL x.m.body), .int .u64 (x.m.due : Int), .int .u8 (x.m.hops : Int), .bool x.lent, .bool x.again] 30)).alloc (.cells #[.int .u64 0, .string ⟨#[]⟩, .string ⟨#[]⟩, .slice none 0 0, .string ⟨#[]⟩, .int .u64 0, .int .u8 0, .bool false, .bool false] 30)) = w2 at *
  refine HC.out.mono ?_
  rintro e w3 ⟨A2, k2, rfl, ho, hb⟩
  rw [← hsz] at hb
  have HP3 := Lib.hid (HH1.out.on hb)
  have HQ3 := Lib.hid (HH2.out.on hb)
  have HB3 := Lib.hid (bthen HB.out hb (by omega))
  have HO3 := Lib.hid ho
  have HA3 := Lib.hid (show ∀ a, A2 = some a → w.heap.size + 1 + 1 ≤ a.block from fun a ha => (ho.row.2.2 a ha).1)
  clear ho hb
  have c0 := HP3.out.cs 0 _ rfl
  have c1 := HP3.out.cs 1 _ rfl
  have c2 := HP3.out.cs 2 _ rfl
  have c3 := HP3.out.cs 3 _ rfl
  have c4 := HP3.out.cs 4 _ rfl
  have c5 := HP3.out.cs 5 _ rfl
  have c6 := HP3.out.cs 6 _ rfl
  have c7 := HP3.out.cs 7 _ rfl
  have c8 := HP3.out.cs 8 _ rfl
  have cl := HP3.out.lt
  have cf : ∀ j, w3.frozen? ⟨w.heap.size, j, none⟩ = false := HP3.out.s
  have q0 := HQ3.out.cs 0 _ rfl
  have q1 := HQ3.out.cs 1 _ rfl
  have q2 := HQ3.out.cs 2 _ rfl
  have q3 := HQ3.out.cs 3 _ rfl
  have q4 := HQ3.out.cs 4 _ rfl
  have q5 := HQ3.out.cs 5 _ rfl
  have q6 := HQ3.out.cs 6 _ rfl
  have q7 := HQ3.out.cs 7 _ rfl
  have q8 := HQ3.out.cs 8 _ rfl
  have ql := HQ3.out.lt
  have qf : ∀ j, w3.frozen? ⟨w.heap.size + 1, j, none⟩ = false := HQ3.out.s
  go_wp2_with fail
  have hP4 := BoxC.putSome [.int .u64 (x.m.id : Int), .string (ofL x.m.shop), .string (ofL x.m.key), .slice A2 x.m.head.length k2, .string (ofL x.m.body), .int .u64 (x.m.due : Int), .int .u8 (x.m.hops : Int)] 0 HP3.out (by simp [itL])
  have hQ4 := (HQ3.out.putAll_aside (g := w.heap.size) (by omega) [.int .u64 (x.m.id : Int), .string (ofL x.m.shop), .string (ofL x.m.key), .slice A2 x.m.head.length k2, .string (ofL x.m.body), .int .u64 (x.m.due : Int), .int .u8 (x.m.hops : Int)] 0).fill [.int .u64 (x.m.id : Int), .string (ofL x.m.shop), .string (ofL x.m.key), .slice A2 x.m.head.length k2, .string (ofL x.m.body), .int .u64 (x.m.due : Int), .int .u8 (x.m.hops : Int), .bool x.lent, .bool x.again] rfl
  have hO5 := (HO3.out.putAll (g := w.heap.size) (fun a ha => by have := HA3.out a ha; omega) [.int .u64 (x.m.id : Int), .string (ofL x.m.shop), .string (ofL x.m.key), .slice A2 x.m.head.length k2, .string (ofL x.m.body), .int .u64 (x.m.due : Int), .int .u8 (x.m.hops : Int)] 0).putAll (g := w.heap.size + 1) (fun a ha => by have := HA3.out a ha; omega) [.int .u64 (x.m.id : Int), .string (ofL x.m.shop), .string (ofL x.m.key), .slice A2 x.m.head.length k2, .string (ofL x.m.body), .int .u64 (x.m.due : Int), .int .u8 (x.m.hops : Int), .bool x.lent, .bool x.again] 0
  have hB5 := below_putAll (g := w.heap.size + 1) (by omega) [.int .u64 (x.m.id : Int), .string (ofL x.m.shop), .string (ofL x.m.key), .slice A2 x.m.head.length k2, .string (ofL x.m.body), .int .u64 (x.m.due : Int), .int .u8 (x.m.hops : Int), .bool x.lent, .bool x.again] 0 (below_putAll (g := w.heap.size) (by omega) [.int .u64 (x.m.id : Int), .string (ofL x.m.shop), .string (ofL x.m.key), .slice A2 x.m.head.length k2, .string (ofL x.m.body), .int .u64 (x.m.due : Int), .int .u8 (x.m.hops : Int)] 0 HB3.out)
  simp only [putAll] at hP4 hQ4 hO5 hB5
  have g0 := hQ4.cs 0 _ rfl
  have g1 := hQ4.cs 1 _ rfl
  have g2 := hQ4.cs 2 _ rfl
  have g3 := hQ4.cs 3 _ rfl
  have g4 := hQ4.cs 4 _ rfl
  have g5 := hQ4.cs 5 _ rfl
  have g6 := hQ4.cs 6 _ rfl
  have g7 := hQ4.cs 7 _ rfl
  have g8 := hQ4.cs 8 _ rfl
  exact bodyPost_ret (v := .agg #[.int .u64 (x.m.id : Int), .string (ofL x.m.shop), .string (ofL x.m.key), .slice A2 x.m.head.length k2, .string (ofL x.m.body), .int .u64 (x.m.due : Int), .int .u8 (x.m.hops : Int), .bool x.lent, .bool x.again]) (by simp [results, Tryd.results22, go_sem, g0, g1, g2, g3, g4, g5, g6, g7, g8]) rfl ⟨A2, k2, rfl, World.ownsRow.mono hO5 (by omega), hB5⟩
set_option maxRecDepth 100000 in
set_option maxHeartbeats 2000000 in
theorem itBack_any (x : It) (A : Option Addr) (c : Nat) (w : World) : Calls Tryd.prog 31 #[itV x A c] w fun e w' => e = .returned (itV (Ln.back1 x) A c) ∧ Below w.heap.size w w' := by
  obtain ⟨m, lent, again⟩ := x
  have HB := Lib.hid (show Below w.heap.size w (w.alloc (.cells #[.int .u64 (m.id : Int), .string (ofL m.shop), .string (ofL m.key), .slice A m.head.length c, .string (ofL m.body), .int .u64 (m.due : Int), .int .u8 (m.hops : Int), .bool lent, .bool again] 30)) from (Below.refl _ _).alloc (Nat.le_refl _) _)
  simp only [itV, Ln.back1]
  cases again
  · go_enter Tryd.func31, Tryd.ntmps31
    go_wp2_with fail
    exact bodyPost_ret (v := .agg #[.int .u64 (m.id : Int), .string (ofL m.shop), .string (ofL m.key), .slice A m.head.length c, .string (ofL m.body), .int .u64 (m.due : Int), .int .u8 (m.hops : Int), .bool false, .bool lent]) (by simp [results, Tryd.results31, go_sem]) rfl ⟨by simp, HB.out.alloc HB.out.size _⟩
  · go_enter Tryd.func31, Tryd.ntmps31
    go_wp2_with fail
    exact bodyPost_ret (v := .agg #[.int .u64 (m.id : Int), .string (ofL m.shop), .string (ofL m.key), .slice A m.head.length c, .string (ofL m.body), .int .u64 (m.due : Int), .int .u8 (m.hops : Int), .bool false, .bool true]) (by simp [results, Tryd.results31, go_sem]) rfl ⟨by simp, HB.out.alloc HB.out.size _⟩
theorem clipIt_any (A : Option Addr) (n c : Nat) (w : World) (hc : n ≤ c) : Calls Tryd.prog 35 #[.slice A n c] w fun e w' => e = .returned (.slice A n n) ∧ w = w' := by
  go_enter Tryd.func35, Tryd.ntmps35
  go_wp2_with fail
  go_ret
  exact ⟨rfl, rfl⟩
end Go.Proofs.YtfbajmiiecmelabDoor
end
