/-
  WHAT A LINE IS ASKED BY CLOSURES: walked.
-/
import Derived.Test.YtfbajmiiecmelabDoorLo32

section
namespace Go.Proofs.YtfbajmiiecmelabDoor
open Go.ChangeShapes Go.WideShapes Go.ChangeAt Go.RowKit
theorem two_allocs (w : World) (o o' : Obj) : Below w.heap.size w ((w.alloc o).alloc o') := ((Below.refl _ _).alloc (Nat.le_refl _) _).alloc (by simp) _
theorem dnew1 (w : World) (c : Array Value) (t : TypeId) (j : Nat) (v : Value) (h : c[j]? = some v) : (w.alloc (.cells c t)).cell? ⟨w.heap.size, j, none⟩ = some v := (World.cell?_alloc_new w c t j).trans h
theorem one_alloc (w : World) (o : Obj) : Below w.heap.size w (w.alloc o) := (Below.refl _ _).alloc (Nat.le_refl _) _
theorem lnLend1_any (x : It) (A : Option Addr) (c b id : Nat) (w : World) (h : w.cell? ⟨b, 0, none⟩ = some (.int .u64 (id : Int))) : Calls Tryd.prog 28 #[itV x A c, .pointer (some ⟨b, 0, none⟩)] w fun e w' => e = .returned (itV ⟨x.m, x.lent || x.m.id == id, x.again⟩ A c) ∧ Below w.heap.size w w' := by
  have hbl := World.block_lt_of_cell? w _ h
  simp only at hbl
  obtain ⟨m, lent, again⟩ := x
  have HN := cast_beq m.id id
  simp only [itV]
  generalize (m.id == id) = B at *
  cases lent
  · go_enter Tryd.func28, Tryd.ntmps28
    go_wp2_with fail
    exact bodyPost_ret (v := .agg #[.int .u64 (m.id : Int), .string (ofL m.shop), .string (ofL m.key), .slice A m.head.length c, .string (ofL m.body), .int .u64 (m.due : Int), .int .u8 (m.hops : Int), .bool B, .bool again]) (by simp [results, Tryd.results28, go_sem]) rfl ⟨by simp, two_allocs w _ _⟩
  · go_enter Tryd.func28, Tryd.ntmps28
    go_wp2_with fail
    exact bodyPost_ret (v := .agg #[.int .u64 (m.id : Int), .string (ofL m.shop), .string (ofL m.key), .slice A m.head.length c, .string (ofL m.body), .int .u64 (m.due : Int), .int .u8 (m.hops : Int), .bool true, .bool again]) (by simp [results, Tryd.results28, go_sem]) rfl ⟨by simp, two_allocs w _ _⟩
set_option maxHeartbeats 2000000 in
theorem lnBack1_any (x : It) (A : Option Addr) (c b id : Nat) (w : World) (h : w.cell? ⟨b, 0, none⟩ = some (.int .u64 (id : Int))) : Calls Tryd.prog 30 #[itV x A c, .pointer (some ⟨b, 0, none⟩)] w fun e w' => e = .returned (itV (if x.m.id == id then Ln.back1 x else x) A c) ∧ Below w.heap.size w w' := by
  have hbl := World.block_lt_of_cell? w _ h
  simp only at hbl
  have HN := cast_beq x.m.id id
  have HB := Lib.hid (fun W => itBack_any x A c W)
  generalize (x.m.id == id) = B at *
  cases B
  · obtain ⟨m, lent, again⟩ := x
    rw [if_neg (by decide)]
    simp only [itV]
    clear HB
    go_enter Tryd.func30, Tryd.ntmps30
    go_wp2_with fail
    exact bodyPost_ret (v := .agg #[.int .u64 (m.id : Int), .string (ofL m.shop), .string (ofL m.key), .slice A m.head.length c, .string (ofL m.body), .int .u64 (m.due : Int), .int .u8 (m.hops : Int), .bool lent, .bool again]) (by simp [results, Tryd.results30, go_sem]) rfl ⟨by simp, two_allocs w _ _⟩
  · rw [if_pos rfl]
    have HQ := Lib.hid (show BoxC w (w.heap.size + 1) [.int .u64 0, .string ⟨#[]⟩, .string ⟨#[]⟩, .slice none 0 0, .string ⟨#[]⟩, .int .u64 0, .int .u8 0, .bool false, .bool false] ((w.alloc (.cells #[.int .u64 (x.m.id : Int), .string (ofL x.m.shop), .string (ofL x.m.key), .slice A x.m.head.length c, .string (ofL x.m.body), .int .u64 (x.m.due : Int), .int .u8 (x.m.hops : Int), .bool x.lent, .bool x.again] 30)).alloc (.cells #[.int .u64 0, .string ⟨#[]⟩, .string ⟨#[]⟩, .slice none 0 0, .string ⟨#[]⟩, .int .u64 0, .int .u8 0, .bool false, .bool false] 30)) from by
      have := BoxC.new (w := w) (W := w.alloc (.cells #[.int .u64 (x.m.id : Int), .string (ofL x.m.shop), .string (ofL x.m.key), .slice A x.m.head.length c, .string (ofL x.m.body), .int .u64 (x.m.due : Int), .int .u8 (x.m.hops : Int), .bool x.lent, .bool x.again] 30)) (by simp) #[.int .u64 0, .string ⟨#[]⟩, .string ⟨#[]⟩, .slice none 0 0, .string ⟨#[]⟩, .int .u64 0, .int .u8 0, .bool false, .bool false] 30
      simpa using this)
    have HB0 := Lib.hid (two_allocs w (.cells #[.int .u64 (x.m.id : Int), .string (ofL x.m.shop), .string (ofL x.m.key), .slice A x.m.head.length c, .string (ofL x.m.body), .int .u64 (x.m.due : Int), .int .u8 (x.m.hops : Int), .bool x.lent, .bool x.again] 30) (.cells #[.int .u64 0, .string ⟨#[]⟩, .string ⟨#[]⟩, .slice none 0 0, .string ⟨#[]⟩, .int .u64 0, .int .u8 0, .bool false, .bool false] 30))
    generalize Ln.back1 x = y at *
    simp only [itV] at HB ⊢
    go_enter Tryd.func30, Tryd.ntmps30
    go_wp2_with fail
    generalize ((w.alloc (.cells #[.int .u64 (x.m.id : Int), .string (ofL x.m.shop), .string (ofL x.m.key), .slice A x.m.head.length c, .string (ofL x.m.body), .int .u64 (x.m.due : Int), .int .u8 (x.m.hops : Int), .bool x.lent, .bool x.again] 30)).alloc (.cells #[.int .u64 0, .string ⟨#[]⟩, .string ⟨#[]⟩, .slice none 0 0, .string ⟨#[]⟩, .int .u64 0, .int .u8 0, .bool false, .bool false] 30)) = w2 at *
    refine (HB.out _).mono ?_
    rintro e w3 ⟨rfl, hb⟩
    have HQ3 := Lib.hid (HQ.out.on hb)
    have HB3 := Lib.hid (bthen HB0.out hb (Nat.le_refl _))
    clear hb
    have q0 := HQ3.out.cs 0 _ rfl
    have q1 := HQ3.out.cs 1 _ rfl
    have q2 := HQ3.out.cs 2 _ rfl
    have q3 := HQ3.out.cs 3 _ rfl
    have q4 := HQ3.out.cs 4 _ rfl
    have q5 := HQ3.out.cs 5 _ rfl
    have q6 := HQ3.out.cs 6 _ rfl
    have q7 := HQ3.out.cs 7 _ rfl
    have q8 := HQ3.out.cs 8 _ rfl
    have ql := HQ3.out.lt
    have qf : ∀ j, w3.frozen? ⟨w.heap.size + 1, j, none⟩ = false := HQ3.out.s
    go_wp2_with fail
    have hQ4 := HQ3.out.fill [.int .u64 (y.m.id : Int), .string (ofL y.m.shop), .string (ofL y.m.key), .slice A y.m.head.length c, .string (ofL y.m.body), .int .u64 (y.m.due : Int), .int .u8 (y.m.hops : Int), .bool y.lent, .bool y.again] rfl
    have hB4 := below_putAll (g := w.heap.size + 1) (by omega) [.int .u64 (y.m.id : Int), .string (ofL y.m.shop), .string (ofL y.m.key), .slice A y.m.head.length c, .string (ofL y.m.body), .int .u64 (y.m.due : Int), .int .u8 (y.m.hops : Int), .bool y.lent, .bool y.again] 0 HB3.out
    simp only [putAll] at hQ4 hB4
    have g0 := hQ4.cs 0 _ rfl
    have g1 := hQ4.cs 1 _ rfl
    have g2 := hQ4.cs 2 _ rfl
    have g3 := hQ4.cs 3 _ rfl
    have g4 := hQ4.cs 4 _ rfl
    have g5 := hQ4.cs 5 _ rfl
    have g6 := hQ4.cs 6 _ rfl
    have g7 := hQ4.cs 7 _ rfl
    have g8 := hQ4.cs 8 _ rfl
    exact bodyPost_ret (v := .agg #[.int .u64 (y.m.id : Int), .string (ofL y.m.shop), .string (ofL y.m.key), .slice A y.m.head.length c, .string (ofL y.m.body), .int .u64 (y.m.due : Int), .int .u8 (y.m.hops : Int), .bool y.lent, .bool y.again]) (by simp [results, Tryd.results30, go_sem, g0, g1, g2, g3, g4, g5, g6, g7, g8]) rfl ⟨rfl, hB4⟩
/-- a closure that tells of an item; of a message -/
def TellsIt (f : Nat) (c : Array Value) (q : It → Bool) (w : World) : Prop :=
  ∀ (W : World) (x : It) (A : Option Addr) (k : Nat), Below w.heap.size w W → Calls Tryd.prog f (#[itV x A k] ++ c) W fun e w' => e = .returned (.bool (q x)) ∧ Below W.heap.size W w'
def TellsMl (f : Nat) (c : Array Value) (q : Ml → Bool) (w : World) : Prop :=
  ∀ (W : World) (x : Ml) (A : Option Addr) (k : Nat), Below w.heap.size w W → Calls Tryd.prog f (#[maV x A k] ++ c) W fun e w' => e = .returned (.bool (q x)) ∧ Below W.heap.size W w'
theorem lnFind1_any (x : It) (A : Option Addr) (c b id : Nat) (w : World) (h : w.cell? ⟨b, 0, none⟩ = some (.int .u64 (id : Int))) : Calls Tryd.prog 43 #[itV x A c, .pointer (some ⟨b, 0, none⟩)] w fun e w' => e = .returned (.bool (x.m.id == id)) ∧ Below w.heap.size w w' := by
  have hbl := World.block_lt_of_cell? w _ h
  simp only at hbl
  have HN := cast_beq x.m.id id
  simp only [itV]
  generalize (x.m.id == id) = B at *
  go_enter Tryd.func43, Tryd.ntmps43
  go_wp2_with fail
  go_ret
  exact ⟨rfl, one_alloc w _⟩
theorem lnNext1_any (x : Ml) (A : Option Addr) (c : Nat) (w : World) : Calls Tryd.prog 41 #[maV x A c] w fun e w' => e = .returned (.bool true) ∧ Below w.heap.size w w' := by
  simp only [maV]
  go_enter Tryd.func41, Tryd.ntmps41
  go_wp2_with fail
  go_ret
  exact ⟨rfl, one_alloc w _⟩
/-- the closure for late ones, where there is one -/
def lnLateN : Nat :=
  41
set_option maxHeartbeats 2000000 in
theorem lnFR1_any (f : Nat) (cp : Array Value) (hf : f = 41 ∧ cp = #[] ∨ f = lnLateN ∧ ∃ b, cp = #[.pointer (some ⟨b, 0, none⟩)]) (q : Ml → Bool) (x : It) (A : Option Addr) (c b : Nat) (w : World) (h : w.cell? ⟨b, 0, none⟩ = some (.func (.func f) #[] cp)) (ht : TellsMl f cp q w) :
    Calls Tryd.prog 55 #[itV x A c, .pointer (some ⟨b, 0, none⟩)] w fun e w' => e = .returned (.bool (Ln.rdy x && q x.m)) ∧ Below w.heap.size w w' := by
  have hbl := World.block_lt_of_cell? w _ h
  simp only at hbl
  obtain ⟨m, lent, again⟩ := x
  unfold Ln.rdy lnLateN at *
  have HT := Lib.hid (fun W h => ht W m A c h)
  clear ht
  generalize q m = B at *
  simp only [maV] at HT
  simp only [itV]
  rcases hf with ⟨rfl, rfl⟩ | ⟨rfl, b2, rfl⟩
  all_goals
    cases lent
    · have HB := Lib.hid (one_alloc w (.cells #[.int .u64 (m.id : Int), .string (ofL m.shop), .string (ofL m.key), .slice A m.head.length c, .string (ofL m.body), .int .u64 (m.due : Int), .int .u8 (m.hops : Int), .bool false, .bool again] 30))
      go_enter Tryd.func55, Tryd.ntmps55
      go_wp2_with fail
      refine (HT.out _ HB.out).mono ?_
      rintro e w3 ⟨rfl, hb⟩
      have HB3 := Lib.hid (bthen HB.out hb (Nat.le_refl _))
      clear hb
      go_wp2_with fail
      go_ret
      exact ⟨by simp, HB3.out⟩
    · go_enter Tryd.func55, Tryd.ntmps55
      go_wp2_with fail
      go_ret
      exact ⟨by simp, one_alloc w _⟩
def IdxIt (q : It → Bool) (l : List It) (w : World) (g : Nat) (i : Value) (wr : World) : Prop :=
  ∃ k : Nat, k + g = l.length ∧ i = .int .i64 (k : Int) ∧ (∀ j, j < k → q (l.getD j it0) = false) ∧ Below w.heap.size w wr
set_option maxHeartbeats 2000000 in
theorem indexIt_any (f : Nat) (b : Nat) (hf : f = 55 ∨ f = 43) (q : It → Bool) (m : List ItP) (l : List It) (hm : m.map (·.x) = l) (A : Option Addr) (c : Nat) (w : World) (hl : l.length ≤ 100000) (hp : Its w A m) (ht : TellsIt f #[.pointer (some ⟨b, 0, none⟩)] q w) :
    Calls Tryd.prog 42 #[.slice A l.length c, .func (.func f) #[] #[.pointer (some ⟨b, 0, none⟩)]] w fun e w' => e = .returned (.int .i64 (idx q l)) ∧ Below w.heap.size w w' := by
  have HP := Lib.hid hp
  have HT := Lib.hid ht
  have HNONE := Lib.hid (fun h => idx_none (q := q) (l := l) it0 h)
  have HSOME := Lib.hid (fun k (hk : k < l.length) h hq => idx_some (q := q) (l := l) it0 hk h hq)
  have HXG := Lib.hid (fun i hi => xs_get hm (i := i) hi)
  have HML := Lib.hid (xs_len hm)
  clear hp ht hm
  generalize idx q l = M at *
  obtain ⟨n, hn⟩ : ∃ n, n = l.length := ⟨_, rfl⟩
  rw [← hn]
  have HN := Lib.hid hn
  have hnl : n ≤ 100000 := by omega
  clear hn
  rcases hf with rfl | rfl
  all_goals
    go_enter Tryd.func42, Tryd.ntmps42
    go_wp2_with fail
    go_loopg [8] n (fun g i wr => IdxIt q l w g i wr)
    case atStart => exact ⟨0, by have := HN.out; omega, rfl, fun j hj => absurd hj (by omega), Below.refl _ _⟩
    case round =>
      obtain ⟨k, hk, rfl, hno, hB⟩ := hrel
      have HB := Lib.hid hB
      have HNO := Lib.hid hno
      have HK := Lib.hid hk
      clear hB hno hk
      by_cases hlt : k < n
      · have hkm : k < m.length := by have := HN.out; have := HML.out; omega
        obtain ⟨bb, off, rfl, hbl, hat⟩ := (HP.out.on HB.out).at_ k hkm
        have hxg := HXG.out k hkm
        have HQ : Hid (∀ h, q (l.getD k it0) = true → M = (k : Int)) := fun h hq => HSOME.out k (by have := HN.out; omega) h hq
        have HNX : Hid (q (l.getD k it0) = false → ∀ j, j < k + 1 → q (l.getD j it0) = false) := fun hq j hj => by
          by_cases e : j = k
          · rw [e]; exact hq
          · exact HNO.out j (by omega)
        rw [← hxg] at HQ HNX
        generalize m[k] = p at *
        obtain ⟨x, Ax, cx⟩ := p
        dsimp only at hat HQ HNX
        have HC := Lib.hid (HT.out wr x Ax cx HB.out)
        have c0 := hat 0 _ rfl
        have c1 := hat 1 _ rfl
        have c2 := hat 2 _ rfl
        have c3 := hat 3 _ rfl
        have c4 := hat 4 _ rfl
        have c5 := hat 5 _ rfl
        have c6 := hat 6 _ rfl
        have c7 := hat 7 _ rfl
        have c8 := hat 8 _ rfl
        rw [Nat.add_zero] at c0
        clear hat hxg
        cases hq : q x with
        | true =>
          have HM := Lib.hid (HQ.out HNO.out hq)
          rw [hq] at HC
          clear hq
          simp only [itV] at HC
          go_wp2_with fail
          refine HC.out.mono ?_
          rintro e w' ⟨rfl, hB1⟩
          have HB1 := Lib.hid (HB.out.trans (hB1.mono HB.out.size))
          clear hB1
          go_wp2_with fail
          go_ret
          exact ⟨ret_nat HM.out.symm, HB1.out⟩
        | false =>
          have HNEXT := Lib.hid (HNX.out hq)
          rw [hq] at HC
          clear hq
          simp only [itV] at HC
          go_wp2_with fail
          refine HC.out.mono ?_
          rintro e w' ⟨rfl, hB1⟩
          have HB1 := Lib.hid (HB.out.trans (hB1.mono HB.out.size))
          clear hB1
          go_wp2_with fail
          go_roundg (gk - 1)
          case rel => exact ⟨k + 1, by have := HK.out; have := HN.out; omega, by go_num, HNEXT.out, HB1.out⟩
          case measure => have := HK.out; have := HN.out; omega
      · have HM := Lib.hid (HNONE.out (fun i hi => HNO.out i (by have := HN.out; omega)))
        go_wp2_with fail
        go_ret
        exact ⟨ret_nat HM.out.symm, HB.out⟩
set_option maxHeartbeats 2000000 in
theorem lnFR_any (f : Nat) (cp : Array Value) (hf : f = 41 ∧ cp = #[] ∨ f = lnLateN ∧ ∃ b, cp = #[.pointer (some ⟨b, 0, none⟩)]) (q : Ml → Bool) (v : Value) (l : List It) (w : World) (hl : l.length ≤ 100000) (hi : LnIn w v l) (ht : TellsMl f cp q w) :
    Calls Tryd.prog 40 #[v, .func (.func f) #[] cp] w fun e w' => e = .returned (.int .i64 (idx (fun x => Ln.rdy x && q x.m) l)) ∧ Below w.heap.size w w' := by
  obtain ⟨A, c, m, rfl, hm, hlc, hI⟩ := hi
  have hb0 : Below w.heap.size w ((w.alloc (.cells #[.slice A l.length c] 34)).alloc (.cells #[.func (.func f) #[] cp] 31)) := two_allocs w _ _
  have hc : ((w.alloc (.cells #[.slice A l.length c] 34)).alloc (.cells #[.func (.func f) #[] cp] 31)).cell? ⟨w.heap.size + 1, 0, none⟩ = some (.func (.func f) #[] cp) := by
    simp
  have HC := Lib.hid (indexIt_any 55 (w.heap.size + 1) (.inl rfl) (fun x => Ln.rdy x && q x.m) m l hm A c ((w.alloc (.cells #[.slice A l.length c] 34)).alloc (.cells #[.func (.func f) #[] cp] 31)) hl (hI.on hb0) (fun W x Ax cx hW => lnFR1_any f cp hf q x Ax cx (w.heap.size + 1) W ((hW.cell (p := ⟨w.heap.size + 1, 0, none⟩) (by simp)).trans hc) (fun W' y By cy hW' => ht W' y By cy (bthen (bthen hb0 hW (Nat.le_refl _)) hW' (Nat.le_refl _)))))
  have HB0 := Lib.hid hb0
  clear hb0 hc hI ht hm hlc hl
  unfold lnLateN at *
  rcases hf with ⟨rfl, rfl⟩ | ⟨rfl, b2, rfl⟩
  all_goals
    go_enter Tryd.func40, Tryd.ntmps40
    go_wp2_with fail
    refine HC.out.mono ?_
    rintro e w3 ⟨rfl, hb⟩
    have HB3 := Lib.hid (bthen HB0.out hb (Nat.le_refl _))
    clear hb
    go_wp2_with fail
    go_ret
    exact ⟨rfl, HB3.out⟩
theorem lnNext_any (v : Value) (l : List It) (w : World) (hl : l.length ≤ 100000) (hi : LnIn w v l) :
    Calls Tryd.prog 26 #[v] w fun e w' => e = .returned (.int .i64 (Ln.next l)) ∧ Below w.heap.size w w' := by
  have hi' := hi
  obtain ⟨A, c, m, rfl, hm, hlc, hI⟩ := hi
  have hb0 : Below w.heap.size w (w.alloc (.cells #[.slice A l.length c] 34)) := one_alloc w _
  have HC := Lib.hid (lnFR_any 41 #[] (.inl ⟨rfl, rfl⟩) (fun _ => true) _ l _ hl (hi'.on hb0) (fun W x Ax cx _ => lnNext1_any x Ax cx W))
  have e : idx (fun x => Ln.rdy x && true) l = Ln.next l := by unfold Ln.next; congr 1; funext x; simp
  rw [e] at HC
  have HB0 := Lib.hid hb0
  clear hb0 hI hm hlc hl hi'
  go_enter Tryd.func26, Tryd.ntmps26
  go_wp2_with fail
  refine HC.out.mono ?_
  rintro e w3 ⟨rfl, hb⟩
  have HB3 := Lib.hid (bthen HB0.out hb (Nat.le_refl _))
  clear hb
  go_wp2_with fail
  go_ret
  exact ⟨rfl, HB3.out⟩
theorem lnFind_any (id : Nat) (v : Value) (l : List It) (w : World) (hl : l.length ≤ 100000) (hi : LnIn w v l) :
    Calls Tryd.prog 29 #[v, .int .u64 (id : Int)] w fun e w' => e = .returned (.int .i64 (Ln.find l id)) ∧ Below w.heap.size w w' := by
  obtain ⟨A, c, m, rfl, hm, hlc, hI⟩ := hi
  have hb0 : Below w.heap.size w ((w.alloc (.cells #[.slice A l.length c] 34)).alloc (.cells #[.int .u64 (id : Int)] 25)) := two_allocs w _ _
  have hc : ((w.alloc (.cells #[.slice A l.length c] 34)).alloc (.cells #[.int .u64 (id : Int)] 25)).cell? ⟨w.heap.size + 1, 0, none⟩ = some (.int .u64 (id : Int)) := by
    simp
  have HC := Lib.hid (indexIt_any 43 (w.heap.size + 1) (.inr rfl) (fun x => x.m.id == id) m l hm A c ((w.alloc (.cells #[.slice A l.length c] 34)).alloc (.cells #[.int .u64 (id : Int)] 25)) hl (hI.on hb0) (fun W x Ax cx hW => lnFind1_any x Ax cx (w.heap.size + 1) id W ((hW.cell (p := ⟨w.heap.size + 1, 0, none⟩) (by simp)).trans hc)))
  rw [show idx (fun x => x.m.id == id) l = Ln.find l id from rfl] at HC
  have HB0 := Lib.hid hb0
  clear hb0 hc hI hm hlc hl
  go_enter Tryd.func29, Tryd.ntmps29
  go_wp2_with fail
  refine HC.out.mono ?_
  rintro e w3 ⟨rfl, hb⟩
  have HB3 := Lib.hid (bthen HB0.out hb (Nat.le_refl _))
  clear hb
  go_wp2_with fail
  go_ret
  exact ⟨rfl, HB3.out⟩
end Go.Proofs.YtfbajmiiecmelabDoor
end
