/-
  THE DOCUMENT'S LINE OF NOTHING; two of its items: walked.
-/
import Derived.Test.YtabnkbdbbneihaaGreatDoorLg41
import Derived.Test.YtabnkbdbbneihaaGreatDoorLg42

section
namespace Go.Proofs.YtabnkbdbbneihaaGreatDoor
open Go.ChangeShapes Go.WideShapes Go.ChangeAt Go.RowKit
theorem r18Lend_nil (w : World) : Calls Tryz.prog 41 #[.slice none 0 0] w fun e w' => e = .returned (.tuple #[.slice none 0 0, itV it0 none 0, .bool false]) ∧ Below w.heap.size w w' := by
  go_enter Tryz.func41, Tryz.ntmps41
  go_wp2_with fail
  go_loopg [9] 0 (fun g i wr => i = .int .i64 0 ∧ w.alloc (.cells #[.int .u64 0, .string ⟨#[]⟩, .string ⟨#[]⟩, .slice none 0 0, .string ⟨#[]⟩, .int .u64 0, .int .u8 0, .bool false, .bool false] 82) = wr)
  case atStart => exact ⟨rfl, rfl⟩
  obtain ⟨rfl, rfl⟩ := hrel
  go_wp2_with fail
  exact bodyPost_ret (v := .tuple #[.slice none 0 0, .agg #[.int .u64 0, .string ⟨#[]⟩, .string ⟨#[]⟩, .slice none 0 0, .string ⟨#[]⟩, .int .u64 0, .int .u8 0, .bool false, .bool false], .bool false]) (by simp [results, Tryz.results41, go_sem]) rfl ⟨rfl, one_alloc w _⟩
theorem r18Find_nil (id : Nat) (w : World) : Calls Tryz.prog 95 #[.slice none 0 0, .int .u64 (id : Int)] w fun e w' => e = .returned (.int .i64 (-1)) ∧ w = w' := by
  go_enter Tryz.func95, Tryz.ntmps95
  go_wp2_with fail
  go_loopg [9] 0 (fun g i wr => i = .int .i64 0 ∧ w = wr)
  case atStart => exact ⟨rfl, rfl⟩
  obtain ⟨rfl, rfl⟩ := hrel
  go_wp2_with fail
  go_ret
  exact ⟨rfl, rfl⟩
theorem r18Back_nil (id : Nat) (w : World) : Calls Tryz.prog 43 #[.slice none 0 0, .int .u64 (id : Int)] w fun e w' => e = .returned (.tuple #[.slice none 0 0, .int .i64 10]) ∧ w = w' := by
  have HC := Lib.hid (r18Find_nil id w)
  go_enter Tryz.func43, Tryz.ntmps43
  go_wp2_with fail
  refine HC.out.mono ?_
  rintro e w1 ⟨rfl, rfl⟩
  go_wp2_with fail
  go_ret2
  exact ⟨rfl, rfl⟩
theorem r18Remove_nil (id : Nat) (w : World) : Calls Tryz.prog 45 #[.slice none 0 0, .int .u64 (id : Int)] w fun e w' => e = .returned (.tuple #[.slice none 0 0, itV it0 none 0, .int .i64 10]) ∧ Below w.heap.size w w' := by
  have HC := Lib.hid (r18Find_nil id (w.alloc (.cells #[.int .u64 0, .string ⟨#[]⟩, .string ⟨#[]⟩, .slice none 0 0, .string ⟨#[]⟩, .int .u64 0, .int .u8 0, .bool false, .bool false] 82)))
  go_enter Tryz.func45, Tryz.ntmps45
  go_wp2_with fail
  refine HC.out.mono ?_
  rintro e w1 ⟨rfl, rfl⟩
  go_wp2_with fail
  exact bodyPost_ret (v := .tuple #[.slice none 0 0, .agg #[.int .u64 0, .string ⟨#[]⟩, .string ⟨#[]⟩, .slice none 0 0, .string ⟨#[]⟩, .int .u64 0, .int .u8 0, .bool false, .bool false], .int .i64 10]) (by simp [results, Tryz.results45, go_sem]) rfl ⟨rfl, one_alloc w _⟩
theorem r18Wake_nil (w : World) : Calls Tryz.prog 47 #[.slice none 0 0] w fun e w' => e = .returned (.slice none 0 0) ∧ w = w' := by
  go_enter Tryz.func47, Tryz.ntmps47
  go_wp2_with fail
  go_loopg [3, 8] 0 (fun g v i wr => v = .slice none 0 0 ∧ i = .int .i64 0 ∧ w = wr)
  case atStart => exact ⟨rfl, rfl, rfl⟩
  obtain ⟨rfl, rfl, rfl⟩ := hrel
  go_wp2_with fail
  go_ret
  exact ⟨rfl, rfl⟩
theorem infoRit : (Tryz.prog.info? 82).map (fun i => (i.zero, i.size, i.bytes)) = some (some (.agg #[.int .u64 0, .string ⟨#[]⟩, .string ⟨#[]⟩, .slice none 0 0, .string ⟨#[]⟩, .int .u64 0, .int .u8 0, .bool false, .bool false]), 9, 104) := by kernel_rfl
def PutN (code : Nat) (w : World) (e : Ending) (w' : World) : Prop := ∃ A n c, e = .returned (.tuple #[.slice A n c, .int .i64 (code : Int)]) ∧ Below w.heap.size w w'
set_option maxRecDepth 100000 in
set_option maxHeartbeats 4000000 in
theorem r18put_nil (x : It) (Ax : Option Addr) (cx : Nat) (w : World) (h : MaOk w x.m Ax cx) : Calls Tryz.prog 98 #[.slice none 0 0, itV x Ax cx] w (PutN x.m.code w) := by
  have hb0 := one_alloc w (.cells #[.int .u64 (x.m.id : Int), .string (ofL x.m.shop), .string (ofL x.m.key), .slice Ax x.m.head.length cx, .string (ofL x.m.body), .int .u64 (x.m.due : Int), .int .u8 (x.m.hops : Int), .bool x.lent, .bool x.again] 82)
  have HX0 := Lib.hid (box_at0 w #[.int .u64 (x.m.id : Int), .string (ofL x.m.shop), .string (ofL x.m.key), .slice Ax x.m.head.length cx, .string (ofL x.m.body), .int .u64 (x.m.due : Int), .int .u8 (x.m.hops : Int), .bool x.lent, .bool x.again] 82)
  have HC := Lib.hid (r13Check_any x.m Ax cx _ (h.on hb0))
  have HB0 := Lib.hid hb0
  obtain ⟨i1, hi1, hz0, hz1, hz2⟩ := info_parts infoRit
  simp only [itV]
  simp only [maV] at HC
  clear h hb0
  by_cases h0 : x.m.code = 0
  · rw [h0] at HC ⊢
    clear h0
    go_enter Tryz.func98, Tryz.ntmps98
    go_wp2_with fail
    generalize w.alloc (.cells #[.int .u64 (x.m.id : Int), .string (ofL x.m.shop), .string (ofL x.m.key), .slice Ax x.m.head.length cx, .string (ofL x.m.body), .int .u64 (x.m.due : Int), .int .u8 (x.m.hops : Int), .bool x.lent, .bool x.again] 82) = w1 at *
    refine HC.out.mono ?_
    rintro e w2 ⟨rfl, hb⟩
    have HX2 := Lib.hid (HX0.out.on hb)
    have HB2 := Lib.hid (bthen HB0.out hb (Nat.le_refl _))
    clear hb
    have xl := HX2.out.lt
    have x0 := HX2.out.cs 0 _ rfl
    have x1 := HX2.out.cs 1 _ rfl
    have x2 := HX2.out.cs 2 _ rfl
    have x3 := HX2.out.cs 3 _ rfl
    have x4 := HX2.out.cs 4 _ rfl
    have x5 := HX2.out.cs 5 _ rfl
    have x6 := HX2.out.cs 6 _ rfl
    have x7 := HX2.out.cs 7 _ rfl
    have x8 := HX2.out.cs 8 _ rfl
    go_wp2_with fail
    go_loopg [6, 15] 0 (fun g v i wr => v = .int .i64 0 ∧ i = .int .i64 0 ∧ w2 = wr)
    case atStart => exact ⟨rfl, rfl, rfl⟩
    obtain ⟨rfl, rfl, rfl⟩ := hrel
    go_wp2_with fail
    go_ret2
    first
      | exact ⟨_, _, _, rfl, (HB2.out.alloc HB2.out.size _).drew.alloc (by first | exact (HB2.out.alloc HB2.out.size _).size | (simp; have := HB2.out.size; omega)) _⟩
      | exact ⟨_, _, _, rfl, by
          trace_state
          sorry⟩
  · have hb1 : ((x.m.code : Int) == 0) = false := by simpa using h0
    have hb2 : ((x.m.code : Int) != 0) = true := by simpa using h0
    generalize x.m.code = cd at *
    clear h0
    go_enter Tryz.func98, Tryz.ntmps98
    go_wp2_with fail
    generalize w.alloc (.cells #[.int .u64 (x.m.id : Int), .string (ofL x.m.shop), .string (ofL x.m.key), .slice Ax x.m.head.length cx, .string (ofL x.m.body), .int .u64 (x.m.due : Int), .int .u8 (x.m.hops : Int), .bool x.lent, .bool x.again] 82) = w1 at *
    refine HC.out.mono ?_
    rintro e w2 ⟨rfl, hb⟩
    have HX2 := Lib.hid (HX0.out.on hb)
    have HB2 := Lib.hid (bthen HB0.out hb (Nat.le_refl _))
    clear hb
    have xl := HX2.out.lt
    have x0 := HX2.out.cs 0 _ rfl
    have x1 := HX2.out.cs 1 _ rfl
    have x2 := HX2.out.cs 2 _ rfl
    have x3 := HX2.out.cs 3 _ rfl
    have x4 := HX2.out.cs 4 _ rfl
    have x5 := HX2.out.cs 5 _ rfl
    have x6 := HX2.out.cs 6 _ rfl
    have x7 := HX2.out.cs 7 _ rfl
    have x8 := HX2.out.cs 8 _ rfl
    go_wp2_with fail
    go_loopg [6, 15] 0 (fun g v i wr => v = .int .i64 (cd : Int) ∧ i = .int .i64 0 ∧ w2 = wr)
    case atStart => exact ⟨rfl, rfl, rfl⟩
    obtain ⟨rfl, rfl, rfl⟩ := hrel
    go_wp2_with fail
    go_ret2
    exact ⟨none, 0, 0, rfl, HB2.out⟩
theorem r18Add_nil (x : Ml) (Ax : Option Addr) (cx : Nat) (w : World) (h : MaOk w x Ax cx) : Calls Tryz.prog 48 #[.slice none 0 0, maV x Ax cx] w (PutN x.code w) := by
  have hb0 := one_alloc w (.cells #[.int .u64 (x.id : Int), .string (ofL x.shop), .string (ofL x.key), .slice Ax x.head.length cx, .string (ofL x.body), .int .u64 (x.due : Int), .int .u8 (x.hops : Int)] 31)
  have HC := Lib.hid (r18put_nil ⟨x, false, false⟩ Ax cx _ (h.on hb0))
  have HB0 := Lib.hid hb0
  simp only [maV]
  simp only [itV] at HC
  generalize x.code = cd at *
  clear h hb0
  go_enter Tryz.func48, Tryz.ntmps48
  go_wp2_with fail
  generalize w.alloc (.cells #[.int .u64 (x.id : Int), .string (ofL x.shop), .string (ofL x.key), .slice Ax x.head.length cx, .string (ofL x.body), .int .u64 (x.due : Int), .int .u8 (x.hops : Int)] 31) = w1 at *
  refine HC.out.mono ?_
  rintro e w2 ⟨A, n, c, rfl, hb⟩
  have HB2 := Lib.hid (bthen HB0.out hb (Nat.le_refl _))
  clear hb
  go_wp2_with fail
  go_ret2
  exact ⟨A, n, c, rfl, HB2.out⟩
def itEqR (x y : It) : Bool := maEq x.m y.m && (x.lent == y.lent) && (x.again == y.again)
set_option maxRecDepth 100000 in
set_option maxHeartbeats 4000000 in
theorem r18SameItem_any (x y : It) (Ax Ay : Option Addr) (cx cy : Nat) (w : World) (hl : x.m.head.length ≤ 100000) (hm : y.m.head.length ≤ 100000) (hA : Prs w Ax x.m.head) (hB : Prs w Ay y.m.head) :
    Calls Tryz.prog 42 #[itV x Ax cx, itV y Ay cy] w fun e w' => e = .returned (.bool (itEqR x y)) ∧ Below w.heap.size w w' := by
  have hb0 := two_allocs w (.cells #[.int .u64 (x.m.id : Int), .string (ofL x.m.shop), .string (ofL x.m.key), .slice Ax x.m.head.length cx, .string (ofL x.m.body), .int .u64 (x.m.due : Int), .int .u8 (x.m.hops : Int), .bool x.lent, .bool x.again] 82) (.cells #[.int .u64 (y.m.id : Int), .string (ofL y.m.shop), .string (ofL y.m.key), .slice Ay y.m.head.length cy, .string (ofL y.m.body), .int .u64 (y.m.due : Int), .int .u8 (y.m.hops : Int), .bool y.lent, .bool y.again] 82)
  have HX0 := Lib.hid (box_next (box_at0 w #[.int .u64 (x.m.id : Int), .string (ofL x.m.shop), .string (ofL x.m.key), .slice Ax x.m.head.length cx, .string (ofL x.m.body), .int .u64 (x.m.due : Int), .int .u8 (x.m.hops : Int), .bool x.lent, .bool x.again] 82) (.cells #[.int .u64 (y.m.id : Int), .string (ofL y.m.shop), .string (ofL y.m.key), .slice Ay y.m.head.length cy, .string (ofL y.m.body), .int .u64 (y.m.due : Int), .int .u8 (y.m.hops : Int), .bool y.lent, .bool y.again] 82))
  have HY0 := Lib.hid (box_at1 w (.cells #[.int .u64 (x.m.id : Int), .string (ofL x.m.shop), .string (ofL x.m.key), .slice Ax x.m.head.length cx, .string (ofL x.m.body), .int .u64 (x.m.due : Int), .int .u8 (x.m.hops : Int), .bool x.lent, .bool x.again] 82) #[.int .u64 (y.m.id : Int), .string (ofL y.m.shop), .string (ofL y.m.key), .slice Ay y.m.head.length cy, .string (ofL y.m.body), .int .u64 (y.m.due : Int), .int .u8 (y.m.hops : Int), .bool y.lent, .bool y.again] 82)
  have HC := Lib.hid (r13Same_any x.m y.m Ax cx Ay cy _ hl hm (hA.on hb0) (hB.on hb0))
  have HB0 := Lib.hid hb0
  simp only [maV] at HC
  simp only [itV]
  unfold itEqR
  clear hb0 hA hB
  cases hq : maEq x.m y.m
  · rw [hq] at HC
    go_enter Tryz.func42, Tryz.ntmps42
    go_wp2_with fail
    refine HC.out.mono ?_
    rintro e w2 ⟨rfl, hb⟩
    have HB2 := Lib.hid (bthen HB0.out hb (Nat.le_refl _))
    clear hb
    go_wp2_with fail
    go_ret
    exact ⟨by simp, HB2.out⟩
  · rw [hq] at HC
    have hxl : x.lent = true ∨ x.lent = false := by cases x.lent <;> simp
    have hyl : y.lent = true ∨ y.lent = false := by cases y.lent <;> simp
    obtain ⟨xm, xl, xa⟩ := x
    obtain ⟨ym, yl, ya⟩ := y
    clear hq hxl hyl
    cases xl <;> cases yl
    all_goals
      go_enter Tryz.func42, Tryz.ntmps42
      go_wp2_with fail
      refine HC.out.mono ?_
      rintro e w2 ⟨rfl, hb⟩
      have HB2 := Lib.hid (bthen HB0.out hb (Nat.le_refl _))
      have HX2 := Lib.hid (HX0.out.on hb)
      have HY2 := Lib.hid (HY0.out.on hb)
      clear hb
      have xc7 := HX2.out.cs 7 _ rfl
      have xc8 := HX2.out.cs 8 _ rfl
      have xlt := HX2.out.lt
      have yc7 := HY2.out.cs 7 _ rfl
      have yc8 := HY2.out.cs 8 _ rfl
      have ylt := HY2.out.lt
      go_wp2_with fail
      go_ret
      exact ⟨by simp, HB2.out⟩
end Go.Proofs.YtabnkbdbbneihaaGreatDoor
end
