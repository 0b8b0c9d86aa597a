/-
  WHICH MESSAGES GO BY A RULE: walked, the program's and the document's; rules held against each other.
-/
import Derived.Test.YtaoidjjmeejbbaaDoorMs15
import Derived.Test.YtaoidjjmeejbbaaDoorMs19
import Derived.Test.YtaoidjjmeejbbaaDoorMs33

section
namespace Go.Proofs.YtaoidjjmeejbbaaDoor
open Go.ChangeShapes Go.WideShapes Go.ChangeAt Go.RowKit
/-- does a message go? -/
def goesB (r : Ru) (key : List UInt8) (h : List Hd.Pr) : Bool :=
  if r.sort = 0 then r.key == key else if r.sort = 1 then true else if r.sort = 2 then Wrd.matches' (Wrd.words r.key) (Wrd.words key) else
  if r.all then r.want.all (hasP h) else r.want.any (hasP h)
theorem goes_0 {r : Ru} (h0 : r.sort = 0) (key : List UInt8) (h : List Hd.Pr) : goesB r key h = (r.key == key) := by unfold goesB; rw [if_pos h0]
theorem goes_1 {r : Ru} (h0 : r.sort = 1) (key : List UInt8) (h : List Hd.Pr) : goesB r key h = true := by unfold goesB; rw [if_neg (by omega), if_pos h0]
theorem goes_2 {r : Ru} (h0 : r.sort = 2) (key : List UInt8) (h : List Hd.Pr) : goesB r key h = Wrd.matches' (Wrd.words r.key) (Wrd.words key) := by unfold goesB; rw [if_neg (by omega), if_neg (by omega), if_pos h0]
theorem goes_3 {r : Ru} (h0 : r.sort = 3) (key : List UInt8) (h : List Hd.Pr) : goesB r key h = if r.all then r.want.all (hasP h) else r.want.any (hasP h) := by unfold goesB; rw [if_neg (by omega), if_neg (by omega), if_neg (by omega)]
set_option maxRecDepth 100000 in
set_option maxHeartbeats 8000000 in
theorem mGoes_any (r : Ru) (A : Option Addr) (c : Nat) (key : List UInt8) (h : List Hd.Pr) (B : Option Addr) (d : Nat) (w : World) (hr : RuOk w r A c) (hs : r.sort ≤ 3) (hk : key.length ≤ 90000) (hh : h.length ≤ 100000) (hp : Prs w B h) (hL : Len w) :
    Calls Tryd.prog 95 #[ruV r A c, .string (ofL key), .slice B h.length d] w fun e w' => e = .returned (.bool (goesB r key h)) ∧ Below w.heap.size w w' := by
  have HB0 := Lib.hid (show Below w.heap.size w (w.alloc (.cells #[.int .u8 (r.sort : Int), .string (ofL r.key), .slice A r.want.length c, .bool r.all] 29)) from (Below.refl _ _).alloc (Nat.le_refl _) _)
  have HX0 := Lib.hid (ruBox r A c w 29)
  have HL0 := Lib.hid (hL.on HB0.out)
  have HR0 := Lib.hid (hr.on HB0.out)
  have HP0 := Lib.hid (hp.on HB0.out)
  have hrk := hr.key
  have hrw := hr.len
  clear hr hp hL
  simp only [ruV]
  obtain h0 | h0 | h0 | h0 : r.sort = 0 ∨ r.sort = 1 ∨ r.sort = 2 ∨ r.sort = 3 := by omega
  · have HC := Lib.hid (goes_0 h0 key h)
    have hq := str_same key r.key
    rw [show (key == r.key) = (r.key == key) from Bool.beq_comm] at hq
    generalize (r.key == key) = M at *
    rw [h0]
    go_enter Tryd.func95, Tryd.ntmps95
    go_wp2_with fail
    go_ret
    exact ⟨ret_bool HC.out.symm, by have := HB0.out; rw [h0] at this; exact this⟩
  · have HC := Lib.hid (goes_1 h0 key h)
    rw [h0]
    go_enter Tryd.func95, Tryd.ntmps95
    go_wp2_with fail
    go_ret
    exact ⟨ret_bool HC.out.symm, by have := HB0.out; rw [h0] at this; exact this⟩
  · have HC := Lib.hid (goes_2 h0 key h)
    have HM := Lib.hid (fun W hL => matches_any r.key key W (by omega) (by omega) hL)
    generalize Wrd.matches' (Wrd.words r.key) (Wrd.words key) = M at *
    rw [h0] at HB0 HL0 ⊢
    go_enter Tryd.func95, Tryd.ntmps95
    go_wp2_with fail
    refine (HM.out _ HL0.out).mono ?_
    rintro e w1 ⟨rfl, b1⟩
    have HB1 := Lib.hid (bthen HB0.out b1 (Nat.le_refl _))
    clear b1
    go_wp2_with fail
    go_ret
    exact ⟨ret_bool HC.out.symm, HB1.out⟩
  · have HC := Lib.hid (goes_3 h0 key h)
    cases hall : r.all with
    | true =>
      rw [hall, if_pos rfl] at HC
      have HE := Lib.hid (fun W h1 h2 => hasEach_any h r.want B d A c W hh hrw h1 h2)
      generalize r.want.all (hasP h) = M at *
      rw [h0, hall] at HB0 HP0 HR0 HX0
      rw [h0]
      cases M with
      | true =>
        go_enter Tryd.func95, Tryd.ntmps95
        go_wp2_with fail
        refine (HE.out _ HP0.out HR0.out.row).mono ?_
        rintro e w1 ⟨rfl, b1⟩
        have HB1 := Lib.hid (bthen HB0.out b1 (Nat.le_refl _))
        clear b1
        go_wp2_with fail
        go_ret
        exact ⟨ret_bool HC.out.symm, HB1.out⟩
      | false =>
        go_enter Tryd.func95, Tryd.ntmps95
        go_wp2_with fail
        refine (HE.out _ HP0.out HR0.out.row).mono ?_
        rintro e w1 ⟨rfl, b1⟩
        have HB1 := Lib.hid (bthen HB0.out b1 (Nat.le_refl _))
        have hX1 := (HX0.out.on b1 (by simp))
        have hlt1 : w.heap.size < w1.heap.size := by have := b1.size; simp at this; omega
        have c3 := hX1 3 _ rfl
        rw [hall] at c3
        clear b1 hX1
        go_wp2_with fail
        go_ret
        exact ⟨ret_bool HC.out.symm, HB1.out⟩
    | false =>
      rw [hall, if_neg (by simp)] at HC
      have HO := Lib.hid (fun W h1 h2 => hasOne_any h r.want B d A c W hh hrw h1 h2)
      generalize r.want.any (hasP h) = M at *
      rw [h0, hall] at HB0 HP0 HR0
      rw [h0]
      go_enter Tryd.func95, Tryd.ntmps95
      go_wp2_with fail
      refine (HO.out _ HP0.out HR0.out.row).mono ?_
      rintro e w1 ⟨rfl, b1⟩
      have HB1 := Lib.hid (bthen HB0.out b1 (Nat.le_refl _))
      clear b1
      go_wp2_with fail
      go_ret
      exact ⟨ret_bool HC.out.symm, HB1.out⟩
end Go.Proofs.YtaoidjjmeejbbaaDoor
end
