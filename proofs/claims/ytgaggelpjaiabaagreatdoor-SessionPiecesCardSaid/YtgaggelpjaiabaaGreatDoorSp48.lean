/-
  PLAN where nothing may come, and of a Hello; THE EXAMPLE of layer 28: walked.
-/
import Derived.Test.YtgaggelpjaiabaaGreatDoorSp30
import Derived.Test.YtgaggelpjaiabaaGreatDoorSp42
import Derived.Test.YtgaggelpjaiabaaGreatDoorSp43
import Derived.Test.YtgaggelpjaiabaaGreatDoorSp47

section
namespace Go.Proofs.YtgaggelpjaiabaaGreatDoor
open Go.ChangeShapes Go.WideShapes Go.ChangeAt Go.RowKit
theorem qsp48a (l : List Value) (i : Nat) (v : Value) : l.toArray.setIfInBounds i v = (l.set i v).toArray := by simp
theorem qsp48b (v u : Value) (l : List Value) : (v :: l).set 0 u = u :: l := rfl
theorem qsp48c (v u : Value) (n : Nat) (l : List Value) : (v :: l).set (n + 1) u = v :: l.set n u := rfl
theorem cell_setCells {W : World} {a : Addr} {v : Value} (h : W.cell? a = some v) {g : Nat} (hg : a.block ≠ g) (vs : List Value) (j : Nat) : (W.setCells g j vs).cell? a = some v := by
  induction vs generalizing j W with
  | nil => exact h
  | cons u vs ih => exact ih ((World.cell?_setCell_other _ _ _ _ (by rintro rfl; exact hg rfl)).trans h) (j + 1)
set_option maxRecDepth 100000 in
set_option maxHeartbeats 8000000 in
theorem sePlanNo_any (p r : List UInt8) (e : Nat) (b o : Bool) (x : Me) (A : Option Addr) (c T : Nat) (w : World) (h0 : mayN b o x.kd.toNat x.ch.toNat x.n ≠ 0) : Calls Tryz.prog 10 #[seV p r e b o, meV x A c, .int .u64 (T : Int)] w fun y w' => y = .returned (.tuple #[seV p r e b o, .slice none 0 0, .slice none 0 0, .int .i64 (mayN b o x.kd.toNat x.ch.toNat x.n)]) ∧ Below w.heap.size w w' := by
  have HM := Lib.hid (fun W => seMay_any p r e b o x A c W)
  have hne : (mayN b o x.kd.toNat x.ch.toNat x.n != 0) = true := by simpa using h0
  generalize mayN b o x.kd.toNat x.ch.toNat x.n = N at *
  clear h0
  have HB3 := Lib.hid (rtThree w (.cells #[.string (ofL p), .string (ofL r), .int .i64 (e : Int), .bool b, .bool o, .int .i64 0, .slice none 0 0, .slice none 0 0, .bool false, .int .u64 0, .bool false, .slice none 0 0, .bool false, .int .i64 0, .slice none 0 0, .slice none 0 0, .bool false, .int .u64 0, .bool false, .slice none 0 0, .bool false, .int .i64 0, .slice none 0 0, .slice none 0 0, .bool false, .int .u64 0, .bool false, .slice none 0 0, .bool false, .int .i64 0, .slice none 0 0, .slice none 0 0, .bool false, .int .u64 0, .bool false, .slice none 0 0, .bool false] 45) (.cells #[.int .u8 (x.ch.toNat : Int), .int .u8 (x.kd.toNat : Int), .string (ofL x.name), .string (ofL x.other), .string (ofL x.key), .slice A x.head.length c, .string (ofL x.body), .int .u64 (x.n : Int), .int .u64 (x.m : Int), .bool x.yes] 25) (.cells #[.string ⟨#[]⟩, .string ⟨#[]⟩, .int .i64 0, .bool false, .bool false, .int .i64 0, .slice none 0 0, .slice none 0 0, .bool false, .int .u64 0, .bool false, .slice none 0 0, .bool false, .int .i64 0, .slice none 0 0, .slice none 0 0, .bool false, .int .u64 0, .bool false, .slice none 0 0, .bool false, .int .i64 0, .slice none 0 0, .slice none 0 0, .bool false, .int .u64 0, .bool false, .slice none 0 0, .bool false, .int .i64 0, .slice none 0 0, .slice none 0 0, .bool false, .int .u64 0, .bool false, .slice none 0 0, .bool false] 45))
  have hx3 := rtNext (rtNext (rtAt0 w #[.string (ofL p), .string (ofL r), .int .i64 (e : Int), .bool b, .bool o, .int .i64 0, .slice none 0 0, .slice none 0 0, .bool false, .int .u64 0, .bool false, .slice none 0 0, .bool false, .int .i64 0, .slice none 0 0, .slice none 0 0, .bool false, .int .u64 0, .bool false, .slice none 0 0, .bool false, .int .i64 0, .slice none 0 0, .slice none 0 0, .bool false, .int .u64 0, .bool false, .slice none 0 0, .bool false, .int .i64 0, .slice none 0 0, .slice none 0 0, .bool false, .int .u64 0, .bool false, .slice none 0 0, .bool false] 45) (.cells #[.int .u8 (x.ch.toNat : Int), .int .u8 (x.kd.toNat : Int), .string (ofL x.name), .string (ofL x.other), .string (ofL x.key), .slice A x.head.length c, .string (ofL x.body), .int .u64 (x.n : Int), .int .u64 (x.m : Int), .bool x.yes] 25)) (.cells #[.string ⟨#[]⟩, .string ⟨#[]⟩, .int .i64 0, .bool false, .bool false, .int .i64 0, .slice none 0 0, .slice none 0 0, .bool false, .int .u64 0, .bool false, .slice none 0 0, .bool false, .int .i64 0, .slice none 0 0, .slice none 0 0, .bool false, .int .u64 0, .bool false, .slice none 0 0, .bool false, .int .i64 0, .slice none 0 0, .slice none 0 0, .bool false, .int .u64 0, .bool false, .slice none 0 0, .bool false, .int .i64 0, .slice none 0 0, .slice none 0 0, .bool false, .int .u64 0, .bool false, .slice none 0 0, .bool false] 45)
  have HX3 := Lib.hid (show BoxC w w.heap.size (seL p r e b o) (((w.alloc (.cells #[.string (ofL p), .string (ofL r), .int .i64 (e : Int), .bool b, .bool o, .int .i64 0, .slice none 0 0, .slice none 0 0, .bool false, .int .u64 0, .bool false, .slice none 0 0, .bool false, .int .i64 0, .slice none 0 0, .slice none 0 0, .bool false, .int .u64 0, .bool false, .slice none 0 0, .bool false, .int .i64 0, .slice none 0 0, .slice none 0 0, .bool false, .int .u64 0, .bool false, .slice none 0 0, .bool false, .int .i64 0, .slice none 0 0, .slice none 0 0, .bool false, .int .u64 0, .bool false, .slice none 0 0, .bool false] 45)).alloc (.cells #[.int .u8 (x.ch.toNat : Int), .int .u8 (x.kd.toNat : Int), .string (ofL x.name), .string (ofL x.other), .string (ofL x.key), .slice A x.head.length c, .string (ofL x.body), .int .u64 (x.n : Int), .int .u64 (x.m : Int), .bool x.yes] 25)).alloc (.cells #[.string ⟨#[]⟩, .string ⟨#[]⟩, .int .i64 0, .bool false, .bool false, .int .i64 0, .slice none 0 0, .slice none 0 0, .bool false, .int .u64 0, .bool false, .slice none 0 0, .bool false, .int .i64 0, .slice none 0 0, .slice none 0 0, .bool false, .int .u64 0, .bool false, .slice none 0 0, .bool false, .int .i64 0, .slice none 0 0, .slice none 0 0, .bool false, .int .u64 0, .bool false, .slice none 0 0, .bool false, .int .i64 0, .slice none 0 0, .slice none 0 0, .bool false, .int .u64 0, .bool false, .slice none 0 0, .bool false] 45)) from hx3)
  clear hx3
  have HM3 := Lib.hid (rtNext (rtAt1 w (.cells #[.string (ofL p), .string (ofL r), .int .i64 (e : Int), .bool b, .bool o, .int .i64 0, .slice none 0 0, .slice none 0 0, .bool false, .int .u64 0, .bool false, .slice none 0 0, .bool false, .int .i64 0, .slice none 0 0, .slice none 0 0, .bool false, .int .u64 0, .bool false, .slice none 0 0, .bool false, .int .i64 0, .slice none 0 0, .slice none 0 0, .bool false, .int .u64 0, .bool false, .slice none 0 0, .bool false, .int .i64 0, .slice none 0 0, .slice none 0 0, .bool false, .int .u64 0, .bool false, .slice none 0 0, .bool false] 45) #[.int .u8 (x.ch.toNat : Int), .int .u8 (x.kd.toNat : Int), .string (ofL x.name), .string (ofL x.other), .string (ofL x.key), .slice A x.head.length c, .string (ofL x.body), .int .u64 (x.n : Int), .int .u64 (x.m : Int), .bool x.yes] 25) (.cells #[.string ⟨#[]⟩, .string ⟨#[]⟩, .int .i64 0, .bool false, .bool false, .int .i64 0, .slice none 0 0, .slice none 0 0, .bool false, .int .u64 0, .bool false, .slice none 0 0, .bool false, .int .i64 0, .slice none 0 0, .slice none 0 0, .bool false, .int .u64 0, .bool false, .slice none 0 0, .bool false, .int .i64 0, .slice none 0 0, .slice none 0 0, .bool false, .int .u64 0, .bool false, .slice none 0 0, .bool false, .int .i64 0, .slice none 0 0, .slice none 0 0, .bool false, .int .u64 0, .bool false, .slice none 0 0, .bool false] 45))
  have HZ3 := Lib.hid (rtAt2 w (.cells #[.string (ofL p), .string (ofL r), .int .i64 (e : Int), .bool b, .bool o, .int .i64 0, .slice none 0 0, .slice none 0 0, .bool false, .int .u64 0, .bool false, .slice none 0 0, .bool false, .int .i64 0, .slice none 0 0, .slice none 0 0, .bool false, .int .u64 0, .bool false, .slice none 0 0, .bool false, .int .i64 0, .slice none 0 0, .slice none 0 0, .bool false, .int .u64 0, .bool false, .slice none 0 0, .bool false, .int .i64 0, .slice none 0 0, .slice none 0 0, .bool false, .int .u64 0, .bool false, .slice none 0 0, .bool false] 45) (.cells #[.int .u8 (x.ch.toNat : Int), .int .u8 (x.kd.toNat : Int), .string (ofL x.name), .string (ofL x.other), .string (ofL x.key), .slice A x.head.length c, .string (ofL x.body), .int .u64 (x.n : Int), .int .u64 (x.m : Int), .bool x.yes] 25) #[.string ⟨#[]⟩, .string ⟨#[]⟩, .int .i64 0, .bool false, .bool false, .int .i64 0, .slice none 0 0, .slice none 0 0, .bool false, .int .u64 0, .bool false, .slice none 0 0, .bool false, .int .i64 0, .slice none 0 0, .slice none 0 0, .bool false, .int .u64 0, .bool false, .slice none 0 0, .bool false, .int .i64 0, .slice none 0 0, .slice none 0 0, .bool false, .int .u64 0, .bool false, .slice none 0 0, .bool false, .int .i64 0, .slice none 0 0, .slice none 0 0, .bool false, .int .u64 0, .bool false, .slice none 0 0, .bool false] 45)
  simp only [meV] at HM ⊢
  have hV : seV p r e b o = .agg #[.string (ofL p), .string (ofL r), .int .i64 (e : Int), .bool b, .bool o, .int .i64 0, .slice none 0 0, .slice none 0 0, .bool false, .int .u64 0, .bool false, .slice none 0 0, .bool false, .int .i64 0, .slice none 0 0, .slice none 0 0, .bool false, .int .u64 0, .bool false, .slice none 0 0, .bool false, .int .i64 0, .slice none 0 0, .slice none 0 0, .bool false, .int .u64 0, .bool false, .slice none 0 0, .bool false, .int .i64 0, .slice none 0 0, .slice none 0 0, .bool false, .int .u64 0, .bool false, .slice none 0 0, .bool false] := rfl
  rw [hV]
  go_enter Tryz.func10, Tryz.ntmps10
  go_upto_region 1 with fail
  generalize ((w.alloc (.cells #[.string (ofL p), .string (ofL r), .int .i64 (e : Int), .bool b, .bool o, .int .i64 0, .slice none 0 0, .slice none 0 0, .bool false, .int .u64 0, .bool false, .slice none 0 0, .bool false, .int .i64 0, .slice none 0 0, .slice none 0 0, .bool false, .int .u64 0, .bool false, .slice none 0 0, .bool false, .int .i64 0, .slice none 0 0, .slice none 0 0, .bool false, .int .u64 0, .bool false, .slice none 0 0, .bool false, .int .i64 0, .slice none 0 0, .slice none 0 0, .bool false, .int .u64 0, .bool false, .slice none 0 0, .bool false] 45)).alloc (.cells #[.int .u8 (x.ch.toNat : Int), .int .u8 (x.kd.toNat : Int), .string (ofL x.name), .string (ofL x.other), .string (ofL x.key), .slice A x.head.length c, .string (ofL x.body), .int .u64 (x.n : Int), .int .u64 (x.m : Int), .bool x.yes] 25)).alloc (.cells #[.string ⟨#[]⟩, .string ⟨#[]⟩, .int .i64 0, .bool false, .bool false, .int .i64 0, .slice none 0 0, .slice none 0 0, .bool false, .int .u64 0, .bool false, .slice none 0 0, .bool false, .int .i64 0, .slice none 0 0, .slice none 0 0, .bool false, .int .u64 0, .bool false, .slice none 0 0, .bool false, .int .i64 0, .slice none 0 0, .slice none 0 0, .bool false, .int .u64 0, .bool false, .slice none 0 0, .bool false, .int .i64 0, .slice none 0 0, .slice none 0 0, .bool false, .int .u64 0, .bool false, .slice none 0 0, .bool false] 45) = w3 at *
  rw [← hV]
  clear hV
  have m0 := HM3.out.cs 0 _ rfl
  have m1 := HM3.out.cs 1 _ rfl
  have m2 := HM3.out.cs 2 _ rfl
  have m3 := HM3.out.cs 3 _ rfl
  have m4 := HM3.out.cs 4 _ rfl
  have m5 := HM3.out.cs 5 _ rfl
  have m6 := HM3.out.cs 6 _ rfl
  have m7 := HM3.out.cs 7 _ rfl
  have m8 := HM3.out.cs 8 _ rfl
  have m9 := HM3.out.cs 9 _ rfl
  have ml := HM3.out.lt
  go_wp2_with (refine wpList_load_mid (by rfl) 45 _ (by rfl) w.heap.size 0 (by rfl) (seL p r e b o) _ HX3.out.cs.range Tryz.underlying45 rfl (by rw [se_size, seL_len]) ?_)
  refine (HM.out _).mono ?_
  rintro y w4 ⟨rfl, b4⟩
  have HX4 := Lib.hid (HX3.out.on b4)
  have HZ4 := Lib.hid (HZ3.out.on b4)
  have HB4 := Lib.hid (bthen HB3.out b4 (Nat.le_refl _))
  clear b4 m0 m1 m2 m3 m4 m5 m6 m7 m8 m9 ml
  go_wp2_with (first
    | (refine wpList_load_mid (by rfl) 45 _ (by rfl) w.heap.size 0 (by rfl) (seL p r e b o) _ HX4.out.cs.range Tryz.underlying45 rfl (by rw [se_size, seL_len]) ?_)
    | (refine wpList_store_mid (by rfl) 45 _ _ (by rfl) (w.heap.size + 2) 0 (seL p r e b o).toArray (by rfl) (by rfl) HZ4.out.there (by rw [se_size]; rfl) (se_all _ _ _ _ _) ?_))
  have HR := HZ4.out.over (seL p r e b o) rfl
  have hres := se_res _ _ _ _ _ _ _ HR.cs
  exact bodyPost_ret (v := .tuple #[seV p r e b o, .slice none 0 0, .slice none 0 0, .int .i64 N]) (by simp [results, Tryz.results10, asAddr, hres]) rfl ⟨rfl, below_setCells (by omega) _ _ HB4.out⟩
def HelloPost (p r : List UInt8) (e : Nat) (w : World) (y : Ending) (w' : World) : Prop := ∃ g, y = .returned (.tuple #[seV p r e true false, .slice (some ⟨g, 0, none⟩) 1 1, .slice none 0 0, .int .i64 0]) ∧ w'.cell? ⟨g, 1, none⟩ = some (.int .u8 0) ∧ Below w.heap.size w w'
def helloM : Me := ⟨0, 0, [], [], [], [], [], 1, 0, false⟩
set_option maxRecDepth 100000 in
set_option maxHeartbeats 8000000 in
theorem sePlanHello_any (p r : List UInt8) (e T : Nat) (w : World) : Calls Tryz.prog 10 #[seV p r e false false, .agg #[.int .u8 0, .int .u8 0, .string ⟨#[]⟩, .string ⟨#[]⟩, .string ⟨#[]⟩, .slice none 0 0, .string ⟨#[]⟩, .int .u64 1, .int .u64 0, .bool false], .int .u64 (T : Int)] w (HelloPost p r e w) := by
  have HM := Lib.hid (fun W => show Calls Tryz.prog 26 #[seV p r e false false, .agg #[.int .u8 0, .int .u8 0, .string ⟨#[]⟩, .string ⟨#[]⟩, .string ⟨#[]⟩, .slice none 0 0, .string ⟨#[]⟩, .int .u64 1, .int .u64 0, .bool false]] W fun y w' => y = .returned (.int .i64 0) ∧ Below W.heap.size W w' from seMay_any p r e false false helloM none 0 W)
  have HB3 := Lib.hid (rtThree w (.cells #[.string (ofL p), .string (ofL r), .int .i64 (e : Int), .bool false, .bool false, .int .i64 0, .slice none 0 0, .slice none 0 0, .bool false, .int .u64 0, .bool false, .slice none 0 0, .bool false, .int .i64 0, .slice none 0 0, .slice none 0 0, .bool false, .int .u64 0, .bool false, .slice none 0 0, .bool false, .int .i64 0, .slice none 0 0, .slice none 0 0, .bool false, .int .u64 0, .bool false, .slice none 0 0, .bool false, .int .i64 0, .slice none 0 0, .slice none 0 0, .bool false, .int .u64 0, .bool false, .slice none 0 0, .bool false] 45) (.cells #[.int .u8 0, .int .u8 0, .string ⟨#[]⟩, .string ⟨#[]⟩, .string ⟨#[]⟩, .slice none 0 0, .string ⟨#[]⟩, .int .u64 1, .int .u64 0, .bool false] 25) (.cells #[.string ⟨#[]⟩, .string ⟨#[]⟩, .int .i64 0, .bool false, .bool false, .int .i64 0, .slice none 0 0, .slice none 0 0, .bool false, .int .u64 0, .bool false, .slice none 0 0, .bool false, .int .i64 0, .slice none 0 0, .slice none 0 0, .bool false, .int .u64 0, .bool false, .slice none 0 0, .bool false, .int .i64 0, .slice none 0 0, .slice none 0 0, .bool false, .int .u64 0, .bool false, .slice none 0 0, .bool false, .int .i64 0, .slice none 0 0, .slice none 0 0, .bool false, .int .u64 0, .bool false, .slice none 0 0, .bool false] 45))
  have hx3 := rtNext (rtNext (rtAt0 w #[.string (ofL p), .string (ofL r), .int .i64 (e : Int), .bool false, .bool false, .int .i64 0, .slice none 0 0, .slice none 0 0, .bool false, .int .u64 0, .bool false, .slice none 0 0, .bool false, .int .i64 0, .slice none 0 0, .slice none 0 0, .bool false, .int .u64 0, .bool false, .slice none 0 0, .bool false, .int .i64 0, .slice none 0 0, .slice none 0 0, .bool false, .int .u64 0, .bool false, .slice none 0 0, .bool false, .int .i64 0, .slice none 0 0, .slice none 0 0, .bool false, .int .u64 0, .bool false, .slice none 0 0, .bool false] 45) (.cells #[.int .u8 0, .int .u8 0, .string ⟨#[]⟩, .string ⟨#[]⟩, .string ⟨#[]⟩, .slice none 0 0, .string ⟨#[]⟩, .int .u64 1, .int .u64 0, .bool false] 25)) (.cells #[.string ⟨#[]⟩, .string ⟨#[]⟩, .int .i64 0, .bool false, .bool false, .int .i64 0, .slice none 0 0, .slice none 0 0, .bool false, .int .u64 0, .bool false, .slice none 0 0, .bool false, .int .i64 0, .slice none 0 0, .slice none 0 0, .bool false, .int .u64 0, .bool false, .slice none 0 0, .bool false, .int .i64 0, .slice none 0 0, .slice none 0 0, .bool false, .int .u64 0, .bool false, .slice none 0 0, .bool false, .int .i64 0, .slice none 0 0, .slice none 0 0, .bool false, .int .u64 0, .bool false, .slice none 0 0, .bool false] 45)
  have HX3 := Lib.hid (show BoxC w w.heap.size (seL p r e false false) (((w.alloc (.cells #[.string (ofL p), .string (ofL r), .int .i64 (e : Int), .bool false, .bool false, .int .i64 0, .slice none 0 0, .slice none 0 0, .bool false, .int .u64 0, .bool false, .slice none 0 0, .bool false, .int .i64 0, .slice none 0 0, .slice none 0 0, .bool false, .int .u64 0, .bool false, .slice none 0 0, .bool false, .int .i64 0, .slice none 0 0, .slice none 0 0, .bool false, .int .u64 0, .bool false, .slice none 0 0, .bool false, .int .i64 0, .slice none 0 0, .slice none 0 0, .bool false, .int .u64 0, .bool false, .slice none 0 0, .bool false] 45)).alloc (.cells #[.int .u8 0, .int .u8 0, .string ⟨#[]⟩, .string ⟨#[]⟩, .string ⟨#[]⟩, .slice none 0 0, .string ⟨#[]⟩, .int .u64 1, .int .u64 0, .bool false] 25)).alloc (.cells #[.string ⟨#[]⟩, .string ⟨#[]⟩, .int .i64 0, .bool false, .bool false, .int .i64 0, .slice none 0 0, .slice none 0 0, .bool false, .int .u64 0, .bool false, .slice none 0 0, .bool false, .int .i64 0, .slice none 0 0, .slice none 0 0, .bool false, .int .u64 0, .bool false, .slice none 0 0, .bool false, .int .i64 0, .slice none 0 0, .slice none 0 0, .bool false, .int .u64 0, .bool false, .slice none 0 0, .bool false, .int .i64 0, .slice none 0 0, .slice none 0 0, .bool false, .int .u64 0, .bool false, .slice none 0 0, .bool false] 45)) from hx3)
  clear hx3
  have HM3 := Lib.hid (rtNext (rtAt1 w (.cells #[.string (ofL p), .string (ofL r), .int .i64 (e : Int), .bool false, .bool false, .int .i64 0, .slice none 0 0, .slice none 0 0, .bool false, .int .u64 0, .bool false, .slice none 0 0, .bool false, .int .i64 0, .slice none 0 0, .slice none 0 0, .bool false, .int .u64 0, .bool false, .slice none 0 0, .bool false, .int .i64 0, .slice none 0 0, .slice none 0 0, .bool false, .int .u64 0, .bool false, .slice none 0 0, .bool false, .int .i64 0, .slice none 0 0, .slice none 0 0, .bool false, .int .u64 0, .bool false, .slice none 0 0, .bool false] 45) #[.int .u8 0, .int .u8 0, .string ⟨#[]⟩, .string ⟨#[]⟩, .string ⟨#[]⟩, .slice none 0 0, .string ⟨#[]⟩, .int .u64 1, .int .u64 0, .bool false] 25) (.cells #[.string ⟨#[]⟩, .string ⟨#[]⟩, .int .i64 0, .bool false, .bool false, .int .i64 0, .slice none 0 0, .slice none 0 0, .bool false, .int .u64 0, .bool false, .slice none 0 0, .bool false, .int .i64 0, .slice none 0 0, .slice none 0 0, .bool false, .int .u64 0, .bool false, .slice none 0 0, .bool false, .int .i64 0, .slice none 0 0, .slice none 0 0, .bool false, .int .u64 0, .bool false, .slice none 0 0, .bool false, .int .i64 0, .slice none 0 0, .slice none 0 0, .bool false, .int .u64 0, .bool false, .slice none 0 0, .bool false] 45))
  have HZ3 := Lib.hid (rtAt2 w (.cells #[.string (ofL p), .string (ofL r), .int .i64 (e : Int), .bool false, .bool false, .int .i64 0, .slice none 0 0, .slice none 0 0, .bool false, .int .u64 0, .bool false, .slice none 0 0, .bool false, .int .i64 0, .slice none 0 0, .slice none 0 0, .bool false, .int .u64 0, .bool false, .slice none 0 0, .bool false, .int .i64 0, .slice none 0 0, .slice none 0 0, .bool false, .int .u64 0, .bool false, .slice none 0 0, .bool false, .int .i64 0, .slice none 0 0, .slice none 0 0, .bool false, .int .u64 0, .bool false, .slice none 0 0, .bool false] 45) (.cells #[.int .u8 0, .int .u8 0, .string ⟨#[]⟩, .string ⟨#[]⟩, .string ⟨#[]⟩, .slice none 0 0, .string ⟨#[]⟩, .int .u64 1, .int .u64 0, .bool false] 25) #[.string ⟨#[]⟩, .string ⟨#[]⟩, .int .i64 0, .bool false, .bool false, .int .i64 0, .slice none 0 0, .slice none 0 0, .bool false, .int .u64 0, .bool false, .slice none 0 0, .bool false, .int .i64 0, .slice none 0 0, .slice none 0 0, .bool false, .int .u64 0, .bool false, .slice none 0 0, .bool false, .int .i64 0, .slice none 0 0, .slice none 0 0, .bool false, .int .u64 0, .bool false, .slice none 0 0, .bool false, .int .i64 0, .slice none 0 0, .slice none 0 0, .bool false, .int .u64 0, .bool false, .slice none 0 0, .bool false] 45)
  have hV : seV p r e false false = .agg #[.string (ofL p), .string (ofL r), .int .i64 (e : Int), .bool false, .bool false, .int .i64 0, .slice none 0 0, .slice none 0 0, .bool false, .int .u64 0, .bool false, .slice none 0 0, .bool false, .int .i64 0, .slice none 0 0, .slice none 0 0, .bool false, .int .u64 0, .bool false, .slice none 0 0, .bool false, .int .i64 0, .slice none 0 0, .slice none 0 0, .bool false, .int .u64 0, .bool false, .slice none 0 0, .bool false, .int .i64 0, .slice none 0 0, .slice none 0 0, .bool false, .int .u64 0, .bool false, .slice none 0 0, .bool false] := rfl
  rw [hV]
  go_enter Tryz.func10, Tryz.ntmps10
  go_upto_region 1 with fail
  generalize ((w.alloc (.cells #[.string (ofL p), .string (ofL r), .int .i64 (e : Int), .bool false, .bool false, .int .i64 0, .slice none 0 0, .slice none 0 0, .bool false, .int .u64 0, .bool false, .slice none 0 0, .bool false, .int .i64 0, .slice none 0 0, .slice none 0 0, .bool false, .int .u64 0, .bool false, .slice none 0 0, .bool false, .int .i64 0, .slice none 0 0, .slice none 0 0, .bool false, .int .u64 0, .bool false, .slice none 0 0, .bool false, .int .i64 0, .slice none 0 0, .slice none 0 0, .bool false, .int .u64 0, .bool false, .slice none 0 0, .bool false] 45)).alloc (.cells #[.int .u8 0, .int .u8 0, .string ⟨#[]⟩, .string ⟨#[]⟩, .string ⟨#[]⟩, .slice none 0 0, .string ⟨#[]⟩, .int .u64 1, .int .u64 0, .bool false] 25)).alloc (.cells #[.string ⟨#[]⟩, .string ⟨#[]⟩, .int .i64 0, .bool false, .bool false, .int .i64 0, .slice none 0 0, .slice none 0 0, .bool false, .int .u64 0, .bool false, .slice none 0 0, .bool false, .int .i64 0, .slice none 0 0, .slice none 0 0, .bool false, .int .u64 0, .bool false, .slice none 0 0, .bool false, .int .i64 0, .slice none 0 0, .slice none 0 0, .bool false, .int .u64 0, .bool false, .slice none 0 0, .bool false, .int .i64 0, .slice none 0 0, .slice none 0 0, .bool false, .int .u64 0, .bool false, .slice none 0 0, .bool false] 45) = w3 at *
  rw [← hV]
  clear hV
  have m0 := HM3.out.cs 0 _ rfl
  have m1 := HM3.out.cs 1 _ rfl
  have m2 := HM3.out.cs 2 _ rfl
  have m3 := HM3.out.cs 3 _ rfl
  have m4 := HM3.out.cs 4 _ rfl
  have m5 := HM3.out.cs 5 _ rfl
  have m6 := HM3.out.cs 6 _ rfl
  have m7 := HM3.out.cs 7 _ rfl
  have m8 := HM3.out.cs 8 _ rfl
  have m9 := HM3.out.cs 9 _ rfl
  have ml := HM3.out.lt
  go_wp2_with (refine wpList_load_mid (by rfl) 45 _ (by rfl) w.heap.size 0 (by rfl) (seL p r e false false) _ HX3.out.cs.range Tryz.underlying45 rfl (by rw [se_size, seL_len]) ?_)
  refine (HM.out _).mono ?_
  rintro y w4 ⟨rfl, b4⟩
  have HX4 := Lib.hid (HX3.out.on b4)
  have HM4 := Lib.hid (HM3.out.on b4)
  have HZ4 := Lib.hid (HZ3.out.on b4)
  have HB4 := Lib.hid (bthen HB3.out b4 (Nat.le_refl _))
  clear b4 m0 m1 m2 m3 m4 m5 m6 m7 m8 m9 ml
  have m1 := HM4.out.cs 1 _ rfl
  have ml := HM4.out.lt
  have cl := HX4.out.lt
  have cf := HX4.out.s
  unfold Soft at cf
  have c3 := HX4.out.cs 3 _ rfl
  go_upto_region 6 with fail
  have HX := Lib.hid (show BoxC w w.heap.size (seL p r e true false) (w4.setCell ⟨w.heap.size, 3, none⟩ (.bool true)) from HX4.out.put 3 (.bool true) (by show _ < 37; omega))
  have HMM := Lib.hid (HM4.out.aside (g := w.heap.size) (by omega) 3 (.bool true))
  have HZ := Lib.hid (HZ4.out.aside (g := w.heap.size) (by omega) 3 (.bool true))
  have HB5 := Lib.hid (HB4.out.setCell (p := ⟨w.heap.size, 3, none⟩) (Nat.le_refl _) (.bool true))
  clear m1 ml cl cf c3
  generalize w4.setCell ⟨w.heap.size, 3, none⟩ (.bool true) = w5 at *
  have c0 := HX.out.cs 0 _ rfl
  have cl := HX.out.lt
  have m0 := HMM.out.cs 0 _ rfl
  have ml := HMM.out.lt
  have HBW := Lib.hid (show w.heap.size + 2 ≤ w5.heap.size from Nat.le_of_lt HZ.out.lt)
  have HZ0 := HZ
  replace HZ := Lib.hid (rtDrew HZ.out)
  refine wp_region_held_drew (S := fun a => Below ((w.heap.size + 2)) w5 a) (by kernel_rfl) (by (try dsimp only); exact (Below.refl _ _).drew) (fun hHeld => ?_)
  refine wpAnyH_take (i := 0) (oi := ⟨some 27, .load 45 (.tmp 3), 45, "plan.go:58", #[], none⟩) (v := .agg (seL p r e true false).toArray) rfl (by kernel_rfl) (by kernel_rfl) (by kernel_rfl) (fun _ _ _ h => h) (yieldsIf_load_mid (by rfl) 45 _ (by rfl) w.heap.size 0 (by rfl) (seL p r e true false) _ (fun W9 h9 => (cels_far HX.out.cs h9 (by omega)).range) Tryz.underlying45 rfl (by rw [se_size, seL_len])) (by assumption) ?_
  try simp only [Act.put, qsp48a, qsp48b, qsp48c]
  refine wpAnyH_take (i := 1) (oi := ⟨some 28, .fieldAddr 25 (.tmp 4) 0, 0, "plan.go:58", #[⟨7, .gcOnly .lateStores⟩], none⟩) (v := ?_) rfl (by kernel_rfl) (by kernel_rfl) (by kernel_rfl) (fun _ _ _ h => h) (Or.inl ⟨by rfl, ?_⟩) (by assumption) ?_
  rotate_left 1
  · intro wS hSw; (try dsimp only at hSw); go_simp; try with_reducible rfl
  try simp only [Act.put, qsp48a, qsp48b, qsp48c]
  refine wpAnyH_take (i := 2) (oi := ⟨some 29, .load 5 (.tmp 28), 5, "plan.go:58", #[⟨1, .data⟩, ⟨7, .gcOnly .lateStores⟩], none⟩) (v := ?_) rfl (by kernel_rfl) (by kernel_rfl) (by kernel_rfl) (fun _ _ _ h => h) (Or.inl ⟨by rfl, ?_⟩) (by assumption) ?_
  rotate_left 1
  · intro wS hSw; (try dsimp only at hSw); have c0 := (hSw.cell (p := ⟨w.heap.size, 0, none⟩) (by show _ < _; simp)).trans c0; have m0 := (hSw.cell (p := ⟨w.heap.size + 1, 0, none⟩) (by show _ < _; simp)).trans m0; go_simp; try with_reducible rfl
  try simp only [Act.put, qsp48a, qsp48b, qsp48c]
  refine wpAnyH_take (i := 3) (oi := ⟨some 30, .fieldAddr 45 (.tmp 3) 0, 0, "plan.go:58", #[⟨7, .gcOnly .lateStores⟩], none⟩) (v := ?_) rfl (by kernel_rfl) (by kernel_rfl) (by kernel_rfl) (fun _ _ _ h => h) (Or.inl ⟨by rfl, ?_⟩) (by assumption) ?_
  rotate_left 1
  · intro wS hSw; (try dsimp only at hSw); go_simp; try with_reducible rfl
  try simp only [Act.put, qsp48a, qsp48b, qsp48c]
  refine wpAnyH_take (i := 4) (oi := ⟨some 31, .load 9 (.tmp 30), 9, "plan.go:58", #[⟨3, .data⟩, ⟨7, .gcOnly .lateStores⟩], none⟩) (v := ?_) rfl (by kernel_rfl) (by kernel_rfl) (by kernel_rfl) (fun _ _ _ h => h) (Or.inl ⟨by rfl, ?_⟩) (by assumption) ?_
  rotate_left 1
  · intro wS hSw; (try dsimp only at hSw); have c0 := (hSw.cell (p := ⟨w.heap.size, 0, none⟩) (by show _ < _; simp)).trans c0; have m0 := (hSw.cell (p := ⟨w.heap.size + 1, 0, none⟩) (by show _ < _; simp)).trans m0; go_simp; try with_reducible rfl
  try simp only [Act.put, qsp48a, qsp48b, qsp48c]
  refine wpAnyH_take (i := 5) (oi := ⟨some 32, .build 64 #[(0, .tmp 29), (1, .const (.int .u8 0)), (5, .tmp 31)], 64, "plan.go:58", #[⟨2, .data⟩, ⟨4, .data⟩, ⟨7, .gcOnly .lateStores⟩], none⟩) (v := ?_) rfl (by kernel_rfl) (by kernel_rfl) (by kernel_rfl) (fun _ _ _ h => h) (Or.inl ⟨by rfl, ?_⟩) (by assumption) ?_
  rotate_left 1
  · intro wS hSw; (try dsimp only at hSw); go_simp; try with_reducible rfl
  try simp only [Act.put, qsp48a, qsp48b, qsp48c]
  refine wpAnyH_ready (rs := [6, 7]) (by kernel_rfl) (by simp) ?_
  refine AllReadyH.cons (o := ⟨some 33, .buildSlice 47 1 #[(0, .tmp 32)], 47, "plan.go:58", #[⟨5, .data⟩, ⟨7, .gcOnly .lateStores⟩], none⟩) rfl (fun K hK => ?_) (AllReadyH.cons (o := ⟨none, .store 45 (.tmp 6) (.tmp 27), 0, "plan.go:58", #[⟨0, .data⟩, ⟨0, .phase⟩, ⟨1, .textOnly .lateStores⟩, ⟨2, .textOnly .lateStores⟩, ⟨3, .textOnly .lateStores⟩, ⟨4, .textOnly .lateStores⟩, ⟨5, .textOnly .lateStores⟩, ⟨6, .textOnly .lateStores⟩], none⟩) rfl (fun K hK => ?_) (AllReadyH.nil))
  · skip
    have HRC := Lib.hid (show (w5.alloc (.cells #[.int .u8 0, .int .u8 0, .int .u64 0, .int .u64 0, .bool false, .string (ofL p), .int .u64 0, .string ⟨#[]⟩, .string ⟨#[]⟩, .slice none 0 0, .string ⟨#[]⟩, .int .u64 0, .int .u8 0] 64)).drew.cell? ⟨w5.heap.size, 1, none⟩ = some (.int .u8 0) from cell_new w5 #[.int .u8 0, .int .u8 0, .int .u64 0, .int .u64 0, .bool false, .string (ofL p), .int .u64 0, .string ⟨#[]⟩, .string ⟨#[]⟩, .slice none 0 0, .string ⟨#[]⟩, .int .u64 0, .int .u8 0] 64 w5.heap.size 1 rfl)
    have HG5 := Lib.hid (show w.heap.size + 2 < w5.heap.size from HZ.out.lt)
    replace HZ := Lib.hid (rtDrew (rtNext HZ0.out (.cells #[.int .u8 0, .int .u8 0, .int .u64 0, .int .u64 0, .bool false, .string (ofL p), .int .u64 0, .string ⟨#[]⟩, .string ⟨#[]⟩, .slice none 0 0, .string ⟨#[]⟩, .int .u64 0, .int .u8 0] 64)))
    go_simp
    refine hK.out _ _ ?_ (fun hHeld2 => ?_)
    · (try dsimp only); exact hHeld.alloc (Nat.le_trans HBW.out hHeld.size) _
    generalize hgr : w5.heap.size = gr at *
    clear hK K hHeld
    have hHeld := hHeld2
    clear hHeld2
    try simp only [Act.put, qsp48a, qsp48b, qsp48c]
    refine wpAnyH_ready (rs := [7]) (by kernel_rfl) (by simp) ?_
    refine AllReadyH.cons (o := ⟨none, .store 45 (.tmp 6) (.tmp 27), 0, "plan.go:58", #[⟨0, .data⟩, ⟨0, .phase⟩, ⟨1, .textOnly .lateStores⟩, ⟨2, .textOnly .lateStores⟩, ⟨3, .textOnly .lateStores⟩, ⟨4, .textOnly .lateStores⟩, ⟨5, .textOnly .lateStores⟩, ⟨6, .textOnly .lateStores⟩], none⟩) rfl (fun K hK => ?_) (AllReadyH.nil)
    rw [if_pos (by rfl)]
    refine wp_store_mid 45 _ _ (by rfl) (w.heap.size + 2) 0 (seL p r e true false).toArray (by rfl) (by rfl) HZ.out.there (by rw [se_size]; rfl) (se_all _ _ _ _ _) ?_
    refine hK.out _ _ ?_ (fun hHeld2 => ?_)
    · (try dsimp only); exact below_setCells3 hHeld (Nat.le_refl _) _ _
    replace HZ := Lib.hid (HZ.out.over (seL p r e true false) rfl)
    try replace HRC := Lib.hid (cell_setCells HRC.out (show gr ≠ w.heap.size + 2 from by have := HG5.out; omega) (seL p r e true false) 0)
    clear hK K hHeld
    have hHeld := hHeld2
    clear hHeld2
    try simp only [Act.put]
    refine wpAnyH_take (i := 8) (oi := ⟨some 7, .assign (.tmp 33), 47, "plan.go:58", #[⟨6, .data⟩, ⟨7, .chain⟩, ⟨0, .phase⟩, ⟨1, .phase⟩, ⟨2, .phase⟩, ⟨3, .phase⟩, ⟨4, .phase⟩, ⟨5, .phase⟩, ⟨6, .phase⟩, ⟨7, .phase⟩], none⟩) (v := ?_) rfl (by kernel_rfl) (by kernel_rfl) (by kernel_rfl) (fun _ _ _ h => h) (Or.inl ⟨by rfl, ?_⟩) (by assumption) ?_
    rotate_left 1
    · intro wS hSw; (try dsimp only at hSw); go_simp; try with_reducible rfl
    try simp only [Act.put, qsp48a, qsp48b, qsp48c]
    refine wpAnyH_take (i := 9) (oi := ⟨some 8, .assign (.const (.slice none 0 0)), 36, "plan.go:58", #[⟨8, .chain⟩, ⟨0, .phase⟩, ⟨1, .phase⟩, ⟨2, .phase⟩, ⟨3, .phase⟩, ⟨4, .phase⟩, ⟨5, .phase⟩, ⟨6, .phase⟩, ⟨7, .phase⟩, ⟨8, .phase⟩], none⟩) (v := ?_) rfl (by kernel_rfl) (by kernel_rfl) (by kernel_rfl) (fun _ _ _ h => h) (Or.inl ⟨by rfl, ?_⟩) (by assumption) ?_
    rotate_left 1
    · intro wS hSw; (try dsimp only at hSw); go_simp; try with_reducible rfl
    try simp only [Act.put, qsp48a, qsp48b, qsp48c]
    refine wpAnyH_take (i := 10) (oi := ⟨some 9, .assign (.const (.int .i64 0)), 31, "plan.go:58", #[⟨9, .chain⟩, ⟨0, .phase⟩, ⟨1, .phase⟩, ⟨2, .phase⟩, ⟨3, .phase⟩, ⟨4, .phase⟩, ⟨5, .phase⟩, ⟨6, .phase⟩, ⟨7, .phase⟩, ⟨8, .phase⟩, ⟨9, .phase⟩], none⟩) (v := ?_) rfl (by kernel_rfl) (by kernel_rfl) (by kernel_rfl) (fun _ _ _ h => h) (Or.inl ⟨by rfl, ?_⟩) (by assumption) ?_
    rotate_left 1
    · intro wS hSw; (try dsimp only at hSw); go_simp; try with_reducible rfl
    try simp only [Act.put]
    refine wpAnyH_done (by kernel_rfl) ?_ _
    have hZ := hHeld
    clear hHeld
    go_wp2_with fail
    have hres := se_res _ _ _ _ _ _ _ HZ.out.cs
    exact bodyPost_ret (v := .tuple #[seV p r e true false, .slice (some ⟨gr, 0, none⟩) 1 1, .slice none 0 0, .int .i64 0]) (by simp [results, Tryz.results10, asAddr, hres]) rfl ⟨gr, rfl, HRC.out, HB5.out.trans (hZ.mono (by omega))⟩
  · skip
    rw [if_pos (by rfl)]
    refine wp_store_mid 45 _ _ (by rfl) (w.heap.size + 2) 0 (seL p r e true false).toArray (by rfl) (by rfl) HZ.out.there (by rw [se_size]; rfl) (se_all _ _ _ _ _) ?_
    refine hK.out _ _ ?_ (fun hHeld2 => ?_)
    · (try dsimp only); exact below_setCells3 hHeld (Nat.le_refl _) _ _
    replace HZ := Lib.hid (HZ.out.over (seL p r e true false) rfl)
    try replace HRC := Lib.hid (cell_setCells HRC.out (show gr ≠ w.heap.size + 2 from by have := HG5.out; omega) (seL p r e true false) 0)
    clear hK K hHeld
    have hHeld := hHeld2
    clear hHeld2
    try simp only [Act.put]
    refine wpAnyH_ready (rs := [6]) (by kernel_rfl) (by simp) ?_
    refine AllReadyH.cons (o := ⟨some 33, .buildSlice 47 1 #[(0, .tmp 32)], 47, "plan.go:58", #[⟨5, .data⟩, ⟨7, .gcOnly .lateStores⟩], none⟩) rfl (fun K hK => ?_) (AllReadyH.nil)
    generalize hw5s : w5.drew.setCells (w.heap.size + 2) 0 (seL p r e true false) = w5s at *
    have HRC := Lib.hid (show (w5s.alloc (.cells #[.int .u8 0, .int .u8 0, .int .u64 0, .int .u64 0, .bool false, .string (ofL p), .int .u64 0, .string ⟨#[]⟩, .string ⟨#[]⟩, .slice none 0 0, .string ⟨#[]⟩, .int .u64 0, .int .u8 0] 64)).cell? ⟨w5s.heap.size, 1, none⟩ = some (.int .u8 0) from cell_new w5s #[.int .u8 0, .int .u8 0, .int .u64 0, .int .u64 0, .bool false, .string (ofL p), .int .u64 0, .string ⟨#[]⟩, .string ⟨#[]⟩, .slice none 0 0, .string ⟨#[]⟩, .int .u64 0, .int .u8 0] 64 w5s.heap.size 1 rfl)
    have HG5 := Lib.hid (show w.heap.size + 2 < w5s.heap.size from HZ.out.lt)
    replace HZ := Lib.hid (rtNext HZ.out (.cells #[.int .u8 0, .int .u8 0, .int .u64 0, .int .u64 0, .bool false, .string (ofL p), .int .u64 0, .string ⟨#[]⟩, .string ⟨#[]⟩, .slice none 0 0, .string ⟨#[]⟩, .int .u64 0, .int .u8 0] 64))
    go_simp
    refine hK.out _ _ ?_ (fun hHeld2 => ?_)
    · (try dsimp only); exact hHeld.alloc (Nat.le_trans HBW.out hHeld.size) _
    generalize hgr : w5s.heap.size = gr at *
    clear hK K hHeld
    have hHeld := hHeld2
    clear hHeld2
    try simp only [Act.put, qsp48a, qsp48b, qsp48c]
    refine wpAnyH_take (i := 8) (oi := ⟨some 7, .assign (.tmp 33), 47, "plan.go:58", #[⟨6, .data⟩, ⟨7, .chain⟩, ⟨0, .phase⟩, ⟨1, .phase⟩, ⟨2, .phase⟩, ⟨3, .phase⟩, ⟨4, .phase⟩, ⟨5, .phase⟩, ⟨6, .phase⟩, ⟨7, .phase⟩], none⟩) (v := ?_) rfl (by kernel_rfl) (by kernel_rfl) (by kernel_rfl) (fun _ _ _ h => h) (Or.inl ⟨by rfl, ?_⟩) (by assumption) ?_
    rotate_left 1
    · intro wS hSw; (try dsimp only at hSw); go_simp; try with_reducible rfl
    try simp only [Act.put, qsp48a, qsp48b, qsp48c]
    refine wpAnyH_take (i := 9) (oi := ⟨some 8, .assign (.const (.slice none 0 0)), 36, "plan.go:58", #[⟨8, .chain⟩, ⟨0, .phase⟩, ⟨1, .phase⟩, ⟨2, .phase⟩, ⟨3, .phase⟩, ⟨4, .phase⟩, ⟨5, .phase⟩, ⟨6, .phase⟩, ⟨7, .phase⟩, ⟨8, .phase⟩], none⟩) (v := ?_) rfl (by kernel_rfl) (by kernel_rfl) (by kernel_rfl) (fun _ _ _ h => h) (Or.inl ⟨by rfl, ?_⟩) (by assumption) ?_
    rotate_left 1
    · intro wS hSw; (try dsimp only at hSw); go_simp; try with_reducible rfl
    try simp only [Act.put, qsp48a, qsp48b, qsp48c]
    refine wpAnyH_take (i := 10) (oi := ⟨some 9, .assign (.const (.int .i64 0)), 31, "plan.go:58", #[⟨9, .chain⟩, ⟨0, .phase⟩, ⟨1, .phase⟩, ⟨2, .phase⟩, ⟨3, .phase⟩, ⟨4, .phase⟩, ⟨5, .phase⟩, ⟨6, .phase⟩, ⟨7, .phase⟩, ⟨8, .phase⟩, ⟨9, .phase⟩], none⟩) (v := ?_) rfl (by kernel_rfl) (by kernel_rfl) (by kernel_rfl) (fun _ _ _ h => h) (Or.inl ⟨by rfl, ?_⟩) (by assumption) ?_
    rotate_left 1
    · intro wS hSw; (try dsimp only at hSw); go_simp; try with_reducible rfl
    try simp only [Act.put]
    refine wpAnyH_done (by kernel_rfl) ?_ _
    have hZ := hHeld
    clear hHeld
    go_wp2_with fail
    have hres := se_res _ _ _ _ _ _ _ HZ.out.cs
    exact bodyPost_ret (v := .tuple #[seV p r e true false, .slice (some ⟨gr, 0, none⟩) 1 1, .slice none 0 0, .int .i64 0]) (by simp [results, Tryz.results10, asAddr, hres]) rfl ⟨gr, rfl, HRC.out, HB5.out.trans (hZ.mono (by omega))⟩
theorem law27Awake_any (w : World) (hL : Len w) : Calls Tryz.prog 20 #[] w fun e w' => e = .returned (.bool true) ∧ Below w.heap.size w w' := by
  have HA := Lib.hid (awake27_any w hL)
  clear hL
  go_enter Tryz.func20, Tryz.ntmps20
  go_wp2_with fail
  refine HA.out.mono ?_
  rintro e w1 ⟨rfl, b1⟩
  have HB1 := Lib.hid b1
  clear b1
  go_wp2_with fail
  go_ret
  exact ⟨rfl, HB1.out⟩
end Go.Proofs.YtgaggelpjaiabaaGreatDoor
end
