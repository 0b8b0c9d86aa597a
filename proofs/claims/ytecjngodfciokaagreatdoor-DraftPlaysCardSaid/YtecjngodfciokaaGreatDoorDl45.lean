/-
  WHAT IS WRITTEN OF A DEED, piece by piece: the program's, walked.
-/
import Derived.Test.YtecjngodfciokaaGreatDoorDl19
import Derived.Test.YtecjngodfciokaaGreatDoorDl21
import Derived.Deep.RegionHeld3
import Derived.Deep.DeepCutAuto
section
namespace Go.Proofs.YtecjngodfciokaaGreatDoor
open Go.ChangeShapes Go.WideShapes Go.ChangeAt Go.RowKit
set_option maxRecDepth 100000 in
theorem ddSmall_any (y : List UInt8) (n : Nat) (w : World) (hn : n < 256) (hy : y.length ≤ 900000) : Calls Tryz.prog 69 #[.agg #[.string (ofL y), .int .i64 0], .int .u8 (n : Int)] w fun e w' => e = .returned (.agg #[.string (ofL (y ++ Oct.be 1 n)), .int .i64 0]) ∧ Below w.heap.size w w' := by
  have HN := Lib.hid (fun W => num_l y n 1 1 W (by omega) (by omega) rfl (by omega))
  have hw : IntKind.u64.wrap (n : Int) = (n : Int) := by rw [IntKind.wrap_u64]; omega
  have HB2 := Lib.hid (rtTwo w (.cells #[.string (ofL y), .int .i64 0] 109) (.cells #[.string ⟨#[]⟩, .int .i64 0] 109))
  have HR2 := Lib.hid (rtAt1 w (.cells #[.string (ofL y), .int .i64 0] 109) #[.string ⟨#[]⟩, .int .i64 0] 109)
  generalize ofL (y ++ Oct.be 1 n) = Y at *
  clear hn hy
  go_enter Tryz.func69, Tryz.ntmps69
  go_wp2_with fail
  refine (HN.out _).mono ?_
  rintro e w3 ⟨rfl, b3⟩
  have HB3 := Lib.hid (bthen HB2.out b3 (Nat.le_refl _))
  have HR3 := Lib.hid (HR2.out.on b3)
  clear b3
  have x0 := HR3.out.cs 0 _ rfl
  have x1 := HR3.out.cs 1 _ rfl
  have xl := HR3.out.lt
  have xf := HR3.out.s
  unfold Soft at xf
  go_wp2_with fail
  have hB := (HB3.out.setCell (p := ⟨w.heap.size + 1, 0, none⟩) (by show w.heap.size ≤ w.heap.size + 1; omega) (.string Y)).setCell (p := ⟨w.heap.size + 1, 1, none⟩) (by show w.heap.size ≤ w.heap.size + 1; omega) (.int .i64 0)
  have hR := (HR3.out.put 0 (.string Y) (by simp)).put 1 (.int .i64 0) (by simp)
  have g0 := hR.cs 0 _ rfl
  have g1 := hR.cs 1 _ rfl
  exact bodyPost_ret (v := .agg #[.string Y, .int .i64 0]) (by simp [results, Tryz.results69, go_sem, g0, g1]) rfl ⟨rfl, hB⟩
set_option maxRecDepth 100000 in
theorem ddYes_1 (y : List UInt8) (w : World) (hy : y.length ≤ 900000) : Calls Tryz.prog 88 #[.agg #[.string (ofL y), .int .i64 0], .bool true] w fun e w' => e = .returned (.agg #[.string (ofL (y ++ Oct.be 1 1)), .int .i64 0]) ∧ Below w.heap.size w w' := by
  have HN := Lib.hid (fun W => ddSmall_any y 1 W (by omega) hy)
  have HB2 := Lib.hid (rtTwo w (.cells #[.string (ofL y), .int .i64 0] 109) (.cells #[.string ⟨#[]⟩, .int .i64 0] 109))
  have HR2 := Lib.hid (rtAt1 w (.cells #[.string (ofL y), .int .i64 0] 109) #[.string ⟨#[]⟩, .int .i64 0] 109)
  generalize ofL (y ++ Oct.be 1 1) = Y at *
  clear hy
  go_enter Tryz.func88, Tryz.ntmps88
  go_wp2_with fail
  refine (HN.out _).mono ?_
  rintro e w3 ⟨rfl, b3⟩
  have HB3 := Lib.hid (bthen HB2.out b3 (Nat.le_refl _))
  have HR3 := Lib.hid (HR2.out.on b3)
  clear b3
  have x0 := HR3.out.cs 0 _ rfl
  have x1 := HR3.out.cs 1 _ rfl
  have xl := HR3.out.lt
  have xf := HR3.out.s
  unfold Soft at xf
  go_wp2_with fail
  have hB := (HB3.out.setCell (p := ⟨w.heap.size + 1, 0, none⟩) (by show w.heap.size ≤ w.heap.size + 1; omega) (.string Y)).setCell (p := ⟨w.heap.size + 1, 1, none⟩) (by show w.heap.size ≤ w.heap.size + 1; omega) (.int .i64 0)
  have hR := (HR3.out.put 0 (.string Y) (by simp)).put 1 (.int .i64 0) (by simp)
  have g0 := hR.cs 0 _ rfl
  have g1 := hR.cs 1 _ rfl
  exact bodyPost_ret (v := .agg #[.string Y, .int .i64 0]) (by simp [results, Tryz.results88, go_sem, g0, g1]) rfl ⟨rfl, hB⟩
set_option maxRecDepth 100000 in
theorem ddYes_0 (y : List UInt8) (w : World) (hy : y.length ≤ 900000) : Calls Tryz.prog 88 #[.agg #[.string (ofL y), .int .i64 0], .bool false] w fun e w' => e = .returned (.agg #[.string (ofL (y ++ Oct.be 1 0)), .int .i64 0]) ∧ Below w.heap.size w w' := by
  have HN := Lib.hid (fun W => ddSmall_any y 0 W (by omega) hy)
  have HB2 := Lib.hid (rtTwo w (.cells #[.string (ofL y), .int .i64 0] 109) (.cells #[.string ⟨#[]⟩, .int .i64 0] 109))
  have HR2 := Lib.hid (rtAt1 w (.cells #[.string (ofL y), .int .i64 0] 109) #[.string ⟨#[]⟩, .int .i64 0] 109)
  generalize ofL (y ++ Oct.be 1 0) = Y at *
  clear hy
  go_enter Tryz.func88, Tryz.ntmps88
  go_wp2_with fail
  refine (HN.out _).mono ?_
  rintro e w3 ⟨rfl, b3⟩
  have HB3 := Lib.hid (bthen HB2.out b3 (Nat.le_refl _))
  have HR3 := Lib.hid (HR2.out.on b3)
  clear b3
  have x0 := HR3.out.cs 0 _ rfl
  have x1 := HR3.out.cs 1 _ rfl
  have xl := HR3.out.lt
  have xf := HR3.out.s
  unfold Soft at xf
  go_wp2_with fail
  have hB := (HB3.out.setCell (p := ⟨w.heap.size + 1, 0, none⟩) (by show w.heap.size ≤ w.heap.size + 1; omega) (.string Y)).setCell (p := ⟨w.heap.size + 1, 1, none⟩) (by show w.heap.size ≤ w.heap.size + 1; omega) (.int .i64 0)
  have hR := (HR3.out.put 0 (.string Y) (by simp)).put 1 (.int .i64 0) (by simp)
  have g0 := hR.cs 0 _ rfl
  have g1 := hR.cs 1 _ rfl
  exact bodyPost_ret (v := .agg #[.string Y, .int .i64 0]) (by simp [results, Tryz.results88, go_sem, g0, g1]) rfl ⟨rfl, hB⟩
def bitN (b : Bool) : Nat := if b then 1 else 0
theorem ddYes_any (y : List UInt8) (b : Bool) (w : World) (hy : y.length ≤ 900000) : Calls Tryz.prog 88 #[.agg #[.string (ofL y), .int .i64 0], .bool b] w fun e w' => e = .returned (.agg #[.string (ofL (y ++ Oct.be 1 (bitN b))), .int .i64 0]) ∧ Below w.heap.size w w' := by
  cases b
  · exact ddYes_0 y w hy
  · exact ddYes_1 y w hy
set_option maxRecDepth 100000 in
set_option maxHeartbeats 4000000 in
theorem ddwMail_any (y : List UInt8) (x : Ml) (B : Option Addr) (d : Nat) (w : World) (h : MaOk w x B d) (hf : Ml.Fits x) (hc : x.code = 0) (he : x.enc.length ≤ 100000) (hy : y.length ≤ 900000) (hL : Len w) : Calls Tryz.prog 73 #[.agg #[.string (ofL y), .int .i64 0], maV x B d] w fun e w' => e = .returned (.agg #[.string (ofL (y ++ x.enc)), .int .i64 0]) ∧ Below w.heap.size w w' := by
  have HMB := Lib.hid (fun W h1 h2 => maBytes_any x B d W h1 hf h2)
  rw [show maBytesV x = .tuple #[.string (ofL x.enc), .int .i64 0] by unfold maBytesV; rw [if_pos hc]] at HMB
  have HRA := Lib.hid (fun W => raw_l y x.enc W (by omega) (by omega))
  have HB3 := Lib.hid (rtThree w (.cells #[.string (ofL y), .int .i64 0] 109) (.cells #[.int .u64 (x.id : Int), .string (ofL x.shop), .string (ofL x.key), .slice B x.head.length d, .string (ofL x.body), .int .u64 (x.due : Int), .int .u8 (x.hops : Int)] 37) (.cells #[.string ⟨#[]⟩, .int .i64 0] 109))
  have HO3 := Lib.hid (rtNext (rtNext (rtAt0 w #[.string (ofL y), .int .i64 0] 109) (.cells #[.int .u64 (x.id : Int), .string (ofL x.shop), .string (ofL x.key), .slice B x.head.length d, .string (ofL x.body), .int .u64 (x.due : Int), .int .u8 (x.hops : Int)] 37)) (.cells #[.string ⟨#[]⟩, .int .i64 0] 109))
  have HR3 := Lib.hid (rtAt2 w (.cells #[.string (ofL y), .int .i64 0] 109) (.cells #[.int .u64 (x.id : Int), .string (ofL x.shop), .string (ofL x.key), .slice B x.head.length d, .string (ofL x.body), .int .u64 (x.due : Int), .int .u8 (x.hops : Int)] 37) #[.string ⟨#[]⟩, .int .i64 0] 109)
  have HOK := Lib.hid (h.on HB3.out)
  have HL3 := Lib.hid (hL.on HB3.out)
  clear h hL hf hc he hy
  generalize ofL (y ++ x.enc) = Y at *
  generalize ofL x.enc = E at *
  simp only [maV] at *
  go_enter Tryz.func73, Tryz.ntmps73
  go_wp2_with fail
  refine (HMB.out _ HOK.out HL3.out).mono ?_
  rintro e w4 ⟨rfl, b4⟩
  have HB4 := Lib.hid (bthen HB3.out b4 (Nat.le_refl _))
  have HO4 := Lib.hid (HO3.out.on b4)
  have HR4 := Lib.hid (HR3.out.on b4)
  clear b4
  have x0 := HO4.out.cs 0 _ rfl
  have x1 := HO4.out.cs 1 _ rfl
  have xl := HO4.out.lt
  go_wp2_with fail
  refine (HRA.out _).mono ?_
  rintro e w5 ⟨rfl, b5⟩
  have HB5 := Lib.hid (bthen HB4.out b5 (Nat.le_refl _))
  have HR5 := Lib.hid (HR4.out.on b5)
  clear b5 x0 x1 xl
  have x0 := HR5.out.cs 0 _ rfl
  have x1 := HR5.out.cs 1 _ rfl
  have xl := HR5.out.lt
  have xf := HR5.out.s
  unfold Soft at xf
  go_wp2_with fail
  have hB := (HB5.out.setCell (p := ⟨w.heap.size + 2, 0, none⟩) (by show w.heap.size ≤ w.heap.size + 2; omega) (.string Y)).setCell (p := ⟨w.heap.size + 2, 1, none⟩) (by show w.heap.size ≤ w.heap.size + 2; omega) (.int .i64 0)
  have hR := (HR5.out.put 0 (.string Y) (by simp)).put 1 (.int .i64 0) (by simp)
  have g0 := hR.cs 0 _ rfl
  have g1 := hR.cs 1 _ rfl
  exact bodyPost_ret (v := .agg #[.string Y, .int .i64 0]) (by simp [results, Tryz.results73, go_sem, g0, g1]) rfl ⟨rfl, hB⟩
end Go.Proofs.YtecjngodfciokaaGreatDoor
end
