/-
  A METHOD's BYTES, as the document has them: walked, class by class of its kinds. A METHOD's BYTES, as the document has them: walked, class by class of its kinds. A METHOD's BYTES, as the document has them: walked, class by class of its kinds.
-/
import Derived.Test.YtnamkglflhkckaaGreatDoorMf15
import Derived.Test.YtnamkglflhkckaaGreatDoorMf17
import Derived.Deep.RegionHeld3
import Derived.Deep.DeepCutAuto
section
namespace Go.Proofs.YtnamkglflhkckaaGreatDoor
open Go.ChangeShapes Go.WideShapes Go.ChangeAt Go.RowKit
set_option maxRecDepth 100000 in
set_option maxHeartbeats 16000000 in
theorem r11Bytes_nno (x : Me) (A : Option Addr) (c : Nat) (w : World) (h : Prs w A x.head) (hf : Me.Fits x) (h0 : x.code = 0) (hk : x.kd.toNat = 3) : Calls Tryz.prog 17 #[meV x A c] w fun e w' => e = .returned (.string (ofL x.enc)) ∧ Below w.heap.size w w' := by
  obtain ⟨-, -, hpc⟩ := Me.code_ok h0
  have ht : Me.tells x.kd.toNat = [0, 5, 1] := by (rw [hk]; rfl)
  rw [ht] at hpc
  have HST := Lib.hid (fun W (hb : Below (w.alloc (.cells #[.int .u8 (x.ch.toNat : Int), .int .u8 (x.kd.toNat : Int), .string (ofL x.name), .string (ofL x.other), .string (ofL x.key), .slice A x.head.length c, .string (ofL x.body), .int .u64 (x.n : Int), .int .u64 (x.m : Int), .bool x.yes] 29)).heap.size (w.alloc (.cells #[.int .u8 (x.ch.toNat : Int), .int .u8 (x.kd.toNat : Int), .string (ofL x.name), .string (ofL x.other), .string (ofL x.key), .slice A x.head.length c, .string (ofL x.body), .int .u64 (x.n : Int), .int .u64 (x.m : Int), .bool x.yes] 29)) W) => MkC.start (w := w) (W := W) (x := x) (A := A) (c := c) h hb #[.bool true, .bool true, .bool true, .bool false, .bool false, .bool false, .bool false, .bool true, .bool false, .bool false] 108)
  have HOF := Lib.hid (fun W => r11Of_any x.kd.toNat (by omega) W)
  rw [show Me.has x.kd.toNat = ⟨true, true, true, false, false, false, false, true, false, false⟩ by (rw [hk]; rfl)] at HOF
  have hE0 : ofL x.enc = ofL (x.enc1 0 ++ (x.enc1 5 ++ (x.enc1 1 ++ []))) := by unfold Me.enc; rw [ht]; rfl
  have l0 : x.name.length ≤ 16 := (Hd.name_ok_len (show Wrd.nameCode x.name = 0 from hpc 0 (by decide))).1
  have l1 : x.other.length ≤ 16 := Me.ocode_len (show x.ocode = 0 from hpc 1 (by decide))
  have HT0 := Lib.hid (fun W => hrtext_l x.name W (by omega))
  have x0 : (ofL (Oct.text x.name)).size ≤ 1100 := by rw [ofL_size]; unfold Oct.text; rw [List.length_append, Oct.length_be]; omega
  have HT5 := Lib.hid (fun W => hrnum_l x.n 8 8 W hf.n (by omega) rfl)
  have x1 : (ofL (Oct.be 8 x.n)).size ≤ 1100 := by rw [ofL_size]; rw [Oct.length_be]; omega
  have HT1 := Lib.hid (fun W => hrtext_l x.other W (by omega))
  have x2 : (ofL (Oct.text x.other)).size ≤ 1100 := by rw [ofL_size]; unfold Oct.text; rw [List.length_append, Oct.length_be]; omega
  rw [show x.enc1 0 = Oct.text x.name from rfl] at hE0
  rw [show x.enc1 5 = Oct.be 8 x.n from rfl] at hE0
  rw [show x.enc1 1 = Oct.text x.other from rfl] at hE0
  obtain ⟨E1, hE1⟩ : ∃ E, (⟨#[]⟩ : ByteArray) ++ ofL (Oct.text x.name) = E := ⟨_, rfl⟩
  have y1 : E1.size ≤ 1100 := by rw [← hE1, ByteArray.size_append]; show (⟨#[]⟩ : ByteArray).size + _ ≤ _; rw [show (⟨#[]⟩ : ByteArray).size = 0 from rfl]; omega
  obtain ⟨E2, hE2⟩ : ∃ E, E1 ++ ofL (Oct.be 8 x.n) = E := ⟨_, rfl⟩
  have y2 : E2.size ≤ 2200 := by rw [← hE2, ByteArray.size_append]; omega
  obtain ⟨E3, hE3⟩ : ∃ E, E2 ++ ofL (Oct.text x.other) = E := ⟨_, rfl⟩
  have y3 : E3.size ≤ 3300 := by rw [← hE3, ByteArray.size_append]; omega
  have HEE := Lib.hid (show ofL x.enc = E3 by
    rw [hE0, ← hE3, ← hE2, ← hE1]
    rw [show (⟨#[]⟩ : ByteArray) = ofL [] from rfl, ofL_app, ofL_app, ofL_app]
    simp [List.append_assoc])
  generalize ofL (Oct.text x.name) = X0 at *
  generalize ofL (Oct.be 8 x.n) = X1 at *
  generalize ofL (Oct.text x.other) = X2 at *
  generalize ofL x.enc = EN at *
  have hp2 := h
  clear h hf h0 hk hpc ht hE0 hp2 l0 l1
  simp only [meV]
  simp only [hasV] at HOF
  go_enter Tryz.func17, Tryz.ntmps17
  go_wp2_with fail
  refine (HOF.out _).mono ?_
  rintro e w1 ⟨rfl, b1⟩
  have HD := Lib.hid (HST.out w1 b1)
  clear b1 HST HOF
  go_upto_if 9 with fail
  generalize w1.alloc (.cells #[.bool true, .bool true, .bool true, .bool false, .bool false, .bool false, .bool false, .bool true, .bool false, .bool false] 108) = w2 at *
  generalize w1.heap.size = g at *
  have c0 := HD.out.p.cs 0 _ rfl
  have c1 := HD.out.p.cs 1 _ rfl
  have c2 := HD.out.p.cs 2 _ rfl
  have c3 := HD.out.p.cs 3 _ rfl
  have c4 := HD.out.p.cs 4 _ rfl
  have c5 := HD.out.p.cs 5 _ rfl
  have c6 := HD.out.p.cs 6 _ rfl
  have c7 := HD.out.p.cs 7 _ rfl
  have c8 := HD.out.p.cs 8 _ rfl
  have c9 := HD.out.p.cs 9 _ rfl
  have cl := HD.out.p.lt
  have h0 : _ = some (Value.bool true) := HD.out.h.cs 0 _ rfl
  have h1 : _ = some (Value.bool true) := HD.out.h.cs 1 _ rfl
  have h2 : _ = some (Value.bool true) := HD.out.h.cs 2 _ rfl
  have h3 : _ = some (Value.bool false) := HD.out.h.cs 3 _ rfl
  have h4 : _ = some (Value.bool false) := HD.out.h.cs 4 _ rfl
  have h5 : _ = some (Value.bool false) := HD.out.h.cs 5 _ rfl
  have h6 : _ = some (Value.bool false) := HD.out.h.cs 6 _ rfl
  have h7 : _ = some (Value.bool true) := HD.out.h.cs 7 _ rfl
  have h8 : _ = some (Value.bool false) := HD.out.h.cs 8 _ rfl
  have h9 : _ = some (Value.bool false) := HD.out.h.cs 9 _ rfl
  have hl := HD.out.h.lt
  go_wp2_with fail
  refine (HT0.out _).mono ?_
  rintro e u11 ⟨rfl, b11⟩
  have HD11 := Lib.hid (HD.out.on b11)
  clear b11 c0 c1 c2 c3 c4 c5 c6 c7 c8 c9 cl h0 h1 h2 h3 h4 h5 h6 h7 h8 h9 hl
  have c0 := HD11.out.p.cs 0 _ rfl
  have c1 := HD11.out.p.cs 1 _ rfl
  have c2 := HD11.out.p.cs 2 _ rfl
  have c3 := HD11.out.p.cs 3 _ rfl
  have c4 := HD11.out.p.cs 4 _ rfl
  have c5 := HD11.out.p.cs 5 _ rfl
  have c6 := HD11.out.p.cs 6 _ rfl
  have c7 := HD11.out.p.cs 7 _ rfl
  have c8 := HD11.out.p.cs 8 _ rfl
  have c9 := HD11.out.p.cs 9 _ rfl
  have cl := HD11.out.p.lt
  have h0 : _ = some (Value.bool true) := HD11.out.h.cs 0 _ rfl
  have h1 : _ = some (Value.bool true) := HD11.out.h.cs 1 _ rfl
  have h2 : _ = some (Value.bool true) := HD11.out.h.cs 2 _ rfl
  have h3 : _ = some (Value.bool false) := HD11.out.h.cs 3 _ rfl
  have h4 : _ = some (Value.bool false) := HD11.out.h.cs 4 _ rfl
  have h5 : _ = some (Value.bool false) := HD11.out.h.cs 5 _ rfl
  have h6 : _ = some (Value.bool false) := HD11.out.h.cs 6 _ rfl
  have h7 : _ = some (Value.bool true) := HD11.out.h.cs 7 _ rfl
  have h8 : _ = some (Value.bool false) := HD11.out.h.cs 8 _ rfl
  have h9 : _ = some (Value.bool false) := HD11.out.h.cs 9 _ rfl
  have hl := HD11.out.h.lt
  go_wp2_with fail
  refine (HT5.out _).mono ?_
  rintro e u12 ⟨rfl, b12⟩
  have HD12 := Lib.hid (HD11.out.on b12)
  clear b12 c0 c1 c2 c3 c4 c5 c6 c7 c8 c9 cl h0 h1 h2 h3 h4 h5 h6 h7 h8 h9 hl
  have c0 := HD12.out.p.cs 0 _ rfl
  have c1 := HD12.out.p.cs 1 _ rfl
  have c2 := HD12.out.p.cs 2 _ rfl
  have c3 := HD12.out.p.cs 3 _ rfl
  have c4 := HD12.out.p.cs 4 _ rfl
  have c5 := HD12.out.p.cs 5 _ rfl
  have c6 := HD12.out.p.cs 6 _ rfl
  have c7 := HD12.out.p.cs 7 _ rfl
  have c8 := HD12.out.p.cs 8 _ rfl
  have c9 := HD12.out.p.cs 9 _ rfl
  have cl := HD12.out.p.lt
  have h0 : _ = some (Value.bool true) := HD12.out.h.cs 0 _ rfl
  have h1 : _ = some (Value.bool true) := HD12.out.h.cs 1 _ rfl
  have h2 : _ = some (Value.bool true) := HD12.out.h.cs 2 _ rfl
  have h3 : _ = some (Value.bool false) := HD12.out.h.cs 3 _ rfl
  have h4 : _ = some (Value.bool false) := HD12.out.h.cs 4 _ rfl
  have h5 : _ = some (Value.bool false) := HD12.out.h.cs 5 _ rfl
  have h6 : _ = some (Value.bool false) := HD12.out.h.cs 6 _ rfl
  have h7 : _ = some (Value.bool true) := HD12.out.h.cs 7 _ rfl
  have h8 : _ = some (Value.bool false) := HD12.out.h.cs 8 _ rfl
  have h9 : _ = some (Value.bool false) := HD12.out.h.cs 9 _ rfl
  have hl := HD12.out.h.lt
  go_wp2_with fail
  refine (HT1.out _).mono ?_
  rintro e u13 ⟨rfl, b13⟩
  have HD13 := Lib.hid (HD12.out.on b13)
  clear b13 c0 c1 c2 c3 c4 c5 c6 c7 c8 c9 cl h0 h1 h2 h3 h4 h5 h6 h7 h8 h9 hl
  have c0 := HD13.out.p.cs 0 _ rfl
  have c1 := HD13.out.p.cs 1 _ rfl
  have c2 := HD13.out.p.cs 2 _ rfl
  have c3 := HD13.out.p.cs 3 _ rfl
  have c4 := HD13.out.p.cs 4 _ rfl
  have c5 := HD13.out.p.cs 5 _ rfl
  have c6 := HD13.out.p.cs 6 _ rfl
  have c7 := HD13.out.p.cs 7 _ rfl
  have c8 := HD13.out.p.cs 8 _ rfl
  have c9 := HD13.out.p.cs 9 _ rfl
  have cl := HD13.out.p.lt
  have h0 : _ = some (Value.bool true) := HD13.out.h.cs 0 _ rfl
  have h1 : _ = some (Value.bool true) := HD13.out.h.cs 1 _ rfl
  have h2 : _ = some (Value.bool true) := HD13.out.h.cs 2 _ rfl
  have h3 : _ = some (Value.bool false) := HD13.out.h.cs 3 _ rfl
  have h4 : _ = some (Value.bool false) := HD13.out.h.cs 4 _ rfl
  have h5 : _ = some (Value.bool false) := HD13.out.h.cs 5 _ rfl
  have h6 : _ = some (Value.bool false) := HD13.out.h.cs 6 _ rfl
  have h7 : _ = some (Value.bool true) := HD13.out.h.cs 7 _ rfl
  have h8 : _ = some (Value.bool false) := HD13.out.h.cs 8 _ rfl
  have h9 : _ = some (Value.bool false) := HD13.out.h.cs 9 _ rfl
  have hl := HD13.out.h.lt
  go_wp2_with fail
  go_ret
  exact ⟨by rw [HEE.out]; first | done | rfl, HD13.out.B⟩
end Go.Proofs.YtnamkglflhkckaaGreatDoor
end
section
namespace Go.Proofs.YtnamkglflhkckaaGreatDoor
open Go.ChangeShapes Go.WideShapes Go.ChangeAt Go.RowKit
set_option maxRecDepth 100000 in
set_option maxHeartbeats 16000000 in
theorem r11Bytes_a (x : Me) (A : Option Addr) (c : Nat) (w : World) (h : Prs w A x.head) (_hf : Me.Fits x) (h0 : x.code = 0) (hk : x.kd.toNat = 4 ∨ x.kd.toNat = 6 ∨ x.kd.toNat = 15) : Calls Tryz.prog 17 #[meV x A c] w fun e w' => e = .returned (.string (ofL x.enc)) ∧ Below w.heap.size w w' := by
  obtain ⟨-, -, hpc⟩ := Me.code_ok h0
  have ht : Me.tells x.kd.toNat = [0] := by rcases hk with hk | hk | hk <;> (rw [hk]; rfl)
  rw [ht] at hpc
  have HST := Lib.hid (fun W (hb : Below (w.alloc (.cells #[.int .u8 (x.ch.toNat : Int), .int .u8 (x.kd.toNat : Int), .string (ofL x.name), .string (ofL x.other), .string (ofL x.key), .slice A x.head.length c, .string (ofL x.body), .int .u64 (x.n : Int), .int .u64 (x.m : Int), .bool x.yes] 29)).heap.size (w.alloc (.cells #[.int .u8 (x.ch.toNat : Int), .int .u8 (x.kd.toNat : Int), .string (ofL x.name), .string (ofL x.other), .string (ofL x.key), .slice A x.head.length c, .string (ofL x.body), .int .u64 (x.n : Int), .int .u64 (x.m : Int), .bool x.yes] 29)) W) => MkC.start (w := w) (W := W) (x := x) (A := A) (c := c) h hb #[.bool true, .bool false, .bool false, .bool false, .bool false, .bool false, .bool false, .bool false, .bool false, .bool false] 108)
  have HOF := Lib.hid (fun W => r11Of_any x.kd.toNat (by omega) W)
  rw [show Me.has x.kd.toNat = ⟨true, false, false, false, false, false, false, false, false, false⟩ by rcases hk with hk | hk | hk <;> (rw [hk]; rfl)] at HOF
  have hE0 : ofL x.enc = ofL (x.enc1 0 ++ []) := by unfold Me.enc; rw [ht]; rfl
  have l0 : x.name.length ≤ 16 := (Hd.name_ok_len (show Wrd.nameCode x.name = 0 from hpc 0 (by decide))).1
  have HT0 := Lib.hid (fun W => hrtext_l x.name W (by omega))
  have x0 : (ofL (Oct.text x.name)).size ≤ 1100 := by rw [ofL_size]; unfold Oct.text; rw [List.length_append, Oct.length_be]; omega
  rw [show x.enc1 0 = Oct.text x.name from rfl] at hE0
  obtain ⟨E1, hE1⟩ : ∃ E, (⟨#[]⟩ : ByteArray) ++ ofL (Oct.text x.name) = E := ⟨_, rfl⟩
  have y1 : E1.size ≤ 1100 := by rw [← hE1, ByteArray.size_append]; show (⟨#[]⟩ : ByteArray).size + _ ≤ _; rw [show (⟨#[]⟩ : ByteArray).size = 0 from rfl]; omega
  have HEE := Lib.hid (show ofL x.enc = E1 by
    rw [hE0, ← hE1]
    rw [show (⟨#[]⟩ : ByteArray) = ofL [] from rfl, ofL_app]
    simp)
  generalize ofL (Oct.text x.name) = X0 at *
  generalize ofL x.enc = EN at *
  have hp2 := h
  clear h _hf h0 hk hpc ht hE0 hp2 l0
  simp only [meV]
  simp only [hasV] at HOF
  go_enter Tryz.func17, Tryz.ntmps17
  go_wp2_with fail
  refine (HOF.out _).mono ?_
  rintro e w1 ⟨rfl, b1⟩
  have HD := Lib.hid (HST.out w1 b1)
  clear b1 HST HOF
  go_upto_if 9 with fail
  generalize w1.alloc (.cells #[.bool true, .bool false, .bool false, .bool false, .bool false, .bool false, .bool false, .bool false, .bool false, .bool false] 108) = w2 at *
  generalize w1.heap.size = g at *
  have c0 := HD.out.p.cs 0 _ rfl
  have c1 := HD.out.p.cs 1 _ rfl
  have c2 := HD.out.p.cs 2 _ rfl
  have c3 := HD.out.p.cs 3 _ rfl
  have c4 := HD.out.p.cs 4 _ rfl
  have c5 := HD.out.p.cs 5 _ rfl
  have c6 := HD.out.p.cs 6 _ rfl
  have c7 := HD.out.p.cs 7 _ rfl
  have c8 := HD.out.p.cs 8 _ rfl
  have c9 := HD.out.p.cs 9 _ rfl
  have cl := HD.out.p.lt
  have h0 : _ = some (Value.bool true) := HD.out.h.cs 0 _ rfl
  have h1 : _ = some (Value.bool false) := HD.out.h.cs 1 _ rfl
  have h2 : _ = some (Value.bool false) := HD.out.h.cs 2 _ rfl
  have h3 : _ = some (Value.bool false) := HD.out.h.cs 3 _ rfl
  have h4 : _ = some (Value.bool false) := HD.out.h.cs 4 _ rfl
  have h5 : _ = some (Value.bool false) := HD.out.h.cs 5 _ rfl
  have h6 : _ = some (Value.bool false) := HD.out.h.cs 6 _ rfl
  have h7 : _ = some (Value.bool false) := HD.out.h.cs 7 _ rfl
  have h8 : _ = some (Value.bool false) := HD.out.h.cs 8 _ rfl
  have h9 : _ = some (Value.bool false) := HD.out.h.cs 9 _ rfl
  have hl := HD.out.h.lt
  go_wp2_with fail
  refine (HT0.out _).mono ?_
  rintro e u11 ⟨rfl, b11⟩
  have HD11 := Lib.hid (HD.out.on b11)
  clear b11 c0 c1 c2 c3 c4 c5 c6 c7 c8 c9 cl h0 h1 h2 h3 h4 h5 h6 h7 h8 h9 hl
  have c0 := HD11.out.p.cs 0 _ rfl
  have c1 := HD11.out.p.cs 1 _ rfl
  have c2 := HD11.out.p.cs 2 _ rfl
  have c3 := HD11.out.p.cs 3 _ rfl
  have c4 := HD11.out.p.cs 4 _ rfl
  have c5 := HD11.out.p.cs 5 _ rfl
  have c6 := HD11.out.p.cs 6 _ rfl
  have c7 := HD11.out.p.cs 7 _ rfl
  have c8 := HD11.out.p.cs 8 _ rfl
  have c9 := HD11.out.p.cs 9 _ rfl
  have cl := HD11.out.p.lt
  have h0 : _ = some (Value.bool true) := HD11.out.h.cs 0 _ rfl
  have h1 : _ = some (Value.bool false) := HD11.out.h.cs 1 _ rfl
  have h2 : _ = some (Value.bool false) := HD11.out.h.cs 2 _ rfl
  have h3 : _ = some (Value.bool false) := HD11.out.h.cs 3 _ rfl
  have h4 : _ = some (Value.bool false) := HD11.out.h.cs 4 _ rfl
  have h5 : _ = some (Value.bool false) := HD11.out.h.cs 5 _ rfl
  have h6 : _ = some (Value.bool false) := HD11.out.h.cs 6 _ rfl
  have h7 : _ = some (Value.bool false) := HD11.out.h.cs 7 _ rfl
  have h8 : _ = some (Value.bool false) := HD11.out.h.cs 8 _ rfl
  have h9 : _ = some (Value.bool false) := HD11.out.h.cs 9 _ rfl
  have hl := HD11.out.h.lt
  go_wp2_with fail
  go_ret
  exact ⟨by rw [HEE.out]; first | done | rfl, HD11.out.B⟩
end Go.Proofs.YtnamkglflhkckaaGreatDoor
end
section
namespace Go.Proofs.YtnamkglflhkckaaGreatDoor
open Go.ChangeShapes Go.WideShapes Go.ChangeAt Go.RowKit
set_option maxRecDepth 100000 in
set_option maxHeartbeats 16000000 in
theorem r11Bytes_nnmo (x : Me) (A : Option Addr) (c : Nat) (w : World) (h : Prs w A x.head) (hf : Me.Fits x) (h0 : x.code = 0) (hk : x.kd.toNat = 5) : Calls Tryz.prog 17 #[meV x A c] w fun e w' => e = .returned (.string (ofL x.enc)) ∧ Below w.heap.size w w' := by
  obtain ⟨-, -, hpc⟩ := Me.code_ok h0
  have ht : Me.tells x.kd.toNat = [0, 5, 6, 1] := by (rw [hk]; rfl)
  rw [ht] at hpc
  have HST := Lib.hid (fun W (hb : Below (w.alloc (.cells #[.int .u8 (x.ch.toNat : Int), .int .u8 (x.kd.toNat : Int), .string (ofL x.name), .string (ofL x.other), .string (ofL x.key), .slice A x.head.length c, .string (ofL x.body), .int .u64 (x.n : Int), .int .u64 (x.m : Int), .bool x.yes] 29)).heap.size (w.alloc (.cells #[.int .u8 (x.ch.toNat : Int), .int .u8 (x.kd.toNat : Int), .string (ofL x.name), .string (ofL x.other), .string (ofL x.key), .slice A x.head.length c, .string (ofL x.body), .int .u64 (x.n : Int), .int .u64 (x.m : Int), .bool x.yes] 29)) W) => MkC.start (w := w) (W := W) (x := x) (A := A) (c := c) h hb #[.bool true, .bool true, .bool true, .bool false, .bool false, .bool false, .bool false, .bool true, .bool true, .bool false] 108)
  have HOF := Lib.hid (fun W => r11Of_any x.kd.toNat (by omega) W)
  rw [show Me.has x.kd.toNat = ⟨true, true, true, false, false, false, false, true, true, false⟩ by (rw [hk]; rfl)] at HOF
  have hE0 : ofL x.enc = ofL (x.enc1 0 ++ (x.enc1 5 ++ (x.enc1 6 ++ (x.enc1 1 ++ [])))) := by unfold Me.enc; rw [ht]; rfl
  have l0 : x.name.length ≤ 16 := (Hd.name_ok_len (show Wrd.nameCode x.name = 0 from hpc 0 (by decide))).1
  have l1 : x.other.length ≤ 16 := Me.ocode_len (show x.ocode = 0 from hpc 1 (by decide))
  have HT0 := Lib.hid (fun W => hrtext_l x.name W (by omega))
  have x0 : (ofL (Oct.text x.name)).size ≤ 1100 := by rw [ofL_size]; unfold Oct.text; rw [List.length_append, Oct.length_be]; omega
  have HT5 := Lib.hid (fun W => hrnum_l x.n 8 8 W hf.n (by omega) rfl)
  have x1 : (ofL (Oct.be 8 x.n)).size ≤ 1100 := by rw [ofL_size]; rw [Oct.length_be]; omega
  have HT6 := Lib.hid (fun W => hrnum_l x.m 8 8 W hf.m (by omega) rfl)
  have x2 : (ofL (Oct.be 8 x.m)).size ≤ 1100 := by rw [ofL_size]; rw [Oct.length_be]; omega
  have HT1 := Lib.hid (fun W => hrtext_l x.other W (by omega))
  have x3 : (ofL (Oct.text x.other)).size ≤ 1100 := by rw [ofL_size]; unfold Oct.text; rw [List.length_append, Oct.length_be]; omega
  rw [show x.enc1 0 = Oct.text x.name from rfl] at hE0
  rw [show x.enc1 5 = Oct.be 8 x.n from rfl] at hE0
  rw [show x.enc1 6 = Oct.be 8 x.m from rfl] at hE0
  rw [show x.enc1 1 = Oct.text x.other from rfl] at hE0
  obtain ⟨E1, hE1⟩ : ∃ E, (⟨#[]⟩ : ByteArray) ++ ofL (Oct.text x.name) = E := ⟨_, rfl⟩
  have y1 : E1.size ≤ 1100 := by rw [← hE1, ByteArray.size_append]; show (⟨#[]⟩ : ByteArray).size + _ ≤ _; rw [show (⟨#[]⟩ : ByteArray).size = 0 from rfl]; omega
  obtain ⟨E2, hE2⟩ : ∃ E, E1 ++ ofL (Oct.be 8 x.n) = E := ⟨_, rfl⟩
  have y2 : E2.size ≤ 2200 := by rw [← hE2, ByteArray.size_append]; omega
  obtain ⟨E3, hE3⟩ : ∃ E, E2 ++ ofL (Oct.be 8 x.m) = E := ⟨_, rfl⟩
  have y3 : E3.size ≤ 3300 := by rw [← hE3, ByteArray.size_append]; omega
  obtain ⟨E4, hE4⟩ : ∃ E, E3 ++ ofL (Oct.text x.other) = E := ⟨_, rfl⟩
  have y4 : E4.size ≤ 4400 := by rw [← hE4, ByteArray.size_append]; omega
  have HEE := Lib.hid (show ofL x.enc = E4 by
    rw [hE0, ← hE4, ← hE3, ← hE2, ← hE1]
    rw [show (⟨#[]⟩ : ByteArray) = ofL [] from rfl, ofL_app, ofL_app, ofL_app, ofL_app]
    simp [List.append_assoc])
  generalize ofL (Oct.text x.name) = X0 at *
  generalize ofL (Oct.be 8 x.n) = X1 at *
  generalize ofL (Oct.be 8 x.m) = X2 at *
  generalize ofL (Oct.text x.other) = X3 at *
  generalize ofL x.enc = EN at *
  have hp2 := h
  clear h hf h0 hk hpc ht hE0 hp2 l0 l1
  simp only [meV]
  simp only [hasV] at HOF
  go_enter Tryz.func17, Tryz.ntmps17
  go_wp2_with fail
  refine (HOF.out _).mono ?_
  rintro e w1 ⟨rfl, b1⟩
  have HD := Lib.hid (HST.out w1 b1)
  clear b1 HST HOF
  go_upto_if 9 with fail
  generalize w1.alloc (.cells #[.bool true, .bool true, .bool true, .bool false, .bool false, .bool false, .bool false, .bool true, .bool true, .bool false] 108) = w2 at *
  generalize w1.heap.size = g at *
  have c0 := HD.out.p.cs 0 _ rfl
  have c1 := HD.out.p.cs 1 _ rfl
  have c2 := HD.out.p.cs 2 _ rfl
  have c3 := HD.out.p.cs 3 _ rfl
  have c4 := HD.out.p.cs 4 _ rfl
  have c5 := HD.out.p.cs 5 _ rfl
  have c6 := HD.out.p.cs 6 _ rfl
  have c7 := HD.out.p.cs 7 _ rfl
  have c8 := HD.out.p.cs 8 _ rfl
  have c9 := HD.out.p.cs 9 _ rfl
  have cl := HD.out.p.lt
  have h0 : _ = some (Value.bool true) := HD.out.h.cs 0 _ rfl
  have h1 : _ = some (Value.bool true) := HD.out.h.cs 1 _ rfl
  have h2 : _ = some (Value.bool true) := HD.out.h.cs 2 _ rfl
  have h3 : _ = some (Value.bool false) := HD.out.h.cs 3 _ rfl
  have h4 : _ = some (Value.bool false) := HD.out.h.cs 4 _ rfl
  have h5 : _ = some (Value.bool false) := HD.out.h.cs 5 _ rfl
  have h6 : _ = some (Value.bool false) := HD.out.h.cs 6 _ rfl
  have h7 : _ = some (Value.bool true) := HD.out.h.cs 7 _ rfl
  have h8 : _ = some (Value.bool true) := HD.out.h.cs 8 _ rfl
  have h9 : _ = some (Value.bool false) := HD.out.h.cs 9 _ rfl
  have hl := HD.out.h.lt
  go_wp2_with fail
  refine (HT0.out _).mono ?_
  rintro e u11 ⟨rfl, b11⟩
  have HD11 := Lib.hid (HD.out.on b11)
  clear b11 c0 c1 c2 c3 c4 c5 c6 c7 c8 c9 cl h0 h1 h2 h3 h4 h5 h6 h7 h8 h9 hl
  have c0 := HD11.out.p.cs 0 _ rfl
  have c1 := HD11.out.p.cs 1 _ rfl
  have c2 := HD11.out.p.cs 2 _ rfl
  have c3 := HD11.out.p.cs 3 _ rfl
  have c4 := HD11.out.p.cs 4 _ rfl
  have c5 := HD11.out.p.cs 5 _ rfl
  have c6 := HD11.out.p.cs 6 _ rfl
  have c7 := HD11.out.p.cs 7 _ rfl
  have c8 := HD11.out.p.cs 8 _ rfl
  have c9 := HD11.out.p.cs 9 _ rfl
  have cl := HD11.out.p.lt
  have h0 : _ = some (Value.bool true) := HD11.out.h.cs 0 _ rfl
  have h1 : _ = some (Value.bool true) := HD11.out.h.cs 1 _ rfl
  have h2 : _ = some (Value.bool true) := HD11.out.h.cs 2 _ rfl
  have h3 : _ = some (Value.bool false) := HD11.out.h.cs 3 _ rfl
  have h4 : _ = some (Value.bool false) := HD11.out.h.cs 4 _ rfl
  have h5 : _ = some (Value.bool false) := HD11.out.h.cs 5 _ rfl
  have h6 : _ = some (Value.bool false) := HD11.out.h.cs 6 _ rfl
  have h7 : _ = some (Value.bool true) := HD11.out.h.cs 7 _ rfl
  have h8 : _ = some (Value.bool true) := HD11.out.h.cs 8 _ rfl
  have h9 : _ = some (Value.bool false) := HD11.out.h.cs 9 _ rfl
  have hl := HD11.out.h.lt
  go_wp2_with fail
  refine (HT5.out _).mono ?_
  rintro e u12 ⟨rfl, b12⟩
  have HD12 := Lib.hid (HD11.out.on b12)
  clear b12 c0 c1 c2 c3 c4 c5 c6 c7 c8 c9 cl h0 h1 h2 h3 h4 h5 h6 h7 h8 h9 hl
  have c0 := HD12.out.p.cs 0 _ rfl
  have c1 := HD12.out.p.cs 1 _ rfl
  have c2 := HD12.out.p.cs 2 _ rfl
  have c3 := HD12.out.p.cs 3 _ rfl
  have c4 := HD12.out.p.cs 4 _ rfl
  have c5 := HD12.out.p.cs 5 _ rfl
  have c6 := HD12.out.p.cs 6 _ rfl
  have c7 := HD12.out.p.cs 7 _ rfl
  have c8 := HD12.out.p.cs 8 _ rfl
  have c9 := HD12.out.p.cs 9 _ rfl
  have cl := HD12.out.p.lt
  have h0 : _ = some (Value.bool true) := HD12.out.h.cs 0 _ rfl
  have h1 : _ = some (Value.bool true) := HD12.out.h.cs 1 _ rfl
  have h2 : _ = some (Value.bool true) := HD12.out.h.cs 2 _ rfl
  have h3 : _ = some (Value.bool false) := HD12.out.h.cs 3 _ rfl
  have h4 : _ = some (Value.bool false) := HD12.out.h.cs 4 _ rfl
  have h5 : _ = some (Value.bool false) := HD12.out.h.cs 5 _ rfl
  have h6 : _ = some (Value.bool false) := HD12.out.h.cs 6 _ rfl
  have h7 : _ = some (Value.bool true) := HD12.out.h.cs 7 _ rfl
  have h8 : _ = some (Value.bool true) := HD12.out.h.cs 8 _ rfl
  have h9 : _ = some (Value.bool false) := HD12.out.h.cs 9 _ rfl
  have hl := HD12.out.h.lt
  go_wp2_with fail
  refine (HT6.out _).mono ?_
  rintro e u13 ⟨rfl, b13⟩
  have HD13 := Lib.hid (HD12.out.on b13)
  clear b13 c0 c1 c2 c3 c4 c5 c6 c7 c8 c9 cl h0 h1 h2 h3 h4 h5 h6 h7 h8 h9 hl
  have c0 := HD13.out.p.cs 0 _ rfl
  have c1 := HD13.out.p.cs 1 _ rfl
  have c2 := HD13.out.p.cs 2 _ rfl
  have c3 := HD13.out.p.cs 3 _ rfl
  have c4 := HD13.out.p.cs 4 _ rfl
  have c5 := HD13.out.p.cs 5 _ rfl
  have c6 := HD13.out.p.cs 6 _ rfl
  have c7 := HD13.out.p.cs 7 _ rfl
  have c8 := HD13.out.p.cs 8 _ rfl
  have c9 := HD13.out.p.cs 9 _ rfl
  have cl := HD13.out.p.lt
  have h0 : _ = some (Value.bool true) := HD13.out.h.cs 0 _ rfl
  have h1 : _ = some (Value.bool true) := HD13.out.h.cs 1 _ rfl
  have h2 : _ = some (Value.bool true) := HD13.out.h.cs 2 _ rfl
  have h3 : _ = some (Value.bool false) := HD13.out.h.cs 3 _ rfl
  have h4 : _ = some (Value.bool false) := HD13.out.h.cs 4 _ rfl
  have h5 : _ = some (Value.bool false) := HD13.out.h.cs 5 _ rfl
  have h6 : _ = some (Value.bool false) := HD13.out.h.cs 6 _ rfl
  have h7 : _ = some (Value.bool true) := HD13.out.h.cs 7 _ rfl
  have h8 : _ = some (Value.bool true) := HD13.out.h.cs 8 _ rfl
  have h9 : _ = some (Value.bool false) := HD13.out.h.cs 9 _ rfl
  have hl := HD13.out.h.lt
  go_wp2_with fail
  refine (HT1.out _).mono ?_
  rintro e u14 ⟨rfl, b14⟩
  have HD14 := Lib.hid (HD13.out.on b14)
  clear b14 c0 c1 c2 c3 c4 c5 c6 c7 c8 c9 cl h0 h1 h2 h3 h4 h5 h6 h7 h8 h9 hl
  have c0 := HD14.out.p.cs 0 _ rfl
  have c1 := HD14.out.p.cs 1 _ rfl
  have c2 := HD14.out.p.cs 2 _ rfl
  have c3 := HD14.out.p.cs 3 _ rfl
  have c4 := HD14.out.p.cs 4 _ rfl
  have c5 := HD14.out.p.cs 5 _ rfl
  have c6 := HD14.out.p.cs 6 _ rfl
  have c7 := HD14.out.p.cs 7 _ rfl
  have c8 := HD14.out.p.cs 8 _ rfl
  have c9 := HD14.out.p.cs 9 _ rfl
  have cl := HD14.out.p.lt
  have h0 : _ = some (Value.bool true) := HD14.out.h.cs 0 _ rfl
  have h1 : _ = some (Value.bool true) := HD14.out.h.cs 1 _ rfl
  have h2 : _ = some (Value.bool true) := HD14.out.h.cs 2 _ rfl
  have h3 : _ = some (Value.bool false) := HD14.out.h.cs 3 _ rfl
  have h4 : _ = some (Value.bool false) := HD14.out.h.cs 4 _ rfl
  have h5 : _ = some (Value.bool false) := HD14.out.h.cs 5 _ rfl
  have h6 : _ = some (Value.bool false) := HD14.out.h.cs 6 _ rfl
  have h7 : _ = some (Value.bool true) := HD14.out.h.cs 7 _ rfl
  have h8 : _ = some (Value.bool true) := HD14.out.h.cs 8 _ rfl
  have h9 : _ = some (Value.bool false) := HD14.out.h.cs 9 _ rfl
  have hl := HD14.out.h.lt
  go_wp2_with fail
  go_ret
  exact ⟨by rw [HEE.out]; first | done | rfl, HD14.out.B⟩
end Go.Proofs.YtnamkglflhkckaaGreatDoor
end
