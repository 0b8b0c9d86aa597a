/-
  THE FRAME THAT BYTES BEGIN WITH: the program's Parse, walked. THE FRAME THAT BYTES BEGIN WITH: the program's Parse, walked. THE FRAME THAT BYTES BEGIN WITH, by the document, walked. FRAMES HELD AGAINST EACH OTHER; the chapter's example; the laws on what is read, what is missing, what is turned: walked. PLAIN: all frames of bytes, one behind the other; what is kept, and the error; bytes that come in pieces. No program is spoken of here. ROWS OF FRAMES; what a Feed makes of bytes that come: walked. WHAT A FEED MAKES of bytes that come: the program's Take, walked. FEEDS' SMALL CALLS; frames held against frames: walked. THE CHAPTER's EXAMPLE (methods); THE LAW MethodSame, walked: whether any two methods are the same; the rule that is in one.
-/
import Derived.Test.YtnamkglflhkckaaGreatDoorMr02
import Derived.Test.YtnamkglflhkckaaGreatDoorMr04
import Derived.Test.YtnamkglflhkckaaGreatDoorMr15
import Derived.Test.YtnamkglflhkckaaGreatDoorMr46
import Derived.Test.YtnamkglflhkckaaGreatDoorMr48
import Derived.Test.YtnamkglflhkckaaGreatDoorMr49
import Derived.StillTailTactics
import Derived.Deep.QuietTactic
import Derived.BigQuiet
import Derived.Laws.StructEq
import Derived.Laws.IdiomStrings
import Derived.Deep.LoopGhost
import Derived.Deep.AppendLies
import Derived.WalkMore
import Derived.Deep.RegionHeld3
import Derived.Deep.DeepCutAuto
section
namespace Go.Proofs.YtnamkglflhkckaaGreatDoor
open Go.ChangeShapes Go.WideShapes Go.ChangeAt Go.RowKit
/-! ### what is read, in lists -/
def rS1 (l : List UInt8) : LSt := lRaw (l, 0) 1
def rS2 (l : List UInt8) : LSt := lRaw (rS1 l) 1
def rS3 (l : List UInt8) : LSt := lText (rS2 l) 2048
def rS4 (l : List UInt8) : LSt := lRaw (rS3 l) 4
theorem ok1 (l : List UInt8) : lOk (rS1 l) := lOk_raw (lOk_new l) 1
theorem ok2 (l : List UInt8) : lOk (rS2 l) := lOk_raw (ok1 l) 1
theorem ok3 (l : List UInt8) : lOk (rS3 l) := lOk_text (ok2 l) 2048
theorem ok4 (l : List UInt8) : lOk (rS4 l) := lOk_raw (ok3 l) 4
end Go.Proofs.YtnamkglflhkckaaGreatDoor
end
section
namespace Go.Proofs.YtnamkglflhkckaaGreatDoor
open Go.ChangeShapes Go.WideShapes Go.ChangeAt Go.RowKit
/-- three cells of a block of one's own -/
structure Tri (b : Nat) (x y z : Value) (w : World) : Prop where
  c0 : w.cell? ⟨b, 0, none⟩ = some x
  c1 : w.cell? ⟨b, 1, none⟩ = some y
  c2 : w.cell? ⟨b, 2, none⟩ = some z
  fz : ∀ j, w.frozen? ⟨b, j, none⟩ = false
theorem Tri.lt {b : Nat} {x y z : Value} {w : World} (h : Tri b x y z w) : b < w.heap.size := World.block_lt_of_cell? w _ h.c0
theorem Tri.new (w : World) (x y z : Value) (t : TypeId) : Tri w.heap.size x y z (w.alloc (.cells #[x, y, z] t)) :=
  ⟨cell_new _ _ _ _ _ rfl, cell_new _ _ _ _ _ rfl, cell_new _ _ _ _ _ rfl, fun _ => free_new _ _ _ _ _ rfl⟩
theorem Tri.far {b g : Nat} {x y z : Value} {w w' : World} (h : Tri b x y z w) (hg : w.grownBy w' (some g)) (hne : b ≠ g) : Tri b x y z w' := by
  have n : some b ≠ some g := by simpa using hne
  exact ⟨hg.cell h.c0 n, hg.cell h.c1 n, hg.cell h.c2 n, fun j => (World.frozen?_of_block (a := ⟨b, j, none⟩) (hg.block b h.lt n)).trans (h.fz j)⟩
theorem Tri.on {b B : Nat} {x y z : Value} {w w' : World} (h : Tri b x y z w) (hb : Below B w w') (hB : b < B) : Tri b x y z w' :=
  ⟨(hb.cell (p := ⟨b, 0, none⟩) hB).trans h.c0, (hb.cell (p := ⟨b, 1, none⟩) hB).trans h.c1, (hb.cell (p := ⟨b, 2, none⟩) hB).trans h.c2, fun j => (hb.frozen (p := ⟨b, j, none⟩) hB).trans (h.fz j)⟩
theorem InL.on {b B : Nat} {s : LSt} {w w' : World} (h : InL b s w) (hb : Below B w w') (hB : b < B) : InL b s w' :=
  ⟨(hb.cell (p := ⟨b, 0, none⟩) hB).trans h.c0, (hb.cell (p := ⟨b, 1, none⟩) hB).trans h.c1, fun j => (hb.frozen (p := ⟨b, j, none⟩) hB).trans (h.fr j), Nat.lt_of_lt_of_le h.lt hb.size⟩

/-- while a frame is read: what is answered lies behind the old blocks, then the reader, then the frame -/
structure PrS (w : World) (s : LSt) (x y z : Value) (wr : World) : Prop where
  inl : InL (w.heap.size + 1) s wr
  res : Tri w.heap.size (.int .u8 0) (.int .u8 0) (.string ⟨#[]⟩) wr
  frm : Tri (w.heap.size + 1 + 1) x y z wr
  below : Below w.heap.size w wr
theorem PrS.call {w : World} {s s' : LSt} {x y z : Value} {wr w' : World} (h : PrS w s x y z wr) (h1 : InL (w.heap.size + 1) s' w') (g : wr.grownBy w' (some (w.heap.size + 1))) : PrS w s' x y z w' :=
  ⟨h1, h.res.far g (by omega), h.frm.far g (by omega), below_in h.below g h.below.size (by omega)⟩
theorem PrS.on {w : World} {s : LSt} {x y z : Value} {wr w' : World} (h : PrS w s x y z wr) (hb : Below wr.heap.size wr w') : PrS w s x y z w' :=
  ⟨h.inl.on hb h.inl.lt, h.res.on hb h.res.lt, h.frm.on hb h.frm.lt, bthen h.below hb (Nat.le_refl _)⟩
theorem PrS.start (w : World) (l : List UInt8) : PrS w (l, 0) (.int .u8 0) (.int .u8 0) (.string ⟨#[]⟩) (((w.alloc (.cells #[.int .u8 0, .int .u8 0, .string ⟨#[]⟩] 32)).alloc (.cells #[.string (ofL l), .int .i64 0] 194)).alloc (.cells #[.int .u8 0, .int .u8 0, .string ⟨#[]⟩] 32)) := by
  have t1 := Tri.new w (.int .u8 0) (.int .u8 0) (.string ⟨#[]⟩) 32
  have b1 : Below w.heap.size w (w.alloc (.cells #[.int .u8 0, .int .u8 0, .string ⟨#[]⟩] 32)) := (Below.refl _ _).alloc (Nat.le_refl _) _
  have e1 : (w.alloc (.cells #[.int .u8 0, .int .u8 0, .string ⟨#[]⟩] 32)).heap.size = w.heap.size + 1 := by simp
  generalize w.alloc (.cells #[.int .u8 0, .int .u8 0, .string ⟨#[]⟩] 32) = w1 at *
  have b2 : Below w1.heap.size w1 (w1.alloc (.cells #[.string (ofL l), .int .i64 0] 194)) := (Below.refl _ _).alloc (Nat.le_refl _) _
  have i2 : InL w1.heap.size (l, 0) (w1.alloc (.cells #[.string (ofL l), .int .i64 0] 194)) := ⟨cell_new _ _ _ _ _ rfl, cell_new _ _ _ _ _ rfl, fun j => free_new _ _ _ _ _ rfl, by simp⟩
  have e2 : (w1.alloc (.cells #[.string (ofL l), .int .i64 0] 194)).heap.size = w.heap.size + 1 + 1 := by simp [e1]
  generalize w1.alloc (.cells #[.string (ofL l), .int .i64 0] 194) = w2 at *
  have t3 := Tri.new w2 (.int .u8 0) (.int .u8 0) (.string ⟨#[]⟩) 32
  have b3 : Below w2.heap.size w2 (w2.alloc (.cells #[.int .u8 0, .int .u8 0, .string ⟨#[]⟩] 32)) := (Below.refl _ _).alloc (Nat.le_refl _) _
  rw [e2] at t3
  rw [e1] at i2
  exact ⟨i2.on b3 (by omega), (t1.on b2 (by omega)).on b3 (by omega), t3, bthen (bthen b1 b2 (Nat.le_refl _)) b3 (Nat.le_refl _)⟩
end Go.Proofs.YtnamkglflhkckaaGreatDoor
end
section
namespace Go.Proofs.YtnamkglflhkckaaGreatDoor
open Go.ChangeShapes Go.WideShapes Go.ChangeAt Go.RowKit
def TriB (w a : World) : Prop := Tri w.heap.size (.int .u8 0) (.int .u8 0) (.string ⟨#[]⟩) a ∧ Below w.heap.size w a
theorem TriB.on {w a a' : World} (h : TriB w a) (hb : Below a.heap.size a a') : TriB w a' := ⟨h.1.on hb h.1.lt, bthen h.2 hb (Nat.le_refl _)⟩
theorem TriB.drew {w a : World} (h : TriB w a) : TriB w a.drew := ⟨⟨h.1.c0, h.1.c1, h.1.c2, h.1.fz⟩, h.2.drew⟩
theorem Tri.drewN {b : Nat} {x y z : Value} {w : World} (h : Tri b x y z w) (n : Nat) : Tri b x y z (w.drewN n) := ⟨h.c0, h.c1, h.c2, h.fz⟩
end Go.Proofs.YtnamkglflhkckaaGreatDoor
end
section
namespace Go.Proofs.YtnamkglflhkckaaGreatDoor
open Go.ChangeShapes Go.WideShapes Go.ChangeAt Go.RowKit
theorem guardF : Tryz.prog.eqGuardType Tryz.prog.depth 32 = false := by kernel_rfl
theorem stoodF : Tryz.prog.stoodInHeld 32 = false := by kernel_rfl
theorem fieldsF : Tryz.prog.fieldsOf 32 = #[⟨"Channel", 5, 0, false, "", "", 0⟩, ⟨"Kind", 5, 1, false, "", "", 1⟩, ⟨"Body", 9, 2, false, "", "", 8⟩] := by kernel_rfl
theorem guardRF : Tryz.prog.eqGuardType Tryz.prog.depth 40 = false := by kernel_rfl
theorem stoodRF : Tryz.prog.stoodInHeld 40 = false := by kernel_rfl
theorem fieldsRF : Tryz.prog.fieldsOf 40 = #[⟨"Channel", 5, 0, false, "", "", 0⟩, ⟨"Kind", 5, 1, false, "", "", 1⟩, ⟨"Body", 9, 2, false, "", "", 8⟩] := by kernel_rfl
def frmEq (a b : Int) (x : ByteArray) (c d : Int) (y : ByteArray) : Bool := (a == c) && (b == d) && (x.toList == y.toList)
theorem frm_eql (a b : Int) (x : ByteArray) (c d : Int) (y : ByteArray) (W : World) : (Op.equalIn 10000 32 (.agg #[.int .u8 a, .int .u8 b, .string x]) (.agg #[.int .u8 c, .int .u8 d, .string y])).run Tryz.prog W = .ok (frmEq a b x c d y) W := by
  rw [run_equalIn_agg (ht := by kernel_rfl) (hp := stoodF), fieldsF]
  simp [Op.eqFields, go_sem, Tryz.underlying5, Tryz.underlying9, frmEq]
  by_cases h1 : a = c <;> by_cases h2 : b = d <;> by_cases h3 : x.toList = y.toList <;> simp [h1, h2, h3]
theorem rfrm_eql (a b : Int) (x : ByteArray) (c d : Int) (y : ByteArray) (W : World) : (Op.equalIn 10000 40 (.agg #[.int .u8 a, .int .u8 b, .string x]) (.agg #[.int .u8 c, .int .u8 d, .string y])).run Tryz.prog W = .ok (frmEq a b x c d y) W := by
  rw [run_equalIn_agg (ht := by kernel_rfl) (hp := stoodRF), fieldsRF]
  simp [Op.eqFields, go_sem, Tryz.underlying5, Tryz.underlying9, frmEq]
  by_cases h1 : a = c <;> by_cases h2 : b = d <;> by_cases h3 : x.toList = y.toList <;> simp [h1, h2, h3]
theorem frmEq_self (a b : Int) (x : ByteArray) : frmEq a b x a b x = true := by simp [frmEq]
attribute [local go_sem ↓] frm_eql rfrm_eql
attribute [local go_sem] guardF guardRF
theorem fsame_any (a b : Int) (x : ByteArray) (c d : Int) (y : ByteArray) (w : World) :
    Calls Tryz.prog 15 #[.agg #[.int .u8 a, .int .u8 b, .string x], .agg #[.int .u8 c, .int .u8 d, .string y]] w fun e w' => e = .returned (.bool (frmEq a b x c d y)) ∧ Below w.heap.size w w' := by
  go_enter Tryz.func15, Tryz.ntmps15
  go_wp2_with fail
  go_ret
  exact ⟨rfl, ((Below.refl _ _).alloc (Nat.le_refl _) _).alloc (by simp) _⟩
theorem law1Awake_any (w : World) : Calls Tryz.prog 164 #[] w fun e w' => e = .returned (.bool true) ∧ Below w.heap.size w w' := by
  have H := Lib.hid (octAwake_any w)
  go_enter Tryz.func164, Tryz.ntmps164
  go_wp2_with fail
  refine H.out.mono ?_
  rintro e w1 ⟨rfl, hb⟩
  go_wp2_with fail
  go_ret
  exact ⟨rfl, hb⟩
theorem law2Awake_any (w : World) (hT : Tab w) : Calls Tryz.prog 165 #[] w fun e w' => e = .returned (.bool true) ∧ Below w.heap.size w w' := by
  have H := Lib.hid (crcAwake_any w hT)
  clear hT
  go_enter Tryz.func165, Tryz.ntmps165
  go_wp2_with fail
  refine H.out.mono ?_
  rintro e w1 ⟨rfl, hb⟩
  go_wp2_with fail
  go_ret
  exact ⟨rfl, hb⟩
set_option maxHeartbeats 1000000 in
theorem frmAwake_any (w : World) (hT : Tab w) : Calls Tryz.prog 113 #[] w fun e w' => e = .returned (.bool true) ∧ Below w.heap.size w w' := by
  have H1 := Lib.hid (fun W h => fbytes_any 1 2 [] W (by decide) h)
  have hv : bytesV 1 2 [] = .tuple #[.string (ofL (Fr.enc 1 2 [])), .int .i64 0] := if_pos (by decide)
  rw [hv, show (((1 : UInt8).toNat : Nat) : Int) = 1 from rfl, show (((2 : UInt8).toNat : Nat) : Int) = 2 from rfl, show ofL [] = ⟨#[]⟩ from rfl] at H1
  have hl : (Fr.enc 1 2 []).length = 9 := Fr.enc_length 1 2 []
  have h8 : (Fr.enc 1 2 []).getD 8 0 = 206 := by
    rw [Fr.enc_form0]
    exact Fr.form_end (Oct.length_be _ _)
  have hx := fun W => idx_l (P := Tryz.prog) Tryz.underlying9 (Fr.enc 1 2 []) .i64 8 8 rfl (by omega) W
  rw [h8, show (((206 : UInt8).toNat : Nat) : Int) = 206 from rfl] at hx
  have hz : (ofL (Fr.enc 1 2 [])).size = 9 := by rw [ofL_size]; exact hl
  generalize Fr.enc 1 2 [] = E at *
  have HT := Lib.hid hT
  clear hv hl h8 hT
  go_enter Tryz.func113, Tryz.ntmps113
  go_wp2_with fail
  refine (H1.out _ HT.out).mono ?_
  rintro e w1 ⟨rfl, b1⟩
  have HT1 := Lib.hid (HT.out.below b1 HT.out.pos)
  have B1 := Lib.hid b1
  clear b1
  go_wp2_with fail
  refine (law1Awake_any _).mono ?_
  rintro e w2 ⟨rfl, b2⟩
  have HT2 := Lib.hid (HT1.out.below b2 HT1.out.pos)
  have B2 := Lib.hid (bthen B1.out b2 (Nat.le_refl _))
  clear b2
  go_wp2_with fail
  refine (law2Awake_any _ HT2.out).mono ?_
  rintro e w3 ⟨rfl, b3⟩
  have B3 := Lib.hid (bthen B2.out b3 (Nat.le_refl _))
  clear b3
  go_wp2_with fail
  go_ret
  exact ⟨rfl, B3.out⟩
end Go.Proofs.YtnamkglflhkckaaGreatDoor
end
section
namespace Go.Proofs.YtnamkglflhkckaaGreatDoor.Fr
structure Frame where
  c : UInt8
  k : UInt8
  b : List UInt8
def front (l : List UInt8) : Frame := ⟨l.getD 0 0, l.getD 1 0, body l⟩
theorem code_zero {l : List UInt8} (h : code l = 0) : len l + 9 ≤ l.length ∧ len l ≤ 2048 := by
  unfold code at h
  split at h
  · cases h
  · split at h
    · cases h
    · split at h
      · cases h
      · omega
def feed (l : List UInt8) : List Frame × List UInt8 × Nat :=
  if h : code l = 0 then (front l :: (feed (l.drop (len l + 9))).1, (feed (l.drop (len l + 9))).2)
  else if code l = 3 then ([], l, 0) else ([], [], code l)
termination_by l.length
decreasing_by
  all_goals
    have := code_zero h
    rw [List.length_drop]
    omega
/-! ### more bytes -/
/-- what a Take does, of what was kept and the error, to bytes that come -/
def take (r : List UInt8) (e : Nat) (l : List UInt8) : List Frame × List UInt8 × Nat := if e ≠ 0 then ([], r, e) else feed (r ++ l)
/-! ### frames that were written -/
end Go.Proofs.YtnamkglflhkckaaGreatDoor.Fr
end
section
namespace Go.Proofs.YtnamkglflhkckaaGreatDoor
open Go.ChangeShapes Go.WideShapes Go.ChangeAt Go.RowKit
/-! ### frames in memory -/
def frmL (f : Fr.Frame) : List Value := [.int .u8 (f.c.toNat : Int), .int .u8 (f.k.toNat : Int), .string (ofL f.b)]
def fcs (l : List Fr.Frame) : List Value := l.flatMap frmL
def frm (l : List Fr.Frame) (i : Nat) : Fr.Frame := l.getD i ⟨0, 0, []⟩
structure FrmC (w : World) (b o : Nat) (f : Fr.Frame) : Prop where
  c0 : w.cell? ⟨b, o, none⟩ = some (.int .u8 (f.c.toNat : Int))
  c1 : w.cell? ⟨b, o + 1, none⟩ = some (.int .u8 (f.k.toNat : Int))
  c2 : w.cell? ⟨b, o + 2, none⟩ = some (.string (ofL f.b))
structure Frms (w : World) (A : Option Addr) (l : List Fr.Frame) : Prop where
  at_ : ∀ i, i < l.length → ∃ b off, A = some ⟨b, off, none⟩ ∧ b < w.heap.size ∧ FrmC w b (off + i * 3) (frm l i)
theorem FrmC.below {w w' : World} {B b o : Nat} {f : Fr.Frame} (h : FrmC w b o f) (hb : Below B w w') (hB : b < B) : FrmC w' b o f :=
  ⟨(hb.cell (p := ⟨b, o, none⟩) hB).trans h.c0, (hb.cell (p := ⟨b, o + 1, none⟩) hB).trans h.c1, (hb.cell (p := ⟨b, o + 2, none⟩) hB).trans h.c2⟩
theorem Frms.on {w w' : World} {A : Option Addr} {l : List Fr.Frame} (h : Frms w A l) (hb : Below w.heap.size w w') : Frms w' A l := ⟨fun i hi => by
  obtain ⟨b, off, hA, hlt, hat⟩ := h.at_ i hi
  exact ⟨b, off, hA, Nat.lt_of_lt_of_le hlt hb.size, hat.below hb hlt⟩⟩
theorem Frms.nil (w : World) (A : Option Addr) : Frms w A [] := ⟨fun i hi => absurd hi (by simp)⟩
/-- two cells of a block of one's own -/
structure Duo (b : Nat) (x y : Value) (w : World) : Prop where
  c0 : w.cell? ⟨b, 0, none⟩ = some x
  c1 : w.cell? ⟨b, 1, none⟩ = some y
  fz : ∀ j, w.frozen? ⟨b, j, none⟩ = false
theorem Duo.lt {b : Nat} {x y : Value} {w : World} (h : Duo b x y w) : b < w.heap.size := World.block_lt_of_cell? w _ h.c0
theorem Duo.on {b B : Nat} {x y : Value} {w w' : World} (h : Duo b x y w) (hb : Below B w w') (hB : b < B) : Duo b x y w' :=
  ⟨(hb.cell (p := ⟨b, 0, none⟩) hB).trans h.c0, (hb.cell (p := ⟨b, 1, none⟩) hB).trans h.c1, fun j => (hb.frozen (p := ⟨b, j, none⟩) hB).trans (h.fz j)⟩
theorem Duo.new (w : World) (x y : Value) (t : TypeId) : Duo w.heap.size x y (w.alloc (.cells #[x, y] t)) :=
  ⟨cell_new _ _ _ _ _ rfl, cell_new _ _ _ _ _ rfl, fun _ => free_new _ _ _ _ _ rfl⟩

end Go.Proofs.YtnamkglflhkckaaGreatDoor
end
section
namespace Go.Proofs.YtnamkglflhkckaaGreatDoor
open Go.ChangeShapes Go.WideShapes Go.ChangeAt Go.RowKit
theorem Duo.far {b B : Nat} {x y : Value} {w w' : World} (h : Duo b x y w) (hb : Below B w w') (hB : b < B) : Duo b x y w' := h.on hb hB
/-- what the loop of Take keeps -/
structure TkIn (w : World) (l0 : List UInt8) (fs : List Fr.Frame) (r : List UInt8) (v6 : Value) (wr : World) : Prop where
  own : wr.ownsRow (w.heap.size + 1 + 1) 32 3 v6 fs.length (fcs fs)
  e1 : fs ++ (Fr.feed r).1 = (Fr.feed l0).1
  e2 : (Fr.feed r).2 = (Fr.feed l0).2
  below : Below w.heap.size w wr
  res : Duo (w.heap.size + 1) (.string ⟨#[]⟩) (.int .i64 0) wr
  le : r.length ≤ l0.length
  sz : w.heap.size + 1 + 1 ≤ wr.heap.size
theorem TkIn.on {w : World} {l0 : List UInt8} {fs : List Fr.Frame} {r : List UInt8} {v6 : Value} {wr w' : World} (h : TkIn w l0 fs r v6 wr) (hb : Below wr.heap.size wr w') : TkIn w l0 fs r v6 w' :=
  ⟨Rw.own_on h.own hb, h.e1, h.e2, bthen h.below hb (Nat.le_refl _), h.res.on hb h.res.lt, h.le, Nat.le_trans h.sz hb.size⟩
end Go.Proofs.YtnamkglflhkckaaGreatDoor
end
section
namespace Go.Proofs.YtnamkglflhkckaaGreatDoor
open Go.ChangeShapes Go.WideShapes Go.ChangeAt Go.RowKit
attribute [local go_sem ↓] frm_eql rfrm_eql
attribute [local go_sem] guardF guardRF
theorem law7Awake_any (w : World) (hT : Tab w) : Calls Tryz.prog 47 #[] w fun e w' => e = .returned (.bool true) ∧ Below w.heap.size w w' := by
  have H := Lib.hid (frmAwake_any w hT)
  clear hT
  go_enter Tryz.func47, Tryz.ntmps47
  go_wp2_with fail
  refine H.out.mono ?_
  rintro e w1 ⟨rfl, hb⟩
  go_wp2_with fail
  go_ret
  exact ⟨rfl, hb⟩
end Go.Proofs.YtnamkglflhkckaaGreatDoor
end
section
namespace Go.Proofs.YtnamkglflhkckaaGreatDoor
open Go.ChangeShapes Go.WideShapes Go.ChangeAt Go.RowKit
theorem me_law10_any (w : World) (hL : Len w) : Calls Tryz.prog 48 #[] w fun e w' => e = .returned (.bool true) ∧ Below w.heap.size w w' := by
  have HA := Lib.hid (awake10_any w hL)
  go_enter Tryz.func48, Tryz.ntmps48
  go_wp2_with fail
  refine HA.out.mono ?_
  rintro x w1 ⟨rfl, b1⟩
  have B1 := Lib.hid b1
  clear b1
  go_wp2_with fail
  go_ret
  exact ⟨rfl, B1.out⟩
def exO : Me := Me.zero 1 1
theorem exO_frame (w : World) (hL : Len w) : Calls Tryz.prog 13 #[.agg #[.int .u8 1, .int .u8 1, .string ⟨#[]⟩, .string ⟨#[]⟩, .string ⟨#[]⟩, .slice none 0 0, .string ⟨#[]⟩, .int .u64 0, .int .u64 0, .bool false]] w fun e w' => e = .returned (.tuple #[.agg #[.int .u8 1, .int .u8 1, .string ⟨#[]⟩], .int .i64 0]) ∧ Below w.heap.size w w' := by
  have h := me_Frame_any exO none 0 w ⟨Nat.zero_le _, Nat.zero_le _, Nat.zero_le _, Nat.zero_le _, Nat.zero_le _, Nat.le_refl _, lite_nil, Prs.nil _ _⟩ ⟨(by decide : (0 : Nat) < 18446744073709551616), (by decide : (0 : Nat) < 18446744073709551616), fun p hp => by simp [exO, Me.zero] at hp⟩ hL
  rw [show meFrameV exO = .tuple #[.agg #[.int .u8 1, .int .u8 1, .string ⟨#[]⟩], .int .i64 0] from by
    unfold meFrameV
    rw [if_pos (show exO.code = 0 by decide)]
    rfl] at h
  exact h
set_option maxHeartbeats 2000000 in
theorem awake11_any (w : World) (hT : Tab w) (hL : Len w) : Calls Tryz.prog 9 #[] w fun e w' => e = .returned (.bool true) ∧ Below w.heap.size w w' := by
  have HF := Lib.hid (exO_frame w hL)
  have HLL := Lib.hid hL
  have HTT := Lib.hid hT
  have HE := Lib.hid (fun W h => law7Awake_any W h)
  have HN := Lib.hid (fun W h => me_law10_any W h)
  clear hL hT
  go_enter Tryz.func9, Tryz.ntmps9
  go_wp2_with fail
  refine HF.out.mono ?_
  rintro e w1 ⟨rfl, b1⟩
  have HB2 := Lib.hid (show Below w.heap.size w (w1.alloc (.cells #[.int .u8 1, .int .u8 1, .string ⟨#[]⟩] 32)) from b1.alloc b1.size _)
  have HC2 := Lib.hid (Cels.new w1 #[.int .u8 1, .int .u8 1, .string ⟨#[]⟩] 32)
  have HT2 := Lib.hid (HTT.out.below HB2.out HTT.out.pos)
  have HL2 := Lib.hid (HLL.out.on HB2.out)
  clear b1 HF
  go_wp2_with fail
  generalize w1.alloc (.cells #[.int .u8 1, .int .u8 1, .string ⟨#[]⟩] 32) = w2 at *
  have hlt2 : w1.heap.size < w2.heap.size := World.block_lt_of_cell? w2 _ (HC2.out 0 _ rfl)
  refine (HE.out _ HT2.out).mono ?_
  rintro e w3 ⟨rfl, b3⟩
  have HB3 := Lib.hid (bthen HB2.out b3 (Nat.le_refl _))
  have HL3 := Lib.hid (HL2.out.on b3)
  have HC3 := Lib.hid (HC2.out.on b3 hlt2)
  have hlt3 : w1.heap.size < w3.heap.size := Nat.lt_of_lt_of_le hlt2 b3.size
  clear b3
  go_wp2_with fail
  refine (HN.out _ HL3.out).mono ?_
  rintro e w4 ⟨rfl, b4⟩
  have HB4 := Lib.hid (bthen HB3.out b4 (Nat.le_refl _))
  have HC4 := Lib.hid (HC3.out.on b4 hlt3)
  have hlt4 : w1.heap.size < w4.heap.size := Nat.lt_of_lt_of_le hlt3 b4.size
  clear b4
  have c0 := HC4.out 0 _ rfl
  have c1 := HC4.out 1 _ rfl
  have c2 := HC4.out 2 _ rfl
  go_wp2_with fail
  go_ret
  exact ⟨rfl, HB4.out⟩
/-- the law's two boxes, the rows of its methods -/
structure MeSa (w : World) (x : Me) (A : Option Addr) (c : Nat) (y : Me) (B : Option Addr) (d : Nat) (W : World) : Prop where
  p : BoxC w w.heap.size (meL x A c) W
  q : BoxC w (w.heap.size + 1) (meL y B d) W
  ra : Prs W A x.head
  rb : Prs W B y.head
  B : Below w.heap.size w W
theorem MeSa.on {w : World} {x : Me} {A : Option Addr} {c : Nat} {y : Me} {B : Option Addr} {d : Nat} {W W' : World} (h : MeSa w x A c y B d W) (hb : Below W.heap.size W W') : MeSa w x A c y B d W' :=
  ⟨h.p.on hb, h.q.on hb, h.ra.on hb, h.rb.on hb, bthen h.B hb (Nat.le_refl _)⟩
theorem MeSa.start (w : World) (x : Me) (A : Option Addr) (c : Nat) (y : Me) (B : Option Addr) (d : Nat) (hA : Prs w A x.head) (hB : Prs w B y.head) : MeSa w x A c y B d ((w.alloc (.cells #[.int .u8 (x.ch.toNat : Int), .int .u8 (x.kd.toNat : Int), .string (ofL x.name), .string (ofL x.other), .string (ofL x.key), .slice A x.head.length c, .string (ofL x.body), .int .u64 (x.n : Int), .int .u64 (x.m : Int), .bool x.yes] 25)).alloc (.cells #[.int .u8 (y.ch.toNat : Int), .int .u8 (y.kd.toNat : Int), .string (ofL y.name), .string (ofL y.other), .string (ofL y.key), .slice B y.head.length d, .string (ofL y.body), .int .u64 (y.n : Int), .int .u64 (y.m : Int), .bool y.yes] 25)) := by
  have h1 : BoxC w w.heap.size (meL x A c) (w.alloc (.cells #[.int .u8 (x.ch.toNat : Int), .int .u8 (x.kd.toNat : Int), .string (ofL x.name), .string (ofL x.other), .string (ofL x.key), .slice A x.head.length c, .string (ofL x.body), .int .u64 (x.n : Int), .int .u64 (x.m : Int), .bool x.yes] 25)) := BoxC.new (Nat.le_refl _) #[.int .u8 (x.ch.toNat : Int), .int .u8 (x.kd.toNat : Int), .string (ofL x.name), .string (ofL x.other), .string (ofL x.key), .slice A x.head.length c, .string (ofL x.body), .int .u64 (x.n : Int), .int .u64 (x.m : Int), .bool x.yes] 25
  have h2 : BoxC w (w.heap.size + 1) (meL y B d) ((w.alloc (.cells #[.int .u8 (x.ch.toNat : Int), .int .u8 (x.kd.toNat : Int), .string (ofL x.name), .string (ofL x.other), .string (ofL x.key), .slice A x.head.length c, .string (ofL x.body), .int .u64 (x.n : Int), .int .u64 (x.m : Int), .bool x.yes] 25)).alloc (.cells #[.int .u8 (y.ch.toNat : Int), .int .u8 (y.kd.toNat : Int), .string (ofL y.name), .string (ofL y.other), .string (ofL y.key), .slice B y.head.length d, .string (ofL y.body), .int .u64 (y.n : Int), .int .u64 (y.m : Int), .bool y.yes] 25)) := by
    have := BoxC.new (w := w) (W := (w.alloc (.cells #[.int .u8 (x.ch.toNat : Int), .int .u8 (x.kd.toNat : Int), .string (ofL x.name), .string (ofL x.other), .string (ofL x.key), .slice A x.head.length c, .string (ofL x.body), .int .u64 (x.n : Int), .int .u64 (x.m : Int), .bool x.yes] 25))) (by simp) #[.int .u8 (y.ch.toNat : Int), .int .u8 (y.kd.toNat : Int), .string (ofL y.name), .string (ofL y.other), .string (ofL y.key), .slice B y.head.length d, .string (ofL y.body), .int .u64 (y.n : Int), .int .u64 (y.m : Int), .bool y.yes] 25
    simpa [meL] using this
  have hb0 : Below w.heap.size w (w.alloc (.cells #[.int .u8 (x.ch.toNat : Int), .int .u8 (x.kd.toNat : Int), .string (ofL x.name), .string (ofL x.other), .string (ofL x.key), .slice A x.head.length c, .string (ofL x.body), .int .u64 (x.n : Int), .int .u64 (x.m : Int), .bool x.yes] 25)) := (Below.refl _ _).alloc (Nat.le_refl _) _
  have hb : Below (w.alloc (.cells #[.int .u8 (x.ch.toNat : Int), .int .u8 (x.kd.toNat : Int), .string (ofL x.name), .string (ofL x.other), .string (ofL x.key), .slice A x.head.length c, .string (ofL x.body), .int .u64 (x.n : Int), .int .u64 (x.m : Int), .bool x.yes] 25)).heap.size (w.alloc (.cells #[.int .u8 (x.ch.toNat : Int), .int .u8 (x.kd.toNat : Int), .string (ofL x.name), .string (ofL x.other), .string (ofL x.key), .slice A x.head.length c, .string (ofL x.body), .int .u64 (x.n : Int), .int .u64 (x.m : Int), .bool x.yes] 25)) ((w.alloc (.cells #[.int .u8 (x.ch.toNat : Int), .int .u8 (x.kd.toNat : Int), .string (ofL x.name), .string (ofL x.other), .string (ofL x.key), .slice A x.head.length c, .string (ofL x.body), .int .u64 (x.n : Int), .int .u64 (x.m : Int), .bool x.yes] 25)).alloc (.cells #[.int .u8 (y.ch.toNat : Int), .int .u8 (y.kd.toNat : Int), .string (ofL y.name), .string (ofL y.other), .string (ofL y.key), .slice B y.head.length d, .string (ofL y.body), .int .u64 (y.n : Int), .int .u64 (y.m : Int), .bool y.yes] 25)) := (Below.refl _ _).alloc (Nat.le_refl _) _
  exact ⟨h1.on hb, h2, (hA.on hb0).on hb, (hB.on hb0).on hb, bthen hb0 hb (Nat.le_refl _)⟩
/-- the rule's box with them -/
structure MeSb (w : World) (x : Me) (A : Option Addr) (c : Nat) (y : Me) (B : Option Addr) (d : Nat) (s g : Nat) (W : World) : Prop where
  m : MeSa w x A c y B d W
  r : BoxC w g [.int .u8 (s : Int), .string (ofL x.key), .slice A x.head.length c, .bool x.yes] W
theorem MeSb.on {w : World} {x : Me} {A : Option Addr} {c : Nat} {y : Me} {B : Option Addr} {d : Nat} {s g : Nat} {W W' : World} (h : MeSb w x A c y B d s g W) (hb : Below W.heap.size W W') : MeSb w x A c y B d s g W' := ⟨h.m.on hb, h.r.on hb⟩
theorem MeSa.more {w : World} {x : Me} {A : Option Addr} {c : Nat} {y : Me} {B : Option Addr} {d : Nat} {W : World} (h : MeSa w x A c y B d W) (s : Nat) : MeSb w x A c y B d s W.heap.size (W.alloc (.cells #[.int .u8 (s : Int), .string (ofL x.key), .slice A x.head.length c, .bool x.yes] 215)) :=
  ⟨h.on ((Below.refl _ _).alloc (Nat.le_refl _) _), BoxC.new h.B.size #[.int .u8 (s : Int), .string (ofL x.key), .slice A x.head.length c, .bool x.yes] 215⟩
abbrev MeSbS (w : World) (x : Me) (A : Option Addr) (c : Nat) (y : Me) (B : Option Addr) (d : Nat) (s g : Nat) (W : World) : Prop :=
  ((W.cell? ⟨w.heap.size, 0, none⟩ = some (.int .u8 (x.ch.toNat : Int)) ∧ W.cell? ⟨w.heap.size, 1, none⟩ = some (.int .u8 (x.kd.toNat : Int)) ∧ W.cell? ⟨w.heap.size, 2, none⟩ = some (.string (ofL x.name)) ∧ W.cell? ⟨w.heap.size, 3, none⟩ = some (.string (ofL x.other)) ∧ W.cell? ⟨w.heap.size, 4, none⟩ = some (.string (ofL x.key)) ∧ W.cell? ⟨w.heap.size, 5, none⟩ = some (.slice A x.head.length c) ∧ W.cell? ⟨w.heap.size, 6, none⟩ = some (.string (ofL x.body)) ∧ W.cell? ⟨w.heap.size, 7, none⟩ = some (.int .u64 (x.n : Int)) ∧ W.cell? ⟨w.heap.size, 8, none⟩ = some (.int .u64 (x.m : Int)) ∧ W.cell? ⟨w.heap.size, 9, none⟩ = some (.bool x.yes)) ∧ w.heap.size < W.heap.size ∧ (W.cell? ⟨w.heap.size + 1, 0, none⟩ = some (.int .u8 (y.ch.toNat : Int)) ∧ W.cell? ⟨w.heap.size + 1, 1, none⟩ = some (.int .u8 (y.kd.toNat : Int)) ∧ W.cell? ⟨w.heap.size + 1, 2, none⟩ = some (.string (ofL y.name)) ∧ W.cell? ⟨w.heap.size + 1, 3, none⟩ = some (.string (ofL y.other)) ∧ W.cell? ⟨w.heap.size + 1, 4, none⟩ = some (.string (ofL y.key)) ∧ W.cell? ⟨w.heap.size + 1, 5, none⟩ = some (.slice B y.head.length d) ∧ W.cell? ⟨w.heap.size + 1, 6, none⟩ = some (.string (ofL y.body)) ∧ W.cell? ⟨w.heap.size + 1, 7, none⟩ = some (.int .u64 (y.n : Int)) ∧ W.cell? ⟨w.heap.size + 1, 8, none⟩ = some (.int .u64 (y.m : Int)) ∧ W.cell? ⟨w.heap.size + 1, 9, none⟩ = some (.bool y.yes)) ∧ w.heap.size + 1 < W.heap.size ∧ (W.cell? ⟨g, 0, none⟩ = some (.int .u8 (s : Int)) ∧ W.cell? ⟨g, 1, none⟩ = some (.string (ofL x.key)) ∧ W.cell? ⟨g, 2, none⟩ = some (.slice A x.head.length c) ∧ W.cell? ⟨g, 3, none⟩ = some (.bool x.yes)) ∧ g < W.heap.size) ∧ MeSb w x A c y B d s g W
theorem MeSb.s {w : World} {x : Me} {A : Option Addr} {c : Nat} {y : Me} {B : Option Addr} {d : Nat} {s g : Nat} {W : World} (h : MeSb w x A c y B d s g W) : MeSbS w x A c y B d s g W :=
  ⟨⟨⟨h.m.p.cs 0 _ rfl, h.m.p.cs 1 _ rfl, h.m.p.cs 2 _ rfl, h.m.p.cs 3 _ rfl, h.m.p.cs 4 _ rfl, h.m.p.cs 5 _ rfl, h.m.p.cs 6 _ rfl, h.m.p.cs 7 _ rfl, h.m.p.cs 8 _ rfl, h.m.p.cs 9 _ rfl⟩, h.m.p.lt, ⟨h.m.q.cs 0 _ rfl, h.m.q.cs 1 _ rfl, h.m.q.cs 2 _ rfl, h.m.q.cs 3 _ rfl, h.m.q.cs 4 _ rfl, h.m.q.cs 5 _ rfl, h.m.q.cs 6 _ rfl, h.m.q.cs 7 _ rfl, h.m.q.cs 8 _ rfl, h.m.q.cs 9 _ rfl⟩, h.m.q.lt, ⟨h.r.cs 0 _ rfl, h.r.cs 1 _ rfl, h.r.cs 2 _ rfl, h.r.cs 3 _ rfl⟩, h.r.lt⟩, h⟩
theorem MeSbS.on {w : World} {x : Me} {A : Option Addr} {c : Nat} {y : Me} {B : Option Addr} {d : Nat} {s g : Nat} {W W' : World} (h : MeSbS w x A c y B d s g W) (hb : Below W.heap.size W W') : MeSbS w x A c y B d s g W' := (h.2.on hb).s
end Go.Proofs.YtnamkglflhkckaaGreatDoor
end
