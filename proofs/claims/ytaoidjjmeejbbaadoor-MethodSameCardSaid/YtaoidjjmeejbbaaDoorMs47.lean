/-
  PLAIN: all frames of bytes, one behind the other; what is kept, and the error; bytes that come in pieces. No program is spoken of here. ROWS OF FRAMES; what a Feed makes of bytes that come: walked. WHAT A FEED MAKES of bytes that come: the program's Take, walked. FEEDS' SMALL CALLS; frames held against frames: walked.
-/
import Derived.Test.YtaoidjjmeejbbaaDoorMs08
import Derived.Test.YtaoidjjmeejbbaaDoorMs43
import Derived.Test.YtaoidjjmeejbbaaDoorMs46
import Derived.Deep.LoopGhost
import Derived.Deep.AppendLies
import Derived.WalkMore
section
namespace Go.Proofs.YtaoidjjmeejbbaaDoor.Fr
structure Frame where
  c : UInt8
  k : UInt8
  b : List UInt8
def front (l : List UInt8) : Frame := ⟨l.getD 0 0, l.getD 1 0, body l⟩
theorem code_zero {l : List UInt8} (h : code l = 0) : len l + 9 ≤ l.length ∧ len l ≤ 2048 := by
  unfold code at h
  split at h
  · cases h
  · split at h
    · cases h
    · split at h
      · cases h
      · omega
def feed (l : List UInt8) : List Frame × List UInt8 × Nat :=
  if h : code l = 0 then (front l :: (feed (l.drop (len l + 9))).1, (feed (l.drop (len l + 9))).2)
  else if code l = 3 then ([], l, 0) else ([], [], code l)
termination_by l.length
decreasing_by
  all_goals
    have := code_zero h
    rw [List.length_drop]
    omega
/-! ### more bytes -/
/-- what a Take does, of what was kept and the error, to bytes that come -/
def take (r : List UInt8) (e : Nat) (l : List UInt8) : List Frame × List UInt8 × Nat := if e ≠ 0 then ([], r, e) else feed (r ++ l)
/-! ### frames that were written -/
end Go.Proofs.YtaoidjjmeejbbaaDoor.Fr
end
section
namespace Go.Proofs.YtaoidjjmeejbbaaDoor
open Go.ChangeShapes Go.WideShapes Go.ChangeAt Go.RowKit
/-! ### frames in memory -/
def frmL (f : Fr.Frame) : List Value := [.int .u8 (f.c.toNat : Int), .int .u8 (f.k.toNat : Int), .string (ofL f.b)]
def fcs (l : List Fr.Frame) : List Value := l.flatMap frmL
def frm (l : List Fr.Frame) (i : Nat) : Fr.Frame := l.getD i ⟨0, 0, []⟩
structure FrmC (w : World) (b o : Nat) (f : Fr.Frame) : Prop where
  c0 : w.cell? ⟨b, o, none⟩ = some (.int .u8 (f.c.toNat : Int))
  c1 : w.cell? ⟨b, o + 1, none⟩ = some (.int .u8 (f.k.toNat : Int))
  c2 : w.cell? ⟨b, o + 2, none⟩ = some (.string (ofL f.b))
structure Frms (w : World) (A : Option Addr) (l : List Fr.Frame) : Prop where
  at_ : ∀ i, i < l.length → ∃ b off, A = some ⟨b, off, none⟩ ∧ b < w.heap.size ∧ FrmC w b (off + i * 3) (frm l i)
theorem FrmC.below {w w' : World} {B b o : Nat} {f : Fr.Frame} (h : FrmC w b o f) (hb : Below B w w') (hB : b < B) : FrmC w' b o f :=
  ⟨(hb.cell (p := ⟨b, o, none⟩) hB).trans h.c0, (hb.cell (p := ⟨b, o + 1, none⟩) hB).trans h.c1, (hb.cell (p := ⟨b, o + 2, none⟩) hB).trans h.c2⟩
theorem Frms.on {w w' : World} {A : Option Addr} {l : List Fr.Frame} (h : Frms w A l) (hb : Below w.heap.size w w') : Frms w' A l := ⟨fun i hi => by
  obtain ⟨b, off, hA, hlt, hat⟩ := h.at_ i hi
  exact ⟨b, off, hA, Nat.lt_of_lt_of_le hlt hb.size, hat.below hb hlt⟩⟩
theorem Frms.nil (w : World) (A : Option Addr) : Frms w A [] := ⟨fun i hi => absurd hi (by simp)⟩
/-- two cells of a block of one's own -/
structure Duo (b : Nat) (x y : Value) (w : World) : Prop where
  c0 : w.cell? ⟨b, 0, none⟩ = some x
  c1 : w.cell? ⟨b, 1, none⟩ = some y
  fz : ∀ j, w.frozen? ⟨b, j, none⟩ = false
theorem Duo.lt {b : Nat} {x y : Value} {w : World} (h : Duo b x y w) : b < w.heap.size := World.block_lt_of_cell? w _ h.c0
theorem Duo.on {b B : Nat} {x y : Value} {w w' : World} (h : Duo b x y w) (hb : Below B w w') (hB : b < B) : Duo b x y w' :=
  ⟨(hb.cell (p := ⟨b, 0, none⟩) hB).trans h.c0, (hb.cell (p := ⟨b, 1, none⟩) hB).trans h.c1, fun j => (hb.frozen (p := ⟨b, j, none⟩) hB).trans (h.fz j)⟩
theorem Duo.new (w : World) (x y : Value) (t : TypeId) : Duo w.heap.size x y (w.alloc (.cells #[x, y] t)) :=
  ⟨cell_new _ _ _ _ _ rfl, cell_new _ _ _ _ _ rfl, fun _ => free_new _ _ _ _ _ rfl⟩

end Go.Proofs.YtaoidjjmeejbbaaDoor
end
section
namespace Go.Proofs.YtaoidjjmeejbbaaDoor
open Go.ChangeShapes Go.WideShapes Go.ChangeAt Go.RowKit
theorem Duo.far {b B : Nat} {x y : Value} {w w' : World} (h : Duo b x y w) (hb : Below B w w') (hB : b < B) : Duo b x y w' := h.on hb hB
/-- what the loop of Take keeps -/
structure TkIn (w : World) (l0 : List UInt8) (fs : List Fr.Frame) (r : List UInt8) (v6 : Value) (wr : World) : Prop where
  own : wr.ownsRow (w.heap.size + 1 + 1) 46 3 v6 fs.length (fcs fs)
  e1 : fs ++ (Fr.feed r).1 = (Fr.feed l0).1
  e2 : (Fr.feed r).2 = (Fr.feed l0).2
  below : Below w.heap.size w wr
  res : Duo (w.heap.size + 1) (.string ⟨#[]⟩) (.int .i64 0) wr
  le : r.length ≤ l0.length
  sz : w.heap.size + 1 + 1 ≤ wr.heap.size
theorem TkIn.on {w : World} {l0 : List UInt8} {fs : List Fr.Frame} {r : List UInt8} {v6 : Value} {wr w' : World} (h : TkIn w l0 fs r v6 wr) (hb : Below wr.heap.size wr w') : TkIn w l0 fs r v6 w' :=
  ⟨Rw.own_on h.own hb, h.e1, h.e2, bthen h.below hb (Nat.le_refl _), h.res.on hb h.res.lt, h.le, Nat.le_trans h.sz hb.size⟩
end Go.Proofs.YtaoidjjmeejbbaaDoor
end
section
namespace Go.Proofs.YtaoidjjmeejbbaaDoor
open Go.ChangeShapes Go.WideShapes Go.ChangeAt Go.RowKit
theorem law7Awake_any (w : World) (hT : Tab w) : Calls Tryd.prog 27 #[] w fun e w' => e = .returned (.bool true) ∧ Below w.heap.size w w' := by
  have H := Lib.hid (frmAwake_any w hT)
  clear hT
  go_enter Tryd.func27, Tryd.ntmps27
  go_wp2_with fail
  refine H.out.mono ?_
  rintro e w1 ⟨rfl, hb⟩
  go_wp2_with fail
  go_ret
  exact ⟨rfl, hb⟩
end Go.Proofs.YtaoidjjmeejbbaaDoor
end
