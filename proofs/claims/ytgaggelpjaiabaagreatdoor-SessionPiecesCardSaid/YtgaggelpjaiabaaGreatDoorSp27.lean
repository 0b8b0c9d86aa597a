/-
  THE FRAME THAT BYTES BEGIN WITH, by the document, walked. FRAMES HELD AGAINST EACH OTHER; the chapter's example; the laws on what is read, what is missing, what is turned: walked. PLAIN: all frames of bytes, one behind the other; what is kept, and the error; bytes that come in pieces. No program is spoken of here. ROWS OF FRAMES; what a Feed makes of bytes that come: walked. WHAT A FEED MAKES of bytes that come: the program's Take, walked.
-/
import Derived.Test.YtgaggelpjaiabaaGreatDoorSp02
import Derived.Test.YtgaggelpjaiabaaGreatDoorSp04
import Derived.Test.YtgaggelpjaiabaaGreatDoorSp24
import Derived.Test.YtgaggelpjaiabaaGreatDoorSp26
import Derived.Deep.QuietTactic
import Derived.BigQuiet
import Derived.Laws.StructEq
import Derived.Laws.IdiomStrings
import Derived.Deep.LoopGhost
import Derived.Deep.AppendLies
import Derived.WalkMore
section
namespace Go.Proofs.YtgaggelpjaiabaaGreatDoor
open Go.ChangeShapes Go.WideShapes Go.ChangeAt Go.RowKit
def TriB (w a : World) : Prop := Tri w.heap.size (.int .u8 0) (.int .u8 0) (.string ⟨#[]⟩) a ∧ Below w.heap.size w a
theorem TriB.on {w a a' : World} (h : TriB w a) (hb : Below a.heap.size a a') : TriB w a' := ⟨h.1.on hb h.1.lt, bthen h.2 hb (Nat.le_refl _)⟩
theorem TriB.drew {w a : World} (h : TriB w a) : TriB w a.drew := ⟨⟨h.1.c0, h.1.c1, h.1.c2, h.1.fz⟩, h.2.drew⟩
theorem Tri.drewN {b : Nat} {x y z : Value} {w : World} (h : Tri b x y z w) (n : Nat) : Tri b x y z (w.drewN n) := ⟨h.c0, h.c1, h.c2, h.fz⟩
end Go.Proofs.YtgaggelpjaiabaaGreatDoor
end
section
namespace Go.Proofs.YtgaggelpjaiabaaGreatDoor
open Go.ChangeShapes Go.WideShapes Go.ChangeAt Go.RowKit
theorem guardF : Tryz.prog.eqGuardType Tryz.prog.depth 88 = false := by kernel_rfl
theorem stoodF : Tryz.prog.stoodInHeld 88 = false := by kernel_rfl
theorem fieldsF : Tryz.prog.fieldsOf 88 = #[⟨"Channel", 5, 0, false, "", "", 0⟩, ⟨"Kind", 5, 1, false, "", "", 1⟩, ⟨"Body", 9, 2, false, "", "", 8⟩] := by kernel_rfl
def frmEq (a b : Int) (x : ByteArray) (c d : Int) (y : ByteArray) : Bool := (a == c) && (b == d) && (x.toList == y.toList)
theorem frm_eql (a b : Int) (x : ByteArray) (c d : Int) (y : ByteArray) (W : World) : (Op.equalIn 10000 88 (.agg #[.int .u8 a, .int .u8 b, .string x]) (.agg #[.int .u8 c, .int .u8 d, .string y])).run Tryz.prog W = .ok (frmEq a b x c d y) W := by
  rw [run_equalIn_agg (ht := by kernel_rfl) (hp := stoodF), fieldsF]
  simp [Op.eqFields, go_sem, Tryz.underlying5, Tryz.underlying9, frmEq]
  by_cases h1 : a = c <;> by_cases h2 : b = d <;> by_cases h3 : x.toList = y.toList <;> simp [h1, h2, h3]
attribute [local go_sem ↓] frm_eql
attribute [local go_sem] guardF
theorem law1Awake_any (w : World) : Calls Tryz.prog 135 #[] w fun e w' => e = .returned (.bool true) ∧ Below w.heap.size w w' := by
  have H := Lib.hid (octAwake_any w)
  go_enter Tryz.func135, Tryz.ntmps135
  go_wp2_with fail
  refine H.out.mono ?_
  rintro e w1 ⟨rfl, hb⟩
  go_wp2_with fail
  go_ret
  exact ⟨rfl, hb⟩
theorem law2Awake_any (w : World) (hT : Tab w) : Calls Tryz.prog 136 #[] w fun e w' => e = .returned (.bool true) ∧ Below w.heap.size w w' := by
  have H := Lib.hid (crcAwake_any w hT)
  clear hT
  go_enter Tryz.func136, Tryz.ntmps136
  go_wp2_with fail
  refine H.out.mono ?_
  rintro e w1 ⟨rfl, hb⟩
  go_wp2_with fail
  go_ret
  exact ⟨rfl, hb⟩
set_option maxHeartbeats 1000000 in
theorem frmAwake_any (w : World) (hT : Tab w) : Calls Tryz.prog 104 #[] w fun e w' => e = .returned (.bool true) ∧ Below w.heap.size w w' := by
  have H1 := Lib.hid (fun W h => fbytes_any 1 2 [] W (by decide) h)
  have hv : bytesV 1 2 [] = .tuple #[.string (ofL (Fr.enc 1 2 [])), .int .i64 0] := if_pos (by decide)
  rw [hv, show (((1 : UInt8).toNat : Nat) : Int) = 1 from rfl, show (((2 : UInt8).toNat : Nat) : Int) = 2 from rfl, show ofL [] = ⟨#[]⟩ from rfl] at H1
  have hl : (Fr.enc 1 2 []).length = 9 := Fr.enc_length 1 2 []
  have h8 : (Fr.enc 1 2 []).getD 8 0 = 206 := by
    rw [Fr.enc_form0]
    exact Fr.form_end (Oct.length_be _ _)
  have hx := fun W => idx_l (P := Tryz.prog) Tryz.underlying9 (Fr.enc 1 2 []) .i64 8 8 rfl (by omega) W
  rw [h8, show (((206 : UInt8).toNat : Nat) : Int) = 206 from rfl] at hx
  have hz : (ofL (Fr.enc 1 2 [])).size = 9 := by rw [ofL_size]; exact hl
  generalize Fr.enc 1 2 [] = E at *
  have HT := Lib.hid hT
  clear hv hl h8 hT
  go_enter Tryz.func104, Tryz.ntmps104
  go_wp2_with fail
  refine (H1.out _ HT.out).mono ?_
  rintro e w1 ⟨rfl, b1⟩
  have HT1 := Lib.hid (HT.out.below b1 HT.out.pos)
  have B1 := Lib.hid b1
  clear b1
  go_wp2_with fail
  refine (law1Awake_any _).mono ?_
  rintro e w2 ⟨rfl, b2⟩
  have HT2 := Lib.hid (HT1.out.below b2 HT1.out.pos)
  have B2 := Lib.hid (bthen B1.out b2 (Nat.le_refl _))
  clear b2
  go_wp2_with fail
  refine (law2Awake_any _ HT2.out).mono ?_
  rintro e w3 ⟨rfl, b3⟩
  have B3 := Lib.hid (bthen B2.out b3 (Nat.le_refl _))
  clear b3
  go_wp2_with fail
  go_ret
  exact ⟨rfl, B3.out⟩
theorem parseV_3 {l : List UInt8} {c : Nat} (h : Fr.code l = c) (h0 : c ≠ 0) : parseV l = .tuple #[.agg #[.int .u8 0, .int .u8 0, .string ⟨#[]⟩], .int .i64 0, .int .i64 (c : Int)] := by
  unfold parseV
  rw [if_neg (by omega), h]
  rfl
end Go.Proofs.YtgaggelpjaiabaaGreatDoor
end
section
namespace Go.Proofs.YtgaggelpjaiabaaGreatDoor.Fr
structure Frame where
  c : UInt8
  k : UInt8
  b : List UInt8
def front (l : List UInt8) : Frame := ⟨l.getD 0 0, l.getD 1 0, body l⟩
theorem code_zero {l : List UInt8} (h : code l = 0) : len l + 9 ≤ l.length ∧ len l ≤ 2048 := by
  unfold code at h
  split at h
  · cases h
  · split at h
    · cases h
    · split at h
      · cases h
      · omega
def feed (l : List UInt8) : List Frame × List UInt8 × Nat :=
  if h : code l = 0 then (front l :: (feed (l.drop (len l + 9))).1, (feed (l.drop (len l + 9))).2)
  else if code l = 3 then ([], l, 0) else ([], [], code l)
termination_by l.length
decreasing_by
  all_goals
    have := code_zero h
    rw [List.length_drop]
    omega
theorem feed_ok {l : List UInt8} (h : code l = 0) : feed l = (front l :: (feed (l.drop (len l + 9))).1, (feed (l.drop (len l + 9))).2) := by
  rw [feed, dif_pos h]
theorem feed_short {l : List UInt8} (h : code l = 3) : feed l = ([], l, 0) := by
  rw [feed, dif_neg (by omega), if_pos h]
theorem feed_err {l : List UInt8} (h0 : code l ≠ 0) (h3 : code l ≠ 3) : feed l = ([], [], code l) := by
  rw [feed, dif_neg h0, if_neg h3]
theorem feed_ind {p : List UInt8 → Prop} (h : ∀ l, (code l = 0 → p (l.drop (len l + 9))) → p l) (l : List UInt8) : p l := by
  have key : ∀ n, ∀ l : List UInt8, l.length < n → p l := by
    intro n
    induction n with
    | zero => intro l hl; omega
    | succ n ih =>
      intro l hl
      refine h l fun hc => ih _ ?_
      have := code_zero hc
      rw [List.length_drop]
      omega
  exact key _ l (Nat.lt_succ_self _)
theorem feed_rest_le (l : List UInt8) : (feed l).2.1.length ≤ l.length := by
  induction l using feed_ind with
  | h l ih =>
    by_cases hc : code l = 0
    · rw [feed_ok hc]
      have := ih hc
      rw [List.length_drop] at this
      exact Nat.le_trans this (by omega)
    · by_cases h3 : code l = 3
      · rw [feed_short h3]; exact Nat.le_refl _
      · rw [feed_err hc h3]; simp
theorem feed_count (l : List UInt8) : (feed l).1.length * 9 ≤ l.length := by
  induction l using feed_ind with
  | h l ih =>
    by_cases hc : code l = 0
    · rw [feed_ok hc]
      have := ih hc
      have h2 := code_zero hc
      rw [List.length_drop] at this
      simp only [List.length_cons]
      omega
    · by_cases h3 : code l = 3
      · rw [feed_short h3]; simp
      · rw [feed_err hc h3]; simp

/-! ### more bytes -/
theorem getD_app {l : List UInt8} (m : List UInt8) {i : Nat} (h : i < l.length) : (l ++ m).getD i 0 = l.getD i 0 := by
  rw [List.getD_eq_getElem?_getD, List.getD_eq_getElem?_getD, List.getElem?_append_left h]
theorem len_app {l : List UInt8} (m : List UInt8) (h : 4 ≤ l.length) : len (l ++ m) = len l := by
  unfold len
  rw [getD_app m (by omega), getD_app m (by omega)]
theorem code_app {l : List UInt8} (m : List UInt8) (h : code l ≠ 3) : code (l ++ m) = code l := by
  have h4 : 4 ≤ l.length := by
    rcases Nat.lt_or_ge l.length 4 with hlt | hge
    · exfalso; apply h; unfold code; rw [if_pos hlt]
    · exact hge
  unfold code at h ⊢
  rw [len_app m h4, if_neg (by rw [List.length_append]; omega), if_neg (show ¬ l.length < 4 by omega)]
  rw [if_neg (show ¬ l.length < 4 by omega)] at h
  by_cases h5 : 2048 < len l
  · rw [if_pos h5, if_pos h5]
  · rw [if_neg h5] at h
    rw [if_neg h5, if_neg h5]
    by_cases h9 : l.length < len l + 9
    · rw [if_pos h9] at h; exact absurd rfl h
    · rw [if_neg h9, if_neg (by rw [List.length_append]; omega), getD_app m (by omega), List.drop_append_of_le_length (by omega), List.take_append_of_le_length (by rw [List.length_drop]; omega), List.take_append_of_le_length (by omega)]
theorem front_app {l : List UInt8} (m : List UInt8) (h : code l = 0) : front (l ++ m) = front l := by
  have hz := code_zero h
  unfold front body
  rw [getD_app m (by omega), getD_app m (by omega), len_app m (by omega), List.drop_append_of_le_length (by omega), List.take_append_of_le_length (by rw [List.length_drop]; omega)]
theorem feed_app {l : List UInt8} (m : List UInt8) : (feed l).2.2 = 0 → feed (l ++ m) = ((feed l).1 ++ (feed ((feed l).2.1 ++ m)).1, (feed ((feed l).2.1 ++ m)).2) := by
  induction l using feed_ind with
  | h l ih =>
    intro h0
    by_cases hc : code l = 0
    · have hz := code_zero hc
      have hc2 : code (l ++ m) = 0 := by rw [code_app m (by omega)]; exact hc
      have hl2 := len_app m (l := l) (by omega)
      rw [feed_ok hc] at h0
      have hi := ih hc h0
      rw [feed_ok hc2, hl2, List.drop_append_of_le_length (by omega), hi, front_app m hc]
      conv => rhs; rw [feed_ok hc]
      rfl
    · by_cases h3 : code l = 3
      · rw [feed_short h3]; rfl
      · rw [feed_err hc h3] at h0; exact absurd h0 hc
theorem feed_app_err {l : List UInt8} (m : List UInt8) : (feed l).2.2 ≠ 0 → feed (l ++ m) = feed l := by
  induction l using feed_ind with
  | h l ih =>
    intro h0
    by_cases hc : code l = 0
    · have hz := code_zero hc
      have hc2 : code (l ++ m) = 0 := by rw [code_app m (by omega)]; exact hc
      have hl2 := len_app m (l := l) (by omega)
      rw [feed_ok hc] at h0
      have hi := ih hc h0
      rw [feed_ok hc2, hl2, List.drop_append_of_le_length (by omega), hi, front_app m hc]
      conv => rhs; rw [feed_ok hc]
    · by_cases h3 : code l = 3
      · rw [feed_short h3] at h0; exact absurd rfl h0
      · rw [feed_err (by rw [code_app m h3]; exact hc) (by rw [code_app m h3]; exact h3), code_app m h3, feed_err hc h3]

/-- what a Take does, of what was kept and the error, to bytes that come -/
def take (r : List UInt8) (e : Nat) (l : List UInt8) : List Frame × List UInt8 × Nat := if e ≠ 0 then ([], r, e) else feed (r ++ l)
theorem take_feed (s l : List UInt8) : feed (s ++ l) = ((feed s).1 ++ (take (feed s).2.1 (feed s).2.2 l).1, (take (feed s).2.1 (feed s).2.2 l).2) := by
  unfold take
  by_cases h : (feed s).2.2 ≠ 0
  · rw [if_pos h, feed_app_err l h]
    simp
  · rw [if_neg h, feed_app l (by simpa using h)]

/-! ### frames that were written -/
def encF (f : Frame) : List UInt8 := enc f.c f.k f.b
theorem feed_nil : feed [] = ([], [], 0) := feed_short rfl
theorem feed_enc {f : Frame} (m : List UInt8) (hb : f.b.length ≤ 2048) : feed (encF f ++ m) = (f :: (feed m).1, (feed m).2) := by
  unfold encF
  rw [feed_ok (enc_code m hb), enc_len m hb, enc_drop]
  unfold front
  rw [enc_0, enc_1, enc_body m hb]
end Go.Proofs.YtgaggelpjaiabaaGreatDoor.Fr
end
section
namespace Go.Proofs.YtgaggelpjaiabaaGreatDoor
open Go.ChangeShapes Go.WideShapes Go.ChangeAt Go.RowKit
/-! ### frames in memory -/
def frmL (f : Fr.Frame) : List Value := [.int .u8 (f.c.toNat : Int), .int .u8 (f.k.toNat : Int), .string (ofL f.b)]
def fcs (l : List Fr.Frame) : List Value := l.flatMap frmL
theorem fcs_snoc (l : List Fr.Frame) (x : Fr.Frame) : fcs (l ++ [x]) = fcs l ++ frmL x := by unfold fcs; rw [List.flatMap_append]; simp
def frm (l : List Fr.Frame) (i : Nat) : Fr.Frame := l.getD i ⟨0, 0, []⟩
structure FrmC (w : World) (b o : Nat) (f : Fr.Frame) : Prop where
  c0 : w.cell? ⟨b, o, none⟩ = some (.int .u8 (f.c.toNat : Int))
  c1 : w.cell? ⟨b, o + 1, none⟩ = some (.int .u8 (f.k.toNat : Int))
  c2 : w.cell? ⟨b, o + 2, none⟩ = some (.string (ofL f.b))
structure Frms (w : World) (A : Option Addr) (l : List Fr.Frame) : Prop where
  at_ : ∀ i, i < l.length → ∃ b off, A = some ⟨b, off, none⟩ ∧ b < w.heap.size ∧ FrmC w b (off + i * 3) (frm l i)
theorem FrmC.below {w w' : World} {B b o : Nat} {f : Fr.Frame} (h : FrmC w b o f) (hb : Below B w w') (hB : b < B) : FrmC w' b o f :=
  ⟨(hb.cell (p := ⟨b, o, none⟩) hB).trans h.c0, (hb.cell (p := ⟨b, o + 1, none⟩) hB).trans h.c1, (hb.cell (p := ⟨b, o + 2, none⟩) hB).trans h.c2⟩
theorem Frms.on {w w' : World} {A : Option Addr} {l : List Fr.Frame} (h : Frms w A l) (hb : Below w.heap.size w w') : Frms w' A l := ⟨fun i hi => by
  obtain ⟨b, off, hA, hlt, hat⟩ := h.at_ i hi
  exact ⟨b, off, hA, Nat.lt_of_lt_of_le hlt hb.size, hat.below hb hlt⟩⟩
theorem Frms.nil (w : World) (A : Option Addr) : Frms w A [] := ⟨fun i hi => absurd hi (by simp)⟩
theorem rown_frms {w : World} {B E : Nat} {v : Value} {l : List Fr.Frame} (h : w.ownsRow B E 3 v l.length (fcs l)) :
    ∃ A c, v = .slice A l.length c ∧ l.length ≤ c ∧ (A = none → c = 0) ∧ Frms w A l := by
  obtain ⟨A, c, rfl, hc, hb, hx⟩ := Rw.own_cells h
  refine ⟨A, c, rfl, hc, ?_, ⟨fun i hi => ?_⟩⟩
  · rintro rfl
    rcases h.2 with ⟨e, _⟩ | ⟨g, cap, cur, e, _⟩
    · exact (Value.slice.inj e).2.2
    · exact absurd (Value.slice.inj e).1 (by simp)
  · obtain ⟨g, rfl, hg, hcell⟩ := hx (by omega)
    have e : frm l i = l[i] := by unfold frm; rw [List.getD_eq_getElem?_getD, List.getElem?_eq_getElem hi]; rfl
    have at_ : ∀ t, t < 3 → w.cell? ⟨g, i * 3 + t, none⟩ = (frmL l[i])[t]? := fun t ht => by
      rw [hcell _ (by omega)]
      exact Rw.flat_get frmL 3 (fun _ => rfl) (by omega) l i t hi ht
    refine ⟨g, 0, rfl, hg, ?_⟩
    rw [e, Nat.zero_add]
    exact ⟨at_ 0 (by omega), at_ 1 (by omega), at_ 2 (by omega)⟩
theorem infoF : (Tryz.prog.info? 88).map (fun i => (i.zero, i.size, i.bytes)) = some (some (.agg #[.int .u8 0, .int .u8 0, .string ⟨#[]⟩]), 3, 24) := by kernel_rfl
theorem cell_frm_two (w : World) (o : Obj) (x0 x1 x2 : Value) (t : TypeId) : ∀ j u, [x0, x1, x2][j]? = some u → ((w.alloc o).alloc (.cells #[x0, x1, x2] t)).cell? ((⟨w.heap.size + 1, 0, none⟩ : Addr).add j) = some u := by
  have e : (w.alloc o).heap.size = w.heap.size + 1 := by simp
  have h := World.news_of_block (w := (w.alloc o).alloc (.cells #[x0, x1, x2] t)) (B := w.heap.size + 1) (cs := #[x0, x1, x2]) (t := t) (fr := (0, 0)) (by rw [← e]; exact heap_alloc_new _ _)
  exact h
/-- two cells of a block of one's own -/
structure Duo (b : Nat) (x y : Value) (w : World) : Prop where
  c0 : w.cell? ⟨b, 0, none⟩ = some x
  c1 : w.cell? ⟨b, 1, none⟩ = some y
  fz : ∀ j, w.frozen? ⟨b, j, none⟩ = false
theorem Duo.lt {b : Nat} {x y : Value} {w : World} (h : Duo b x y w) : b < w.heap.size := World.block_lt_of_cell? w _ h.c0
theorem Duo.on {b B : Nat} {x y : Value} {w w' : World} (h : Duo b x y w) (hb : Below B w w') (hB : b < B) : Duo b x y w' :=
  ⟨(hb.cell (p := ⟨b, 0, none⟩) hB).trans h.c0, (hb.cell (p := ⟨b, 1, none⟩) hB).trans h.c1, fun j => (hb.frozen (p := ⟨b, j, none⟩) hB).trans (h.fz j)⟩
theorem Duo.new (w : World) (x y : Value) (t : TypeId) : Duo w.heap.size x y (w.alloc (.cells #[x, y] t)) :=
  ⟨cell_new _ _ _ _ _ rfl, cell_new _ _ _ _ _ rfl, fun _ => free_new _ _ _ _ _ rfl⟩

end Go.Proofs.YtgaggelpjaiabaaGreatDoor
end
section
namespace Go.Proofs.YtgaggelpjaiabaaGreatDoor
open Go.ChangeShapes Go.WideShapes Go.ChangeAt Go.RowKit
theorem Duo.far {b B : Nat} {x y : Value} {w w' : World} (h : Duo b x y w) (hb : Below B w w') (hB : b < B) : Duo b x y w' := h.on hb hB
theorem Duo.set0 {b : Nat} {x y : Value} {w : World} (h : Duo b x y w) (v : Value) : Duo b v y (w.setCell ⟨b, 0, none⟩ v) :=
  ⟨World.cell?_setCell_same _ _ _ h.c0, (World.cell?_setCell_other _ _ _ _ (ne_off (by decide))).trans h.c1, fun j => by rw [World.frozen?_setCell]; exact h.fz j⟩
theorem Duo.set1 {b : Nat} {x y : Value} {w : World} (h : Duo b x y w) (v : Value) : Duo b x v (w.setCell ⟨b, 1, none⟩ v) :=
  ⟨(World.cell?_setCell_other _ _ _ _ (ne_off (by decide))).trans h.c0, World.cell?_setCell_same _ _ _ h.c1, fun j => by rw [World.frozen?_setCell]; exact h.fz j⟩
/-- what the loop of Take keeps -/
structure TkIn (w : World) (l0 : List UInt8) (fs : List Fr.Frame) (r : List UInt8) (v6 : Value) (wr : World) : Prop where
  own : wr.ownsRow (w.heap.size + 1 + 1) 88 3 v6 fs.length (fcs fs)
  e1 : fs ++ (Fr.feed r).1 = (Fr.feed l0).1
  e2 : (Fr.feed r).2 = (Fr.feed l0).2
  below : Below w.heap.size w wr
  res : Duo (w.heap.size + 1) (.string ⟨#[]⟩) (.int .i64 0) wr
  le : r.length ≤ l0.length
  sz : w.heap.size + 1 + 1 ≤ wr.heap.size
def TkSt (w : World) (l0 : List UInt8) (g : Nat) (v6 v7 : Value) (wr : World) : Prop :=
  ∃ (fs : List Fr.Frame) (r : List UInt8), g = r.length ∧ v7 = .string (ofL r) ∧ TkIn w l0 fs r v6 wr
theorem TkIn.on {w : World} {l0 : List UInt8} {fs : List Fr.Frame} {r : List UInt8} {v6 : Value} {wr w' : World} (h : TkIn w l0 fs r v6 wr) (hb : Below wr.heap.size wr w') : TkIn w l0 fs r v6 w' :=
  ⟨Rw.own_on h.own hb, h.e1, h.e2, bthen h.below hb (Nat.le_refl _), h.res.on hb h.res.lt, h.le, Nat.le_trans h.sz hb.size⟩
def TakeV (F : List Fr.Frame × List UInt8 × Nat) (A : Option Addr) (c : Nat) : Value := .tuple #[.agg #[.string (ofL F.2.1), .int .i64 (F.2.2 : Int)], .slice A F.1.length c]
def TakePost (F : List Fr.Frame × List UInt8 × Nat) (w : World) (e : Ending) (w' : World) : Prop :=
  ∃ A c, e = .returned (TakeV F A c) ∧ F.1.length ≤ c ∧ (A = none → c = 0) ∧ Frms w' A F.1 ∧ (∀ a, A = some a → w.heap.size ≤ a.block) ∧ Below w.heap.size w w'
theorem below_row {W w1 : World} {b : Nat} {row : Option Nat} (h : W.grownBy w1 row) (hW : b ≤ W.heap.size) (hr : ∀ k, row = some k → b ≤ k) : Below b W w1 :=
  ⟨h.os, h.tape, h.output, h.size, fun k hk => h.block k (by omega) (fun e => by have := hr k e.symm; omega)⟩
theorem rown_put {W : World} {B E c b : Nat} {A : Option Addr} {l : List Fr.Frame} (h : W.ownsRow B E 3 (.slice A l.length c) l.length (fcs l)) (hb : b < B) (x y : Value) : Frms ((W.setCell ⟨b, 0, none⟩ x).setCell ⟨b, 1, none⟩ y) A l := by
  have g := only_setCell (p := ⟨b, 1, none⟩) (only_setCell (p := ⟨b, 0, none⟩) (World.grownBy.refl W (some b)) rfl x) rfl y
  obtain ⟨A2, c2, hv2, -, -, hF⟩ := rown_frms (h.kept g (.inr (Rw.own_row h hb)))
  obtain ⟨rfl, -, rfl⟩ := Value.slice.inj hv2
  exact hF
set_option maxRecDepth 100000 in
set_option maxHeartbeats 4000000 in
theorem take_ok (r0 c : List UInt8) (w : World) (hl : r0.length + c.length ≤ 100000) (hT : Tab w) :
    Calls Tryz.prog 32 #[.agg #[.string (ofL r0), .int .i64 0], .string (ofL c)] w (TakePost (Fr.feed (r0 ++ c)) w) := by
  have HT := Lib.hid hT
  clear hT
  have HP := Lib.hid (fun r W h h2 => fparse_any r W h h2)
  have hz0 : (ofL r0).size = r0.length := ofL_size r0
  have hzc : (ofL c).size = c.length := ofL_size c
  have hcat : ofL r0 ++ ofL c = ofL (r0 ++ c) := ofL_app _ _
  have hll : (r0 ++ c).length = r0.length + c.length := List.length_append
  have hS : TkIn w (r0 ++ c) [] (r0 ++ c) (.slice none 0 0) ((w.alloc (.cells #[.string (ofL r0), .int .i64 0] 33)).alloc (.cells #[.string ⟨#[]⟩, .int .i64 0] 33)) := by
    have d := Duo.new (w.alloc (.cells #[.string (ofL r0), .int .i64 0] 33)) (.string ⟨#[]⟩) (.int .i64 0) 33
    have e : (w.alloc (.cells #[.string (ofL r0), .int .i64 0] 33)).heap.size = w.heap.size + 1 := by simp
    rw [e] at d
    exact ⟨World.ownsRow_nil _ _ _ _, by simp, rfl, ((Below.refl _ _).alloc (Nat.le_refl _) _).alloc (by simp) _, d, Nat.le_refl _, by simp⟩
  have HS := Lib.hid hS
  have HL := Lib.hid hll
  obtain ⟨i1, hi1, hz01, hz1, hz2⟩ := info_parts infoF
  clear hS hll
  generalize r0 ++ c = l at *
  go_enter Tryz.func32, Tryz.ntmps32
  go_wp2_with fail
  go_step3
  go_wp2_with fail
  go_step3
  go_wp2_with fail
  go_loopg [6, 7] l.length (fun g v6 v7 wr => TkSt w l g v6 v7 wr)
  case atStart => exact ⟨[], l, rfl, rfl, HS.out⟩
  case round =>
    obtain ⟨fs, r, rfl, rfl, hI⟩ := hrel
    have HI := Lib.hid hI
    obtain ⟨A, cp, rfl, hcp, -, -⟩ := Rw.own_cells hI.own
    have hle := hI.le
    have hB := hI.below
    have HTr := Lib.hid (HT.out.below hB HT.out.pos)
    clear hI hB
    have hzr : (ofL r).size = r.length := ofL_size r
    have HPr := Lib.hid (fun W h => HP.out r W (by have := HL.out; omega) h)
    by_cases h0 : Fr.code r = 0
    · have hzz := Fr.code_zero h0
      have hv : parseV r = .tuple #[.agg #[.int .u8 ((r.getD 0 0).toNat : Int), .int .u8 ((r.getD 1 0).toNat : Int), .string (ofL (Fr.body r))], .int .i64 ((Fr.len r + 9 : Nat) : Int), .int .i64 0] := if_pos h0
      have hN : ((Fr.len r + 9 : Nat) : Int) = (Fr.len r : Int) + 9 := by omega
      rw [hv, hN] at HPr
      have hf := Fr.feed_ok h0
      have hsl := fun W => slice_from_l (P := Tryz.prog) Tryz.underlying9 r .i64 ((Fr.len r : Int) + 9) (Fr.len r + 9) (by omega) (by omega) W
      have HF := Lib.hid hf
      have hcnt := Fr.feed_count l
      have hfl : fs.length * 9 ≤ 100000 := by
        have e := congrArg List.length HI.out.e1
        rw [List.length_append] at e
        have := HL.out
        omega
      have hfl2 : fs.length ≤ 20000 := by omega
      have HZ := Lib.hid hzz
      clear hv hN h0 hf hzz hcnt hfl
      generalize hD : r.drop (Fr.len r + 9) = d at *
      have HD := Lib.hid hD
      clear hD
      go_wp2_with fail
      refine (HPr.out _ HTr.out).mono ?_
      rintro e w1 ⟨rfl, b1⟩
      have HI1 := Lib.hid (HI.out.on b1)
      have hsz := HI1.out.sz
      clear b1
      go_wp2_with (first
        | (at_builtin; refine wpList_append_lies _ rfl _ _ 84 rfl (w.heap.size + 1 + 1) 88 i1 _ 3 24 Tryz.underlying84 hi1 hz01 hz1 hz2 rfl (by omega) (.slice A fs.length cp) fs.length (fcs fs) (by rfl) ((HI1.out.own.alloc _).alloc _) ⟨w1.heap.size + 1, 0, none⟩ 1 1 (frmL (Fr.front r)) (by rfl) (by rfl) (cell_frm_two w1 _ _ _ _ _) (by simp [Value.oneCell', frmL]) (by omega) (by unfold maxLen; omega) (by omega) (by simp; omega) _ rfl ?_; intro gg cap w2 hown1 hgrow hat hlt'; have HW := Lib.hid hown1; have HG := Lib.hid hgrow; clear hown1 hgrow hat hlt'))
      have HI2 := Lib.hid ((HI1.out.on ((Below.refl _ _).alloc (Nat.le_refl _) (.cells #[.int .u8 ((r.getD 0 0).toNat : Int), .int .u8 ((r.getD 1 0).toNat : Int), .string (ofL (Fr.body r))] 88))).on ((Below.refl _ _).alloc (Nat.le_refl _) (.cells #[.int .u8 ((r.getD 0 0).toNat : Int), .int .u8 ((r.getD 1 0).toNat : Int), .string (ofL (Fr.body r))] 88)))
      have hrow : ∀ k, (Value.slice A fs.length cp).ownBlock = some k → w.heap.size + 1 + 1 ≤ k := fun k hk => (HI1.out.own.lt k hk).1
      have hB2 := HI2.out.below.grown HG.out (by simp; omega) (fun k hk => by have := hrow k hk; omega)
      have hD2 := HI2.out.res.on (B := w.heap.size + 1 + 1) (below_row HG.out (by simp; omega) hrow) (by omega)
      have hdl : d.length + 9 ≤ r.length := by
        have := HZ.out
        rw [← HD.out, List.length_drop]
        omega
      have hs2 := HG.out.size
      have HN := Lib.hid (show TkIn w l (fs ++ [Fr.front r]) d (.slice (some ⟨gg, 0, none⟩) (fs.length + 1) cap) w2 from
        ⟨by rw [List.length_append, fcs_snoc]; exact HW.out, by rw [← HI.out.e1, HF.out]; simp, by rw [← HI.out.e2, HF.out], hB2, hD2, by omega, by simp at hs2; omega⟩)
      clear hB2 hD2 hsl hs2 hrow
      go_roundg d.length
      case rel => exact ⟨fs ++ [Fr.front r], d, rfl, rfl, HN.out⟩
      case measure => omega
    · by_cases h3 : Fr.code r = 3
      · have hv : parseV r = .tuple #[.agg #[.int .u8 0, .int .u8 0, .string ⟨#[]⟩], .int .i64 0, .int .i64 3] := by rw [parseV_3 h3 (by decide)]; rfl
        rw [hv] at HPr
        have hf := Fr.feed_short h3
        have e1 := HI.out.e1
        have e2 := HI.out.e2
        rw [hf] at e1 e2
        have hx : fs = (Fr.feed l).1 := by simpa using e1
        have E1 := Lib.hid hx
        have E2 := Lib.hid e2
        clear hv h3 h0 hf e1 e2 hx
        go_wp2_with fail
        refine (HPr.out _ HTr.out).mono ?_
        rintro e w1 ⟨rfl, b1⟩
        have HI1 := Lib.hid ((HI.out.on b1).on ((Below.refl _ _).alloc (Nat.le_refl _) (.cells #[.int .u8 0, .int .u8 0, .string ⟨#[]⟩] 88)))
        clear b1
        obtain ⟨A2, c2, hv2, hc2, hnil, hF⟩ := rown_frms HI1.out.own
        obtain ⟨rfl, -, rfl⟩ := Value.slice.inj hv2
        have hnew : ∀ a, A = some a → w.heap.size ≤ a.block := fun a ha => by
          have := (HI1.out.own.lt a.block (by rw [ha]; rfl)).1
          omega
        have d0 := HI1.out.res.c0
        have d1 := HI1.out.res.c1
        have f0 := HI1.out.res.fz 0
        have f1 := HI1.out.res.fz 1
        have hlt := HI1.out.res.lt
        clear hF hv2
        go_wp2_with fail
        (repeat rw [Exit.noGoto_ret])
        refine bodyPost_ret (v := .tuple #[.agg #[.string (ofL r), .int .i64 0], .slice A fs.length cp]) (by simp [results, Tryz.results32, go_sem, d0, d1]) rfl ?_
        refine ⟨A, cp, ?_, by rw [← E1.out]; exact hc2, hnil, ?_, hnew, ?_⟩
        · unfold TakeV
          rw [← E1.out, ← E2.out]
          rfl
        · rw [← E1.out]
          exact rown_put HI1.out.own (by omega) _ _
        · exact (HI1.out.below.setCell (by simp) _).setCell (by simp) _
      · obtain ⟨cd, hcd, hc3, hc0⟩ : ∃ cd : Nat, Fr.code r = cd ∧ ((cd : Int) == 3) = false ∧ ((cd : Int) == 0) = false := ⟨_, rfl, by rw [beq_eq_false_iff_ne]; omega, by rw [beq_eq_false_iff_ne]; omega⟩
        have hv := parseV_3 hcd (by omega)
        rw [hv] at HPr
        have hf := Fr.feed_err h0 h3
        have e1 := HI.out.e1
        have e2 := HI.out.e2
        rw [hf] at e1
        rw [hf, hcd] at e2
        have hx : fs = (Fr.feed l).1 := by simpa using e1
        have E1 := Lib.hid hx
        have E2 := Lib.hid e2
        clear hv h3 h0 hf e1 e2 hx hcd
        go_wp2_with fail
        refine (HPr.out _ HTr.out).mono ?_
        rintro e w1 ⟨rfl, b1⟩
        have HI1 := Lib.hid ((HI.out.on b1).on ((Below.refl _ _).alloc (Nat.le_refl _) (.cells #[.int .u8 0, .int .u8 0, .string ⟨#[]⟩] 88)))
        clear b1
        obtain ⟨A2, c2, hv2, hc2, hnil, hF⟩ := rown_frms HI1.out.own
        obtain ⟨rfl, -, rfl⟩ := Value.slice.inj hv2
        have hnew : ∀ a, A = some a → w.heap.size ≤ a.block := fun a ha => by
          have := (HI1.out.own.lt a.block (by rw [ha]; rfl)).1
          omega
        have d0 := HI1.out.res.c0
        have d1 := HI1.out.res.c1
        have f0 := HI1.out.res.fz 0
        have f1 := HI1.out.res.fz 1
        have hlt := HI1.out.res.lt
        clear hF hv2
        go_wp2_with fail
        (repeat rw [Exit.noGoto_ret])
        refine bodyPost_ret (v := .tuple #[.agg #[.string ⟨#[]⟩, .int .i64 (cd : Int)], .slice A fs.length cp]) (by simp [results, Tryz.results32, go_sem, d0, d1]) rfl ?_
        refine ⟨A, cp, ?_, by rw [← E1.out]; exact hc2, hnil, ?_, hnew, ?_⟩
        · unfold TakeV
          rw [← E1.out, ← E2.out]
          rfl
        · rw [← E1.out]
          exact rown_put HI1.out.own (by omega) _ _
        · exact (HI1.out.below.setCell (by simp) _).setCell (by simp) _
end Go.Proofs.YtgaggelpjaiabaaGreatDoor
end
