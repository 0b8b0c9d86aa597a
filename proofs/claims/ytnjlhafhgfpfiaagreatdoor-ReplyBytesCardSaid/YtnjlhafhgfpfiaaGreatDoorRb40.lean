/-
  THE FRAME THAT BYTES BEGIN WITH, by the document, walked. FRAMES HELD AGAINST EACH OTHER; the chapter's example; the laws on what is read, what is missing, what is turned: walked. PLAIN: all frames of bytes, one behind the other; what is kept, and the error; bytes that come in pieces. No program is spoken of here. ROWS OF FRAMES; what a Feed makes of bytes that come: walked.
-/
import Derived.Test.YtnjlhafhgfpfiaaGreatDoorRb05
import Derived.Test.YtnjlhafhgfpfiaaGreatDoorRb36
import Derived.Test.YtnjlhafhgfpfiaaGreatDoorRb39
import Derived.Laws.StructEq
import Derived.Laws.IdiomStrings
import Derived.Deep.LoopGhost
import Derived.Deep.AppendLies
section
namespace Go.Proofs.YtnjlhafhgfpfiaaGreatDoor
open Go.ChangeShapes Go.WideShapes Go.ChangeAt Go.RowKit
def TriB (w a : World) : Prop := Tri w.heap.size (.int .u8 0) (.int .u8 0) (.string ⟨#[]⟩) a ∧ Below w.heap.size w a
theorem TriB.on {w a a' : World} (h : TriB w a) (hb : Below a.heap.size a a') : TriB w a' := ⟨h.1.on hb h.1.lt, bthen h.2 hb (Nat.le_refl _)⟩
theorem TriB.drew {w a : World} (h : TriB w a) : TriB w a.drew := ⟨⟨h.1.c0, h.1.c1, h.1.c2, h.1.fz⟩, h.2.drew⟩
theorem Tri.drewN {b : Nat} {x y z : Value} {w : World} (h : Tri b x y z w) (n : Nat) : Tri b x y z (w.drewN n) := ⟨h.c0, h.c1, h.c2, h.fz⟩
end Go.Proofs.YtnjlhafhgfpfiaaGreatDoor
end
section
namespace Go.Proofs.YtnjlhafhgfpfiaaGreatDoor
open Go.ChangeShapes Go.WideShapes Go.ChangeAt Go.RowKit
theorem guardF : Tryz.prog.eqGuardType Tryz.prog.depth 50 = false := by kernel_rfl
theorem stoodF : Tryz.prog.stoodInHeld 50 = false := by kernel_rfl
theorem fieldsF : Tryz.prog.fieldsOf 50 = #[⟨"Channel", 5, 0, false, "", "", 0⟩, ⟨"Kind", 5, 1, false, "", "", 1⟩, ⟨"Body", 9, 2, false, "", "", 8⟩] := by kernel_rfl
theorem guardRF : Tryz.prog.eqGuardType Tryz.prog.depth 71 = false := by kernel_rfl
theorem stoodRF : Tryz.prog.stoodInHeld 71 = false := by kernel_rfl
theorem fieldsRF : Tryz.prog.fieldsOf 71 = #[⟨"Channel", 5, 0, false, "", "", 0⟩, ⟨"Kind", 5, 1, false, "", "", 1⟩, ⟨"Body", 9, 2, false, "", "", 8⟩] := by kernel_rfl
def frmEq (a b : Int) (x : ByteArray) (c d : Int) (y : ByteArray) : Bool := (a == c) && (b == d) && (x.toList == y.toList)
theorem frm_eql (a b : Int) (x : ByteArray) (c d : Int) (y : ByteArray) (W : World) : (Op.equalIn 10000 50 (.agg #[.int .u8 a, .int .u8 b, .string x]) (.agg #[.int .u8 c, .int .u8 d, .string y])).run Tryz.prog W = .ok (frmEq a b x c d y) W := by
  rw [run_equalIn_agg (ht := by kernel_rfl) (hp := stoodF), fieldsF]
  simp [Op.eqFields, go_sem, Tryz.underlying5, Tryz.underlying9, frmEq]
  by_cases h1 : a = c <;> by_cases h2 : b = d <;> by_cases h3 : x.toList = y.toList <;> simp [h1, h2, h3]
theorem rfrm_eql (a b : Int) (x : ByteArray) (c d : Int) (y : ByteArray) (W : World) : (Op.equalIn 10000 71 (.agg #[.int .u8 a, .int .u8 b, .string x]) (.agg #[.int .u8 c, .int .u8 d, .string y])).run Tryz.prog W = .ok (frmEq a b x c d y) W := by
  rw [run_equalIn_agg (ht := by kernel_rfl) (hp := stoodRF), fieldsRF]
  simp [Op.eqFields, go_sem, Tryz.underlying5, Tryz.underlying9, frmEq]
  by_cases h1 : a = c <;> by_cases h2 : b = d <;> by_cases h3 : x.toList = y.toList <;> simp [h1, h2, h3]
attribute [local go_sem ↓] frm_eql rfrm_eql
attribute [local go_sem] guardF guardRF
theorem law1Awake_any (w : World) : Calls Tryz.prog 66 #[] w fun e w' => e = .returned (.bool true) ∧ Below w.heap.size w w' := by
  have H := Lib.hid (octAwake_any w)
  go_enter Tryz.func66, Tryz.ntmps66
  go_wp2_with fail
  refine H.out.mono ?_
  rintro e w1 ⟨rfl, hb⟩
  go_wp2_with fail
  go_ret
  exact ⟨rfl, hb⟩
theorem law2Awake_any (w : World) (hT : Tab w) : Calls Tryz.prog 88 #[] w fun e w' => e = .returned (.bool true) ∧ Below w.heap.size w w' := by
  have H := Lib.hid (crcAwake_any w hT)
  clear hT
  go_enter Tryz.func88, Tryz.ntmps88
  go_wp2_with fail
  refine H.out.mono ?_
  rintro e w1 ⟨rfl, hb⟩
  go_wp2_with fail
  go_ret
  exact ⟨rfl, hb⟩
set_option maxHeartbeats 1000000 in
theorem frmAwake_any (w : World) (hT : Tab w) : Calls Tryz.prog 82 #[] w fun e w' => e = .returned (.bool true) ∧ Below w.heap.size w w' := by
  have H1 := Lib.hid (fun W h => fbytes_any 1 2 [] W (by decide) h)
  have hv : bytesV 1 2 [] = .tuple #[.string (ofL (Fr.enc 1 2 [])), .int .i64 0] := if_pos (by decide)
  rw [hv, show (((1 : UInt8).toNat : Nat) : Int) = 1 from rfl, show (((2 : UInt8).toNat : Nat) : Int) = 2 from rfl, show ofL [] = ⟨#[]⟩ from rfl] at H1
  have hl : (Fr.enc 1 2 []).length = 9 := Fr.enc_length 1 2 []
  have h8 : (Fr.enc 1 2 []).getD 8 0 = 206 := by
    rw [Fr.enc_form0]
    exact Fr.form_end (Oct.length_be _ _)
  have hx := fun W => idx_l (P := Tryz.prog) Tryz.underlying9 (Fr.enc 1 2 []) .i64 8 8 rfl (by omega) W
  rw [h8, show (((206 : UInt8).toNat : Nat) : Int) = 206 from rfl] at hx
  have hz : (ofL (Fr.enc 1 2 [])).size = 9 := by rw [ofL_size]; exact hl
  generalize Fr.enc 1 2 [] = E at *
  have HT := Lib.hid hT
  clear hv hl h8 hT
  go_enter Tryz.func82, Tryz.ntmps82
  go_wp2_with fail
  refine (H1.out _ HT.out).mono ?_
  rintro e w1 ⟨rfl, b1⟩
  have HT1 := Lib.hid (HT.out.below b1 HT.out.pos)
  have B1 := Lib.hid b1
  clear b1
  go_wp2_with fail
  refine (law1Awake_any _).mono ?_
  rintro e w2 ⟨rfl, b2⟩
  have HT2 := Lib.hid (HT1.out.below b2 HT1.out.pos)
  have B2 := Lib.hid (bthen B1.out b2 (Nat.le_refl _))
  clear b2
  go_wp2_with fail
  refine (law2Awake_any _ HT2.out).mono ?_
  rintro e w3 ⟨rfl, b3⟩
  have B3 := Lib.hid (bthen B2.out b3 (Nat.le_refl _))
  clear b3
  go_wp2_with fail
  go_ret
  exact ⟨rfl, B3.out⟩
theorem parseV_3 {l : List UInt8} {c : Nat} (h : Fr.code l = c) (h0 : c ≠ 0) : parseV l = .tuple #[.agg #[.int .u8 0, .int .u8 0, .string ⟨#[]⟩], .int .i64 0, .int .i64 (c : Int)] := by
  unfold parseV
  rw [if_neg (by omega), h]
  rfl
end Go.Proofs.YtnjlhafhgfpfiaaGreatDoor
end
section
namespace Go.Proofs.YtnjlhafhgfpfiaaGreatDoor.Fr
structure Frame where
  c : UInt8
  k : UInt8
  b : List UInt8
def front (l : List UInt8) : Frame := ⟨l.getD 0 0, l.getD 1 0, body l⟩
theorem code_zero {l : List UInt8} (h : code l = 0) : len l + 9 ≤ l.length ∧ len l ≤ 2048 := by
  unfold code at h
  split at h
  · cases h
  · split at h
    · cases h
    · split at h
      · cases h
      · omega
def feed (l : List UInt8) : List Frame × List UInt8 × Nat :=
  if h : code l = 0 then (front l :: (feed (l.drop (len l + 9))).1, (feed (l.drop (len l + 9))).2)
  else if code l = 3 then ([], l, 0) else ([], [], code l)
termination_by l.length
decreasing_by
  all_goals
    have := code_zero h
    rw [List.length_drop]
    omega
theorem feed_ok {l : List UInt8} (h : code l = 0) : feed l = (front l :: (feed (l.drop (len l + 9))).1, (feed (l.drop (len l + 9))).2) := by
  rw [feed, dif_pos h]
theorem feed_short {l : List UInt8} (h : code l = 3) : feed l = ([], l, 0) := by
  rw [feed, dif_neg (by omega), if_pos h]
theorem feed_err {l : List UInt8} (h0 : code l ≠ 0) (h3 : code l ≠ 3) : feed l = ([], [], code l) := by
  rw [feed, dif_neg h0, if_neg h3]
theorem feed_ind {p : List UInt8 → Prop} (h : ∀ l, (code l = 0 → p (l.drop (len l + 9))) → p l) (l : List UInt8) : p l := by
  have key : ∀ n, ∀ l : List UInt8, l.length < n → p l := by
    intro n
    induction n with
    | zero => intro l hl; omega
    | succ n ih =>
      intro l hl
      refine h l fun hc => ih _ ?_
      have := code_zero hc
      rw [List.length_drop]
      omega
  exact key _ l (Nat.lt_succ_self _)
theorem feed_rest_le (l : List UInt8) : (feed l).2.1.length ≤ l.length := by
  induction l using feed_ind with
  | h l ih =>
    by_cases hc : code l = 0
    · rw [feed_ok hc]
      have := ih hc
      rw [List.length_drop] at this
      exact Nat.le_trans this (by omega)
    · by_cases h3 : code l = 3
      · rw [feed_short h3]; exact Nat.le_refl _
      · rw [feed_err hc h3]; simp
theorem feed_count (l : List UInt8) : (feed l).1.length * 9 ≤ l.length := by
  induction l using feed_ind with
  | h l ih =>
    by_cases hc : code l = 0
    · rw [feed_ok hc]
      have := ih hc
      have h2 := code_zero hc
      rw [List.length_drop] at this
      simp only [List.length_cons]
      omega
    · by_cases h3 : code l = 3
      · rw [feed_short h3]; simp
      · rw [feed_err hc h3]; simp

/-! ### more bytes -/
theorem getD_app {l : List UInt8} (m : List UInt8) {i : Nat} (h : i < l.length) : (l ++ m).getD i 0 = l.getD i 0 := by
  rw [List.getD_eq_getElem?_getD, List.getD_eq_getElem?_getD, List.getElem?_append_left h]
theorem len_app {l : List UInt8} (m : List UInt8) (h : 4 ≤ l.length) : len (l ++ m) = len l := by
  unfold len
  rw [getD_app m (by omega), getD_app m (by omega)]
theorem code_app {l : List UInt8} (m : List UInt8) (h : code l ≠ 3) : code (l ++ m) = code l := by
  have h4 : 4 ≤ l.length := by
    rcases Nat.lt_or_ge l.length 4 with hlt | hge
    · exfalso; apply h; unfold code; rw [if_pos hlt]
    · exact hge
  unfold code at h ⊢
  rw [len_app m h4, if_neg (by rw [List.length_append]; omega), if_neg (show ¬ l.length < 4 by omega)]
  rw [if_neg (show ¬ l.length < 4 by omega)] at h
  by_cases h5 : 2048 < len l
  · rw [if_pos h5, if_pos h5]
  · rw [if_neg h5] at h
    rw [if_neg h5, if_neg h5]
    by_cases h9 : l.length < len l + 9
    · rw [if_pos h9] at h; exact absurd rfl h
    · rw [if_neg h9, if_neg (by rw [List.length_append]; omega), getD_app m (by omega), List.drop_append_of_le_length (by omega), List.take_append_of_le_length (by rw [List.length_drop]; omega), List.take_append_of_le_length (by omega)]
theorem front_app {l : List UInt8} (m : List UInt8) (h : code l = 0) : front (l ++ m) = front l := by
  have hz := code_zero h
  unfold front body
  rw [getD_app m (by omega), getD_app m (by omega), len_app m (by omega), List.drop_append_of_le_length (by omega), List.take_append_of_le_length (by rw [List.length_drop]; omega)]
theorem feed_app {l : List UInt8} (m : List UInt8) : (feed l).2.2 = 0 → feed (l ++ m) = ((feed l).1 ++ (feed ((feed l).2.1 ++ m)).1, (feed ((feed l).2.1 ++ m)).2) := by
  induction l using feed_ind with
  | h l ih =>
    intro h0
    by_cases hc : code l = 0
    · have hz := code_zero hc
      have hc2 : code (l ++ m) = 0 := by rw [code_app m (by omega)]; exact hc
      have hl2 := len_app m (l := l) (by omega)
      rw [feed_ok hc] at h0
      have hi := ih hc h0
      rw [feed_ok hc2, hl2, List.drop_append_of_le_length (by omega), hi, front_app m hc]
      conv => rhs; rw [feed_ok hc]
      rfl
    · by_cases h3 : code l = 3
      · rw [feed_short h3]; rfl
      · rw [feed_err hc h3] at h0; exact absurd h0 hc
theorem feed_app_err {l : List UInt8} (m : List UInt8) : (feed l).2.2 ≠ 0 → feed (l ++ m) = feed l := by
  induction l using feed_ind with
  | h l ih =>
    intro h0
    by_cases hc : code l = 0
    · have hz := code_zero hc
      have hc2 : code (l ++ m) = 0 := by rw [code_app m (by omega)]; exact hc
      have hl2 := len_app m (l := l) (by omega)
      rw [feed_ok hc] at h0
      have hi := ih hc h0
      rw [feed_ok hc2, hl2, List.drop_append_of_le_length (by omega), hi, front_app m hc]
      conv => rhs; rw [feed_ok hc]
    · by_cases h3 : code l = 3
      · rw [feed_short h3] at h0; exact absurd rfl h0
      · rw [feed_err (by rw [code_app m h3]; exact hc) (by rw [code_app m h3]; exact h3), code_app m h3, feed_err hc h3]

/-- what a Take does, of what was kept and the error, to bytes that come -/
def take (r : List UInt8) (e : Nat) (l : List UInt8) : List Frame × List UInt8 × Nat := if e ≠ 0 then ([], r, e) else feed (r ++ l)
theorem take_feed (s l : List UInt8) : feed (s ++ l) = ((feed s).1 ++ (take (feed s).2.1 (feed s).2.2 l).1, (take (feed s).2.1 (feed s).2.2 l).2) := by
  unfold take
  by_cases h : (feed s).2.2 ≠ 0
  · rw [if_pos h, feed_app_err l h]
    simp
  · rw [if_neg h, feed_app l (by simpa using h)]

/-! ### frames that were written -/
def encF (f : Frame) : List UInt8 := enc f.c f.k f.b
def encs (l : List Frame) : List UInt8 := l.flatMap encF
theorem feed_nil : feed [] = ([], [], 0) := feed_short rfl
theorem feed_enc {f : Frame} (m : List UInt8) (hb : f.b.length ≤ 2048) : feed (encF f ++ m) = (f :: (feed m).1, (feed m).2) := by
  unfold encF
  rw [feed_ok (enc_code m hb), enc_len m hb, enc_drop]
  unfold front
  rw [enc_0, enc_1, enc_body m hb]
theorem feed_encs (l : List Frame) (h : ∀ f ∈ l, f.b.length ≤ 2048) : feed (encs l) = (l, [], 0) := by
  induction l with
  | nil => exact feed_nil
  | cons f l ih =>
    unfold encs at *
    rw [List.flatMap_cons, feed_enc _ (h f (by simp)), ih (fun g hg => h g (List.mem_cons_of_mem _ hg))]
end Go.Proofs.YtnjlhafhgfpfiaaGreatDoor.Fr
end
section
namespace Go.Proofs.YtnjlhafhgfpfiaaGreatDoor
open Go.ChangeShapes Go.WideShapes Go.ChangeAt Go.RowKit
/-! ### frames in memory -/
def frmL (f : Fr.Frame) : List Value := [.int .u8 (f.c.toNat : Int), .int .u8 (f.k.toNat : Int), .string (ofL f.b)]
def fcs (l : List Fr.Frame) : List Value := l.flatMap frmL
theorem fcs_snoc (l : List Fr.Frame) (x : Fr.Frame) : fcs (l ++ [x]) = fcs l ++ frmL x := by unfold fcs; rw [List.flatMap_append]; simp
theorem fcs_app (l m : List Fr.Frame) : fcs (l ++ m) = fcs l ++ fcs m := by unfold fcs; rw [List.flatMap_append]
theorem fcs_len (l : List Fr.Frame) : (fcs l).length = l.length * 3 := Rw.flat_len frmL 3 (fun _ => rfl) l
theorem fcs_one (l : List Fr.Frame) : ∀ u ∈ fcs l, u.oneCell' = true := by
  intro u hu
  unfold fcs at hu
  obtain ⟨f, _, hf⟩ := List.mem_flatMap.1 hu
  simp only [frmL, List.mem_cons, List.not_mem_nil, or_false] at hf
  rcases hf with rfl | rfl | rfl <;> rfl
def frm (l : List Fr.Frame) (i : Nat) : Fr.Frame := l.getD i ⟨0, 0, []⟩
structure FrmC (w : World) (b o : Nat) (f : Fr.Frame) : Prop where
  c0 : w.cell? ⟨b, o, none⟩ = some (.int .u8 (f.c.toNat : Int))
  c1 : w.cell? ⟨b, o + 1, none⟩ = some (.int .u8 (f.k.toNat : Int))
  c2 : w.cell? ⟨b, o + 2, none⟩ = some (.string (ofL f.b))
structure Frms (w : World) (A : Option Addr) (l : List Fr.Frame) : Prop where
  at_ : ∀ i, i < l.length → ∃ b off, A = some ⟨b, off, none⟩ ∧ b < w.heap.size ∧ FrmC w b (off + i * 3) (frm l i)
theorem FrmC.below {w w' : World} {B b o : Nat} {f : Fr.Frame} (h : FrmC w b o f) (hb : Below B w w') (hB : b < B) : FrmC w' b o f :=
  ⟨(hb.cell (p := ⟨b, o, none⟩) hB).trans h.c0, (hb.cell (p := ⟨b, o + 1, none⟩) hB).trans h.c1, (hb.cell (p := ⟨b, o + 2, none⟩) hB).trans h.c2⟩
theorem Frms.on {w w' : World} {A : Option Addr} {l : List Fr.Frame} (h : Frms w A l) (hb : Below w.heap.size w w') : Frms w' A l := ⟨fun i hi => by
  obtain ⟨b, off, hA, hlt, hat⟩ := h.at_ i hi
  exact ⟨b, off, hA, Nat.lt_of_lt_of_le hlt hb.size, hat.below hb hlt⟩⟩
theorem Frms.nil (w : World) (A : Option Addr) : Frms w A [] := ⟨fun i hi => absurd hi (by simp)⟩
theorem rown_frms {w : World} {B E : Nat} {v : Value} {l : List Fr.Frame} (h : w.ownsRow B E 3 v l.length (fcs l)) :
    ∃ A c, v = .slice A l.length c ∧ l.length ≤ c ∧ (A = none → c = 0) ∧ Frms w A l := by
  obtain ⟨A, c, rfl, hc, hb, hx⟩ := Rw.own_cells h
  refine ⟨A, c, rfl, hc, ?_, ⟨fun i hi => ?_⟩⟩
  · rintro rfl
    rcases h.2 with ⟨e, _⟩ | ⟨g, cap, cur, e, _⟩
    · exact (Value.slice.inj e).2.2
    · exact absurd (Value.slice.inj e).1 (by simp)
  · obtain ⟨g, rfl, hg, hcell⟩ := hx (by omega)
    have e : frm l i = l[i] := by unfold frm; rw [List.getD_eq_getElem?_getD, List.getElem?_eq_getElem hi]; rfl
    have at_ : ∀ t, t < 3 → w.cell? ⟨g, i * 3 + t, none⟩ = (frmL l[i])[t]? := fun t ht => by
      rw [hcell _ (by omega)]
      exact Rw.flat_get frmL 3 (fun _ => rfl) (by omega) l i t hi ht
    refine ⟨g, 0, rfl, hg, ?_⟩
    rw [e, Nat.zero_add]
    exact ⟨at_ 0 (by omega), at_ 1 (by omega), at_ 2 (by omega)⟩
theorem infoF : (Tryz.prog.info? 50).map (fun i => (i.zero, i.size, i.bytes)) = some (some (.agg #[.int .u8 0, .int .u8 0, .string ⟨#[]⟩]), 3, 24) := by kernel_rfl
theorem cell_frm_two (w : World) (o : Obj) (x0 x1 x2 : Value) (t : TypeId) : ∀ j u, [x0, x1, x2][j]? = some u → ((w.alloc o).alloc (.cells #[x0, x1, x2] t)).cell? ((⟨w.heap.size + 1, 0, none⟩ : Addr).add j) = some u := by
  have e : (w.alloc o).heap.size = w.heap.size + 1 := by simp
  have h := World.news_of_block (w := (w.alloc o).alloc (.cells #[x0, x1, x2] t)) (B := w.heap.size + 1) (cs := #[x0, x1, x2]) (t := t) (fr := (0, 0)) (by rw [← e]; exact heap_alloc_new _ _)
  exact h
/-- two cells of a block of one's own -/
structure Duo (b : Nat) (x y : Value) (w : World) : Prop where
  c0 : w.cell? ⟨b, 0, none⟩ = some x
  c1 : w.cell? ⟨b, 1, none⟩ = some y
  fz : ∀ j, w.frozen? ⟨b, j, none⟩ = false
theorem Duo.lt {b : Nat} {x y : Value} {w : World} (h : Duo b x y w) : b < w.heap.size := World.block_lt_of_cell? w _ h.c0
theorem Duo.on {b B : Nat} {x y : Value} {w w' : World} (h : Duo b x y w) (hb : Below B w w') (hB : b < B) : Duo b x y w' :=
  ⟨(hb.cell (p := ⟨b, 0, none⟩) hB).trans h.c0, (hb.cell (p := ⟨b, 1, none⟩) hB).trans h.c1, fun j => (hb.frozen (p := ⟨b, j, none⟩) hB).trans (h.fz j)⟩
theorem Duo.new (w : World) (x y : Value) (t : TypeId) : Duo w.heap.size x y (w.alloc (.cells #[x, y] t)) :=
  ⟨cell_new _ _ _ _ _ rfl, cell_new _ _ _ _ _ rfl, fun _ => free_new _ _ _ _ _ rfl⟩

end Go.Proofs.YtnjlhafhgfpfiaaGreatDoor
end
