/-
  THE FRAME THAT BYTES BEGIN WITH, by the document, walked. FRAMES HELD AGAINST EACH OTHER; the chapter's example; the laws on what is read, what is missing, what is turned: walked. PLAIN: all frames of bytes, one behind the other; what is kept, and the error; bytes that come in pieces. No program is spoken of here.
-/
import Derived.Test.YtaoidjjmeejbbaaDoorRs03
import Derived.Test.YtaoidjjmeejbbaaDoorRs39
import Derived.Test.YtaoidjjmeejbbaaDoorRs42
import Derived.Deep.QuietTactic
import Derived.BigQuiet
import Derived.Laws.StructEq
import Derived.Laws.IdiomStrings
section
namespace Go.Proofs.YtaoidjjmeejbbaaDoor
open Go.ChangeShapes Go.WideShapes Go.ChangeAt Go.RowKit
def TriB (w a : World) : Prop := Tri w.heap.size (.int .u8 0) (.int .u8 0) (.string ⟨#[]⟩) a ∧ Below w.heap.size w a
theorem TriB.on {w a a' : World} (h : TriB w a) (hb : Below a.heap.size a a') : TriB w a' := ⟨h.1.on hb h.1.lt, bthen h.2 hb (Nat.le_refl _)⟩
theorem TriB.drew {w a : World} (h : TriB w a) : TriB w a.drew := ⟨⟨h.1.c0, h.1.c1, h.1.c2, h.1.fz⟩, h.2.drew⟩
theorem Tri.drewN {b : Nat} {x y z : Value} {w : World} (h : Tri b x y z w) (n : Nat) : Tri b x y z (w.drewN n) := ⟨h.c0, h.c1, h.c2, h.fz⟩
end Go.Proofs.YtaoidjjmeejbbaaDoor
end
section
namespace Go.Proofs.YtaoidjjmeejbbaaDoor
open Go.ChangeShapes Go.WideShapes Go.ChangeAt Go.RowKit
theorem law1Awake_any (w : World) : Calls Tryd.prog 91 #[] w fun e w' => e = .returned (.bool true) ∧ Below w.heap.size w w' := by
  have H := Lib.hid (octAwake_any w)
  go_enter Tryd.func91, Tryd.ntmps91
  go_wp2_with fail
  refine H.out.mono ?_
  rintro e w1 ⟨rfl, hb⟩
  go_wp2_with fail
  go_ret
  exact ⟨rfl, hb⟩
theorem law2Awake_any (w : World) (hT : Tab w) : Calls Tryd.prog 92 #[] w fun e w' => e = .returned (.bool true) ∧ Below w.heap.size w w' := by
  have H := Lib.hid (crcAwake_any w hT)
  clear hT
  go_enter Tryd.func92, Tryd.ntmps92
  go_wp2_with fail
  refine H.out.mono ?_
  rintro e w1 ⟨rfl, hb⟩
  go_wp2_with fail
  go_ret
  exact ⟨rfl, hb⟩
set_option maxHeartbeats 1000000 in
theorem frmAwake_any (w : World) (hT : Tab w) : Calls Tryd.prog 62 #[] w fun e w' => e = .returned (.bool true) ∧ Below w.heap.size w w' := by
  have H1 := Lib.hid (fun W h => fbytes_any 1 2 [] W (by decide) h)
  have hv : bytesV 1 2 [] = .tuple #[.string (ofL (Fr.enc 1 2 [])), .int .i64 0] := if_pos (by decide)
  rw [hv, show (((1 : UInt8).toNat : Nat) : Int) = 1 from rfl, show (((2 : UInt8).toNat : Nat) : Int) = 2 from rfl, show ofL [] = ⟨#[]⟩ from rfl] at H1
  have hl : (Fr.enc 1 2 []).length = 9 := Fr.enc_length 1 2 []
  have h8 : (Fr.enc 1 2 []).getD 8 0 = 206 := by
    rw [Fr.enc_form0]
    exact Fr.form_end (Oct.length_be _ _)
  have hx := fun W => idx_l (P := Tryd.prog) Tryd.underlying9 (Fr.enc 1 2 []) .i64 8 8 rfl (by omega) W
  rw [h8, show (((206 : UInt8).toNat : Nat) : Int) = 206 from rfl] at hx
  have hz : (ofL (Fr.enc 1 2 [])).size = 9 := by rw [ofL_size]; exact hl
  generalize Fr.enc 1 2 [] = E at *
  have HT := Lib.hid hT
  clear hv hl h8 hT
  go_enter Tryd.func62, Tryd.ntmps62
  go_wp2_with fail
  refine (H1.out _ HT.out).mono ?_
  rintro e w1 ⟨rfl, b1⟩
  have HT1 := Lib.hid (HT.out.below b1 HT.out.pos)
  have B1 := Lib.hid b1
  clear b1
  go_wp2_with fail
  refine (law1Awake_any _).mono ?_
  rintro e w2 ⟨rfl, b2⟩
  have HT2 := Lib.hid (HT1.out.below b2 HT1.out.pos)
  have B2 := Lib.hid (bthen B1.out b2 (Nat.le_refl _))
  clear b2
  go_wp2_with fail
  refine (law2Awake_any _ HT2.out).mono ?_
  rintro e w3 ⟨rfl, b3⟩
  have B3 := Lib.hid (bthen B2.out b3 (Nat.le_refl _))
  clear b3
  go_wp2_with fail
  go_ret
  exact ⟨rfl, B3.out⟩
theorem parseV_3 {l : List UInt8} {c : Nat} (h : Fr.code l = c) (h0 : c ≠ 0) : parseV l = .tuple #[.agg #[.int .u8 0, .int .u8 0, .string ⟨#[]⟩], .int .i64 0, .int .i64 (c : Int)] := by
  unfold parseV
  rw [if_neg (by omega), h]
  rfl
end Go.Proofs.YtaoidjjmeejbbaaDoor
end
section
namespace Go.Proofs.YtaoidjjmeejbbaaDoor.Fr
structure Frame where
  c : UInt8
  k : UInt8
  b : List UInt8
def front (l : List UInt8) : Frame := ⟨l.getD 0 0, l.getD 1 0, body l⟩
theorem code_zero {l : List UInt8} (h : code l = 0) : len l + 9 ≤ l.length ∧ len l ≤ 2048 := by
  unfold code at h
  split at h
  · cases h
  · split at h
    · cases h
    · split at h
      · cases h
      · omega
def feed (l : List UInt8) : List Frame × List UInt8 × Nat :=
  if h : code l = 0 then (front l :: (feed (l.drop (len l + 9))).1, (feed (l.drop (len l + 9))).2)
  else if code l = 3 then ([], l, 0) else ([], [], code l)
termination_by l.length
decreasing_by
  all_goals
    have := code_zero h
    rw [List.length_drop]
    omega
theorem feed_ok {l : List UInt8} (h : code l = 0) : feed l = (front l :: (feed (l.drop (len l + 9))).1, (feed (l.drop (len l + 9))).2) := by
  rw [feed, dif_pos h]
theorem feed_short {l : List UInt8} (h : code l = 3) : feed l = ([], l, 0) := by
  rw [feed, dif_neg (by omega), if_pos h]
theorem feed_err {l : List UInt8} (h0 : code l ≠ 0) (h3 : code l ≠ 3) : feed l = ([], [], code l) := by
  rw [feed, dif_neg h0, if_neg h3]
theorem feed_ind {p : List UInt8 → Prop} (h : ∀ l, (code l = 0 → p (l.drop (len l + 9))) → p l) (l : List UInt8) : p l := by
  have key : ∀ n, ∀ l : List UInt8, l.length < n → p l := by
    intro n
    induction n with
    | zero => intro l hl; omega
    | succ n ih =>
      intro l hl
      refine h l fun hc => ih _ ?_
      have := code_zero hc
      rw [List.length_drop]
      omega
  exact key _ l (Nat.lt_succ_self _)
theorem feed_count (l : List UInt8) : (feed l).1.length * 9 ≤ l.length := by
  induction l using feed_ind with
  | h l ih =>
    by_cases hc : code l = 0
    · rw [feed_ok hc]
      have := ih hc
      have h2 := code_zero hc
      rw [List.length_drop] at this
      simp only [List.length_cons]
      omega
    · by_cases h3 : code l = 3
      · rw [feed_short h3]; simp
      · rw [feed_err hc h3]; simp

/-! ### more bytes -/
/-- what a Take does, of what was kept and the error, to bytes that come -/
def take (r : List UInt8) (e : Nat) (l : List UInt8) : List Frame × List UInt8 × Nat := if e ≠ 0 then ([], r, e) else feed (r ++ l)
/-! ### frames that were written -/
def encF (f : Frame) : List UInt8 := enc f.c f.k f.b
theorem feed_nil : feed [] = ([], [], 0) := feed_short rfl
theorem feed_enc {f : Frame} (m : List UInt8) (hb : f.b.length ≤ 2048) : feed (encF f ++ m) = (f :: (feed m).1, (feed m).2) := by
  unfold encF
  rw [feed_ok (enc_code m hb), enc_len m hb, enc_drop]
  unfold front
  rw [enc_0, enc_1, enc_body m hb]
end Go.Proofs.YtaoidjjmeejbbaaDoor.Fr
end
