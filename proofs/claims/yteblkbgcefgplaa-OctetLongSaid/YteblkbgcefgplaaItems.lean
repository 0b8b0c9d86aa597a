/-
  ITEMS, as they come in: which are gone through; the document's own Text; Text of Out.
-/
import Derived.Test.YteblkbgcefgplaaRef
namespace Go.Proofs.Yteblkbgcefgplaa
open Go.ChangeShapes Go.WideShapes Go.ChangeAt Go.RowKit
attribute [local go_sem ↓] Go.wp_at_zero Go.wp_at_succ

/-- an item, as a plain value -/
structure It where
  kind : Nat
  num : Nat
  bytes : Int
  text : ByteArray
def It.zero : It := ⟨0, 0, 0, ByteArray.empty⟩
/-- an item that may be: its numbers fit -/
structure It.Fits (x : It) : Prop where
  kind : x.kind < 256
  num : x.num < 18446744073709551616
  lo : -9223372036854775808 ≤ x.bytes
  hi : x.bytes ≤ 9223372036854775807
  size : x.text.size ≤ 9223372036854775807
/-- a slice's items lie at its address, below block B -/
structure ItemAt (w : World) (b o : Nat) (x : It) : Prop where
  c0 : w.cell? ⟨b, o, none⟩ = some (.int .u8 (x.kind : Int))
  c1 : w.cell? ⟨b, o + 1, none⟩ = some (.int .u64 (x.num : Int))
  c2 : w.cell? ⟨b, o + 2, none⟩ = some (.int .i64 x.bytes)
  c3 : w.cell? ⟨b, o + 3, none⟩ = some (.string x.text)
def Items (w : World) (B : Nat) (A : Option Addr) (l : List It) : Prop :=
  ∀ i, i < l.length → ∃ b off, A = some ⟨b, off, none⟩ ∧ b < B ∧ (l.getD i It.zero).Fits ∧ ItemAt w b (off + i * 4) (l.getD i It.zero)
theorem ItemAt.below {w w' : World} {B b o : Nat} {x : It} (h : ItemAt w b o x) (hb : Below B w w') (hB : b < B) : ItemAt w' b o x :=
  ⟨(hb.cell (p := ⟨b, o, none⟩) hB).trans h.c0, (hb.cell (p := ⟨b, o + 1, none⟩) hB).trans h.c1, (hb.cell (p := ⟨b, o + 2, none⟩) hB).trans h.c2, (hb.cell (p := ⟨b, o + 3, none⟩) hB).trans h.c3⟩
theorem Items.below {w w' : World} {B : Nat} {A : Option Addr} {l : List It} (h : Items w B A l) (hb : Below B w w') : Items w' B A l := fun i hi => by
  obtain ⟨b, off, hA, hlt, hf, hat⟩ := h i hi
  exact ⟨b, off, hA, hlt, hf, hat.below hb hlt⟩
def Light (l : List It) : Prop := l.length ≤ 20 ∧ ∀ i, i < l.length → (l.getD i It.zero).text.size ≤ 100

set_option maxHeartbeats 1000000 in
theorem light_yes (A : Option Addr) (l : List It) (c : Nat) (w : World) (hI : Items w w.heap.size A l) (hl : Light l) :
    Calls Try.prog 9 #[.slice A l.length c] w fun x w' => x = .returned (.bool true) ∧ Below w.heap.size w w' := by
  have h20 := hl.1
  have HL := Lib.hid hl.2
  have HI := Lib.hid hI
  clear hl hI
  go_enter Try.func9, Try.ntmps9
  go_wp2
  go_loopw [10] (fun i wr => ∃ k : Nat, k ≤ l.length ∧ i = .int .i64 k ∧ Below w.heap.size w wr) (fun i _ => l.length - (intOf i).toNat)
  case atStart => exact ⟨0, by omega, rfl, Below.refl _ _⟩
  case round =>
    obtain ⟨k, hk, rfl, hb⟩ := hrel
    have HB := Lib.hid hb
    clear hb
    by_cases hlt : k < l.length
    · obtain ⟨b, off, rfl, hbl, hf, hat⟩ := HI.out k hlt
      have hat' := hat.below HB.out hbl
      have hs := HL.out k hlt
      have hsz := HB.out.size
      obtain ⟨c0, c1, c2, c3⟩ := hat'
      clear hat hf
      generalize l.getD k It.zero = x at *
      go_wp2
      go_roundw
      case rel => exact ⟨k + 1, by omega, by go_num, HB.out.alloc hsz _⟩
      case measure => simp [intOf]; omega
    · go_wp2
      go_ret
      exact ⟨rfl, HB.out⟩

set_option maxHeartbeats 1000000 in
theorem light_no (A : Option Addr) (l : List It) (c : Nat) (w : World) (hI : Items w w.heap.size A l) (hl : ¬ Light l) (hlen : l.length ≤ 9223372036854775807) :
    Calls Try.prog 9 #[.slice A l.length c] w fun x w' => x = .returned (.bool false) ∧ Below w.heap.size w w' := by
  have HI := Lib.hid hI
  clear hI
  by_cases h20 : l.length ≤ 20
  · have hex : ¬ ∀ i, i < l.length → (l.getD i It.zero).text.size ≤ 100 := fun h => hl ⟨h20, h⟩
    have HX := Lib.hid hex
    clear hex hl
    go_enter Try.func9, Try.ntmps9
    go_wp2
    go_loopw [10] (fun i wr => ∃ k : Nat, k ≤ l.length ∧ i = .int .i64 k ∧ Below w.heap.size w wr ∧ Hid (∀ i, i < k → (l.getD i It.zero).text.size ≤ 100)) (fun i _ => l.length - (intOf i).toNat)
    case atStart => exact ⟨0, by omega, rfl, Below.refl _ _, Lib.hid (fun i hi => by omega)⟩
    case round =>
      obtain ⟨k, hk, rfl, hb, HK⟩ := hrel
      have HB := Lib.hid hb
      clear hb
      by_cases hlt : k < l.length
      · obtain ⟨b, off, rfl, hbl, hf, hat⟩ := HI.out k hlt
        have hat' := hat.below HB.out hbl
        have hsz := HB.out.size
        have hfs := hf.size
        obtain ⟨c0, c1, c2, c3⟩ := hat'
        clear hat hf
        by_cases hs : (l.getD k It.zero).text.size ≤ 100
        · have HK' : Hid (∀ i, i < k + 1 → (l.getD i It.zero).text.size ≤ 100) := Lib.hid (fun i hi => by
            rcases Nat.lt_or_ge i k with h | h
            · exact HK.out i h
            · obtain rfl : i = k := by omega
              exact hs)
          generalize l.getD k It.zero = x at c0 c1 c2 c3 hs hfs
          go_wp2
          go_roundw
          case rel => exact ⟨k + 1, by omega, by go_num, HB.out.alloc hsz _, HK'⟩
          case measure => simp [intOf]; omega
        · generalize l.getD k It.zero = x at c0 c1 c2 c3 hs hfs
          go_wp2
          go_ret
          exact ⟨rfl, HB.out.alloc hsz _⟩
      · exfalso
        obtain rfl : k = l.length := by omega
        exact HX.out HK.out
  · clear hl
    go_enter Try.func9, Try.ntmps9
    go_wp2
    go_ret
    exact ⟨rfl, Below.refl _ _⟩

/-- a text's bytes, its length ahead -/
def textB (s : ByteArray) : ByteArray := ⟨(Oct.be 2 s.size).toArray⟩ ++ s
theorem be_size (k n : Nat) : (ByteArray.mk (Oct.be k n).toArray).size = k := by
  show (Oct.be k n).toArray.size = k
  rw [List.size_toArray, Oct.length_be]

set_option maxHeartbeats 1000000 in
theorem rtext_any (s : ByteArray) (w : World) (hs : s.size ≤ 65535) :
    Calls Try.prog 11 #[.string s] w fun x w' => x = .returned (.string (textB s)) ∧ Below w.heap.size w w' := by
  have hc : ∀ w : World, Calls Try.prog 10 #[.int .u64 (s.size : Int), .int .i64 2] w fun x w' => x = .returned (.string ⟨(Oct.be 2 s.size).toArray⟩) ∧ Below w.heap.size w w' := fun w => by
    have := rnum_any 2 s.size w (by omega)
    rw [show Oct.width 2 = 2 from rfl] at this
    exact this
  have hz := be_size 2 s.size
  have HT : Hid (textB s = ⟨(Oct.be 2 s.size).toArray⟩ ++ s) := rfl
  generalize ByteArray.mk (Oct.be 2 s.size).toArray = r at hc hz HT
  have hz2 : r.size ≤ 2 := by omega
  have HC := Lib.hid hc
  clear hc hz
  go_enter Try.func11, Try.ntmps11
  go_wp2_with (go_at_call 10; refine (HC.out _).mono ?_; rintro e w1 ⟨rfl, hb1⟩)
  go_ret
  exact ⟨ret_str (by rw [HT.out]), hb1⟩

set_option maxHeartbeats 1000000 in
theorem text_any (o s : ByteArray) (e : Int) (w : World) (ho : o.size ≤ 900000) (hs : s.size ≤ 65535) :
    Calls Try.prog 31 #[.agg #[.string o, .int .i64 e], .string s] w fun x w' => x = .returned (.agg #[.string (o ++ textB s), .int .i64 e]) ∧ Below w.heap.size w w' := by
  have hc : ∀ w : World, Calls Try.prog 13 #[.agg #[.string o, .int .i64 e], .int .u64 (s.size : Int), .int .i64 2] w fun x w' => x = .returned (.agg #[.string (o ++ ⟨(Oct.be 2 s.size).toArray⟩), .int .i64 e]) ∧ Below w.heap.size w w' := fun w => by
    have := num_any o e s.size 2 w (by omega) (by omega)
    rw [show Oct.width 2 = 2 from rfl] at this
    exact this
  have hz := be_size 2 s.size
  have HT : Hid (o ++ textB s = o ++ ⟨(Oct.be 2 s.size).toArray⟩ ++ s) := by unfold textB; rw [ByteArray.append_assoc]; exact (rfl : _ = _)
  have hz2 : (o ++ ⟨(Oct.be 2 s.size).toArray⟩).size ≤ 1000000 := by rw [ByteArray.size_append, hz]; omega
  generalize o ++ ByteArray.mk (Oct.be 2 s.size).toArray = r at hc HT hz2
  have HC := Lib.hid hc
  clear hc hz
  go_enter Try.func31, Try.ntmps31
  go_wp2_with fail
  refine (HC.out _).mono ?_
  rintro x w1 ⟨rfl, hb1⟩
  have hz1 := hb1.size
  simp at hz1
  have r0 := (hb1.cell (p := ⟨w.heap.size + 1, 0, none⟩) (by simp)).trans (cell_new _ _ _ _ _ (by simp))
  have r1 := (hb1.cell (p := ⟨w.heap.size + 1, 1, none⟩) (by simp)).trans (cell_new _ _ _ _ _ (by simp))
  have r2 := fun j => (hb1.frozen (p := ⟨w.heap.size + 1, j, none⟩) (by simp)).trans (free_new _ _ _ _ _ (by simp))
  have HB1 := Lib.hid (Below.trans (((Below.refl _ _).alloc (Nat.le_refl _) _).alloc (by simp) _) (hb1.mono (by simp; omega)))
  clear hb1
  go_wp2_with fail
  refine (raw_any _ _ _ _ hz2 (by omega)).mono ?_
  rintro x w2 ⟨rfl, hb2⟩
  have k0 := (hb2.cell (p := ⟨w.heap.size + 1, 0, none⟩) (by simp; omega)).trans r0
  have k1 := (hb2.cell (p := ⟨w.heap.size + 1, 1, none⟩) (by simp; omega)).trans r1
  have k2 := fun j => (hb2.frozen (p := ⟨w.heap.size + 1, j, none⟩) (by simp; omega)).trans (r2 j)
  have HB2 := Lib.hid (Below.trans HB1.out (hb2.mono (by omega)))
  clear hb2 r0 r1 r2
  simp at k0 k1
  have HT' := HT.out
  clear HT
  go_wp2
  exact bodyPost_ret (v := .agg #[.string (r ++ s), .int .i64 e]) (by simp [results, Try.results31, go_sem, k0, k1]) rfl
    ⟨by rw [HT'], (HB2.out.setCell (by simp) _).setCell (by simp) _⟩

/-- of a text that is too long nothing, and it is told -/
theorem text_long (o s : ByteArray) (e : Int) (w : World) (hs : 65535 < s.size) (hs2 : s.size ≤ 1000000) :
    Calls Try.prog 31 #[.agg #[.string o, .int .i64 e], .string s] w fun x w' => x = .returned (.agg #[.string o, .int .i64 5]) ∧ Below w.heap.size w w' := by
  go_enter Try.func31, Try.ntmps31
  go_wp2
  exact bodyPost_ret (v := .agg #[.string o, .int .i64 5]) (by simp [results, Try.results31, go_sem]) rfl ⟨rfl, ((Below.refl _ _).alloc (Nat.le_refl _) _).alloc (by simp) _⟩

def encIt (x : It) : ByteArray := if x.kind = 0 then ⟨(Oct.be (Oct.width x.bytes) x.num).toArray⟩ else if x.kind = 1 then textB x.text else x.text
def enc (l : List It) : ByteArray := l.foldl (fun o x => o ++ encIt x) ByteArray.empty
theorem encIt_size {x : It} (h : x.text.size ≤ 100) : (encIt x).size ≤ 102 := by
  unfold encIt
  split
  · have := Oct.width_le x.bytes; rw [be_size]; omega
  · split
    · unfold textB; rw [ByteArray.size_append, be_size]; omega
    · omega
theorem enc_next (l : List It) (k : Nat) (h : k < l.length) : enc (l.take (k + 1)) = enc (l.take k) ++ encIt (l.getD k It.zero) := by
  unfold enc
  rw [List.take_succ_eq_append_getElem h, List.foldl_append]
  simp [List.getD_eq_getElem?_getD, h]
theorem enc_size (l : List It) (hl : Light l) : ∀ k, k ≤ l.length → (enc (l.take k)).size ≤ 102 * k := by
  intro k
  induction k with
  | zero => intro _; simp [enc]
  | succ k ih =>
    intro h
    rw [enc_next l k (by omega), ByteArray.size_append]
    have := ih (by omega)
    have := encIt_size (hl.2 k (by omega))
    omega

/-- what the loop of 'written' keeps -/
structure WrSt (w : World) (o : ByteArray) (wr : World) : Prop where
  o0 : wr.cell? ⟨w.heap.size + 1, 0, none⟩ = some (.string o)
  o1 : wr.cell? ⟨w.heap.size + 1, 1, none⟩ = some (.int .i64 0)
  fo : ∀ j, wr.frozen? ⟨w.heap.size + 1, j, none⟩ = false
  r0 : wr.cell? ⟨w.heap.size, 0, none⟩ = some (.string ⟨#[]⟩)
  r1 : wr.cell? ⟨w.heap.size, 1, none⟩ = some (.int .i64 0)
  fr : ∀ j, wr.frozen? ⟨w.heap.size, j, none⟩ = false
  below : Below w.heap.size w wr
  size : w.heap.size + 1 < wr.heap.size
theorem WrSt.onto {w : World} {o : ByteArray} {wr w' : World} (h : WrSt w o wr) (hb : Below wr.heap.size wr w') : WrSt w o w' :=
  ⟨(hb.cell (p := ⟨w.heap.size + 1, 0, none⟩) h.size).trans h.o0, (hb.cell (p := ⟨w.heap.size + 1, 1, none⟩) h.size).trans h.o1, fun j => (hb.frozen (p := ⟨w.heap.size + 1, j, none⟩) h.size).trans (h.fo j),
    (hb.cell (p := ⟨w.heap.size, 0, none⟩) (by have := h.size; simp; omega)).trans h.r0, (hb.cell (p := ⟨w.heap.size, 1, none⟩) (by have := h.size; simp; omega)).trans h.r1,
    fun j => (hb.frozen (p := ⟨w.heap.size, j, none⟩) (by have := h.size; simp; omega)).trans (h.fr j), h.below.trans (hb.mono (by have := h.size; omega)), Nat.lt_of_lt_of_le h.size hb.size⟩
theorem WrSt.alloc {w : World} {o : ByteArray} {wr : World} (h : WrSt w o wr) (x : Obj) : WrSt w o (wr.alloc x) := h.onto ((Below.refl _ _).alloc (Nat.le_refl _) x)
theorem WrSt.put {w : World} {o : ByteArray} {wr : World} (h : WrSt w o wr) (p : ByteArray) :
    WrSt w p ((wr.setCell ⟨w.heap.size + 1, 0, none⟩ (.string p)).setCell ⟨w.heap.size + 1, 1, none⟩ (.int .i64 0)) := by
  have n1 : ∀ i j : Nat, i ≠ j → (⟨w.heap.size + 1, i, none⟩ : Addr) ≠ ⟨w.heap.size + 1, j, none⟩ := fun i j h => by simp only [ne_eq, Addr.mk.injEq, not_and]; omega
  have n2 : ∀ i j : Nat, (⟨w.heap.size + 1, i, none⟩ : Addr) ≠ ⟨w.heap.size, j, none⟩ := fun i j => by simp only [ne_eq, Addr.mk.injEq, not_and]; omega
  refine ⟨?_, ?_, fun j => ?_, ?_, ?_, fun j => ?_, (h.below.setCell (by simp) _).setCell (by simp) _, by simp [World.setCell]; exact h.size⟩
  · rw [World.cell?_setCell_other _ _ _ _ (n1 1 0 (by decide))]
    exact World.cell?_setCell_same _ _ _ h.o0
  · exact World.cell?_setCell_same _ _ _ ((World.cell?_setCell_other _ _ _ _ (n1 0 1 (by decide))).trans h.o1)
  · rw [World.frozen?_setCell, World.frozen?_setCell]; exact h.fo j
  · rw [World.cell?_setCell_other _ _ _ _ (n2 _ _), World.cell?_setCell_other _ _ _ _ (n2 _ _)]; exact h.r0
  · rw [World.cell?_setCell_other _ _ _ _ (n2 _ _), World.cell?_setCell_other _ _ _ _ (n2 _ _)]; exact h.r1
  · rw [World.frozen?_setCell, World.frozen?_setCell]; exact h.fr j

set_option maxHeartbeats 2000000 in
theorem written_any (A : Option Addr) (l : List It) (c : Nat) (w : World) (hI : Items w w.heap.size A l) (hl : Light l) :
    Calls Try.prog 12 #[.slice A l.length c] w fun x w' => x = .returned (.agg #[.string (enc l), .int .i64 0]) ∧ Below w.heap.size w w' := by
  have h20 := hl.1
  have HL := Lib.hid hl
  have HI := Lib.hid hI
  clear hl hI
  go_enter Try.func12, Try.ntmps12
  go_wp2
  go_loopw [8] (fun i wr => ∃ k : Nat, k ≤ l.length ∧ i = .int .i64 k ∧ WrSt w (enc (l.take k)) wr) (fun i _ => l.length - (intOf i).toNat)
  case atStart =>
    refine ⟨0, by omega, rfl, ?_⟩
    refine ⟨cell_new _ _ _ _ _ (by simp), cell_new _ _ _ _ _ (by simp), fun j => free_new _ _ _ _ _ (by simp), (cell_old _ _ _ _ (by simp)).trans (cell_new _ _ _ _ _ rfl), (cell_old _ _ _ _ (by simp)).trans (cell_new _ _ _ _ _ rfl),
      fun j => (free_old _ _ _ _ (by simp)).trans (free_new _ _ _ _ _ rfl), ((Below.refl _ _).alloc (Nat.le_refl _) _).alloc (by simp) _, by simp⟩
  case round =>
    obtain ⟨k, hk, rfl, hst⟩ := hrel
    have HST := Lib.hid hst
    clear hst
    by_cases hlt : k < l.length
    · obtain ⟨b, off, rfl, hbl, hf, hat⟩ := HI.out k hlt
      have hat' := hat.below HST.out.below hbl
      have hs := HL.out.2 k hlt
      have hsz := HST.out.size
      have HN := Lib.hid (enc_next l k hlt)
      have HA := Lib.hid (HST.out.alloc (.cells #[.int .u8 ((l.getD k It.zero).kind : Int), .int .u64 ((l.getD k It.zero).num : Int), .int .i64 (l.getD k It.zero).bytes, .string (l.getD k It.zero).text] 27))
      have hacc := enc_size l HL.out k hk
      obtain ⟨c0, c1, c2, c3⟩ := hat'
      have hfn := hf.num
      have hfk := hf.kind
      clear hat hf
      generalize l.getD k It.zero = x at *
      generalize enc (l.take k) = acc at *
      have q0 := HST.out.o0
      have q1 := HST.out.o1
      by_cases h0 : x.kind = 0
      · have hk0 : ((x.kind : Int) == 0) = true := by simp; omega
        have HE : encIt x = ⟨(Oct.be (Oct.width x.bytes) x.num).toArray⟩ := by unfold encIt; rw [if_pos h0]
        have hc := fun W => num_any acc 0 x.num x.bytes W hfn (by omega)
        rw [← HE] at hc
        have HC := Lib.hid hc
        clear h0 HE hc
        go_wp2_with fail
        refine (HC.out _).mono ?_
        rintro e' w2 ⟨rfl, hb2⟩
        have H2 := Lib.hid (HA.out.onto hb2)
        have k0 := H2.out.o0
        have k1 := H2.out.o1
        have k2 := H2.out.fo
        have HP := Lib.hid (H2.out.put (acc ++ encIt x))
        generalize acc ++ encIt x = acc' at *
        go_wp2_with fail
        go_roundw
        case rel => exact ⟨k + 1, by omega, by go_num, by rw [HN.out]; exact HP.out⟩
        case measure => simp [intOf]; omega
      · by_cases h1 : x.kind = 1
        · have hk0 : ((x.kind : Int) == 0) = false := by simp; omega
          have hk1 : ((x.kind : Int) == 1) = true := by simp; omega
          have HE : encIt x = textB x.text := by unfold encIt; rw [if_neg h0, if_pos h1]
          have hc := fun W => text_any acc x.text 0 W (by omega) (by omega)
          rw [← HE] at hc
          have HC := Lib.hid hc
          clear h0 h1 HE hc
          go_wp2_with fail
          refine (HC.out _).mono ?_
          rintro e' w2 ⟨rfl, hb2⟩
          have H2 := Lib.hid (HA.out.onto hb2)
          have k0 := H2.out.o0
          have k1 := H2.out.o1
          have k2 := H2.out.fo
          have HP := Lib.hid (H2.out.put (acc ++ encIt x))
          generalize acc ++ encIt x = acc' at *
          go_wp2_with fail
          go_roundw
          case rel => exact ⟨k + 1, by omega, by go_num, by rw [HN.out]; exact HP.out⟩
          case measure => simp [intOf]; omega
        · have hk0 : ((x.kind : Int) == 0) = false := by simp; omega
          have hk1 : ((x.kind : Int) == 1) = false := by simp; omega
          have HE : encIt x = x.text := by unfold encIt; rw [if_neg h0, if_neg h1]
          have hc := fun W => raw_any acc x.text 0 W (by omega) (by omega)
          rw [show acc ++ x.text = acc ++ encIt x by rw [HE]] at hc
          have HC := Lib.hid hc
          clear h0 h1 HE hc
          go_wp2_with fail
          refine (HC.out _).mono ?_
          rintro e' w2 ⟨rfl, hb2⟩
          have H2 := Lib.hid (HA.out.onto hb2)
          have k0 := H2.out.o0
          have k1 := H2.out.o1
          have k2 := H2.out.fo
          have HP := Lib.hid (H2.out.put (acc ++ encIt x))
          generalize acc ++ encIt x = acc' at *
          go_wp2_with fail
          go_roundw
          case rel => exact ⟨k + 1, by omega, by go_num, by rw [HN.out]; exact HP.out⟩
          case measure => simp [intOf]; omega
    · obtain rfl : k = l.length := by omega
      have HE := Lib.hid (show enc (l.take l.length) = enc l by rw [List.take_length])
      generalize enc (l.take l.length) = acc at *
      have q0 := HST.out.o0
      have q1 := HST.out.o1
      have k0 := HST.out.r0
      have k1 := HST.out.r1
      have k2 := HST.out.fr
      go_wp2_with fail
      exact bodyPost_ret (v := .agg #[.string acc, .int .i64 0]) (by simp [results, Try.results12, go_sem, k0, k1]) rfl
        ⟨by rw [HE.out], (HST.out.below.setCell (by simp) _).setCell (by simp) _⟩
end Go.Proofs.Yteblkbgcefgplaa
