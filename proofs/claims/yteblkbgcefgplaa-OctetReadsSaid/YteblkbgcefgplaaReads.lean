/-
  THE WALK of OctetReads: whatever is read of any bytes, each answer is the document's, and so is what is left.
-/
import Derived.Test.YteblkbgcefgplaaRefIn
import Derived.Deep.DeepCutAuto
import Derived.Deep.CutBlock
import Derived.Deep.RegionHeld3
namespace Go.Proofs.Yteblkbgcefgplaa
open Go.ChangeShapes Go.WideShapes Go.ChangeAt Go.RowKit
attribute [local go_sem ↓] Go.wp_at_zero Go.wp_at_succ

theorem Items.most {w : World} {B B' : Nat} {A : Option Addr} {l : List It} (h : Items w B A l) (hB : B ≤ B') : Items w B' A l := fun i hi => by
  obtain ⟨b, off, hA, hlt, hf, hat⟩ := h i hi
  exact ⟨b, off, hA, by omega, hf, hat⟩
theorem afar {W W' : World} {b g i : Nat} (h : W.grownBy W' (some b)) (hlt : g < W.heap.size) (hne : g ≠ b) : W'.cell? ⟨g, i, none⟩ = W.cell? ⟨g, i, none⟩ :=
  World.cell?_of_block (h.block g hlt (fun e => hne (by injection e)))
theorem ffar {W W' : World} {b g i : Nat} (h : W.grownBy W' (some b)) (hlt : g < W.heap.size) (hne : g ≠ b) : W'.frozen? ⟨g, i, none⟩ = W.frozen? ⟨g, i, none⟩ :=
  World.frozen?_of_block (h.block g hlt (fun e => hne (by injection e)))
theorem InAt.far {b b' : Nat} {r : ByteArray} {e : Int} {w w' : World} (h : InAt b r e w) (hg : w.grownBy w' (some b')) (hne : b ≠ b') : InAt b r e w' :=
  ⟨(afar hg h.lt hne).trans h.c0, (afar hg h.lt hne).trans h.c1, fun j => (ffar hg h.lt hne).trans (h.fr j), Nat.lt_of_lt_of_le h.lt hg.size⟩
theorem RefIs.far {b b' : Nat} {s : ByteArray} {st : St} {w w' : World} (h : RefIs b s st w) (hg : w.grownBy w' (some b')) (hne : b ≠ b') : RefIs b s st w' := by
  obtain ⟨p, h⟩ := h
  exact ⟨p, (afar hg h.lt hne).trans h.c0, (afar hg h.lt hne).trans h.c1, (afar hg h.lt hne).trans h.c2, fun j => (ffar hg h.lt hne).trans (h.fr j), Nat.lt_of_lt_of_le h.lt hg.size, h.le, h.rest, h.ok⟩
theorem RefIs.alloc {b : Nat} {s : ByteArray} {st : St} {w : World} (h : RefIs b s st w) (o : Obj) : RefIs b s st (w.alloc o) := by
  obtain ⟨p, h⟩ := h
  exact ⟨p, (cell_old _ _ _ _ h.lt).trans h.c0, (cell_old _ _ _ _ h.lt).trans h.c1, (cell_old _ _ _ _ h.lt).trans h.c2, fun j => (free_old _ _ _ _ h.lt).trans (h.fr j), by have := h.lt; simp; omega, h.le, h.rest, h.ok⟩
theorem RefIs.drew {b : Nat} {s : ByteArray} {st : St} {w : World} (h : RefIs b s st w) : RefIs b s st w.drew := by
  obtain ⟨p, h⟩ := h
  exact ⟨p, h.c0, h.c1, h.c2, h.fr, h.lt, h.le, h.rest, h.ok⟩
theorem RefIs.drewN {b : Nat} {s : ByteArray} {st : St} {w : World} (h : RefIs b s st w) (n : Nat) : RefIs b s st (w.drewN n) := by
  obtain ⟨p, h⟩ := h
  exact ⟨p, h.drewN n⟩
theorem InAt.drewN {b : Nat} {r : ByteArray} {e : Int} {w : World} (h : InAt b r e w) (n : Nat) : InAt b r e (w.drewN n) := ⟨h.c0, h.c1, h.fr, h.lt⟩

/-- both readers, side by side -/
structure Rd (w : World) (bI bQ : Nat) (s : ByteArray) (st : St) (wr : World) : Prop where
  one : InAt bI st.1 st.2 wr
  two : RefIs bQ s st wr
  below : Below w.heap.size w wr
  leI : w.heap.size ≤ bI
  leQ : w.heap.size ≤ bQ
  ne : bI ≠ bQ
  ok : st.ok
def RdAny (w : World) (bI bQ : Nat) (s : ByteArray) (wr : World) : Prop := ∃ st, Rd w bI bQ s st wr
theorem RefIs.lt {b : Nat} {s : ByteArray} {st : St} {w : World} (h : RefIs b s st w) : b < w.heap.size := by
  obtain ⟨p, h⟩ := h
  exact h.lt
theorem Rd.alloc {w : World} {bI bQ : Nat} {s : ByteArray} {st : St} {wr : World} (h : Rd w bI bQ s st wr) (o : Obj) : Rd w bI bQ s st (wr.alloc o) :=
  ⟨h.one.alloc o, h.two.alloc o, h.below.alloc h.below.size o, h.leI, h.leQ, h.ne, h.ok⟩
theorem below_drewN {B : Nat} {a w : World} (h : Below B a w) (n : Nat) : Below B a (w.drewN n) := ⟨h.os, h.tape, h.output, h.size, h.block⟩
theorem Rd.drew {w : World} {bI bQ : Nat} {s : ByteArray} {st : St} {wr : World} (h : Rd w bI bQ s st wr) : Rd w bI bQ s st wr.drew :=
  ⟨h.one.drew, h.two.drew, h.below.drew, h.leI, h.leQ, h.ne, h.ok⟩
theorem Rd.drewN {w : World} {bI bQ : Nat} {s : ByteArray} {st : St} {wr : World} (h : Rd w bI bQ s st wr) (n : Nat) : Rd w bI bQ s st (wr.drewN n) :=
  ⟨h.one.drewN n, h.two.drewN n, below_drewN h.below n, h.leI, h.leQ, h.ne, h.ok⟩
/-- first one's call, then the other's -/
theorem Rd.both {w : World} {bI bQ : Nat} {s : ByteArray} {st st' : St} {wr w1 w2 : World} (h : Rd w bI bQ s st wr) (h1 : InAt bI st'.1 st'.2 w1) (g1 : wr.grownBy w1 (some bI)) (h2 : RefIs bQ s st' w2) (g2 : w1.grownBy w2 (some bQ)) (hok : st'.ok) :
    Rd w bI bQ s st' w2 :=
  ⟨h1.far g2 h.ne, h2, (h.below.grown g1 h.below.size (fun k hk => by injection hk with hk; have := h.leI; omega)).grown g2 (Nat.le_trans h.below.size g1.size) (fun k hk => by injection hk with hk; have := h.leQ; omega), h.leI, h.leQ, h.ne, hok⟩
theorem Rd.both' {w : World} {bI bQ : Nat} {s : ByteArray} {st st' : St} {wr w1 w2 : World} (h : Rd w bI bQ s st wr) (h2 : RefIs bQ s st' w1) (g2 : wr.grownBy w1 (some bQ)) (h1 : InAt bI st'.1 st'.2 w2) (g1 : w1.grownBy w2 (some bI)) (hok : st'.ok) :
    Rd w bI bQ s st' w2 :=
  ⟨h1, h2.far g1 (Ne.symm h.ne), (h.below.grown g2 h.below.size (fun k hk => by injection hk with hk; have := h.leQ; omega)).grown g1 (Nat.le_trans h.below.size g2.size) (fun k hk => by injection hk with hk; have := h.leI; omega), h.leI, h.leQ, h.ne, hok⟩

theorem ItemAt.far {b b' o : Nat} {x : It} {w w' : World} (h : ItemAt w b o x) (hg : w.grownBy w' (some b')) (hlt : b < w.heap.size) (hne : b ≠ b') : ItemAt w' b o x :=
  ⟨(afar hg hlt hne).trans h.c0, (afar hg hlt hne).trans h.c1, (afar hg hlt hne).trans h.c2, (afar hg hlt hne).trans h.c3⟩
theorem ItemAt.fresh (wr : World) (kd nm : Nat) (by' : Int) (tx : ByteArray) :
    ItemAt (wr.alloc (.cells #[.int .u8 (kd : Int), .int .u64 (nm : Int), .int .i64 by', .string tx] 27)) wr.heap.size 0 ⟨kd, nm, by', tx⟩ :=
  ⟨cell_new _ _ _ _ _ rfl, cell_new _ _ _ _ _ rfl, cell_new _ _ _ _ _ rfl, cell_new _ _ _ _ _ rfl⟩
theorem quiet_left {P : Program} {f : FuncId} {args : Array Value} {w : World} {n : Nat} {v : Value}
    (h : Calls P f args (w.drewN n) fun e w' => e = .returned v ∧ w.drewN n = w') : Calls P f args (w.drewN n) fun e w'' => e = .returned v ∧ ∃ m, w'' = w.drewN m :=
  h.mono fun _ _ ⟨he, hm⟩ => ⟨he, n, hm.symm⟩
/-- both readers, and an item in a block of its own -/
structure RdIt (w : World) (bI bQ : Nat) (s : ByteArray) (g : Nat) (x : It) (wr : World) : Prop where
  any : RdAny w bI bQ s wr
  lt : g < wr.heap.size
  at_ : ItemAt wr g 0 x

set_option maxRecDepth 100000 in
set_option maxHeartbeats 4000000 in
theorem reads_light (s : ByteArray) (A : Option Addr) (l : List It) (c : Nat) (code : Int) (a : Nat) (w : World) (hI : Items w w.heap.size A l) (hl : Light l) (hs : s.size ≤ 300) (ha : a < 256) :
    Calls Try.prog 4 #[.string s, .slice A l.length c, .int .i64 code, .int .u8 (a : Int)] w fun x w' => x = .returned (.bool true) ∧ Below w.heap.size w w' := by
  have h20 := hl.1
  have HL := Lib.hid hl
  have HI := Lib.hid hI
  clear hl hI
  go_enter Try.func4, Try.ntmps4
  go_wp2_with fail
  refine (awake_any _).mono ?_
  rintro x w1 ⟨rfl, b1⟩
  have B1 := Lib.hid b1
  clear b1
  go_wp2_with fail
  refine (light_yes A l c _ ((HI.out.below B1.out).most B1.out.size) HL.out).mono ?_
  rintro x w2 ⟨rfl, b2⟩
  have B2 := Lib.hid (Below.trans B1.out (b2.mono B1.out.size))
  clear b2
  go_wp2_with fail
  refine (new_any _ _).mono ?_
  rintro x w5 ⟨rfl, rfl⟩
  have hz2 := B2.out.size
  have H0 : Hid (Rd w w2.heap.size (w2.heap.size + 1) s (s, 0) ((w2.alloc (.cells #[.string s, .int .i64 0] 55)).alloc (.cells #[.string s, .int .i64 0, .int .i64 0] 41))) := Lib.hid
    ⟨InAt.alloc ⟨cell_new _ _ _ _ _ rfl, cell_new _ _ _ _ _ rfl, fun j => free_new _ _ _ _ _ rfl, by simp⟩ _,
      ⟨0, cell_new _ _ _ _ _ (by simp), cell_new _ _ _ _ _ (by simp), cell_new _ _ _ _ _ (by simp), fun j => free_new _ _ _ _ _ (by simp), by simp, by omega, fun _ => (by simp), fun h => absurd rfl h⟩,
      (B2.out.alloc hz2 _).alloc (by simp; omega) _, hz2, by omega, by omega, fun h => absurd rfl h⟩
  go_wp2_with fail
  generalize w2.heap.size = bI at *
  go_loopw [30] (fun i wr => ∃ k : Nat, k ≤ l.length ∧ i = .int .i64 k ∧ RdAny w bI (bI + 1) s wr) (fun i _ => l.length - (intOf i).toNat)
  case atStart => exact ⟨0, by omega, rfl, _, H0.out⟩
  case round =>
    obtain ⟨k, hk, rfl, hst⟩ := hrel
    have HST := Lib.hid hst
    clear hst H0
    by_cases hlt : k < l.length
    · obtain ⟨st, hrd⟩ := HST.out
      obtain ⟨b, off, rfl, hbl, hf, hat⟩ := HI.out k hlt
      have hat' := hat.below hrd.below hbl
      have hsz := hrd.below.size
      obtain ⟨c0, c1, c2, c3⟩ := hat'
      clear hat hf HST
      generalize l.getD k It.zero = x at *
      obtain ⟨kd, nm, by', tx⟩ := x
      simp only at c0 c1 c2 c3
      have hI1 := hrd.one.lt
      have hQ1 := hrd.two.lt
      have HR := Lib.hid hrd
      clear hrd
      go_upto_if 38 with (fail)
      go_cut [] (fun wx => RdIt w bI (bI + 1) s wr.heap.size ⟨kd, nm, by', tx⟩ wx)
      case first =>
        by_cases hka : (k : Int) = a
        · have k0 : ((k : Int) == (a : Int)) = true := by simpa using hka
          clear hka
          go_wp2_with fail
          refine (fail_any bI st.1 st.2 code _ (HR.out.alloc _).one).mono ?_
          rintro y w6 ⟨rfl, h6, g6⟩
          have H6 := Lib.hid h6
          have G6 := Lib.hid g6
          clear h6 g6
          go_wp2_with fail
          refine (rfail_any (bI + 1) s st code _ ((HR.out.alloc _).two.far G6.out (by omega))).mono ?_
          rintro y w7 ⟨rfl, h7, g7⟩
          have HRD := Lib.hid ((HR.out.alloc _).both (st' := sFail st code) H6.out G6.out h7 g7 (ok_fail HR.out.ok code))
          have hz6 := G6.out.size
          simp at hz6
          have HAT : Hid (ItemAt w7 wr.heap.size 0 ⟨kd, nm, by', tx⟩) := Lib.hid (((ItemAt.fresh wr kd nm by' tx).far G6.out (by simp) (by omega)).far g7 (by omega) (by omega))
          have hz7 := g7.size
          clear h7 g7
          go_wp2_with fail
          go_meet
          exact ⟨⟨_, HRD.out⟩, by omega, HAT.out⟩
        · have k0 : ((k : Int) == (a : Int)) = false := by simpa using hka
          clear hka
          go_wp2_with fail
          go_meet
          exact ⟨⟨st, HR.out.alloc _⟩, by simp, ⟨cell_new _ _ _ _ _ rfl, cell_new _ _ _ _ _ rfl, cell_new _ _ _ _ _ rfl, cell_new _ _ _ _ _ rfl⟩⟩
      case rest =>
        obtain ⟨⟨st2, hrd2⟩, hlt2, hat2⟩ := hcut
        clear HR c0 c1 c2 c3
        have hg1 : wr.heap.size ≠ bI := by omega
        have hg2 : wr.heap.size ≠ bI + 1 := by omega
        generalize wr.heap.size = g at *
        obtain ⟨c0, c1, c2, c3⟩ := hat2
        simp only [Nat.zero_add] at c0 c1 c2 c3
        have HR := Lib.hid hrd2
        clear hrd2
        go_upto_block 2 with fail
        go_cut [] (fun wx => RdAny w bI (bI + 1) s wx)
        case first =>
          by_cases h0 : kd = 0
          · have hk0 : ((kd : Int) == 0) = true := by simp; omega
            clear h0
            have hc1 := fun W hW => inum_any bI st2.1 st2.2 by' W hW HR.out.ok
            have hc2 := fun W hW => rnumber_any (bI + 1) s st2 by' W hW hs
            have HC1 := Lib.hid hc1
            have HC2 := Lib.hid hc2
            have hok := Lib.hid (ok_raw HR.out.ok (Oct.width by' : Nat))
            clear hc1 hc2
            go_wp2_with fail
            go_region_held3 (fun w' => w'.cell? ⟨g, 2, none⟩ = some (.int .i64 by')) (first | go_keep | (rw [kf]; go_keep) | (simp [kf]))
              (first
                | (go_at_call 19; refine (HC1.out _ ?_).mono ?_; (first | exact HR.out.drew.one | exact HR.out.one | exact HR.out.drew.one.far g7 (by omega) | exact HR.out.one.far g7 (by omega)); rintro y w6 ⟨rfl, h6, g6⟩; have z6 := g6.size; (try simp at z6); have kf := fun i => afar (g := g) (i := i) g6 (by first | omega | (simp; omega)) (by omega))
                | (go_at_call 20; refine (HC2.out _ ?_).mono ?_; (first | exact HR.out.drew.two | exact HR.out.two | exact HR.out.drew.two.far g6 (by omega) | exact HR.out.two.far g6 (by omega)); rintro y w7 ⟨rfl, h7, g7⟩; have z7 := g7.size; (try simp at z7); have kf := fun i => afar (g := g) (i := i) g7 (by first | omega | (simp; omega)) (by omega)))
            all_goals
              go_wp2_with fail
              go_meet
              first
                | exact ⟨_, HR.out.drew.both h6 g6 h7 g7 hok.out⟩
                | exact ⟨_, HR.out.drew.both' h7 g7 h6 g6 hok.out⟩
                | exact ⟨_, HR.out.both h6 g6 h7 g7 hok.out⟩
                | exact ⟨_, HR.out.both' h7 g7 h6 g6 hok.out⟩
          · by_cases h1 : kd = 1
            · have hk0 : ((kd : Int) == 0) = false := by simp; omega
              have hk1 : ((kd : Int) == 1) = true := by simp; omega
              clear h0 h1
              have hc1 := fun W hW => itext_any bI st2 by' W hW HR.out.ok
              have hc2 := fun W hW => rtextIn_any (bI + 1) s st2 by' W hW hs
              have HC1 := Lib.hid hc1
              have HC2 := Lib.hid hc2
              have hok : Hid (sText st2 by').ok := Lib.hid (ok_raw (ok_mid HR.out.ok by') _)
              clear hc1 hc2
              go_wp2_with fail
              go_region_held3 (fun w' => w'.cell? ⟨g, 2, none⟩ = some (.int .i64 by')) (first | go_keep | (rw [kf]; go_keep) | (simp [kf]))
                (first
                  | (go_at_call 21; refine (HC1.out _ ?_).mono ?_; (first | exact HR.out.drew.one | exact HR.out.one | exact HR.out.drew.one.far g7 (by omega) | exact HR.out.one.far g7 (by omega)); rintro y w6 ⟨rfl, h6, g6⟩; have z6 := g6.size; (try simp at z6); have kf := fun i => afar (g := g) (i := i) g6 (by first | omega | (simp; omega)) (by omega))
                  | (go_at_call 22; refine (HC2.out _ ?_).mono ?_; (first | exact HR.out.drew.two | exact HR.out.two | exact HR.out.drew.two.far g6 (by omega) | exact HR.out.two.far g6 (by omega)); rintro y w7 ⟨rfl, h7, g7⟩; have z7 := g7.size; (try simp at z7); have kf := fun i => afar (g := g) (i := i) g7 (by first | omega | (simp; omega)) (by omega)))
              all_goals
                go_wp2_with fail
                go_meet
                first
                  | exact ⟨_, HR.out.drew.both h6 g6 h7 g7 hok.out⟩
                  | exact ⟨_, HR.out.drew.both' h7 g7 h6 g6 hok.out⟩
                  | exact ⟨_, HR.out.both h6 g6 h7 g7 hok.out⟩
                  | exact ⟨_, HR.out.both' h7 g7 h6 g6 hok.out⟩
            · have hk0 : ((kd : Int) == 0) = false := by simp; omega
              have hk1 : ((kd : Int) == 1) = false := by simp; omega
              clear h0 h1
              have hc1 := fun W hW => iraw_any bI st2.1 st2.2 by' W hW HR.out.ok
              have hc2 := fun W hW => rraw_any (bI + 1) s st2 by' W hW hs
              have HC1 := Lib.hid hc1
              have HC2 := Lib.hid hc2
              have hok : Hid (sRaw st2 by').ok := Lib.hid (ok_raw HR.out.ok by')
              clear hc1 hc2
              go_wp2_with fail
              go_region_held3 (fun w' => w'.cell? ⟨g, 2, none⟩ = some (.int .i64 by')) (first | go_keep | (rw [kf]; go_keep) | (simp [kf]))
                (first
                  | (go_at_call 23; refine (HC1.out _ ?_).mono ?_; (first | exact HR.out.drew.one | exact HR.out.one | exact HR.out.drew.one.far g7 (by omega) | exact HR.out.one.far g7 (by omega)); rintro y w6 ⟨rfl, h6, g6⟩; have z6 := g6.size; (try simp at z6); have kf := fun i => afar (g := g) (i := i) g6 (by first | omega | (simp; omega)) (by omega))
                  | (go_at_call 24; refine (HC2.out _ ?_).mono ?_; (first | exact HR.out.drew.two | exact HR.out.two | exact HR.out.drew.two.far g6 (by omega) | exact HR.out.two.far g6 (by omega)); rintro y w7 ⟨rfl, h7, g7⟩; have z7 := g7.size; (try simp at z7); have kf := fun i => afar (g := g) (i := i) g7 (by first | omega | (simp; omega)) (by omega)))
              all_goals
                go_wp2_with fail
                go_meet
                first
                  | exact ⟨_, HR.out.drew.both h6 g6 h7 g7 hok.out⟩
                  | exact ⟨_, HR.out.drew.both' h7 g7 h6 g6 hok.out⟩
                  | exact ⟨_, HR.out.both h6 g6 h7 g7 hok.out⟩
                  | exact ⟨_, HR.out.both' h7 g7 h6 g6 hok.out⟩
        case rest =>
          obtain ⟨st3, hrd3⟩ := hcut
          have H3 := Lib.hid hrd3
          clear hrd3 HR c0 c1 c2 c3
          obtain ⟨p, hat⟩ := H3.out.two
          have cc := hat.c2
          clear hat
          go_wp2_with fail
          go_quiet ((first
            | (go_at_call 25; exact quiet_left (left_any bI st3.1 st3.2 _ (H3.out.one.drewN _)))
            | (go_at_call 26; exact Calls.quiet_of (rleft_any (bI + 1) s st3 _ (H3.out.two.drewN _) hs))
            | (go_at_call 27; exact quiet_left (err_any bI st3.1 st3.2 _ (H3.out.one.drewN _)))
            | (go_at_call 28; exact quiet_left (end_any bI st3.1 st3.2 _ (H3.out.one.drewN _)))
            | (go_at_call 29; exact Calls.quiet_of (rend_any (bI + 1) s st3 _ (H3.out.two.drewN _) hs))))
          go_wp2_with fail
          go_roundw
          case rel => exact ⟨k + 1, by omega, by go_num, ⟨st3, H3.out.drewN _⟩⟩
          case measure => simp [intOf]; omega
    · go_wp2_with fail
      go_ret
      obtain ⟨st, hh⟩ := HST.out
      exact ⟨rfl, hh.below⟩

set_option maxRecDepth 100000 in
set_option maxHeartbeats 1000000 in
theorem reads_long (s : ByteArray) (v : Value) (code : Int) (a : Nat) (w : World) (hs : 300 < s.size) :
    Calls Try.prog 4 #[.string s, v, .int .i64 code, .int .u8 (a : Int)] w fun x w' => x = .returned (.bool true) ∧ Below w.heap.size w w' := by
  go_enter Try.func4, Try.ntmps4
  go_wp2_with fail
  refine (awake_any _).mono ?_
  rintro x w1 ⟨rfl, b1⟩
  have B1 := Lib.hid b1
  clear b1
  go_wp2_with fail
  go_ret
  exact ⟨rfl, B1.out⟩
set_option maxRecDepth 100000 in
set_option maxHeartbeats 1000000 in
theorem reads_heavy (s : ByteArray) (A : Option Addr) (l : List It) (c : Nat) (code : Int) (a : Nat) (w : World) (hI : Items w w.heap.size A l) (hl : ¬ Light l) (hlen : l.length ≤ 9223372036854775807) (hs : s.size ≤ 300) :
    Calls Try.prog 4 #[.string s, .slice A l.length c, .int .i64 code, .int .u8 (a : Int)] w fun x w' => x = .returned (.bool true) ∧ Below w.heap.size w w' := by
  have HL := Lib.hid hl
  have HI := Lib.hid hI
  clear hl hI
  go_enter Try.func4, Try.ntmps4
  go_wp2_with fail
  refine (awake_any _).mono ?_
  rintro x w1 ⟨rfl, b1⟩
  have B1 := Lib.hid b1
  clear b1
  go_wp2_with fail
  refine (light_no A l c _ ((HI.out.below B1.out).most B1.out.size) HL.out hlen).mono ?_
  rintro x w2 ⟨rfl, b2⟩
  have B2 := Lib.hid (Below.trans B1.out (b2.mono B1.out.size))
  clear b2
  go_wp2_with fail
  go_ret
  exact ⟨rfl, B2.out⟩
theorem reads_walk (s : ByteArray) (A : Option Addr) (l : List It) (c : Nat) (code : Int) (a : Nat) (w : World) (hI : Items w w.heap.size A l) (hlen : l.length ≤ 9223372036854775807) (ha : a < 256) :
    Calls Try.prog 4 #[.string s, .slice A l.length c, .int .i64 code, .int .u8 (a : Int)] w fun x w' => x = .returned (.bool true) ∧ Below w.heap.size w w' := by
  by_cases hs : s.size ≤ 300
  · by_cases hl : Light l
    · exact reads_light s A l c code a w hI hl hs ha
    · exact reads_heavy s A l c code a w hI hl hlen hs
  · exact reads_long s _ code a w (by omega)
end Go.Proofs.Yteblkbgcefgplaa
