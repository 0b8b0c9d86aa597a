/-
  WHETHER A HEAD HAS A PAIR, EACH of some, ONE of some: walked, the program's and the document's. WHETHER A HEAD HAS EACH of some pairs; the document's own question: walked. RULES; whether one may be: walked, the program's and the document's. A RULE's COPY, as the laws make it: walked. PLAIN: what a frame's body is made of: numbers, yes or no, texts, heads; read behind they were written, and written behind they were read. No program is spoken of here.
-/
import Derived.Test.YtnamkglflhkckaaGreatDoorMf03
import Derived.Test.YtnamkglflhkckaaGreatDoorMf07
import Derived.Test.YtnamkglflhkckaaGreatDoorMf08
import Derived.Deep.QuietTactic
import Derived.Deep.Upon
import Derived.Deep.AppendLies
import Derived.Deep.RegionHeld3
import Derived.Deep.DeepCutAuto
section
namespace Go.Proofs.YtnamkglflhkckaaGreatDoor
open Go.ChangeShapes Go.WideShapes Go.ChangeAt Go.RowKit
/-- is a pair in a head? -/
def hasP (h : List Hd.Pr) (x : Hd.Pr) : Bool := h.any fun y => prEq x y
theorem prEq_comm (x y : Hd.Pr) : prEq x y = prEq y x := by
  rw [prEq_iff, prEq_iff, Bool.eq_iff_iff, decide_eq_true_iff, decide_eq_true_iff]
  exact eq_comm
theorem hasP_yes {h : List Hd.Pr} {x : Hd.Pr} {k : Nat} (hk : k < h.length) (e : prEq x (Hd.pr h k) = true) : hasP h x = true :=
  List.any_eq_true.2 ⟨h[k], List.getElem_mem hk, by rw [Hd.pr_at hk] at e; exact e⟩
theorem hasP_no {h : List Hd.Pr} {x : Hd.Pr} (g : ∀ k, k < h.length → prEq x (Hd.pr h k) = false) : hasP h x = false := by
  unfold hasP
  rw [List.any_eq_false]
  intro y hy
  obtain ⟨i, hi, rfl⟩ := List.getElem_of_mem hy
  have := g i hi
  rw [Hd.pr_at hi] at this
  rw [this]; simp
theorem hasP_idx (h : List Hd.Pr) (x : Hd.Pr) : hasP h x = decide (idx (prEq x) h ≥ 0) := (idx_any _ _).symm
attribute [local go_sem] guardPr
set_option maxHeartbeats 2000000 in
theorem indexPrE_any (x : Hd.Pr) (l : List Hd.Pr) (A : Option Addr) (c : Nat) (w : World) (hl : l.length ≤ 100000) (hp : Prs w A l) :
    Calls Tryz.prog 203 #[.slice A l.length c, prV x] w fun e w' => e = .returned (.int .i64 (idx (prEq x) l)) ∧ Below w.heap.size w w' := by
  have HP := Lib.hid hp
  have HNONE := Lib.hid (fun h => idx_none (q := prEq x) (l := l) Hd.Pr.zero h)
  have HSOME := Lib.hid (fun k (hk : k < l.length) h hq => idx_some (q := prEq x) (l := l) Hd.Pr.zero hk h hq)
  clear hp
  generalize idx (prEq x) l = M at *
  obtain ⟨n, hn⟩ : ∃ n, n = l.length := ⟨_, rfl⟩
  rw [← hn]
  have HN := Lib.hid hn
  have hnl : n ≤ 100000 := by omega
  clear hn
  have HBX := Lib.hid (PrAt.new x w)
  have HB0 := Lib.hid (show Below w.heap.size w (w.alloc (.cells #[.string (ofL x.key), .int .u8 (x.kind : Int), .int .i64 x.num, .string (ofL x.txt)] 176)) from (Below.refl _ _).alloc (Nat.le_refl _) _)
  simp only [prV]
  go_enter Tryz.func203, Tryz.ntmps203
  go_wp2_with fail
  go_loopg [8] n (fun g i wr => ∃ k : Nat, k + g = n ∧ i = .int .i64 (k : Int) ∧ (∀ j, j < k → prEq x (l.getD j Hd.Pr.zero) = false) ∧ PrAt wr w.heap.size 0 x ∧ Below w.heap.size w wr)
  case atStart => exact ⟨0, by omega, rfl, fun j hj => absurd hj (by omega), HBX.out, HB0.out⟩
  case round =>
    obtain ⟨k, hk, rfl, hno, hbx, hB⟩ := hrel
    have HB := Lib.hid hB
    have HNO := Lib.hid hno
    have HBK := Lib.hid hbx
    have hwl : w.heap.size < wr.heap.size := World.block_lt_of_cell? wr _ hbx.c0
    clear hB hno hbx
    by_cases hlt : k < n
    · obtain ⟨b, off, rfl, hbl, hat⟩ := (HP.out.on HB.out).at_ k (by have := HN.out; omega)
      obtain ⟨c0, c1, c2, c3⟩ := hat
      obtain ⟨d0, d1, d2, d3⟩ := HBK.out
      simp only [Nat.zero_add] at d0 d1 d2 d3
      have hq := fun W => pr_eq x (Hd.pr l k) W
      cases he : prEq x (Hd.pr l k) with
      | true =>
        have HM := Lib.hid (HSOME.out k (by have := HN.out; omega) HNO.out he)
        rw [he] at hq
        clear he
        generalize Hd.pr l k = y at *
        obtain ⟨y1, y2, y3, y4⟩ := y
        simp only [prV] at hq c0 c1 c2 c3
        go_wp2_with fail
        go_quiet (fail)
        go_wp2_with fail
        go_ret
        exact ⟨ret_int HM.out.symm, drewN_below HB.out _⟩
      | false =>
        have HNX : Hid (∀ j, j < k + 1 → prEq x (l.getD j Hd.Pr.zero) = false) := fun j hj => by
          by_cases e : j = k
          · rw [e]; exact he
          · exact HNO.out j (by omega)
        rw [he] at hq
        clear he
        generalize Hd.pr l k = y at *
        obtain ⟨y1, y2, y3, y4⟩ := y
        simp only [prV] at hq c0 c1 c2 c3
        go_wp2_with fail
        go_quiet (fail)
        go_wp2_with fail
        go_roundg (gk - 1)
        case rel => exact ⟨k + 1, by omega, by go_num, HNX.out, ⟨HBK.out.c0, HBK.out.c1, HBK.out.c2, HBK.out.c3⟩, drewN_below HB.out _⟩
        case measure => omega
    · have HM := Lib.hid (HNONE.out (fun i hi => HNO.out i (by have := HN.out; omega)))
      go_wp2_with fail
      go_ret
      exact ⟨ret_int HM.out.symm, HB.out⟩
theorem containsPr_any (x : Hd.Pr) (l : List Hd.Pr) (A : Option Addr) (c : Nat) (w : World) (hl : l.length ≤ 100000) (hp : Prs w A l) :
    Calls Tryz.prog 199 #[.slice A l.length c, prV x] w fun e w' => e = .returned (.bool (hasP l x)) ∧ Below w.heap.size w w' := by
  rw [hasP_idx]
  have HP := Lib.hid hp
  have HC := Lib.hid (fun W h => indexPrE_any x l A c W hl h)
  have HB0 := Lib.hid (show Below w.heap.size w (w.alloc (.cells #[.string (ofL x.key), .int .u8 (x.kind : Int), .int .i64 x.num, .string (ofL x.txt)] 176)) from (Below.refl _ _).alloc (Nat.le_refl _) _)
  have HP0 := Lib.hid (HP.out.on HB0.out)
  clear hp
  generalize idx (prEq x) l = M at *
  simp only [prV] at HC ⊢
  go_enter Tryz.func199, Tryz.ntmps199
  go_wp2_with fail
  refine (HC.out _ HP0.out).mono ?_
  rintro e w1 ⟨rfl, hB⟩
  have HB1 := Lib.hid (bthen HB0.out hB (Nat.le_refl _))
  clear hB
  go_wp2_with fail
  go_ret
  exact ⟨rfl, HB1.out⟩
theorem hasOne1_any (x : Hd.Pr) (h : List Hd.Pr) (A : Option Addr) (c b : Nat) (w : World) (hl : h.length ≤ 100000) (hp : Prs w A h) (hb : w.cell? ⟨b, 0, none⟩ = some (.slice A h.length c)) :
    Calls Tryz.prog 198 #[prV x, .pointer (some ⟨b, 0, none⟩)] w fun e w' => e = .returned (.bool (hasP h x)) ∧ Below w.heap.size w w' := by
  have hbl := World.block_lt_of_cell? w _ hb
  simp only at hbl
  have HP := Lib.hid hp
  have HC := Lib.hid (fun W h' => containsPr_any x h A c W hl h')
  have HB0 := Lib.hid (show Below w.heap.size w (w.alloc (.cells #[.string (ofL x.key), .int .u8 (x.kind : Int), .int .i64 x.num, .string (ofL x.txt)] 176)) from (Below.refl _ _).alloc (Nat.le_refl _) _)
  have HP0 := Lib.hid (HP.out.on HB0.out)
  clear hp
  generalize hasP h x = M at *
  simp only [prV] at HC ⊢
  go_enter Tryz.func198, Tryz.ntmps198
  go_wp2_with fail
  refine (HC.out _ HP0.out).mono ?_
  rintro e w1 ⟨rfl, hB⟩
  have HB1 := Lib.hid (bthen HB0.out hB (Nat.le_refl _))
  clear hB
  go_wp2_with fail
  go_ret
  exact ⟨rfl, HB1.out⟩
theorem hasOne1_tells (h : List Hd.Pr) (A : Option Addr) (c b : Nat) (w : World) (hl : h.length ≤ 100000) (hp : Prs w A h) (hb : w.cell? ⟨b, 0, none⟩ = some (.slice A h.length c)) : TellsPr 198 #[.pointer (some ⟨b, 0, none⟩)] (hasP h) w := fun W x hB =>
  hasOne1_any x h A c b W hl (hp.on hB) ((hB.cell (p := ⟨b, 0, none⟩) (World.block_lt_of_cell? w _ hb)).trans hb)
theorem contFPr_any (f : Nat) (b : Nat) (hf : f = 201 ∨ f = 198) (q : Hd.Pr → Bool) (l : List Hd.Pr) (A : Option Addr) (c : Nat) (w : World) (hl : l.length ≤ 100000) (hp : Prs w A l) (ht : TellsPr f #[.pointer (some ⟨b, 0, none⟩)] q w) :
    Calls Tryz.prog 197 #[.slice A l.length c, .func (.func f) #[] #[.pointer (some ⟨b, 0, none⟩)]] w fun e w' => e = .returned (.bool (l.any q)) ∧ Below w.heap.size w w' := by
  rw [← idx_any]
  have HC := Lib.hid (indexPr_any f b hf q l A c w hl hp ht)
  clear hp ht hf
  generalize idx q l = M at *
  go_enter Tryz.func197, Tryz.ntmps197
  go_wp2_with fail
  refine HC.out.mono ?_
  rintro e w1 ⟨rfl, hB⟩
  have HB1 := Lib.hid hB
  clear hB
  go_wp2_with fail
  go_ret
  exact ⟨rfl, HB1.out⟩
theorem hasOne_any (h m : List Hd.Pr) (A : Option Addr) (c : Nat) (B : Option Addr) (d : Nat) (w : World) (hh : h.length ≤ 100000) (hm : m.length ≤ 100000) (hA : Prs w A h) (hB : Prs w B m) :
    Calls Tryz.prog 187 #[.slice A h.length c, .slice B m.length d] w fun e w' => e = .returned (.bool (m.any (hasP h))) ∧ Below w.heap.size w w' := by
  have HB0 := Lib.hid (show Below w.heap.size w (w.alloc (.cells #[.slice A h.length c] 22)) from (Below.refl _ _).alloc (Nat.le_refl _) _)
  have HC := Lib.hid (contFPr_any 198 w.heap.size (Or.inr rfl) (hasP h) m B d (w.alloc (.cells #[.slice A h.length c] 22)) hm (hB.on HB0.out) (hasOne1_tells h A c w.heap.size _ hh (hA.on HB0.out) (cell_new _ _ _ _ _ rfl)))
  clear hA hB
  generalize m.any (hasP h) = M at *
  go_enter Tryz.func187, Tryz.ntmps187
  go_wp2_with fail
  refine HC.out.mono ?_
  rintro e w1 ⟨rfl, hB⟩
  have HB1 := Lib.hid (bthen HB0.out hB (Nat.le_refl _))
  clear hB
  go_wp2_with fail
  go_ret
  exact ⟨rfl, HB1.out⟩
end Go.Proofs.YtnamkglflhkckaaGreatDoor
end
section
namespace Go.Proofs.YtnamkglflhkckaaGreatDoor
open Go.ChangeShapes Go.WideShapes Go.ChangeAt Go.RowKit
theorem each_no {h m : List Hd.Pr} {k : Nat} (hk : k < m.length) (e : hasP h (Hd.pr m k) = false) : m.all (hasP h) = false := by
  rw [List.all_eq_false]
  exact ⟨m[k], List.getElem_mem hk, by rw [Hd.pr_at hk] at e; rw [e]; simp⟩
theorem each_yes {h m : List Hd.Pr} (g : ∀ k, k < m.length → hasP h (Hd.pr m k) = true) : m.all (hasP h) = true := by
  rw [List.all_eq_true]
  intro x hx
  obtain ⟨i, hi, rfl⟩ := List.getElem_of_mem hx
  have := g i hi
  rwa [Hd.pr_at hi] at this
attribute [local go_sem] guardPr
def EachIn (h : List Hd.Pr) (x : Hd.Pr) (w : World) (p n g : Nat) (i : Value) (wr : World) : Prop :=
  ∃ j : Nat, j + g = n ∧ i = .int .i64 (j : Int) ∧ (∀ t, t < j → prEq x (Hd.pr h t) = false) ∧ PrAt wr p 0 x ∧ Below w.heap.size w wr
set_option maxRecDepth 100000 in
set_option maxHeartbeats 4000000 in
theorem hasEach_any (h m : List Hd.Pr) (A : Option Addr) (c : Nat) (B : Option Addr) (d : Nat) (w : World) (hh : h.length ≤ 100000) (hm : m.length ≤ 100000) (hA : Prs w A h) (hB : Prs w B m) :
    Calls Tryz.prog 186 #[.slice A h.length c, .slice B m.length d] w fun e w' => e = .returned (.bool (m.all (hasP h))) ∧ Below w.heap.size w w' := by
  have HA := Lib.hid hA
  have HB := Lib.hid hB
  have HNO := Lib.hid (fun k hk e => each_no (h := h) (m := m) (k := k) hk e)
  have HYES := Lib.hid (fun g => each_yes (h := h) (m := m) g)
  clear hA hB
  generalize m.all (hasP h) = M at *
  obtain ⟨n, hn⟩ : ∃ n, n = h.length := ⟨_, rfl⟩
  obtain ⟨o, ho⟩ : ∃ o, o = m.length := ⟨_, rfl⟩
  rw [← hn, ← ho]
  have HN := Lib.hid hn
  have HO := Lib.hid ho
  have hnl : n ≤ 100000 := by omega
  have hol : o ≤ 100000 := by omega
  clear hn ho
  go_enter Tryz.func186, Tryz.ntmps186
  go_wp2_with fail
  go_step3
  go_wp2_with fail
  go_step3
  go_wp2_with fail
  go_loopg [11] o (fun g i wr => ∃ k : Nat, k + g = o ∧ i = .int .i64 (k : Int) ∧ (∀ t, t < k → hasP h (Hd.pr m t) = true) ∧ Below w.heap.size w wr)
  case atStart => exact ⟨0, by omega, rfl, fun t ht => absurd ht (by omega), Below.refl _ _⟩
  case round =>
    obtain ⟨k, hk, rfl, hall, hBl⟩ := hrel
    have HBL := Lib.hid hBl
    have HALL := Lib.hid hall
    clear hBl hall
    by_cases hlt : k < o
    · obtain ⟨b, off, rfl, hbl, hat⟩ := (HB.out.on HBL.out).at_ k (by have := HO.out; omega)
      obtain ⟨x, hx⟩ : ∃ x, Hd.pr m k = x := ⟨_, rfl⟩
      have HX := Lib.hid hx
      rw [hx] at hat
      clear hx
      have HBX := Lib.hid (PrAt.new x wr)
      have HB1 := Lib.hid (HBL.out.alloc HBL.out.size (.cells #[.string (ofL x.key), .int .u8 (x.kind : Int), .int .i64 x.num, .string (ofL x.txt)] 176))
      obtain ⟨c0, c1, c2, c3⟩ := hat
      go_wp2_with fail
      generalize wr.alloc (.cells #[.string (ofL x.key), .int .u8 (x.kind : Int), .int .i64 x.num, .string (ofL x.txt)] 176) = w1 at *
      obtain ⟨p, hp⟩ : ∃ p, p = wr.heap.size := ⟨_, rfl⟩
      rw [← hp] at HBX ⊢
      clear hp c0 c1 c2 c3 hbl
      obtain ⟨g0, hg0⟩ : ∃ g0, g0 = gk := ⟨_, rfl⟩
      go_loopg [17] n (fun g i wr => EachIn h x w p n g i wr)
      case atStart => exact ⟨0, by omega, rfl, fun t ht => absurd ht (by omega), HBX.out, HB1.out⟩
      case round =>
        obtain ⟨j, hj, rfl, hno, hbx, hB2⟩ := hrel
        have HB2 := Lib.hid hB2
        have HNJ := Lib.hid hno
        have HBJ := Lib.hid hbx
        clear hB2 hno hbx
        by_cases hlj : j < n
        · obtain ⟨b2, off2, rfl, hbl2, hat2⟩ := (HA.out.on HB2.out).at_ j (by have := HN.out; omega)
          obtain ⟨d0, d1, d2, d3⟩ := HBJ.out
          simp only [Nat.zero_add] at d0 d1 d2 d3
          have hpl := World.block_lt_of_cell? _ _ d0
          simp only at hpl
          have hq := fun W => pr_eq (Hd.pr h j) x W
          cases he : prEq x (Hd.pr h j) with
          | true =>
            have HF := Lib.hid (show ∀ t, t < k + 1 → hasP h (Hd.pr m t) = true from fun t ht => by
              by_cases e : t = k
              · rw [e, HX.out]; exact hasP_yes (k := j) (by have := HN.out; omega) he
              · exact HALL.out t (by omega))
            rw [prEq_comm, he] at hq
            clear he
            generalize Hd.pr h j = y at *
            obtain ⟨y1, y2, y3, y4⟩ := y
            obtain ⟨x1, x2, x3, x4⟩ := x
            obtain ⟨c0, c1, c2, c3⟩ := hat2
            simp only [prV] at hq c0 c1 c2 c3 d0 d1 d2 d3
            go_wp2_with fail
            go_roundg (g0 - 1)
            case rel => exact ⟨k + 1, by omega, by go_num, HF.out, HB2.out.alloc HB2.out.size _⟩
            case measure => omega
          | false =>
            have HNX := Lib.hid (show ∀ t, t < j + 1 → prEq x (Hd.pr h t) = false from fun t ht => by
              by_cases e : t = j
              · rw [e]; exact he
              · exact HNJ.out t (by omega))
            rw [prEq_comm, he] at hq
            clear he
            generalize Hd.pr h j = y at *
            obtain ⟨y1, y2, y3, y4⟩ := y
            obtain ⟨x1, x2, x3, x4⟩ := x
            obtain ⟨c0, c1, c2, c3⟩ := hat2
            simp only [prV] at hq c0 c1 c2 c3 d0 d1 d2 d3
            have HBY := Lib.hid (HBJ.out.below ((Below.refl _ _).alloc (Nat.le_refl _) (.cells #[.string (ofL y1), .int .u8 (y2 : Int), .int .i64 y3, .string (ofL y4)] 176)) hpl)
            go_wp2_with fail
            go_roundg (gk - 1)
            case rel => exact ⟨j + 1, by omega, by go_num, HNX.out, HBY.out, HB2.out.alloc HB2.out.size _⟩
            case measure => omega
        · have HF := Lib.hid (HNO.out k (by have := HO.out; omega) (by rw [HX.out]; exact hasP_no fun t ht => HNJ.out t (by have := HN.out; omega)))
          go_wp2_with fail
          rw [Exit.noGoto_ret]
          go_ret
          exact ⟨ret_bool HF.out.symm, HB2.out⟩
    · have HF := Lib.hid (HYES.out (fun t ht => HALL.out t (by have := HO.out; omega)))
      go_wp2_with fail
      rw [Exit.noGoto_ret]
      go_ret
      exact ⟨ret_bool HF.out.symm, HBL.out⟩
end Go.Proofs.YtnamkglflhkckaaGreatDoor
end
section
namespace Go.Proofs.YtnamkglflhkckaaGreatDoor
open Go.ChangeShapes Go.WideShapes Go.ChangeAt Go.RowKit
/-- a rule -/
structure Ru where
  sort : Nat
  key : List UInt8
  want : List Hd.Pr
  all : Bool
def ruV (r : Ru) (A : Option Addr) (c : Nat) : Value := .agg #[.int .u8 (r.sort : Int), .string (ofL r.key), .slice A r.want.length c, .bool r.all]
def ruL (r : Ru) (A : Option Addr) (c : Nat) : List Value := [.int .u8 (r.sort : Int), .string (ofL r.key), .slice A r.want.length c, .bool r.all]
/-- what is wrong with its key -/
def kcode (r : Ru) : Nat := if r.sort = 0 then Wrd.keyCode [] r.key else Wrd.keyCode wild r.key
/-- what is wrong with it -/
def ruCode (r : Ru) : Nat := if 3 < r.sort then 8 else if kcode r ≠ 0 then kcode r else Hd.hcode r.want
theorem ru_kind {r : Ru} (h : 3 < r.sort) : ruCode r = 8 := by unfold ruCode; rw [if_pos h]
theorem ru_key {r : Ru} (h : ¬ 3 < r.sort) (hk : kcode r ≠ 0) : ruCode r = kcode r := by unfold ruCode; rw [if_neg h, if_pos hk]
theorem ru_want {r : Ru} (h : ¬ 3 < r.sort) (hk : kcode r = 0) : ruCode r = Hd.hcode r.want := by unfold ruCode; rw [if_neg h, if_neg (by omega)]
/-- a rule's numbers are such that they can be walked -/
structure RuOk (w : World) (r : Ru) (A : Option Addr) (c : Nat) : Prop where
  key : r.key.length ≤ 90000
  len : r.want.length ≤ 100000
  cap : r.want.length ≤ c
  lite : Lite r.want
  row : Prs w A r.want
theorem RuOk.on {w w' : World} {r : Ru} {A : Option Addr} {c : Nat} (h : RuOk w r A c) (hb : Below w.heap.size w w') : RuOk w' r A c := ⟨h.key, h.len, h.cap, h.lite, h.row.on hb⟩
theorem ruBox (r : Ru) (A : Option Addr) (c : Nat) (w : World) (t : TypeId) : Cels (w.alloc (.cells #[.int .u8 (r.sort : Int), .string (ofL r.key), .slice A r.want.length c, .bool r.all] t)) w.heap.size (ruL r A c) := Cels.new w _ t
theorem checkKey_any (r : Ru) (A : Option Addr) (c : Nat) (w : World) (h : RuOk w r A c) (hL : Len w) :
    Calls Tryz.prog 190 #[ruV r A c] w fun e w' => e = .returned (.int .i64 (kcode r : Int)) ∧ Below w.heap.size w w' := by
  have HB0 := Lib.hid (show Below w.heap.size w (w.alloc (.cells #[.int .u8 (r.sort : Int), .string (ofL r.key), .slice A r.want.length c, .bool r.all] 215)) from (Below.refl _ _).alloc (Nat.le_refl _) _)
  have HL0 := Lib.hid (hL.on HB0.out)
  have hkl := h.key
  have HK := Lib.hid (fun W h => key_any r.key W (by omega) h)
  have HPT := Lib.hid (fun W h => pattern_any r.key W (by omega) h)
  have HC : Hid (kcode r = if r.sort = 0 then Wrd.keyCode [] r.key else Wrd.keyCode wild r.key) := rfl
  simp only [ruV]
  by_cases h0 : r.sort = 0
  · have HCC := Lib.hid (show kcode r = Wrd.keyCode [] r.key by rw [HC.out, if_pos h0])
    have hz : ((r.sort : Int) == 0) = true := by rw [h0]; rfl
    clear h0 h hL
    go_enter Tryz.func190, Tryz.ntmps190
    go_wp2_with fail
    refine (HK.out _ HL0.out).mono ?_
    rintro e w1 ⟨rfl, b1⟩
    have HB1 := Lib.hid (bthen HB0.out b1 (Nat.le_refl _))
    clear b1
    go_wp2_with fail
    go_ret
    exact ⟨ret_nat (by rw [HCC.out]), HB1.out⟩
  · have HCC := Lib.hid (show kcode r = Wrd.keyCode wild r.key by rw [HC.out, if_neg h0])
    have hz : ((r.sort : Int) == 0) = false := beq_eq_false_iff_ne.2 (by omega)
    clear h0 h hL
    go_enter Tryz.func190, Tryz.ntmps190
    go_wp2_with fail
    refine (HPT.out _ HL0.out).mono ?_
    rintro e w1 ⟨rfl, b1⟩
    have HB1 := Lib.hid (bthen HB0.out b1 (Nat.le_refl _))
    clear b1
    go_wp2_with fail
    go_ret
    exact ⟨ret_nat (by rw [HCC.out]), HB1.out⟩
set_option maxHeartbeats 2000000 in
theorem mCheck_any (r : Ru) (A : Option Addr) (c : Nat) (w : World) (h : RuOk w r A c) (hL : Len w) :
    Calls Tryz.prog 166 #[ruV r A c] w fun e w' => e = .returned (.int .i64 (ruCode r : Int)) ∧ Below w.heap.size w w' := by
  have HB0 := Lib.hid (show Below w.heap.size w (w.alloc (.cells #[.int .u8 (r.sort : Int), .string (ofL r.key), .slice A r.want.length c, .bool r.all] 215)) from (Below.refl _ _).alloc (Nat.le_refl _) _)
  have HX0 := Lib.hid (ruBox r A c w 215)
  have HL0 := Lib.hid (hL.on HB0.out)
  have HR0 := Lib.hid (h.on HB0.out)
  have HCK := Lib.hid (fun W h h' => checkKey_any r A c W h h')
  have HHC := Lib.hid (fun W h' => hCheck_any r.want A c W h.len h.cap h.lite h')
  have H1 := Lib.hid (fun g => ru_kind (r := r) g)
  have H2 := Lib.hid (fun g k => ru_key (r := r) g k)
  have H3 := Lib.hid (fun g k => ru_want (r := r) g k)
  clear h hL
  generalize ruCode r = C at *
  generalize kcode r = K at *
  generalize Hd.hcode r.want = H at *
  simp only [ruV] at HCK ⊢
  by_cases h3 : 3 < r.sort
  · have HC := Lib.hid (H1.out h3)
    have hz : decide ((3 : Int) < (r.sort : Int)) = true := decide_eq_true (by omega)
    clear h3
    go_enter Tryz.func166, Tryz.ntmps166
    go_wp2_with fail
    go_ret
    exact ⟨ret_nat (by rw [HC.out]; rfl), HB0.out⟩
  · have hz : decide ((3 : Int) < (r.sort : Int)) = false := decide_eq_false (by omega)
    by_cases hk : K = 0
    · have HC := Lib.hid (H3.out h3 hk)
      have hk0 := code_eq hk
      clear h3 hk
      go_enter Tryz.func166, Tryz.ntmps166
      go_wp2_with fail
      refine (HCK.out _ HR0.out HL0.out).mono ?_
      rintro e w1 ⟨rfl, b1⟩
      have HX1 := Lib.hid (HX0.out.on b1 (by simp))
      have HB1 := Lib.hid (bthen HB0.out b1 (Nat.le_refl _))
      have HR1 := Lib.hid (HR0.out.on b1)
      have hlt1 : w.heap.size < w1.heap.size := by have := b1.size; simp at this; omega
      clear b1
      have c2 := HX1.out 2 _ rfl
      go_wp2_with fail
      refine (HHC.out _ HR1.out.row).mono ?_
      rintro e w2 ⟨rfl, b2⟩
      have HB2 := Lib.hid (bthen HB1.out b2 (Nat.le_refl _))
      clear b2
      go_wp2_with fail
      go_ret
      exact ⟨ret_nat (by rw [HC.out]), HB2.out⟩
    · have HC := Lib.hid (H2.out h3 hk)
      have hk0 := code_ne hk
      clear h3 hk
      go_enter Tryz.func166, Tryz.ntmps166
      go_wp2_with fail
      refine (HCK.out _ HR0.out HL0.out).mono ?_
      rintro e w1 ⟨rfl, b1⟩
      have HB1 := Lib.hid (bthen HB0.out b1 (Nat.le_refl _))
      clear b1
      go_wp2_with fail
      go_ret
      exact ⟨ret_nat (by rw [HC.out]), HB1.out⟩
end Go.Proofs.YtnamkglflhkckaaGreatDoor
end
section
namespace Go.Proofs.YtnamkglflhkckaaGreatDoor
open Go.ChangeShapes Go.WideShapes Go.ChangeAt Go.RowKit
/-- an append whose run is known, at a step of a region that draws its order -/
theorem step_append_run {P : Program} {ops : Array Oper} {o : Oper} {a : Act} {w : World} {K : Act → World → Prop} {Q : Exit → Act → World → Prop} {E : Prop} (hgd : o.guard = none) (s x : Operand) (t : TypeId)
    (ho : o.op = .call { callee := .builtin .append, args := #[s, x], argTypes := #[t, t] }) (v xv : Value) (hs : a.eval s = v) (hx : a.eval x = xv) {v' : Value} {w' : World}
    (hr : (Builtin.append_ #[t, t] o.type #[v, xv]).run P w = .ok v' w') (h : K (a.put o.dst v') w') : if Region.wanted o (yielded ops a.tmps) = true then Oper.wp P o a w K Q else E := by
  have hw : Region.wanted o (yielded ops a.tmps) = true := by simp [Region.wanted, hgd]
  rw [if_pos hw]
  unfold Oper.wp execOp
  simp only [ho, resolve, invoke, builtin, Sem.run_bind, Sem.run_pure, Result.andThen_ok, List.map_toArray, List.map_cons, List.map_nil, hs, hx, hr]
  exact h
theorem prs_one (l : List Hd.Pr) : ∀ u ∈ prs l, u.oneCell' = true := by
  intro u hu
  unfold prs at hu
  obtain ⟨f, _, hf⟩ := List.mem_flatMap.1 hu
  simp only [prL, List.mem_cons, List.not_mem_nil, or_false] at hf
  rcases hf with rfl | rfl | rfl | rfl <;> rfl
theorem addr_at1 (b off k : Nat) : (⟨b, off, none⟩ : Addr).add k = ⟨b, off + k, none⟩ := by
  unfold Addr.add
  split
  · rename_i h0
    have : k = 0 := by simpa using h0
    simp only [Addr.mk.injEq, true_and, and_true]; omega
  · rfl
theorem prs_cells {w : World} {b off : Nat} {l : List Hd.Pr} (h : Prs w (some ⟨b, off, none⟩) l) : ∀ j u, (prs l)[j]? = some u → w.cell? ((⟨b, off, none⟩ : Addr).add j) = some u := by
  intro j u hj
  have hlt : j < l.length * 4 := by
    have := (List.getElem?_eq_some_iff.1 hj).1
    rwa [prs_len] at this
  obtain ⟨b', off', e, _, hat⟩ := h.at_ (j / 4) (by omega)
  obtain ⟨rfl, rfl⟩ : b = b' ∧ off = off' := by simpa using e
  have hget := Rw.flat_get prL 4 (fun _ => rfl) (by omega) l (j / 4) (j % 4) (by omega) (by omega)
  rw [show j / 4 * 4 + j % 4 = j by omega] at hget
  have hj2 : (prL l[j / 4])[j % 4]? = some u := by rw [← hget]; exact hj
  rw [addr_at1]
  rw [Hd.pr_at (by omega)] at hat
  have hm : j % 4 = 0 ∨ j % 4 = 1 ∨ j % 4 = 2 ∨ j % 4 = 3 := by omega
  rcases hm with h0 | h0 | h0 | h0 <;> rw [h0] at hj2 <;> obtain rfl := Option.some.inj hj2
  · rw [show off + j = off + j / 4 * 4 by omega]; exact hat.c0
  · rw [show off + j = off + j / 4 * 4 + 1 by omega]; exact hat.c1
  · rw [show off + j = off + j / 4 * 4 + 2 by omega]; exact hat.c2
  · rw [show off + j = off + j / 4 * 4 + 3 by omega]; exact hat.c3
/-- a row appended to an empty one of one's own -/
theorem copy_run {W : World} {l : List Hd.Pr} {A : Option Addr} {c g : Nat} {B : Nat} (hl : l.length ≤ 100000) (hc : l.length ≤ c) (hp : Prs W A l)
    (hown : W.ownsRow B 176 4 (.slice (some ⟨g, 0, none⟩) 0 0) 0 []) (hB : B ≤ W.heap.size) :
    ∃ A' c' w', (Builtin.append_ #[22, 22] 22 #[.slice (some ⟨g, 0, none⟩) 0 0, .slice A l.length c]).run Tryz.prog W = .ok (.slice A' l.length c') w' ∧ w'.ownsRow B 176 4 (.slice A' l.length c') l.length (prs l) ∧ W.grownBy w' (some g) ∧ l.length ≤ c' ∧ (∀ a, A' = some a → a.block = g ∨ a.block = W.heap.size) := by
  obtain ⟨i1, hi1, hz0, hz1, hz2⟩ := info_parts infoPr
  cases hcase : l with
  | nil =>
    subst hcase
    have hsrc : Src Tryz.prog i1.size 22 (.slice A 0 c) 0 [] W := by
      cases A with
      | none => exact Src.ofNil W Tryz.underlying22 c
      | some a => exact Src.ofSlice W Tryz.underlying22 a 0 c [] (by simp) (fun j u h => by simp at h) (fun u h => by simp at h)
    refine ⟨some ⟨g, 0, none⟩, 0, W, run_append_nothing W 22 22 22 176 i1 Tryz.underlying22 hi1 (some ⟨g, 0, none⟩) 0 0 (Nat.le_refl _) (.slice A 0 c) hsrc, hown, World.grownBy.refl _ _, Nat.le_refl _, fun a ha => ?_⟩
    obtain rfl := Option.some.inj ha
    exact Or.inl rfl
  | cons x t =>
    rw [← hcase]
    have hpos : 0 < l.length := by rw [hcase]; simp
    obtain ⟨b, off, rfl, hbl, -⟩ := hp.at_ 0 hpos
    obtain ⟨gg, cap, w', hr, h2, h3, h4, h5⟩ := run_append_lies (P := Tryz.prog) W 22 22 B 176 i1 _ 4 48 Tryz.underlying22 hi1 hz0 hz1 hz2 rfl (by omega) (.slice (some ⟨g, 0, none⟩) 0 0) 0 [] hown ⟨b, off, none⟩ l.length c (prs l) (prs_len l) (prs_cells hp) (prs_one l) hpos (by unfold maxLen; omega) (by omega) hB W.heap.size rfl
    rw [Nat.zero_add, List.nil_append] at h2
    rw [Nat.zero_add] at hr
    obtain ⟨A2, c2, e2, hc2, -, -⟩ := rown_prs h2
    obtain ⟨-, -, rfl⟩ := Value.slice.inj e2
    refine ⟨some ⟨gg, 0, none⟩, cap, w', hr, h2, h3, hc2, fun a ha => ?_⟩
    obtain rfl := Option.some.inj ha
    rcases h4 with h4 | h4
    · left
      have : g = gg := by simpa [Value.ownBlock] using h4
      exact this.symm
    · exact Or.inr h4
/-- the boxes of To: the rule, the answer -/
structure ToC (w : World) (p q : Nat) (r : Ru) (A : Option Addr) (c : Nat) (W : World) : Prop where
  rp : Cels W p (ruL r A c)
  lp : p < W.heap.size
  rq : ∃ (s : Int) (k : ByteArray) (a : Option Addr) (n m : Nat) (b : Bool), W.cell? ⟨q, 0, none⟩ = some (.int .u8 s) ∧ W.cell? ⟨q, 1, none⟩ = some (.string k) ∧ W.cell? ⟨q, 2, none⟩ = some (.slice a n m) ∧ W.cell? ⟨q, 3, none⟩ = some (.bool b)
  sq : Soft W q
  lq : q < W.heap.size
  ne : q ≠ p
  gq : w.heap.size ≤ q
  B : Below w.heap.size w W
abbrev ToS (w : World) (p q : Nat) (r : Ru) (A : Option Addr) (c : Nat) (W : World) : Prop :=
  (W.cell? ⟨p, 0, none⟩ = some (.int .u8 (r.sort : Int)) ∧ W.cell? ⟨p, 1, none⟩ = some (.string (ofL r.key)) ∧ W.cell? ⟨p, 2, none⟩ = some (.slice A r.want.length c) ∧ W.cell? ⟨p, 3, none⟩ = some (.bool r.all) ∧ p < W.heap.size) ∧ ToC w p q r A c W
theorem ToC.s {w : World} {p q : Nat} {r : Ru} {A : Option Addr} {c : Nat} {W : World} (h : ToC w p q r A c W) : ToS w p q r A c W := ⟨⟨h.rp 0 _ rfl, h.rp 1 _ rfl, h.rp 2 _ rfl, h.rp 3 _ rfl, h.lp⟩, h⟩
theorem ToC.on {w : World} {p q : Nat} {r : Ru} {A : Option Addr} {c : Nat} {W W' : World} (h : ToC w p q r A c W) (hb : Below W.heap.size W W') : ToC w p q r A c W' := by
  obtain ⟨s, k, a, n, m, b, h0, h1, h2, h3⟩ := h.rq
  exact ⟨h.rp.on hb h.lp, Nat.lt_of_lt_of_le h.lp hb.size, ⟨s, k, a, n, m, b, (hb.cell (p := ⟨q, 0, none⟩) h.lq).trans h0, (hb.cell (p := ⟨q, 1, none⟩) h.lq).trans h1, (hb.cell (p := ⟨q, 2, none⟩) h.lq).trans h2, (hb.cell (p := ⟨q, 3, none⟩) h.lq).trans h3⟩, h.sq.on hb h.lq, Nat.lt_of_lt_of_le h.lq hb.size, h.ne, h.gq, bthen h.B hb (Nat.le_refl _)⟩
theorem ToS.on {w : World} {p q : Nat} {r : Ru} {A : Option Addr} {c : Nat} {W W' : World} (h : ToS w p q r A c W) (hb : Below W.heap.size W W') : ToS w p q r A c W' := (h.2.on hb).s
theorem ToC.grown {w : World} {p q : Nat} {r : Ru} {A : Option Addr} {c : Nat} {W W' : World} {g : Nat} (h : ToC w p q r A c W) (hg : W.grownBy W' (some g)) (hp : p ≠ g) (hq : q ≠ g) (hw : w.heap.size ≤ g) : ToC w p q r A c W' := by
  obtain ⟨s, k, a, n, m, b, h0, h1, h2, h3⟩ := h.rq
  have np : some p ≠ some g := fun e => hp (Option.some.inj e)
  have nq : some q ≠ some g := fun e => hq (Option.some.inj e)
  exact ⟨h.rp.grown hg np, Nat.lt_of_lt_of_le h.lp hg.size, ⟨s, k, a, n, m, b, hg.cell h0 nq, hg.cell h1 nq, hg.cell h2 nq, hg.cell h3 nq⟩, h.sq.grown hg h.lq nq, Nat.lt_of_lt_of_le h.lq hg.size, h.ne, h.gq, h.B.grown hg h.B.size (fun k hk => by cases hk; omega)⟩
theorem ToC.done {w : World} {p q : Nat} {r : Ru} {A : Option Addr} {c : Nat} {W : World} (h : ToC w p q r A c W) (s : Int) (k : ByteArray) (a : Option Addr) (n m : Nat) (b : Bool) :
    ∃ W', W' = (((W.setCell ⟨q, 0, none⟩ (.int .u8 s)).setCell ⟨q, 1, none⟩ (.string k)).setCell ⟨q, 2, none⟩ (.slice a n m)).setCell ⟨q, 3, none⟩ (.bool b) ∧ ToC w p q r A c W' ∧ W'.cell? ⟨q, 0, none⟩ = some (.int .u8 s) ∧ W'.cell? ⟨q, 1, none⟩ = some (.string k) ∧ W'.cell? ⟨q, 2, none⟩ = some (.slice a n m) ∧ W'.cell? ⟨q, 3, none⟩ = some (.bool b) := by
  obtain ⟨s0, k0, a0, n0, m0, b0, h0, h1, h2, h3⟩ := h.rq
  have hC : Cels W q [.int .u8 s0, .string k0, .slice a0 n0 m0, .bool b0] := fun j v hj => by
    match j, hj with
    | 0, hj => obtain rfl := Option.some.inj hj; exact h0
    | 1, hj => obtain rfl := Option.some.inj hj; exact h1
    | 2, hj => obtain rfl := Option.some.inj hj; exact h2
    | 3, hj => obtain rfl := Option.some.inj hj; exact h3
  have hD := (((hC.put 0 (.int .u8 s) (by simp)).put 1 (.string k) (by simp)).put 2 (.slice a n m) (by simp)).put 3 (.bool b) (by simp)
  exact ⟨_, rfl, ⟨(((h.rp.aside h.ne 0 _).aside h.ne 1 _).aside h.ne 2 _).aside h.ne 3 _, by simpa [World.setCell] using h.lp, ⟨s, k, a, n, m, b, hD 0 _ rfl, hD 1 _ rfl, hD 2 _ rfl, hD 3 _ rfl⟩, (((h.sq.put _ _).put _ _).put _ _).put _ _, by simpa [World.setCell] using h.lq, h.ne, h.gq, below_over h.B h.gq _ _ _ _⟩, hD 0 _ rfl, hD 1 _ rfl, hD 2 _ rfl, hD 3 _ rfl⟩
theorem ToC.start (w : World) (r : Ru) (A : Option Addr) (c : Nat) (t1 t2 : TypeId) :
    ToC w w.heap.size (w.heap.size + 1) r A c ((w.alloc (.cells #[.int .u8 (r.sort : Int), .string (ofL r.key), .slice A r.want.length c, .bool r.all] t1)).alloc (.cells #[.int .u8 0, .string ⟨#[]⟩, .slice none 0 0, .bool false] t2)) := by
  have e1 : (w.alloc (.cells #[.int .u8 (r.sort : Int), .string (ofL r.key), .slice A r.want.length c, .bool r.all] t1)).heap.size = w.heap.size + 1 := by simp
  have hb := (Below.refl (w.alloc (.cells #[.int .u8 (r.sort : Int), .string (ofL r.key), .slice A r.want.length c, .bool r.all] t1)).heap.size (w.alloc (.cells #[.int .u8 (r.sort : Int), .string (ofL r.key), .slice A r.want.length c, .bool r.all] t1))).alloc (Nat.le_refl _) (.cells #[.int .u8 0, .string ⟨#[]⟩, .slice none 0 0, .bool false] t2)
  refine ⟨(ruBox r A c w t1).on hb (by simp), by simp; omega, ⟨0, ⟨#[]⟩, none, 0, 0, false, ?_, ?_, ?_, ?_⟩, ?_, by simp, by omega, by omega, ((Below.refl _ _).alloc (Nat.le_refl _) _).alloc (by simp) _⟩
  · rw [← e1]; exact cell_new _ _ _ _ _ rfl
  · rw [← e1]; exact cell_new _ _ _ _ _ rfl
  · rw [← e1]; exact cell_new _ _ _ _ _ rfl
  · rw [← e1]; exact cell_new _ _ _ _ _ rfl
  · rw [← e1]; exact Soft.new _ _ _
end Go.Proofs.YtnamkglflhkckaaGreatDoor
end
section
namespace Go.Proofs.YtnamkglflhkckaaGreatDoor.Pt
/-- a yes or no that comes next -/
def yesOut (s : LSt) : Bool := Oct.val (lOut s.1 1) == 1
def yesIn (s : LSt) : LSt := if 1 < Oct.val (lOut s.1 1) then lFail (lRaw s 1) 4 else lRaw s 1
def yesEnc (b : Bool) : List UInt8 := if b then [1] else [0]
theorem lOk_yes {s : LSt} (h : lOk s) : lOk (yesIn s) := by
  unfold yesIn
  split
  · exact lOk_fail (lOk_raw h _) _
  · exact lOk_raw h _

/-! ### written, then read -/
theorem num_front {n : Nat} (hn : n < 18446744073709551616) (r : List UInt8) : Oct.val (lOut (Oct.be 8 n ++ r) 8) = n ∧ lRaw (Oct.be 8 n ++ r, 0) 8 = (r, 0) :=
  ⟨by rw [Hd.lOut_front _ _ 8 (Oct.length_be _ _), Hd.val_be_at 8 _ hn], Hd.lRaw_front _ _ _ 8 (Oct.length_be _ _)⟩
theorem yes_front (b : Bool) (r : List UInt8) : yesOut (yesEnc b ++ r, 0) = b ∧ yesIn (yesEnc b ++ r, 0) = (r, 0) := by
  cases b
  · have h1 : lOut (yesEnc false ++ r) 1 = [0] := Hd.lOut_front [0] r 1 rfl
    have h2 : lRaw (yesEnc false ++ r, 0) 1 = (r, 0) := Hd.lRaw_front [0] r 0 1 rfl
    unfold yesOut yesIn
    simp only
    rw [h1, h2]
    exact ⟨rfl, rfl⟩
  · have h1 : lOut (yesEnc true ++ r) 1 = [1] := Hd.lOut_front [1] r 1 rfl
    have h2 : lRaw (yesEnc true ++ r, 0) 1 = (r, 0) := Hd.lRaw_front [1] r 0 1 rfl
    unfold yesOut yesIn
    simp only
    rw [h1, h2]
    exact ⟨rfl, rfl⟩

/-! ### read, then written -/
end Go.Proofs.YtnamkglflhkckaaGreatDoor.Pt
end
