/-
  THE PAIR OF A KEY; what is wrong with a pair, and with a head: walked, the program's and the document's.
-/
import Derived.Test.YtgponfdcagnhhaaGreatDoorDl08
import Derived.StillTailTactics
section
namespace Go.Proofs.YtgponfdcagnhhaaGreatDoor
open Go.ChangeShapes Go.WideShapes Go.ChangeAt Go.RowKit
theorem prCels {W : World} {g : Nat} {x : Hd.Pr} (h : PrAt W g 0 x) : Cels W g (prL x) := fun j v hj => by
  match j, hj with
  | 0, hj => obtain rfl := Option.some.inj hj; exact h.c0
  | 1, hj => obtain rfl := Option.some.inj hj; exact h.c1
  | 2, hj => obtain rfl := Option.some.inj hj; exact h.c2
  | 3, hj => obtain rfl := Option.some.inj hj; exact h.c3
theorem prOf {W : World} {g : Nat} {x : Hd.Pr} (h : Cels W g (prL x)) : PrAt W g 0 x := ⟨h 0 _ rfl, h 1 _ rfl, h 2 _ rfl, h 3 _ rfl⟩
theorem PrAt.new (x : Hd.Pr) (W : World) : PrAt (W.alloc (.cells #[.string (ofL x.key), .int .u8 (x.kind : Int), .int .i64 x.num, .string (ofL x.txt)] 84)) W.heap.size 0 x := prOf (Cels.new W _ _)
/-- a pair is written over another one, field by field -/
theorem pr_over {W : World} {g : Nat} {x : Hd.Pr} (h : PrAt W g 0 x) (y : Hd.Pr) : PrAt ((((W.setCell ⟨g, 0, none⟩ (.string (ofL y.key))).setCell ⟨g, 1, none⟩ (.int .u8 (y.kind : Int))).setCell ⟨g, 2, none⟩ (.int .i64 y.num)).setCell ⟨g, 3, none⟩ (.string (ofL y.txt))) g 0 y :=
  prOf ((((prCels h).put 0 _ (by simp [prL])).put 1 _ (by simp [prL])).put 2 _ (by simp [prL]) |>.put 3 _ (by simp [prL]))
abbrev zeroed (W : World) (g : Nat) : World := (((W.setCell ⟨g, 0, none⟩ (.string ⟨#[]⟩)).setCell ⟨g, 1, none⟩ (.int .u8 0)).setCell ⟨g, 2, none⟩ (.int .i64 0)).setCell ⟨g, 3, none⟩ (.string ⟨#[]⟩)
theorem pr_over0 {W : World} {g : Nat} {x : Hd.Pr} (h : PrAt W g 0 x) : (zeroed W g).cell? ⟨g, 0, none⟩ = some (.string ⟨#[]⟩) ∧ (zeroed W g).cell? ⟨g, 1, none⟩ = some (.int .u8 0) ∧ (zeroed W g).cell? ⟨g, 2, none⟩ = some (.int .i64 0) ∧ (zeroed W g).cell? ⟨g, 3, none⟩ = some (.string ⟨#[]⟩) := by
  have := pr_over h Hd.Pr.zero
  exact ⟨this.c0, this.c1, this.c2, this.c3⟩
theorem below_over {B g : Nat} {a W : World} (h : Below B a W) (hg : B ≤ g) (v0 v1 v2 v3 : Value) : Below B a ((((W.setCell ⟨g, 0, none⟩ v0).setCell ⟨g, 1, none⟩ v1).setCell ⟨g, 2, none⟩ v2).setCell ⟨g, 3, none⟩ v3) :=
  (((h.setCell hg _).setCell hg _).setCell hg _).setCell hg _

/-- the first pair of a key, or the zero one -/
def first (l : List Hd.Pr) (k : List UInt8) : Hd.Pr := if Hd.there l k then Hd.pr l (idx (fun x => x.key == k) l).toNat else Hd.Pr.zero
/-- what Find answers -/
def findV (l : List Hd.Pr) (k : List UInt8) : Value := .tuple #[prV (first l k), .bool (Hd.there l k)]
theorem there_idx (l : List Hd.Pr) (k : List UInt8) : Hd.there l k = decide (idx (fun x => x.key == k) l ≥ 0) := (idx_any _ _).symm
set_option maxRecDepth 100000 in
set_option maxHeartbeats 2000000 in
theorem hfind_any (l : List Hd.Pr) (A : Option Addr) (c : Nat) (k : List UInt8) (w : World) (hl : l.length ≤ 100000) (hp : Prs w A l) :
    Calls Tryz.prog 94 #[.slice A l.length c, .string (ofL k)] w fun e w' => e = .returned (findV l k) ∧ Below w.heap.size w w' := by
  have HP := Lib.hid hp
  have HC := Lib.hid (fun b W h hW => indexPr_any 109 b (Or.inl rfl) (fun x => x.key == k) l A c W hl hW (hfind1_tells k b W h))
  have HT := Lib.hid (there_idx l k)
  have HI := Lib.hid (idx_lt (fun x : Hd.Pr => x.key == k) l)
  have HV : Hid (findV l k = .tuple #[prV (if Hd.there l k then Hd.pr l (idx (fun x => x.key == k) l).toNat else Hd.Pr.zero), .bool (Hd.there l k)]) := rfl
  clear hp
  generalize findV l k = V at *
  generalize Hd.there l k = T at *
  generalize idx (fun x : Hd.Pr => x.key == k) l = M at *
  have HB0 := Lib.hid (show Below w.heap.size w ((w.alloc (.cells #[.string (ofL k)] 9)).alloc (.cells #[.string ⟨#[]⟩, .int .u8 0, .int .i64 0, .string ⟨#[]⟩] 84)) from ((Below.refl _ _).alloc (Nat.le_refl _) _).alloc (by simp) _)
  have HS0 := Lib.hid (show ((w.alloc (.cells #[.string (ofL k)] 9)).alloc (.cells #[.string ⟨#[]⟩, .int .u8 0, .int .i64 0, .string ⟨#[]⟩] 84)).cell? ⟨w.heap.size, 0, none⟩ = some (.string (ofL k)) from (cell_old _ _ _ _ (by simp)).trans (cell_new _ _ _ _ _ rfl))
  have HX0 := Lib.hid (show ∃ g, g = w.heap.size + 1 ∧ PrAt ((w.alloc (.cells #[.string (ofL k)] 9)).alloc (.cells #[.string ⟨#[]⟩, .int .u8 0, .int .i64 0, .string ⟨#[]⟩] 84)) g 0 Hd.Pr.zero ∧ ∀ j, ((w.alloc (.cells #[.string (ofL k)] 9)).alloc (.cells #[.string ⟨#[]⟩, .int .u8 0, .int .i64 0, .string ⟨#[]⟩] 84)).frozen? ⟨g, j, none⟩ = false from
    ⟨_, rfl, ⟨cell_new _ _ _ _ _ (by simp), cell_new _ _ _ _ _ (by simp), cell_new _ _ _ _ _ (by simp), cell_new _ _ _ _ _ (by simp)⟩, fun j => free_new _ _ _ _ _ (by simp)⟩)
  go_enter Tryz.func94, Tryz.ntmps94
  go_wp2_with fail
  with_reducible refine (HC.out _ _ HS0.out (HP.out.on HB0.out)).mono ?_
  rintro e w1 ⟨rfl, hB⟩
  obtain ⟨g, hg, ha, hf⟩ := HX0.out
  have hlt : g < ((w.alloc (.cells #[.string (ofL k)] 9)).alloc (.cells #[.string ⟨#[]⟩, .int .u8 0, .int .i64 0, .string ⟨#[]⟩] 84)).heap.size := by simp [hg]
  have hpa := ha.below hB hlt
  have HPA := Lib.hid hpa
  obtain ⟨c0, c1, c2, c3⟩ := hpa
  have hfz : ∀ j, w1.frozen? ⟨g, j, none⟩ = false := fun j => (hB.frozen (p := ⟨g, j, none⟩) hlt).trans (hf j)
  have hg1 : g < w1.heap.size := Nat.lt_of_lt_of_le hlt hB.size
  have HB1 := Lib.hid (bthen HB0.out hB (Nat.le_refl _))
  have HP1 := Lib.hid ((HP.out.on HB0.out).on hB)
  have HG := Lib.hid (show w.heap.size ≤ g by omega)
  rw [← hg]
  clear hB hg ha hf hlt
  by_cases hM : M < 0
  · have hT : T = false := by rw [HT.out]; simp; omega
    have HVV := Lib.hid (show V = .tuple #[prV Hd.Pr.zero, .bool false] by rw [HV.out, hT]; rfl)
    have HO := Lib.hid (pr_over0 HPA.out)
    clear hT
    go_wp2_with fail
    obtain ⟨d0, d1, d2, d3⟩ := HO.out
    refine bodyPost_ret (v := .tuple #[.agg #[.string ⟨#[]⟩, .int .u8 0, .int .i64 0, .string ⟨#[]⟩], .bool false]) (by simp [results, Tryz.results94, go_sem, d0, d1, d2, d3]) rfl ⟨by rw [HVV.out]; rfl, below_over HB1.out HG.out _ _ _ _⟩
  · have hT : T = true := by rw [HT.out]; simp; omega
    obtain ⟨i, hi⟩ : ∃ i : Nat, M = (i : Int) := ⟨M.toNat, by omega⟩
    have hil : i < l.length := by have := HI.out.2; omega
    have HVV := Lib.hid (show V = .tuple #[prV (Hd.pr l i), .bool true] by rw [HV.out, hT, hi]; rfl)
    obtain ⟨b, off, rfl, hbl, hat⟩ := HP1.out.at_ i hil
    obtain ⟨e0, e1, e2, e3⟩ := hat
    have HO := Lib.hid (pr_over HPA.out (Hd.pr l i))
    subst hi
    clear hT
    generalize Hd.pr l i = x at *
    obtain ⟨x1, x2, x3, x4⟩ := x
    simp only at e0 e1 e2 e3
    go_wp2_with fail
    obtain ⟨d0, d1, d2, d3⟩ := HO.out
    simp only [Nat.zero_add] at d0 d1 d2 d3
    refine bodyPost_ret (v := .tuple #[.agg #[.string (ofL x1), .int .u8 (x2 : Int), .int .i64 x3, .string (ofL x4)], .bool true]) (by simp [results, Tryz.results94, go_sem, d0, d1, d2, d3]) rfl ⟨by rw [HVV.out]; rfl, below_over HB1.out HG.out _ _ _ _⟩

/-! ### what is wrong with a pair -/
theorem pcode_of (p : Hd.Pr) (l : List Hd.Pr) : Hd.pcode p l = if Hd.bad p ≠ 0 then Hd.bad p else if Hd.there l p.key then 9 else 0 := rfl
theorem pcode_bad {p : Hd.Pr} {l : List Hd.Pr} {n : Nat} (h : Hd.bad p = n) (hn : n ≠ 0) : Hd.pcode p l = n := by rw [pcode_of, if_pos (by omega), h]
theorem pcode_good {p : Hd.Pr} {l : List Hd.Pr} (h : Hd.bad p = 0) (b : Bool) (hb : Hd.there l p.key = b) : Hd.pcode p l = if b then 9 else 0 := by rw [pcode_of, if_neg (by omega), hb]
end Go.Proofs.YtgponfdcagnhhaaGreatDoor
end
