/-
  THE LAW ON THE BOUNDS, walked: two labels made of two, in their boxes; what stands under and above them.
-/
import Derived.Test.YtchfddlfpcgbbaaLatThree
import Derived.Deep.CutBlock
import Derived.Deep.DeepCutAuto
namespace Go.Proofs.Ytchfddlfpcgbbaa
open Go.ChangeShapes Go.WideShapes Go.ChangeAt Go.RowKit
attribute [local go_sem ↓] lab_eql
attribute [local go_sem] guard24

/-- three labels' boxes, and those of two made of them -/
structure Five (al sa bl sb cl sc jl js ml ms : Nat) (w : World) (bj bm : Nat) (w' : World) : Prop where
  three : Three al sa bl sb cl sc w w'
  xj : Box bj (.int .u8 (jl : Int)) (.int .u32 (js : Int)) w'
  xm : Box bm (.int .u8 (ml : Int)) (.int .u32 (ms : Int)) w'
  lj : bj < w'.heap.size
  lm : bm < w'.heap.size
theorem Five.on {al sa bl sb cl sc jl js ml ms : Nat} {w : World} {bj bm : Nat} {a b : World} (h : Five al sa bl sb cl sc jl js ml ms w bj bm a) (hb : Below a.heap.size a b) : Five al sa bl sb cl sc jl js ml ms w bj bm b :=
  ⟨h.three.on hb, h.xj.below hb h.lj, h.xm.below hb h.lm, Nat.lt_of_lt_of_le h.lj hb.size, Nat.lt_of_lt_of_le h.lm hb.size⟩
abbrev FiveS (al sa bl sb cl sc jl js ml ms : Nat) (w : World) (bj bm : Nat) (a : World) : Prop := a.cell? ⟨w.heap.size, 0, none⟩ = some (.int .u8 (al : Int)) ∧ a.cell? ⟨w.heap.size, 1, none⟩ = some (.int .u32 (sa : Int)) ∧
      a.cell? ⟨w.heap.size + 1, 0, none⟩ = some (.int .u8 (bl : Int)) ∧ a.cell? ⟨w.heap.size + 1, 1, none⟩ = some (.int .u32 (sb : Int)) ∧
      a.cell? ⟨w.heap.size + 1 + 1, 0, none⟩ = some (.int .u8 (cl : Int)) ∧ a.cell? ⟨w.heap.size + 1 + 1, 1, none⟩ = some (.int .u32 (sc : Int)) ∧
      a.cell? ⟨bj, 0, none⟩ = some (.int .u8 (jl : Int)) ∧ a.cell? ⟨bj, 1, none⟩ = some (.int .u32 (js : Int)) ∧
      a.cell? ⟨bm, 0, none⟩ = some (.int .u8 (ml : Int)) ∧ a.cell? ⟨bm, 1, none⟩ = some (.int .u32 (ms : Int)) ∧ Five al sa bl sb cl sc jl js ml ms w bj bm a
theorem Five.cells {al sa bl sb cl sc jl js ml ms : Nat} {w : World} {bj bm : Nat} {a : World} (h : Five al sa bl sb cl sc jl js ml ms w bj bm a) : FiveS al sa bl sb cl sc jl js ml ms w bj bm a :=
  ⟨h.three.x0.1, h.three.x0.2.1, h.three.x1.1, h.three.x1.2.1, h.three.x2.1, h.three.x2.2.1, h.xj.1, h.xj.2.1, h.xm.1, h.xm.2.1, h⟩
theorem Five.keep {al sa bl sb cl sc jl js ml ms : Nat} {w : World} {bj bm : Nat} {a b : World} (h : FiveS al sa bl sb cl sc jl js ml ms w bj bm a) (hb : Below a.heap.size a b) : FiveS al sa bl sb cl sc jl js ml ms w bj bm b := (h.2.2.2.2.2.2.2.2.2.2.on hb).cells

def FiveAt (al sa bl sb cl sc jl js ml ms : Nat) (w : World) (s7 s8 : Value) (wx : World) : Prop := ∃ bj bm, s7 = .pointer (some ⟨bj, 0, none⟩) ∧ s8 = .pointer (some ⟨bm, 0, none⟩) ∧ Five al sa bl sb cl sc jl js ml ms w bj bm wx
theorem FiveAt.mk {al sa bl sb cl sc jl js ml ms : Nat} {w : World} {bj bm : Nat} {a : World} (h : Five al sa bl sb cl sc jl js ml ms w bj bm a) : FiveAt al sa bl sb cl sc jl js ml ms w (.pointer (some ⟨bj, 0, none⟩)) (.pointer (some ⟨bm, 0, none⟩)) a := ⟨_, _, rfl, rfl, h⟩
theorem Box.newAt {b : Nat} (x y : Value) (t : TypeId) (w : World) (h : b = w.heap.size) : Box b x y (w.alloc (.cells #[x, y] t)) := by subst h; exact Box.new x y t w
theorem Box.alloc {b : Nat} {x y : Value} {w : World} (h : Box b x y w) (hb : b < w.heap.size) (o : Obj) : Box b x y (w.alloc o) := h.below ((Below.refl _ _).alloc (Nat.le_refl _) o) hb
theorem Box.drew {b : Nat} {x y : Value} {w : World} (h : Box b x y w) : Box b x y w.drew := ⟨h.1, h.2.1, h.2.2⟩
theorem Box.far {b : Nat} {x y : Value} {w : World} (h : Box b x y w) {p : Addr} (hp : p.block ≠ b) (v : Value) : Box b x y (w.setCell p v) :=
  ⟨(World.cell?_setCell_other _ _ _ _ (by rintro rfl; exact hp rfl)).trans h.1, (World.cell?_setCell_other _ _ _ _ (by rintro rfl; exact hp rfl)).trans h.2.1, fun j => by rw [World.frozen?_setCell]; exact h.2.2 j⟩
/-- a label's box lies there, whatever it holds -/
def Has (b : Nat) (w : World) : Prop := ∃ x y, Box b x y w
theorem Box.put2 {b : Nat} {w : World} (x y : Value) (h : Has b w) : Box b x y ((w.setCell ⟨b, 0, none⟩ x).setCell ⟨b, 1, none⟩ y) := by
  obtain ⟨x', y', h⟩ := h
  refine ⟨?_, World.cell?_setCell_same (w.setCell ⟨b, 0, none⟩ x) _ _ ((World.cell?_setCell_other _ _ _ _ (ne_cell b 0 1 (by decide))).trans h.2.1), fun j => by rw [World.frozen?_setCell, World.frozen?_setCell]; exact h.2.2 j⟩
  exact (World.cell?_setCell_other _ _ _ _ (ne_cell b 1 0 (by decide))).trans (World.cell?_setCell_same _ _ _ h.1)
theorem Has.newAt {b : Nat} (x y : Value) (t : TypeId) (w : World) (h : b = w.heap.size) : Has b (w.alloc (.cells #[x, y] t)) := ⟨x, y, Box.newAt x y t w h⟩
theorem Has.alloc {b : Nat} {w : World} (h : Has b w) (hb : b < w.heap.size) (o : Obj) : Has b (w.alloc o) := by obtain ⟨x, y, h⟩ := h; exact ⟨x, y, h.alloc hb o⟩
theorem Has.drew {b : Nat} {w : World} (h : Has b w) : Has b w.drew := by obtain ⟨x, y, h⟩ := h; exact ⟨x, y, h.drew⟩
theorem Has.far {b : Nat} {w : World} (h : Has b w) {p : Addr} (hp : p.block ≠ b) (v : Value) : Has b (w.setCell p v) := by obtain ⟨x, y, h⟩ := h; exact ⟨x, y, h.far hp v⟩
theorem Has.below {b B : Nat} {w w' : World} (h : Has b w) (hb : Below B w w') (hB : b < B) : Has b w' := by obtain ⟨x, y, h⟩ := h; exact ⟨x, y, h.below hb hB⟩
theorem below_via {B B' : Nat} {a b c : World} (h : Below B a b) (hb : Below B' b c) (hB : B ≤ B') : Below B a c := Below.trans h (hb.mono hB)
theorem bcell {W w1 : World} (hb : Below W.heap.size W w1) : (∀ b o, b < W.heap.size → w1.cell? ⟨b, o, none⟩ = W.cell? ⟨b, o, none⟩) ∧ (∀ b o, b < W.heap.size → w1.frozen? ⟨b, o, none⟩ = W.frozen? ⟨b, o, none⟩) :=
  ⟨fun b o h => hb.cell (p := ⟨b, o, none⟩) h, fun b o h => hb.frozen (p := ⟨b, o, none⟩) h⟩
theorem Three.six {al sa bl sb cl sc : Nat} {w a : World} (h : Three al sa bl sb cl sc w a) : a.cell? ⟨w.heap.size, 0, none⟩ = some (.int .u8 (al : Int)) ∧ a.cell? ⟨w.heap.size, 1, none⟩ = some (.int .u32 (sa : Int)) ∧
      a.cell? ⟨w.heap.size + 1, 0, none⟩ = some (.int .u8 (bl : Int)) ∧ a.cell? ⟨w.heap.size + 1, 1, none⟩ = some (.int .u32 (sb : Int)) := ⟨h.x0.1, h.x0.2.1, h.x1.1, h.x1.2.1⟩
/-- a call of two labels that answers one -/
def Lab2 (f : FuncId) (al sa bl sb rl rs : Nat) : Prop := ∀ W, Calls Try.prog f #[.agg #[.int .u8 (al : Int), .int .u32 (sa : Int)], .agg #[.int .u8 (bl : Int), .int .u32 (sb : Int)]] W fun e w' => e = .returned (.agg #[.int .u8 (rl : Int), .int .u32 (rs : Int)]) ∧ Below W.heap.size W w'
def Lab1 (al sa bl sb : Nat) (u : Bool) : Prop := ∀ W, Calls Try.prog 7 #[.agg #[.int .u8 (al : Int), .int .u32 (sa : Int)], .agg #[.int .u8 (bl : Int), .int .u32 (sb : Int)]] W fun e w' => e = .returned (.bool u) ∧ Below W.heap.size W w'
set_option linter.unusedSimpArgs false in
set_option maxHeartbeats 40000000 in
theorem bounds_walk (al sa bl sb cl sc jl js ml ms : Nat) (p q r s : Bool) (w : World)
    (HJ : Lab2 10 al sa bl sb jl js) (HM : Lab2 11 al sa bl sb ml ms) (HJ2 : Lab2 10 bl sb al sa jl js) (HM2 : Lab2 11 bl sb al sa ml ms) (HJ3 : Lab2 10 al sa ml ms al sa) (HM3 : Lab2 11 al sa jl js al sa)
    (UJ : Lab1 jl js cl sc (p && q)) (UA : Lab1 al sa cl sc p) (UB : Lab1 bl sb cl sc q) (UM : Lab1 cl sc ml ms (r && s)) (VA : Lab1 cl sc al sa r) (VB : Lab1 cl sc bl sb s)
    (TA : Lab1 al sa jl js true) (TB : Lab1 ml ms al sa true) :
    Calls Try.prog 5 #[.agg #[.int .u8 (al : Int), .int .u32 (sa : Int)], .agg #[.int .u8 (bl : Int), .int .u32 (sb : Int)], .agg #[.int .u8 (cl : Int), .int .u32 (sc : Int)]] w fun e w' => e = .returned (.bool true) ∧ Below w.heap.size w w' := by
  have HST := Lib.hid (Three.start al sa bl sb cl sc 24 w)
  go_enter Try.func5, Try.ntmps5
  go_wp2_with fail
  refine (awake_any _).mono ?_
  rintro x w1 ⟨rfl, b1⟩
  have q1 := HST.out.on b1
  clear b1
  go_upto_region 3 with fail
  go_cut [7, 8] (fun s7 s8 wx => FiveAt al sa bl sb cl sc jl js ml ms w s7 s8 wx)
  case first =>
    have hz1 := q1.size
    have q2 := q1.six
    go_region_held3 (fun a => a.cell? ⟨w.heap.size, 0, none⟩ = some (.int .u8 (al : Int)) ∧ a.cell? ⟨w.heap.size, 1, none⟩ = some (.int .u32 (sa : Int)) ∧
      a.cell? ⟨w.heap.size + 1, 0, none⟩ = some (.int .u8 (bl : Int)) ∧ a.cell? ⟨w.heap.size + 1, 1, none⟩ = some (.int .u32 (sb : Int)))
      (first | exact q1.drew.six | (refine (q1.far ?_).six; (repeat (first | (with_reducible exact Below.refl _ _) | (with_reducible apply Below.drew) | ((with_reducible apply Below.setCell); (case hp => (first | omega | (simp; done) | (simp; omega)))) | ((with_reducible apply Below.alloc); (case hB => (first | omega | (simp; done) | (simp; omega)))) | ((with_reducible apply below_via); (case hb => assumption); (case hB => (first | omega | (simp; done) | (simp; omega))))))))
      ((first
        | (go_at_call 10; refine (HJ _).mono ?_; rintro e' w2 ⟨rfl, hb2⟩; obtain ⟨kc, kf⟩ := bcell hb2; have hz2 := hb2.size; (try simp at hz2); (try have hz3 := Nat.lt_of_succ_le hz2); (try have hz4 := Nat.lt_of_succ_lt hz3); (try have hz7 : w1.heap.size < w2.heap.size := by omega); (try have hz8 : w1.heap.size + 1 < w2.heap.size := by omega))
        | (go_at_call 11; refine (HM _).mono ?_; rintro e' w2 ⟨rfl, hb2⟩; obtain ⟨kc, kf⟩ := bcell hb2; have hz2 := hb2.size; (try simp at hz2); (try have hz3 := Nat.lt_of_succ_le hz2); (try have hz4 := Nat.lt_of_succ_lt hz3); (try have hz7 : w1.heap.size < w2.heap.size := by omega); (try have hz8 : w1.heap.size + 1 < w2.heap.size := by omega))))
    all_goals
      go_wp2_with fail
      go_meet
      refine FiveAt.mk ⟨q1.far ?_, ?_, ?_, ?_, ?_⟩
      · (repeat (first | (with_reducible exact Below.refl _ _) | (with_reducible apply Below.drew) | ((with_reducible apply Below.setCell); (case hp => (first | omega | (simp; done) | (simp; omega)))) | ((with_reducible apply Below.alloc); (case hB => (first | omega | (simp; done) | (simp; omega)))) | ((with_reducible apply below_via); (case hb => assumption); (case hB => (first | omega | (simp; done) | (simp; omega))))))
      · (repeat (first | (with_reducible apply Box.put2) | ((with_reducible apply Box.newAt); first | rfl | (simp; done)) | (with_reducible apply Box.drew) | ((with_reducible apply Box.far); (case hp => (first | omega | (simp; done) | (simp; omega)))) | ((with_reducible apply Box.alloc); (case hb => (first | omega | (simp; done) | (simp; omega)))) | ((with_reducible apply Box.below); (case hb => assumption); (case hB => (first | omega | (simp; done) | (simp; omega)))) | ((with_reducible apply Has.newAt); first | rfl | (simp; done)) | (with_reducible apply Has.drew) | ((with_reducible apply Has.far); (case hp => (first | omega | (simp; done) | (simp; omega)))) | ((with_reducible apply Has.alloc); (case hb => (first | omega | (simp; done) | (simp; omega)))) | ((with_reducible apply Has.below); (case hb => assumption); (case hB => (first | omega | (simp; done) | (simp; omega))))))
      · (repeat (first | (with_reducible apply Box.put2) | ((with_reducible apply Box.newAt); first | rfl | (simp; done)) | (with_reducible apply Box.drew) | ((with_reducible apply Box.far); (case hp => (first | omega | (simp; done) | (simp; omega)))) | ((with_reducible apply Box.alloc); (case hb => (first | omega | (simp; done) | (simp; omega)))) | ((with_reducible apply Box.below); (case hb => assumption); (case hB => (first | omega | (simp; done) | (simp; omega)))) | ((with_reducible apply Has.newAt); first | rfl | (simp; done)) | (with_reducible apply Has.drew) | ((with_reducible apply Has.far); (case hp => (first | omega | (simp; done) | (simp; omega)))) | ((with_reducible apply Has.alloc); (case hb => (first | omega | (simp; done) | (simp; omega)))) | ((with_reducible apply Has.below); (case hb => assumption); (case hB => (first | omega | (simp; done) | (simp; omega))))))
      · (try simp); (try omega)
      · (try simp); (try omega)
  case rest =>
    obtain ⟨bj, bm, rfl, rfl, hF⟩ := hcut
    have F := Lib.hid hF
    clear hF q1
    go_upto_region 4 with fail
    go_cut [42] (fun s42 wx => s42 = .bool false ∧ Five al sa bl sb cl sc jl js ml ms w bj bm wx)
    case first =>
      cases p
      all_goals cases r
      · skip
        refine wp_region_noPanic ?_
        refine wp_region_held_drew (S := (fun a => a.cell? ⟨w.heap.size, 0, none⟩ = some (.int .u8 (al : Int)) ∧ a.cell? ⟨w.heap.size, 1, none⟩ = some (.int .u32 (sa : Int)) ∧ a.cell? ⟨w.heap.size + 1, 0, none⟩ = some (.int .u8 (bl : Int)) ∧ a.cell? ⟨w.heap.size + 1, 1, none⟩ = some (.int .u32 (sb : Int)) ∧ a.cell? ⟨w.heap.size + 1 + 1, 0, none⟩ = some (.int .u8 (cl : Int)) ∧ a.cell? ⟨w.heap.size + 1 + 1, 1, none⟩ = some (.int .u32 (sc : Int)) ∧ a.cell? ⟨bj, 0, none⟩ = some (.int .u8 (jl : Int)) ∧ a.cell? ⟨bj, 1, none⟩ = some (.int .u32 (js : Int)) ∧ a.cell? ⟨bm, 0, none⟩ = some (.int .u8 (ml : Int)) ∧ a.cell? ⟨bm, 1, none⟩ = some (.int .u32 (ms : Int)) ∧ Five al sa bl sb cl sc jl js ml ms w bj bm a)) (by kernel_rfl) ?_ (fun hHeld => ?_)
        · (try dsimp only); first | exact (F.out.on (Below.refl _ _).drew).cells | assumption | exact Five.keep (by assumption) hb2
        refine wpAnyH_take (i := 0) (v := ?_) rfl (by kernel_rfl) (by kernel_rfl) (by kernel_rfl) (fun _ _ _ h => h) (Or.inl ⟨by rfl, ?_⟩) (by assumption) ?_
        rotate_left
        · intro w hSw; (try dsimp only at hSw); go_simp; try with_reducible rfl
        (try simp only [List.getElem_toArray, List.getElem_cons_succ, List.getElem_cons_zero, Act.put, List.setIfInBounds_toArray, List.set_cons_zero, List.set_cons_succ])
        refine wpAnyH_take (i := 1) (v := ?_) rfl (by kernel_rfl) (by kernel_rfl) (by kernel_rfl) (fun _ _ _ h => h) (Or.inl ⟨by rfl, ?_⟩) (by assumption) ?_
        rotate_left
        · intro w hSw; (try dsimp only at hSw); go_simp; try with_reducible rfl
        (try simp only [List.getElem_toArray, List.getElem_cons_succ, List.getElem_cons_zero, Act.put, List.setIfInBounds_toArray, List.set_cons_zero, List.set_cons_succ])
        refine wpAnyH_take (i := 3) (v := ?_) rfl (by kernel_rfl) (by kernel_rfl) (by kernel_rfl) (fun _ _ _ h => h) (Or.inl ⟨by rfl, ?_⟩) (by assumption) ?_
        rotate_left
        · intro w hSw; (try dsimp only at hSw); go_simp; try with_reducible rfl
        (try simp only [List.getElem_toArray, List.getElem_cons_succ, List.getElem_cons_zero, Act.put, List.setIfInBounds_toArray, List.set_cons_zero, List.set_cons_succ])
        refine wpAnyH_take (i := 4) (v := ?_) rfl (by kernel_rfl) (by kernel_rfl) (by kernel_rfl) (fun _ _ _ h => h) (Or.inl ⟨by rfl, ?_⟩) (by assumption) ?_
        rotate_left
        · intro w hSw; (try dsimp only at hSw); go_simp; try with_reducible rfl
        (try simp only [List.getElem_toArray, List.getElem_cons_succ, List.getElem_cons_zero, Act.put, List.setIfInBounds_toArray, List.set_cons_zero, List.set_cons_succ])
        refine wpAnyH_ready (rs := [2]) (by kernel_rfl) (by simp) ?_
        refine AllReadyH.cons rfl (fun K hK => ?_) ?_
        rotate_left
        · exact AllReadyH.nil
        go_simp
        (go_at_call 7; refine (UJ _).mono ?_; rintro e' w2 ⟨rfl, hb2⟩)
        refine hK.out _ _ ?_ (fun hHeld => ?_)
        · (try dsimp only); first | exact (F.out.on (Below.refl _ _).drew).cells | assumption | exact Five.keep (by assumption) hb2
        clear hK K
        (try simp only [List.getElem_toArray, List.getElem_cons_succ, List.getElem_cons_zero, Act.put, List.setIfInBounds_toArray, List.set_cons_zero, List.set_cons_succ])
        refine wpAnyH_ready (rs := [5]) (by kernel_rfl) (by simp) ?_
        refine AllReadyH.cons rfl (fun K hK => ?_) ?_
        rotate_left
        · exact AllReadyH.nil
        go_simp
        (go_at_call 7; refine (UA _).mono ?_; rintro e' w2 ⟨rfl, hb2⟩)
        refine hK.out _ _ ?_ (fun hHeld => ?_)
        · (try dsimp only); first | exact (F.out.on (Below.refl _ _).drew).cells | assumption | exact Five.keep (by assumption) hb2
        clear hK K
        (try simp only [List.getElem_toArray, List.getElem_cons_succ, List.getElem_cons_zero, Act.put, List.setIfInBounds_toArray, List.set_cons_zero, List.set_cons_succ])
        refine wpAnyH_take (i := 6) (v := ?_) rfl (by kernel_rfl) (by kernel_rfl) (by kernel_rfl) (fun _ _ _ h => h) (Or.inl ⟨by rfl, ?_⟩) (by assumption) ?_
        rotate_left
        · intro w hSw; (try dsimp only at hSw); go_simp; try with_reducible rfl
        (try simp only [List.getElem_toArray, List.getElem_cons_succ, List.getElem_cons_zero, Act.put, List.setIfInBounds_toArray, List.set_cons_zero, List.set_cons_succ])
        refine wpAnyH_take (i := 7) (v := undef) rfl (by kernel_rfl) (by kernel_rfl) (by kernel_rfl) (fun _ _ _ h => h) (Or.inr ⟨by rfl, rfl⟩) (by assumption) ?_
        (try simp only [List.getElem_toArray, List.getElem_cons_succ, List.getElem_cons_zero, Act.put, List.setIfInBounds_toArray, List.set_cons_zero, List.set_cons_succ])
        refine wpAnyH_take (i := 8) (v := undef) rfl (by kernel_rfl) (by kernel_rfl) (by kernel_rfl) (fun _ _ _ h => h) (Or.inr ⟨by rfl, rfl⟩) (by assumption) ?_
        (try simp only [List.getElem_toArray, List.getElem_cons_succ, List.getElem_cons_zero, Act.put, List.setIfInBounds_toArray, List.set_cons_zero, List.set_cons_succ])
        refine wpAnyH_take (i := 9) (v := undef) rfl (by kernel_rfl) (by kernel_rfl) (by kernel_rfl) (fun _ _ _ h => h) (Or.inr ⟨by rfl, rfl⟩) (by assumption) ?_
        (try simp only [List.getElem_toArray, List.getElem_cons_succ, List.getElem_cons_zero, Act.put, List.setIfInBounds_toArray, List.set_cons_zero, List.set_cons_succ])
        refine wpAnyH_take (i := 10) (v := ?_) rfl (by kernel_rfl) (by kernel_rfl) (by kernel_rfl) (fun _ _ _ h => h) (Or.inl ⟨by rfl, ?_⟩) (by assumption) ?_
        rotate_left
        · intro w hSw; (try dsimp only at hSw); go_simp; try with_reducible rfl
        (try simp only [List.getElem_toArray, List.getElem_cons_succ, List.getElem_cons_zero, Act.put, List.setIfInBounds_toArray, List.set_cons_zero, List.set_cons_succ])
        refine wpAnyH_take (i := 11) (v := ?_) rfl (by kernel_rfl) (by kernel_rfl) (by kernel_rfl) (fun _ _ _ h => h) (Or.inl ⟨by rfl, ?_⟩) (by assumption) ?_
        rotate_left
        · intro w hSw; (try dsimp only at hSw); go_simp; try with_reducible rfl
        (try simp only [List.getElem_toArray, List.getElem_cons_succ, List.getElem_cons_zero, Act.put, List.setIfInBounds_toArray, List.set_cons_zero, List.set_cons_succ])
        refine wpAnyH_take (i := 12) (v := ?_) rfl (by kernel_rfl) (by kernel_rfl) (by kernel_rfl) (fun _ _ _ h => h) (Or.inl ⟨by rfl, ?_⟩) (by assumption) ?_
        rotate_left
        · intro w hSw; (try dsimp only at hSw); go_simp; try with_reducible rfl
        (try simp only [List.getElem_toArray, List.getElem_cons_succ, List.getElem_cons_zero, Act.put, List.setIfInBounds_toArray, List.set_cons_zero, List.set_cons_succ])
        refine wpAnyH_take (i := 13) (v := ?_) rfl (by kernel_rfl) (by kernel_rfl) (by kernel_rfl) (fun _ _ _ h => h) (Or.inl ⟨by rfl, ?_⟩) (by assumption) ?_
        rotate_left
        · intro w hSw; (try dsimp only at hSw); go_simp; try with_reducible rfl
        (try simp only [List.getElem_toArray, List.getElem_cons_succ, List.getElem_cons_zero, Act.put, List.setIfInBounds_toArray, List.set_cons_zero, List.set_cons_succ])
        refine wpAnyH_take (i := 14) (v := ?_) rfl (by kernel_rfl) (by kernel_rfl) (by kernel_rfl) (fun _ _ _ h => h) (Or.inl ⟨by rfl, ?_⟩) (by assumption) ?_
        rotate_left
        · intro w hSw; (try dsimp only at hSw); go_simp; try with_reducible rfl
        (try simp only [List.getElem_toArray, List.getElem_cons_succ, List.getElem_cons_zero, Act.put, List.setIfInBounds_toArray, List.set_cons_zero, List.set_cons_succ])
        refine wpAnyH_take (i := 16) (v := ?_) rfl (by kernel_rfl) (by kernel_rfl) (by kernel_rfl) (fun _ _ _ h => h) (Or.inl ⟨by rfl, ?_⟩) (by assumption) ?_
        rotate_left
        · intro w hSw; (try dsimp only at hSw); go_simp; try with_reducible rfl
        (try simp only [List.getElem_toArray, List.getElem_cons_succ, List.getElem_cons_zero, Act.put, List.setIfInBounds_toArray, List.set_cons_zero, List.set_cons_succ])
        refine wpAnyH_take (i := 17) (v := ?_) rfl (by kernel_rfl) (by kernel_rfl) (by kernel_rfl) (fun _ _ _ h => h) (Or.inl ⟨by rfl, ?_⟩) (by assumption) ?_
        rotate_left
        · intro w hSw; (try dsimp only at hSw); go_simp; try with_reducible rfl
        (try simp only [List.getElem_toArray, List.getElem_cons_succ, List.getElem_cons_zero, Act.put, List.setIfInBounds_toArray, List.set_cons_zero, List.set_cons_succ])
        refine wpAnyH_ready (rs := [15]) (by kernel_rfl) (by simp) ?_
        refine AllReadyH.cons rfl (fun K hK => ?_) ?_
        rotate_left
        · exact AllReadyH.nil
        go_simp
        (go_at_call 7; refine (UM _).mono ?_; rintro e' w2 ⟨rfl, hb2⟩)
        refine hK.out _ _ ?_ (fun hHeld => ?_)
        · (try dsimp only); first | exact (F.out.on (Below.refl _ _).drew).cells | assumption | exact Five.keep (by assumption) hb2
        clear hK K
        (try simp only [List.getElem_toArray, List.getElem_cons_succ, List.getElem_cons_zero, Act.put, List.setIfInBounds_toArray, List.set_cons_zero, List.set_cons_succ])
        refine wpAnyH_ready (rs := [18]) (by kernel_rfl) (by simp) ?_
        refine AllReadyH.cons rfl (fun K hK => ?_) ?_
        rotate_left
        · exact AllReadyH.nil
        go_simp
        (go_at_call 7; refine (VA _).mono ?_; rintro e' w2 ⟨rfl, hb2⟩)
        refine hK.out _ _ ?_ (fun hHeld => ?_)
        · (try dsimp only); first | exact (F.out.on (Below.refl _ _).drew).cells | assumption | exact Five.keep (by assumption) hb2
        clear hK K
        (try simp only [List.getElem_toArray, List.getElem_cons_succ, List.getElem_cons_zero, Act.put, List.setIfInBounds_toArray, List.set_cons_zero, List.set_cons_succ])
        refine wpAnyH_take (i := 19) (v := ?_) rfl (by kernel_rfl) (by kernel_rfl) (by kernel_rfl) (fun _ _ _ h => h) (Or.inl ⟨by rfl, ?_⟩) (by assumption) ?_
        rotate_left
        · intro w hSw; (try dsimp only at hSw); go_simp; try with_reducible rfl
        (try simp only [List.getElem_toArray, List.getElem_cons_succ, List.getElem_cons_zero, Act.put, List.setIfInBounds_toArray, List.set_cons_zero, List.set_cons_succ])
        refine wpAnyH_take (i := 20) (v := undef) rfl (by kernel_rfl) (by kernel_rfl) (by kernel_rfl) (fun _ _ _ h => h) (Or.inr ⟨by rfl, rfl⟩) (by assumption) ?_
        (try simp only [List.getElem_toArray, List.getElem_cons_succ, List.getElem_cons_zero, Act.put, List.setIfInBounds_toArray, List.set_cons_zero, List.set_cons_succ])
        refine wpAnyH_take (i := 21) (v := undef) rfl (by kernel_rfl) (by kernel_rfl) (by kernel_rfl) (fun _ _ _ h => h) (Or.inr ⟨by rfl, rfl⟩) (by assumption) ?_
        (try simp only [List.getElem_toArray, List.getElem_cons_succ, List.getElem_cons_zero, Act.put, List.setIfInBounds_toArray, List.set_cons_zero, List.set_cons_succ])
        refine wpAnyH_take (i := 22) (v := undef) rfl (by kernel_rfl) (by kernel_rfl) (by kernel_rfl) (fun _ _ _ h => h) (Or.inr ⟨by rfl, rfl⟩) (by assumption) ?_
        (try simp only [List.getElem_toArray, List.getElem_cons_succ, List.getElem_cons_zero, Act.put, List.setIfInBounds_toArray, List.set_cons_zero, List.set_cons_succ])
        refine wpAnyH_take (i := 23) (v := ?_) rfl (by kernel_rfl) (by kernel_rfl) (by kernel_rfl) (fun _ _ _ h => h) (Or.inl ⟨by rfl, ?_⟩) (by assumption) ?_
        rotate_left
        · intro w hSw; (try dsimp only at hSw); go_simp; try with_reducible rfl
        (try simp only [List.getElem_toArray, List.getElem_cons_succ, List.getElem_cons_zero, Act.put, List.setIfInBounds_toArray, List.set_cons_zero, List.set_cons_succ])
        refine wpAnyH_take (i := 24) (v := ?_) rfl (by kernel_rfl) (by kernel_rfl) (by kernel_rfl) (fun _ _ _ h => h) (Or.inl ⟨by rfl, ?_⟩) (by assumption) ?_
        rotate_left
        · intro w hSw; (try dsimp only at hSw); go_simp; try with_reducible rfl
        (try simp only [List.getElem_toArray, List.getElem_cons_succ, List.getElem_cons_zero, Act.put, List.setIfInBounds_toArray, List.set_cons_zero, List.set_cons_succ])
        refine wpAnyH_take (i := 25) (v := ?_) rfl (by kernel_rfl) (by kernel_rfl) (by kernel_rfl) (fun _ _ _ h => h) (Or.inl ⟨by rfl, ?_⟩) (by assumption) ?_
        rotate_left
        · intro w hSw; (try dsimp only at hSw); go_simp; try with_reducible rfl
        (try simp only [List.getElem_toArray, List.getElem_cons_succ, List.getElem_cons_zero, Act.put, List.setIfInBounds_toArray, List.set_cons_zero, List.set_cons_succ])
        refine wpAnyH_done (by kernel_rfl) ?_ _
        refine NoPanic.normal ?_
        have F2 := Lib.hid hHeld.2.2.2.2.2.2.2.2.2.2
        clear hHeld
        go_wp2_with fail
        go_meet
        exact ⟨by first | rfl | simp, F2.out⟩
      · skip
        refine wp_region_noPanic ?_
        refine wp_region_held_drew (S := (fun a => a.cell? ⟨w.heap.size, 0, none⟩ = some (.int .u8 (al : Int)) ∧ a.cell? ⟨w.heap.size, 1, none⟩ = some (.int .u32 (sa : Int)) ∧ a.cell? ⟨w.heap.size + 1, 0, none⟩ = some (.int .u8 (bl : Int)) ∧ a.cell? ⟨w.heap.size + 1, 1, none⟩ = some (.int .u32 (sb : Int)) ∧ a.cell? ⟨w.heap.size + 1 + 1, 0, none⟩ = some (.int .u8 (cl : Int)) ∧ a.cell? ⟨w.heap.size + 1 + 1, 1, none⟩ = some (.int .u32 (sc : Int)) ∧ a.cell? ⟨bj, 0, none⟩ = some (.int .u8 (jl : Int)) ∧ a.cell? ⟨bj, 1, none⟩ = some (.int .u32 (js : Int)) ∧ a.cell? ⟨bm, 0, none⟩ = some (.int .u8 (ml : Int)) ∧ a.cell? ⟨bm, 1, none⟩ = some (.int .u32 (ms : Int)) ∧ Five al sa bl sb cl sc jl js ml ms w bj bm a)) (by kernel_rfl) ?_ (fun hHeld => ?_)
        · (try dsimp only); first | exact (F.out.on (Below.refl _ _).drew).cells | assumption | exact Five.keep (by assumption) hb2
        refine wpAnyH_take (i := 0) (v := ?_) rfl (by kernel_rfl) (by kernel_rfl) (by kernel_rfl) (fun _ _ _ h => h) (Or.inl ⟨by rfl, ?_⟩) (by assumption) ?_
        rotate_left
        · intro w hSw; (try dsimp only at hSw); go_simp; try with_reducible rfl
        (try simp only [List.getElem_toArray, List.getElem_cons_succ, List.getElem_cons_zero, Act.put, List.setIfInBounds_toArray, List.set_cons_zero, List.set_cons_succ])
        refine wpAnyH_take (i := 1) (v := ?_) rfl (by kernel_rfl) (by kernel_rfl) (by kernel_rfl) (fun _ _ _ h => h) (Or.inl ⟨by rfl, ?_⟩) (by assumption) ?_
        rotate_left
        · intro w hSw; (try dsimp only at hSw); go_simp; try with_reducible rfl
        (try simp only [List.getElem_toArray, List.getElem_cons_succ, List.getElem_cons_zero, Act.put, List.setIfInBounds_toArray, List.set_cons_zero, List.set_cons_succ])
        refine wpAnyH_take (i := 3) (v := ?_) rfl (by kernel_rfl) (by kernel_rfl) (by kernel_rfl) (fun _ _ _ h => h) (Or.inl ⟨by rfl, ?_⟩) (by assumption) ?_
        rotate_left
        · intro w hSw; (try dsimp only at hSw); go_simp; try with_reducible rfl
        (try simp only [List.getElem_toArray, List.getElem_cons_succ, List.getElem_cons_zero, Act.put, List.setIfInBounds_toArray, List.set_cons_zero, List.set_cons_succ])
        refine wpAnyH_take (i := 4) (v := ?_) rfl (by kernel_rfl) (by kernel_rfl) (by kernel_rfl) (fun _ _ _ h => h) (Or.inl ⟨by rfl, ?_⟩) (by assumption) ?_
        rotate_left
        · intro w hSw; (try dsimp only at hSw); go_simp; try with_reducible rfl
        (try simp only [List.getElem_toArray, List.getElem_cons_succ, List.getElem_cons_zero, Act.put, List.setIfInBounds_toArray, List.set_cons_zero, List.set_cons_succ])
        refine wpAnyH_ready (rs := [2]) (by kernel_rfl) (by simp) ?_
        refine AllReadyH.cons rfl (fun K hK => ?_) ?_
        rotate_left
        · exact AllReadyH.nil
        go_simp
        (go_at_call 7; refine (UJ _).mono ?_; rintro e' w2 ⟨rfl, hb2⟩)
        refine hK.out _ _ ?_ (fun hHeld => ?_)
        · (try dsimp only); first | exact (F.out.on (Below.refl _ _).drew).cells | assumption | exact Five.keep (by assumption) hb2
        clear hK K
        (try simp only [List.getElem_toArray, List.getElem_cons_succ, List.getElem_cons_zero, Act.put, List.setIfInBounds_toArray, List.set_cons_zero, List.set_cons_succ])
        refine wpAnyH_ready (rs := [5]) (by kernel_rfl) (by simp) ?_
        refine AllReadyH.cons rfl (fun K hK => ?_) ?_
        rotate_left
        · exact AllReadyH.nil
        go_simp
        (go_at_call 7; refine (UA _).mono ?_; rintro e' w2 ⟨rfl, hb2⟩)
        refine hK.out _ _ ?_ (fun hHeld => ?_)
        · (try dsimp only); first | exact (F.out.on (Below.refl _ _).drew).cells | assumption | exact Five.keep (by assumption) hb2
        clear hK K
        (try simp only [List.getElem_toArray, List.getElem_cons_succ, List.getElem_cons_zero, Act.put, List.setIfInBounds_toArray, List.set_cons_zero, List.set_cons_succ])
        refine wpAnyH_take (i := 6) (v := ?_) rfl (by kernel_rfl) (by kernel_rfl) (by kernel_rfl) (fun _ _ _ h => h) (Or.inl ⟨by rfl, ?_⟩) (by assumption) ?_
        rotate_left
        · intro w hSw; (try dsimp only at hSw); go_simp; try with_reducible rfl
        (try simp only [List.getElem_toArray, List.getElem_cons_succ, List.getElem_cons_zero, Act.put, List.setIfInBounds_toArray, List.set_cons_zero, List.set_cons_succ])
        refine wpAnyH_take (i := 7) (v := undef) rfl (by kernel_rfl) (by kernel_rfl) (by kernel_rfl) (fun _ _ _ h => h) (Or.inr ⟨by rfl, rfl⟩) (by assumption) ?_
        (try simp only [List.getElem_toArray, List.getElem_cons_succ, List.getElem_cons_zero, Act.put, List.setIfInBounds_toArray, List.set_cons_zero, List.set_cons_succ])
        refine wpAnyH_take (i := 8) (v := undef) rfl (by kernel_rfl) (by kernel_rfl) (by kernel_rfl) (fun _ _ _ h => h) (Or.inr ⟨by rfl, rfl⟩) (by assumption) ?_
        (try simp only [List.getElem_toArray, List.getElem_cons_succ, List.getElem_cons_zero, Act.put, List.setIfInBounds_toArray, List.set_cons_zero, List.set_cons_succ])
        refine wpAnyH_take (i := 9) (v := undef) rfl (by kernel_rfl) (by kernel_rfl) (by kernel_rfl) (fun _ _ _ h => h) (Or.inr ⟨by rfl, rfl⟩) (by assumption) ?_
        (try simp only [List.getElem_toArray, List.getElem_cons_succ, List.getElem_cons_zero, Act.put, List.setIfInBounds_toArray, List.set_cons_zero, List.set_cons_succ])
        refine wpAnyH_take (i := 10) (v := ?_) rfl (by kernel_rfl) (by kernel_rfl) (by kernel_rfl) (fun _ _ _ h => h) (Or.inl ⟨by rfl, ?_⟩) (by assumption) ?_
        rotate_left
        · intro w hSw; (try dsimp only at hSw); go_simp; try with_reducible rfl
        (try simp only [List.getElem_toArray, List.getElem_cons_succ, List.getElem_cons_zero, Act.put, List.setIfInBounds_toArray, List.set_cons_zero, List.set_cons_succ])
        refine wpAnyH_take (i := 11) (v := ?_) rfl (by kernel_rfl) (by kernel_rfl) (by kernel_rfl) (fun _ _ _ h => h) (Or.inl ⟨by rfl, ?_⟩) (by assumption) ?_
        rotate_left
        · intro w hSw; (try dsimp only at hSw); go_simp; try with_reducible rfl
        (try simp only [List.getElem_toArray, List.getElem_cons_succ, List.getElem_cons_zero, Act.put, List.setIfInBounds_toArray, List.set_cons_zero, List.set_cons_succ])
        refine wpAnyH_take (i := 12) (v := ?_) rfl (by kernel_rfl) (by kernel_rfl) (by kernel_rfl) (fun _ _ _ h => h) (Or.inl ⟨by rfl, ?_⟩) (by assumption) ?_
        rotate_left
        · intro w hSw; (try dsimp only at hSw); go_simp; try with_reducible rfl
        (try simp only [List.getElem_toArray, List.getElem_cons_succ, List.getElem_cons_zero, Act.put, List.setIfInBounds_toArray, List.set_cons_zero, List.set_cons_succ])
        refine wpAnyH_take (i := 13) (v := ?_) rfl (by kernel_rfl) (by kernel_rfl) (by kernel_rfl) (fun _ _ _ h => h) (Or.inl ⟨by rfl, ?_⟩) (by assumption) ?_
        rotate_left
        · intro w hSw; (try dsimp only at hSw); go_simp; try with_reducible rfl
        (try simp only [List.getElem_toArray, List.getElem_cons_succ, List.getElem_cons_zero, Act.put, List.setIfInBounds_toArray, List.set_cons_zero, List.set_cons_succ])
        refine wpAnyH_take (i := 14) (v := ?_) rfl (by kernel_rfl) (by kernel_rfl) (by kernel_rfl) (fun _ _ _ h => h) (Or.inl ⟨by rfl, ?_⟩) (by assumption) ?_
        rotate_left
        · intro w hSw; (try dsimp only at hSw); go_simp; try with_reducible rfl
        (try simp only [List.getElem_toArray, List.getElem_cons_succ, List.getElem_cons_zero, Act.put, List.setIfInBounds_toArray, List.set_cons_zero, List.set_cons_succ])
        refine wpAnyH_take (i := 16) (v := ?_) rfl (by kernel_rfl) (by kernel_rfl) (by kernel_rfl) (fun _ _ _ h => h) (Or.inl ⟨by rfl, ?_⟩) (by assumption) ?_
        rotate_left
        · intro w hSw; (try dsimp only at hSw); go_simp; try with_reducible rfl
        (try simp only [List.getElem_toArray, List.getElem_cons_succ, List.getElem_cons_zero, Act.put, List.setIfInBounds_toArray, List.set_cons_zero, List.set_cons_succ])
        refine wpAnyH_take (i := 17) (v := ?_) rfl (by kernel_rfl) (by kernel_rfl) (by kernel_rfl) (fun _ _ _ h => h) (Or.inl ⟨by rfl, ?_⟩) (by assumption) ?_
        rotate_left
        · intro w hSw; (try dsimp only at hSw); go_simp; try with_reducible rfl
        (try simp only [List.getElem_toArray, List.getElem_cons_succ, List.getElem_cons_zero, Act.put, List.setIfInBounds_toArray, List.set_cons_zero, List.set_cons_succ])
        refine wpAnyH_ready (rs := [15]) (by kernel_rfl) (by simp) ?_
        refine AllReadyH.cons rfl (fun K hK => ?_) ?_
        rotate_left
        · exact AllReadyH.nil
        go_simp
        (go_at_call 7; refine (UM _).mono ?_; rintro e' w2 ⟨rfl, hb2⟩)
        refine hK.out _ _ ?_ (fun hHeld => ?_)
        · (try dsimp only); first | exact (F.out.on (Below.refl _ _).drew).cells | assumption | exact Five.keep (by assumption) hb2
        clear hK K
        (try simp only [List.getElem_toArray, List.getElem_cons_succ, List.getElem_cons_zero, Act.put, List.setIfInBounds_toArray, List.set_cons_zero, List.set_cons_succ])
        refine wpAnyH_ready (rs := [18]) (by kernel_rfl) (by simp) ?_
        refine AllReadyH.cons rfl (fun K hK => ?_) ?_
        rotate_left
        · exact AllReadyH.nil
        go_simp
        (go_at_call 7; refine (VA _).mono ?_; rintro e' w2 ⟨rfl, hb2⟩)
        refine hK.out _ _ ?_ (fun hHeld => ?_)
        · (try dsimp only); first | exact (F.out.on (Below.refl _ _).drew).cells | assumption | exact Five.keep (by assumption) hb2
        clear hK K
        (try simp only [List.getElem_toArray, List.getElem_cons_succ, List.getElem_cons_zero, Act.put, List.setIfInBounds_toArray, List.set_cons_zero, List.set_cons_succ])
        refine wpAnyH_take (i := 19) (v := ?_) rfl (by kernel_rfl) (by kernel_rfl) (by kernel_rfl) (fun _ _ _ h => h) (Or.inl ⟨by rfl, ?_⟩) (by assumption) ?_
        rotate_left
        · intro w hSw; (try dsimp only at hSw); go_simp; try with_reducible rfl
        (try simp only [List.getElem_toArray, List.getElem_cons_succ, List.getElem_cons_zero, Act.put, List.setIfInBounds_toArray, List.set_cons_zero, List.set_cons_succ])
        refine wpAnyH_take (i := 20) (v := ?_) rfl (by kernel_rfl) (by kernel_rfl) (by kernel_rfl) (fun _ _ _ h => h) (Or.inl ⟨by rfl, ?_⟩) (by assumption) ?_
        rotate_left
        · intro w hSw; (try dsimp only at hSw); go_simp; try with_reducible rfl
        (try simp only [List.getElem_toArray, List.getElem_cons_succ, List.getElem_cons_zero, Act.put, List.setIfInBounds_toArray, List.set_cons_zero, List.set_cons_succ])
        refine wpAnyH_take (i := 21) (v := ?_) rfl (by kernel_rfl) (by kernel_rfl) (by kernel_rfl) (fun _ _ _ h => h) (Or.inl ⟨by rfl, ?_⟩) (by assumption) ?_
        rotate_left
        · intro w hSw; (try dsimp only at hSw); go_simp; try with_reducible rfl
        (try simp only [List.getElem_toArray, List.getElem_cons_succ, List.getElem_cons_zero, Act.put, List.setIfInBounds_toArray, List.set_cons_zero, List.set_cons_succ])
        refine wpAnyH_ready (rs := [22]) (by kernel_rfl) (by simp) ?_
        refine AllReadyH.cons rfl (fun K hK => ?_) ?_
        rotate_left
        · exact AllReadyH.nil
        go_simp
        (go_at_call 7; refine (VB _).mono ?_; rintro e' w2 ⟨rfl, hb2⟩)
        refine hK.out _ _ ?_ (fun hHeld => ?_)
        · (try dsimp only); first | exact (F.out.on (Below.refl _ _).drew).cells | assumption | exact Five.keep (by assumption) hb2
        clear hK K
        (try simp only [List.getElem_toArray, List.getElem_cons_succ, List.getElem_cons_zero, Act.put, List.setIfInBounds_toArray, List.set_cons_zero, List.set_cons_succ])
        refine wpAnyH_take (i := 23) (v := ?_) rfl (by kernel_rfl) (by kernel_rfl) (by kernel_rfl) (fun _ _ _ h => h) (Or.inl ⟨by rfl, ?_⟩) (by assumption) ?_
        rotate_left
        · intro w hSw; (try dsimp only at hSw); go_simp; try with_reducible rfl
        (try simp only [List.getElem_toArray, List.getElem_cons_succ, List.getElem_cons_zero, Act.put, List.setIfInBounds_toArray, List.set_cons_zero, List.set_cons_succ])
        refine wpAnyH_take (i := 24) (v := ?_) rfl (by kernel_rfl) (by kernel_rfl) (by kernel_rfl) (fun _ _ _ h => h) (Or.inl ⟨by rfl, ?_⟩) (by assumption) ?_
        rotate_left
        · intro w hSw; (try dsimp only at hSw); go_simp; try with_reducible rfl
        (try simp only [List.getElem_toArray, List.getElem_cons_succ, List.getElem_cons_zero, Act.put, List.setIfInBounds_toArray, List.set_cons_zero, List.set_cons_succ])
        refine wpAnyH_take (i := 25) (v := ?_) rfl (by kernel_rfl) (by kernel_rfl) (by kernel_rfl) (fun _ _ _ h => h) (Or.inl ⟨by rfl, ?_⟩) (by assumption) ?_
        rotate_left
        · intro w hSw; (try dsimp only at hSw); go_simp; try with_reducible rfl
        (try simp only [List.getElem_toArray, List.getElem_cons_succ, List.getElem_cons_zero, Act.put, List.setIfInBounds_toArray, List.set_cons_zero, List.set_cons_succ])
        refine wpAnyH_done (by kernel_rfl) ?_ _
        refine NoPanic.normal ?_
        have F2 := Lib.hid hHeld.2.2.2.2.2.2.2.2.2.2
        clear hHeld
        go_wp2_with fail
        go_meet
        exact ⟨by first | rfl | simp, F2.out⟩
      · skip
        refine wp_region_noPanic ?_
        refine wp_region_held_drew (S := (fun a => a.cell? ⟨w.heap.size, 0, none⟩ = some (.int .u8 (al : Int)) ∧ a.cell? ⟨w.heap.size, 1, none⟩ = some (.int .u32 (sa : Int)) ∧ a.cell? ⟨w.heap.size + 1, 0, none⟩ = some (.int .u8 (bl : Int)) ∧ a.cell? ⟨w.heap.size + 1, 1, none⟩ = some (.int .u32 (sb : Int)) ∧ a.cell? ⟨w.heap.size + 1 + 1, 0, none⟩ = some (.int .u8 (cl : Int)) ∧ a.cell? ⟨w.heap.size + 1 + 1, 1, none⟩ = some (.int .u32 (sc : Int)) ∧ a.cell? ⟨bj, 0, none⟩ = some (.int .u8 (jl : Int)) ∧ a.cell? ⟨bj, 1, none⟩ = some (.int .u32 (js : Int)) ∧ a.cell? ⟨bm, 0, none⟩ = some (.int .u8 (ml : Int)) ∧ a.cell? ⟨bm, 1, none⟩ = some (.int .u32 (ms : Int)) ∧ Five al sa bl sb cl sc jl js ml ms w bj bm a)) (by kernel_rfl) ?_ (fun hHeld => ?_)
        · (try dsimp only); first | exact (F.out.on (Below.refl _ _).drew).cells | assumption | exact Five.keep (by assumption) hb2
        refine wpAnyH_take (i := 0) (v := ?_) rfl (by kernel_rfl) (by kernel_rfl) (by kernel_rfl) (fun _ _ _ h => h) (Or.inl ⟨by rfl, ?_⟩) (by assumption) ?_
        rotate_left
        · intro w hSw; (try dsimp only at hSw); go_simp; try with_reducible rfl
        (try simp only [List.getElem_toArray, List.getElem_cons_succ, List.getElem_cons_zero, Act.put, List.setIfInBounds_toArray, List.set_cons_zero, List.set_cons_succ])
        refine wpAnyH_take (i := 1) (v := ?_) rfl (by kernel_rfl) (by kernel_rfl) (by kernel_rfl) (fun _ _ _ h => h) (Or.inl ⟨by rfl, ?_⟩) (by assumption) ?_
        rotate_left
        · intro w hSw; (try dsimp only at hSw); go_simp; try with_reducible rfl
        (try simp only [List.getElem_toArray, List.getElem_cons_succ, List.getElem_cons_zero, Act.put, List.setIfInBounds_toArray, List.set_cons_zero, List.set_cons_succ])
        refine wpAnyH_take (i := 3) (v := ?_) rfl (by kernel_rfl) (by kernel_rfl) (by kernel_rfl) (fun _ _ _ h => h) (Or.inl ⟨by rfl, ?_⟩) (by assumption) ?_
        rotate_left
        · intro w hSw; (try dsimp only at hSw); go_simp; try with_reducible rfl
        (try simp only [List.getElem_toArray, List.getElem_cons_succ, List.getElem_cons_zero, Act.put, List.setIfInBounds_toArray, List.set_cons_zero, List.set_cons_succ])
        refine wpAnyH_take (i := 4) (v := ?_) rfl (by kernel_rfl) (by kernel_rfl) (by kernel_rfl) (fun _ _ _ h => h) (Or.inl ⟨by rfl, ?_⟩) (by assumption) ?_
        rotate_left
        · intro w hSw; (try dsimp only at hSw); go_simp; try with_reducible rfl
        (try simp only [List.getElem_toArray, List.getElem_cons_succ, List.getElem_cons_zero, Act.put, List.setIfInBounds_toArray, List.set_cons_zero, List.set_cons_succ])
        refine wpAnyH_ready (rs := [2]) (by kernel_rfl) (by simp) ?_
        refine AllReadyH.cons rfl (fun K hK => ?_) ?_
        rotate_left
        · exact AllReadyH.nil
        go_simp
        (go_at_call 7; refine (UJ _).mono ?_; rintro e' w2 ⟨rfl, hb2⟩)
        refine hK.out _ _ ?_ (fun hHeld => ?_)
        · (try dsimp only); first | exact (F.out.on (Below.refl _ _).drew).cells | assumption | exact Five.keep (by assumption) hb2
        clear hK K
        (try simp only [List.getElem_toArray, List.getElem_cons_succ, List.getElem_cons_zero, Act.put, List.setIfInBounds_toArray, List.set_cons_zero, List.set_cons_succ])
        refine wpAnyH_ready (rs := [5]) (by kernel_rfl) (by simp) ?_
        refine AllReadyH.cons rfl (fun K hK => ?_) ?_
        rotate_left
        · exact AllReadyH.nil
        go_simp
        (go_at_call 7; refine (UA _).mono ?_; rintro e' w2 ⟨rfl, hb2⟩)
        refine hK.out _ _ ?_ (fun hHeld => ?_)
        · (try dsimp only); first | exact (F.out.on (Below.refl _ _).drew).cells | assumption | exact Five.keep (by assumption) hb2
        clear hK K
        (try simp only [List.getElem_toArray, List.getElem_cons_succ, List.getElem_cons_zero, Act.put, List.setIfInBounds_toArray, List.set_cons_zero, List.set_cons_succ])
        refine wpAnyH_take (i := 6) (v := ?_) rfl (by kernel_rfl) (by kernel_rfl) (by kernel_rfl) (fun _ _ _ h => h) (Or.inl ⟨by rfl, ?_⟩) (by assumption) ?_
        rotate_left
        · intro w hSw; (try dsimp only at hSw); go_simp; try with_reducible rfl
        (try simp only [List.getElem_toArray, List.getElem_cons_succ, List.getElem_cons_zero, Act.put, List.setIfInBounds_toArray, List.set_cons_zero, List.set_cons_succ])
        refine wpAnyH_take (i := 7) (v := ?_) rfl (by kernel_rfl) (by kernel_rfl) (by kernel_rfl) (fun _ _ _ h => h) (Or.inl ⟨by rfl, ?_⟩) (by assumption) ?_
        rotate_left
        · intro w hSw; (try dsimp only at hSw); go_simp; try with_reducible rfl
        (try simp only [List.getElem_toArray, List.getElem_cons_succ, List.getElem_cons_zero, Act.put, List.setIfInBounds_toArray, List.set_cons_zero, List.set_cons_succ])
        refine wpAnyH_take (i := 8) (v := ?_) rfl (by kernel_rfl) (by kernel_rfl) (by kernel_rfl) (fun _ _ _ h => h) (Or.inl ⟨by rfl, ?_⟩) (by assumption) ?_
        rotate_left
        · intro w hSw; (try dsimp only at hSw); go_simp; try with_reducible rfl
        (try simp only [List.getElem_toArray, List.getElem_cons_succ, List.getElem_cons_zero, Act.put, List.setIfInBounds_toArray, List.set_cons_zero, List.set_cons_succ])
        refine wpAnyH_ready (rs := [9]) (by kernel_rfl) (by simp) ?_
        refine AllReadyH.cons rfl (fun K hK => ?_) ?_
        rotate_left
        · exact AllReadyH.nil
        go_simp
        (go_at_call 7; refine (UB _).mono ?_; rintro e' w2 ⟨rfl, hb2⟩)
        refine hK.out _ _ ?_ (fun hHeld => ?_)
        · (try dsimp only); first | exact (F.out.on (Below.refl _ _).drew).cells | assumption | exact Five.keep (by assumption) hb2
        clear hK K
        (try simp only [List.getElem_toArray, List.getElem_cons_succ, List.getElem_cons_zero, Act.put, List.setIfInBounds_toArray, List.set_cons_zero, List.set_cons_succ])
        refine wpAnyH_take (i := 10) (v := ?_) rfl (by kernel_rfl) (by kernel_rfl) (by kernel_rfl) (fun _ _ _ h => h) (Or.inl ⟨by rfl, ?_⟩) (by assumption) ?_
        rotate_left
        · intro w hSw; (try dsimp only at hSw); go_simp; try with_reducible rfl
        (try simp only [List.getElem_toArray, List.getElem_cons_succ, List.getElem_cons_zero, Act.put, List.setIfInBounds_toArray, List.set_cons_zero, List.set_cons_succ])
        refine wpAnyH_take (i := 11) (v := ?_) rfl (by kernel_rfl) (by kernel_rfl) (by kernel_rfl) (fun _ _ _ h => h) (Or.inl ⟨by rfl, ?_⟩) (by assumption) ?_
        rotate_left
        · intro w hSw; (try dsimp only at hSw); go_simp; try with_reducible rfl
        (try simp only [List.getElem_toArray, List.getElem_cons_succ, List.getElem_cons_zero, Act.put, List.setIfInBounds_toArray, List.set_cons_zero, List.set_cons_succ])
        refine wpAnyH_take (i := 12) (v := ?_) rfl (by kernel_rfl) (by kernel_rfl) (by kernel_rfl) (fun _ _ _ h => h) (Or.inl ⟨by rfl, ?_⟩) (by assumption) ?_
        rotate_left
        · intro w hSw; (try dsimp only at hSw); go_simp; try with_reducible rfl
        (try simp only [List.getElem_toArray, List.getElem_cons_succ, List.getElem_cons_zero, Act.put, List.setIfInBounds_toArray, List.set_cons_zero, List.set_cons_succ])
        refine wpAnyH_take (i := 13) (v := ?_) rfl (by kernel_rfl) (by kernel_rfl) (by kernel_rfl) (fun _ _ _ h => h) (Or.inl ⟨by rfl, ?_⟩) (by assumption) ?_
        rotate_left
        · intro w hSw; (try dsimp only at hSw); go_simp; try with_reducible rfl
        (try simp only [List.getElem_toArray, List.getElem_cons_succ, List.getElem_cons_zero, Act.put, List.setIfInBounds_toArray, List.set_cons_zero, List.set_cons_succ])
        refine wpAnyH_take (i := 14) (v := ?_) rfl (by kernel_rfl) (by kernel_rfl) (by kernel_rfl) (fun _ _ _ h => h) (Or.inl ⟨by rfl, ?_⟩) (by assumption) ?_
        rotate_left
        · intro w hSw; (try dsimp only at hSw); go_simp; try with_reducible rfl
        (try simp only [List.getElem_toArray, List.getElem_cons_succ, List.getElem_cons_zero, Act.put, List.setIfInBounds_toArray, List.set_cons_zero, List.set_cons_succ])
        refine wpAnyH_take (i := 16) (v := ?_) rfl (by kernel_rfl) (by kernel_rfl) (by kernel_rfl) (fun _ _ _ h => h) (Or.inl ⟨by rfl, ?_⟩) (by assumption) ?_
        rotate_left
        · intro w hSw; (try dsimp only at hSw); go_simp; try with_reducible rfl
        (try simp only [List.getElem_toArray, List.getElem_cons_succ, List.getElem_cons_zero, Act.put, List.setIfInBounds_toArray, List.set_cons_zero, List.set_cons_succ])
        refine wpAnyH_take (i := 17) (v := ?_) rfl (by kernel_rfl) (by kernel_rfl) (by kernel_rfl) (fun _ _ _ h => h) (Or.inl ⟨by rfl, ?_⟩) (by assumption) ?_
        rotate_left
        · intro w hSw; (try dsimp only at hSw); go_simp; try with_reducible rfl
        (try simp only [List.getElem_toArray, List.getElem_cons_succ, List.getElem_cons_zero, Act.put, List.setIfInBounds_toArray, List.set_cons_zero, List.set_cons_succ])
        refine wpAnyH_ready (rs := [15]) (by kernel_rfl) (by simp) ?_
        refine AllReadyH.cons rfl (fun K hK => ?_) ?_
        rotate_left
        · exact AllReadyH.nil
        go_simp
        (go_at_call 7; refine (UM _).mono ?_; rintro e' w2 ⟨rfl, hb2⟩)
        refine hK.out _ _ ?_ (fun hHeld => ?_)
        · (try dsimp only); first | exact (F.out.on (Below.refl _ _).drew).cells | assumption | exact Five.keep (by assumption) hb2
        clear hK K
        (try simp only [List.getElem_toArray, List.getElem_cons_succ, List.getElem_cons_zero, Act.put, List.setIfInBounds_toArray, List.set_cons_zero, List.set_cons_succ])
        refine wpAnyH_ready (rs := [18]) (by kernel_rfl) (by simp) ?_
        refine AllReadyH.cons rfl (fun K hK => ?_) ?_
        rotate_left
        · exact AllReadyH.nil
        go_simp
        (go_at_call 7; refine (VA _).mono ?_; rintro e' w2 ⟨rfl, hb2⟩)
        refine hK.out _ _ ?_ (fun hHeld => ?_)
        · (try dsimp only); first | exact (F.out.on (Below.refl _ _).drew).cells | assumption | exact Five.keep (by assumption) hb2
        clear hK K
        (try simp only [List.getElem_toArray, List.getElem_cons_succ, List.getElem_cons_zero, Act.put, List.setIfInBounds_toArray, List.set_cons_zero, List.set_cons_succ])
        refine wpAnyH_take (i := 19) (v := ?_) rfl (by kernel_rfl) (by kernel_rfl) (by kernel_rfl) (fun _ _ _ h => h) (Or.inl ⟨by rfl, ?_⟩) (by assumption) ?_
        rotate_left
        · intro w hSw; (try dsimp only at hSw); go_simp; try with_reducible rfl
        (try simp only [List.getElem_toArray, List.getElem_cons_succ, List.getElem_cons_zero, Act.put, List.setIfInBounds_toArray, List.set_cons_zero, List.set_cons_succ])
        refine wpAnyH_take (i := 20) (v := undef) rfl (by kernel_rfl) (by kernel_rfl) (by kernel_rfl) (fun _ _ _ h => h) (Or.inr ⟨by rfl, rfl⟩) (by assumption) ?_
        (try simp only [List.getElem_toArray, List.getElem_cons_succ, List.getElem_cons_zero, Act.put, List.setIfInBounds_toArray, List.set_cons_zero, List.set_cons_succ])
        refine wpAnyH_take (i := 21) (v := undef) rfl (by kernel_rfl) (by kernel_rfl) (by kernel_rfl) (fun _ _ _ h => h) (Or.inr ⟨by rfl, rfl⟩) (by assumption) ?_
        (try simp only [List.getElem_toArray, List.getElem_cons_succ, List.getElem_cons_zero, Act.put, List.setIfInBounds_toArray, List.set_cons_zero, List.set_cons_succ])
        refine wpAnyH_take (i := 22) (v := undef) rfl (by kernel_rfl) (by kernel_rfl) (by kernel_rfl) (fun _ _ _ h => h) (Or.inr ⟨by rfl, rfl⟩) (by assumption) ?_
        (try simp only [List.getElem_toArray, List.getElem_cons_succ, List.getElem_cons_zero, Act.put, List.setIfInBounds_toArray, List.set_cons_zero, List.set_cons_succ])
        refine wpAnyH_take (i := 23) (v := ?_) rfl (by kernel_rfl) (by kernel_rfl) (by kernel_rfl) (fun _ _ _ h => h) (Or.inl ⟨by rfl, ?_⟩) (by assumption) ?_
        rotate_left
        · intro w hSw; (try dsimp only at hSw); go_simp; try with_reducible rfl
        (try simp only [List.getElem_toArray, List.getElem_cons_succ, List.getElem_cons_zero, Act.put, List.setIfInBounds_toArray, List.set_cons_zero, List.set_cons_succ])
        refine wpAnyH_take (i := 24) (v := ?_) rfl (by kernel_rfl) (by kernel_rfl) (by kernel_rfl) (fun _ _ _ h => h) (Or.inl ⟨by rfl, ?_⟩) (by assumption) ?_
        rotate_left
        · intro w hSw; (try dsimp only at hSw); go_simp; try with_reducible rfl
        (try simp only [List.getElem_toArray, List.getElem_cons_succ, List.getElem_cons_zero, Act.put, List.setIfInBounds_toArray, List.set_cons_zero, List.set_cons_succ])
        refine wpAnyH_take (i := 25) (v := ?_) rfl (by kernel_rfl) (by kernel_rfl) (by kernel_rfl) (fun _ _ _ h => h) (Or.inl ⟨by rfl, ?_⟩) (by assumption) ?_
        rotate_left
        · intro w hSw; (try dsimp only at hSw); go_simp; try with_reducible rfl
        (try simp only [List.getElem_toArray, List.getElem_cons_succ, List.getElem_cons_zero, Act.put, List.setIfInBounds_toArray, List.set_cons_zero, List.set_cons_succ])
        refine wpAnyH_done (by kernel_rfl) ?_ _
        refine NoPanic.normal ?_
        have F2 := Lib.hid hHeld.2.2.2.2.2.2.2.2.2.2
        clear hHeld
        go_wp2_with fail
        go_meet
        exact ⟨by first | rfl | simp, F2.out⟩
      · skip
        refine wp_region_noPanic ?_
        refine wp_region_held_drew (S := (fun a => a.cell? ⟨w.heap.size, 0, none⟩ = some (.int .u8 (al : Int)) ∧ a.cell? ⟨w.heap.size, 1, none⟩ = some (.int .u32 (sa : Int)) ∧ a.cell? ⟨w.heap.size + 1, 0, none⟩ = some (.int .u8 (bl : Int)) ∧ a.cell? ⟨w.heap.size + 1, 1, none⟩ = some (.int .u32 (sb : Int)) ∧ a.cell? ⟨w.heap.size + 1 + 1, 0, none⟩ = some (.int .u8 (cl : Int)) ∧ a.cell? ⟨w.heap.size + 1 + 1, 1, none⟩ = some (.int .u32 (sc : Int)) ∧ a.cell? ⟨bj, 0, none⟩ = some (.int .u8 (jl : Int)) ∧ a.cell? ⟨bj, 1, none⟩ = some (.int .u32 (js : Int)) ∧ a.cell? ⟨bm, 0, none⟩ = some (.int .u8 (ml : Int)) ∧ a.cell? ⟨bm, 1, none⟩ = some (.int .u32 (ms : Int)) ∧ Five al sa bl sb cl sc jl js ml ms w bj bm a)) (by kernel_rfl) ?_ (fun hHeld => ?_)
        · (try dsimp only); first | exact (F.out.on (Below.refl _ _).drew).cells | assumption | exact Five.keep (by assumption) hb2
        refine wpAnyH_take (i := 0) (v := ?_) rfl (by kernel_rfl) (by kernel_rfl) (by kernel_rfl) (fun _ _ _ h => h) (Or.inl ⟨by rfl, ?_⟩) (by assumption) ?_
        rotate_left
        · intro w hSw; (try dsimp only at hSw); go_simp; try with_reducible rfl
        (try simp only [List.getElem_toArray, List.getElem_cons_succ, List.getElem_cons_zero, Act.put, List.setIfInBounds_toArray, List.set_cons_zero, List.set_cons_succ])
        refine wpAnyH_take (i := 1) (v := ?_) rfl (by kernel_rfl) (by kernel_rfl) (by kernel_rfl) (fun _ _ _ h => h) (Or.inl ⟨by rfl, ?_⟩) (by assumption) ?_
        rotate_left
        · intro w hSw; (try dsimp only at hSw); go_simp; try with_reducible rfl
        (try simp only [List.getElem_toArray, List.getElem_cons_succ, List.getElem_cons_zero, Act.put, List.setIfInBounds_toArray, List.set_cons_zero, List.set_cons_succ])
        refine wpAnyH_take (i := 3) (v := ?_) rfl (by kernel_rfl) (by kernel_rfl) (by kernel_rfl) (fun _ _ _ h => h) (Or.inl ⟨by rfl, ?_⟩) (by assumption) ?_
        rotate_left
        · intro w hSw; (try dsimp only at hSw); go_simp; try with_reducible rfl
        (try simp only [List.getElem_toArray, List.getElem_cons_succ, List.getElem_cons_zero, Act.put, List.setIfInBounds_toArray, List.set_cons_zero, List.set_cons_succ])
        refine wpAnyH_take (i := 4) (v := ?_) rfl (by kernel_rfl) (by kernel_rfl) (by kernel_rfl) (fun _ _ _ h => h) (Or.inl ⟨by rfl, ?_⟩) (by assumption) ?_
        rotate_left
        · intro w hSw; (try dsimp only at hSw); go_simp; try with_reducible rfl
        (try simp only [List.getElem_toArray, List.getElem_cons_succ, List.getElem_cons_zero, Act.put, List.setIfInBounds_toArray, List.set_cons_zero, List.set_cons_succ])
        refine wpAnyH_ready (rs := [2]) (by kernel_rfl) (by simp) ?_
        refine AllReadyH.cons rfl (fun K hK => ?_) ?_
        rotate_left
        · exact AllReadyH.nil
        go_simp
        (go_at_call 7; refine (UJ _).mono ?_; rintro e' w2 ⟨rfl, hb2⟩)
        refine hK.out _ _ ?_ (fun hHeld => ?_)
        · (try dsimp only); first | exact (F.out.on (Below.refl _ _).drew).cells | assumption | exact Five.keep (by assumption) hb2
        clear hK K
        (try simp only [List.getElem_toArray, List.getElem_cons_succ, List.getElem_cons_zero, Act.put, List.setIfInBounds_toArray, List.set_cons_zero, List.set_cons_succ])
        refine wpAnyH_ready (rs := [5]) (by kernel_rfl) (by simp) ?_
        refine AllReadyH.cons rfl (fun K hK => ?_) ?_
        rotate_left
        · exact AllReadyH.nil
        go_simp
        (go_at_call 7; refine (UA _).mono ?_; rintro e' w2 ⟨rfl, hb2⟩)
        refine hK.out _ _ ?_ (fun hHeld => ?_)
        · (try dsimp only); first | exact (F.out.on (Below.refl _ _).drew).cells | assumption | exact Five.keep (by assumption) hb2
        clear hK K
        (try simp only [List.getElem_toArray, List.getElem_cons_succ, List.getElem_cons_zero, Act.put, List.setIfInBounds_toArray, List.set_cons_zero, List.set_cons_succ])
        refine wpAnyH_take (i := 6) (v := ?_) rfl (by kernel_rfl) (by kernel_rfl) (by kernel_rfl) (fun _ _ _ h => h) (Or.inl ⟨by rfl, ?_⟩) (by assumption) ?_
        rotate_left
        · intro w hSw; (try dsimp only at hSw); go_simp; try with_reducible rfl
        (try simp only [List.getElem_toArray, List.getElem_cons_succ, List.getElem_cons_zero, Act.put, List.setIfInBounds_toArray, List.set_cons_zero, List.set_cons_succ])
        refine wpAnyH_take (i := 7) (v := ?_) rfl (by kernel_rfl) (by kernel_rfl) (by kernel_rfl) (fun _ _ _ h => h) (Or.inl ⟨by rfl, ?_⟩) (by assumption) ?_
        rotate_left
        · intro w hSw; (try dsimp only at hSw); go_simp; try with_reducible rfl
        (try simp only [List.getElem_toArray, List.getElem_cons_succ, List.getElem_cons_zero, Act.put, List.setIfInBounds_toArray, List.set_cons_zero, List.set_cons_succ])
        refine wpAnyH_take (i := 8) (v := ?_) rfl (by kernel_rfl) (by kernel_rfl) (by kernel_rfl) (fun _ _ _ h => h) (Or.inl ⟨by rfl, ?_⟩) (by assumption) ?_
        rotate_left
        · intro w hSw; (try dsimp only at hSw); go_simp; try with_reducible rfl
        (try simp only [List.getElem_toArray, List.getElem_cons_succ, List.getElem_cons_zero, Act.put, List.setIfInBounds_toArray, List.set_cons_zero, List.set_cons_succ])
        refine wpAnyH_ready (rs := [9]) (by kernel_rfl) (by simp) ?_
        refine AllReadyH.cons rfl (fun K hK => ?_) ?_
        rotate_left
        · exact AllReadyH.nil
        go_simp
        (go_at_call 7; refine (UB _).mono ?_; rintro e' w2 ⟨rfl, hb2⟩)
        refine hK.out _ _ ?_ (fun hHeld => ?_)
        · (try dsimp only); first | exact (F.out.on (Below.refl _ _).drew).cells | assumption | exact Five.keep (by assumption) hb2
        clear hK K
        (try simp only [List.getElem_toArray, List.getElem_cons_succ, List.getElem_cons_zero, Act.put, List.setIfInBounds_toArray, List.set_cons_zero, List.set_cons_succ])
        refine wpAnyH_take (i := 10) (v := ?_) rfl (by kernel_rfl) (by kernel_rfl) (by kernel_rfl) (fun _ _ _ h => h) (Or.inl ⟨by rfl, ?_⟩) (by assumption) ?_
        rotate_left
        · intro w hSw; (try dsimp only at hSw); go_simp; try with_reducible rfl
        (try simp only [List.getElem_toArray, List.getElem_cons_succ, List.getElem_cons_zero, Act.put, List.setIfInBounds_toArray, List.set_cons_zero, List.set_cons_succ])
        refine wpAnyH_take (i := 11) (v := ?_) rfl (by kernel_rfl) (by kernel_rfl) (by kernel_rfl) (fun _ _ _ h => h) (Or.inl ⟨by rfl, ?_⟩) (by assumption) ?_
        rotate_left
        · intro w hSw; (try dsimp only at hSw); go_simp; try with_reducible rfl
        (try simp only [List.getElem_toArray, List.getElem_cons_succ, List.getElem_cons_zero, Act.put, List.setIfInBounds_toArray, List.set_cons_zero, List.set_cons_succ])
        refine wpAnyH_take (i := 12) (v := ?_) rfl (by kernel_rfl) (by kernel_rfl) (by kernel_rfl) (fun _ _ _ h => h) (Or.inl ⟨by rfl, ?_⟩) (by assumption) ?_
        rotate_left
        · intro w hSw; (try dsimp only at hSw); go_simp; try with_reducible rfl
        (try simp only [List.getElem_toArray, List.getElem_cons_succ, List.getElem_cons_zero, Act.put, List.setIfInBounds_toArray, List.set_cons_zero, List.set_cons_succ])
        refine wpAnyH_take (i := 13) (v := ?_) rfl (by kernel_rfl) (by kernel_rfl) (by kernel_rfl) (fun _ _ _ h => h) (Or.inl ⟨by rfl, ?_⟩) (by assumption) ?_
        rotate_left
        · intro w hSw; (try dsimp only at hSw); go_simp; try with_reducible rfl
        (try simp only [List.getElem_toArray, List.getElem_cons_succ, List.getElem_cons_zero, Act.put, List.setIfInBounds_toArray, List.set_cons_zero, List.set_cons_succ])
        refine wpAnyH_take (i := 14) (v := ?_) rfl (by kernel_rfl) (by kernel_rfl) (by kernel_rfl) (fun _ _ _ h => h) (Or.inl ⟨by rfl, ?_⟩) (by assumption) ?_
        rotate_left
        · intro w hSw; (try dsimp only at hSw); go_simp; try with_reducible rfl
        (try simp only [List.getElem_toArray, List.getElem_cons_succ, List.getElem_cons_zero, Act.put, List.setIfInBounds_toArray, List.set_cons_zero, List.set_cons_succ])
        refine wpAnyH_take (i := 16) (v := ?_) rfl (by kernel_rfl) (by kernel_rfl) (by kernel_rfl) (fun _ _ _ h => h) (Or.inl ⟨by rfl, ?_⟩) (by assumption) ?_
        rotate_left
        · intro w hSw; (try dsimp only at hSw); go_simp; try with_reducible rfl
        (try simp only [List.getElem_toArray, List.getElem_cons_succ, List.getElem_cons_zero, Act.put, List.setIfInBounds_toArray, List.set_cons_zero, List.set_cons_succ])
        refine wpAnyH_take (i := 17) (v := ?_) rfl (by kernel_rfl) (by kernel_rfl) (by kernel_rfl) (fun _ _ _ h => h) (Or.inl ⟨by rfl, ?_⟩) (by assumption) ?_
        rotate_left
        · intro w hSw; (try dsimp only at hSw); go_simp; try with_reducible rfl
        (try simp only [List.getElem_toArray, List.getElem_cons_succ, List.getElem_cons_zero, Act.put, List.setIfInBounds_toArray, List.set_cons_zero, List.set_cons_succ])
        refine wpAnyH_ready (rs := [15]) (by kernel_rfl) (by simp) ?_
        refine AllReadyH.cons rfl (fun K hK => ?_) ?_
        rotate_left
        · exact AllReadyH.nil
        go_simp
        (go_at_call 7; refine (UM _).mono ?_; rintro e' w2 ⟨rfl, hb2⟩)
        refine hK.out _ _ ?_ (fun hHeld => ?_)
        · (try dsimp only); first | exact (F.out.on (Below.refl _ _).drew).cells | assumption | exact Five.keep (by assumption) hb2
        clear hK K
        (try simp only [List.getElem_toArray, List.getElem_cons_succ, List.getElem_cons_zero, Act.put, List.setIfInBounds_toArray, List.set_cons_zero, List.set_cons_succ])
        refine wpAnyH_ready (rs := [18]) (by kernel_rfl) (by simp) ?_
        refine AllReadyH.cons rfl (fun K hK => ?_) ?_
        rotate_left
        · exact AllReadyH.nil
        go_simp
        (go_at_call 7; refine (VA _).mono ?_; rintro e' w2 ⟨rfl, hb2⟩)
        refine hK.out _ _ ?_ (fun hHeld => ?_)
        · (try dsimp only); first | exact (F.out.on (Below.refl _ _).drew).cells | assumption | exact Five.keep (by assumption) hb2
        clear hK K
        (try simp only [List.getElem_toArray, List.getElem_cons_succ, List.getElem_cons_zero, Act.put, List.setIfInBounds_toArray, List.set_cons_zero, List.set_cons_succ])
        refine wpAnyH_take (i := 19) (v := ?_) rfl (by kernel_rfl) (by kernel_rfl) (by kernel_rfl) (fun _ _ _ h => h) (Or.inl ⟨by rfl, ?_⟩) (by assumption) ?_
        rotate_left
        · intro w hSw; (try dsimp only at hSw); go_simp; try with_reducible rfl
        (try simp only [List.getElem_toArray, List.getElem_cons_succ, List.getElem_cons_zero, Act.put, List.setIfInBounds_toArray, List.set_cons_zero, List.set_cons_succ])
        refine wpAnyH_take (i := 20) (v := ?_) rfl (by kernel_rfl) (by kernel_rfl) (by kernel_rfl) (fun _ _ _ h => h) (Or.inl ⟨by rfl, ?_⟩) (by assumption) ?_
        rotate_left
        · intro w hSw; (try dsimp only at hSw); go_simp; try with_reducible rfl
        (try simp only [List.getElem_toArray, List.getElem_cons_succ, List.getElem_cons_zero, Act.put, List.setIfInBounds_toArray, List.set_cons_zero, List.set_cons_succ])
        refine wpAnyH_take (i := 21) (v := ?_) rfl (by kernel_rfl) (by kernel_rfl) (by kernel_rfl) (fun _ _ _ h => h) (Or.inl ⟨by rfl, ?_⟩) (by assumption) ?_
        rotate_left
        · intro w hSw; (try dsimp only at hSw); go_simp; try with_reducible rfl
        (try simp only [List.getElem_toArray, List.getElem_cons_succ, List.getElem_cons_zero, Act.put, List.setIfInBounds_toArray, List.set_cons_zero, List.set_cons_succ])
        refine wpAnyH_ready (rs := [22]) (by kernel_rfl) (by simp) ?_
        refine AllReadyH.cons rfl (fun K hK => ?_) ?_
        rotate_left
        · exact AllReadyH.nil
        go_simp
        (go_at_call 7; refine (VB _).mono ?_; rintro e' w2 ⟨rfl, hb2⟩)
        refine hK.out _ _ ?_ (fun hHeld => ?_)
        · (try dsimp only); first | exact (F.out.on (Below.refl _ _).drew).cells | assumption | exact Five.keep (by assumption) hb2
        clear hK K
        (try simp only [List.getElem_toArray, List.getElem_cons_succ, List.getElem_cons_zero, Act.put, List.setIfInBounds_toArray, List.set_cons_zero, List.set_cons_succ])
        refine wpAnyH_take (i := 23) (v := ?_) rfl (by kernel_rfl) (by kernel_rfl) (by kernel_rfl) (fun _ _ _ h => h) (Or.inl ⟨by rfl, ?_⟩) (by assumption) ?_
        rotate_left
        · intro w hSw; (try dsimp only at hSw); go_simp; try with_reducible rfl
        (try simp only [List.getElem_toArray, List.getElem_cons_succ, List.getElem_cons_zero, Act.put, List.setIfInBounds_toArray, List.set_cons_zero, List.set_cons_succ])
        refine wpAnyH_take (i := 24) (v := ?_) rfl (by kernel_rfl) (by kernel_rfl) (by kernel_rfl) (fun _ _ _ h => h) (Or.inl ⟨by rfl, ?_⟩) (by assumption) ?_
        rotate_left
        · intro w hSw; (try dsimp only at hSw); go_simp; try with_reducible rfl
        (try simp only [List.getElem_toArray, List.getElem_cons_succ, List.getElem_cons_zero, Act.put, List.setIfInBounds_toArray, List.set_cons_zero, List.set_cons_succ])
        refine wpAnyH_take (i := 25) (v := ?_) rfl (by kernel_rfl) (by kernel_rfl) (by kernel_rfl) (fun _ _ _ h => h) (Or.inl ⟨by rfl, ?_⟩) (by assumption) ?_
        rotate_left
        · intro w hSw; (try dsimp only at hSw); go_simp; try with_reducible rfl
        (try simp only [List.getElem_toArray, List.getElem_cons_succ, List.getElem_cons_zero, Act.put, List.setIfInBounds_toArray, List.set_cons_zero, List.set_cons_succ])
        refine wpAnyH_done (by kernel_rfl) ?_ _
        refine NoPanic.normal ?_
        have F2 := Lib.hid hHeld.2.2.2.2.2.2.2.2.2.2
        clear hHeld
        go_wp2_with fail
        go_meet
        exact ⟨by first | rfl | simp, F2.out⟩
    case rest =>
      obtain ⟨rfl, hF⟩ := hcut
      clear F
      have F := Lib.hid hF
      clear hF
      go_upto_region 6 with fail
      refine wp_region_noPanic ?_
      refine wp_region_held_drew (S := (fun a => a.cell? ⟨w.heap.size, 0, none⟩ = some (.int .u8 (al : Int)) ∧ a.cell? ⟨w.heap.size, 1, none⟩ = some (.int .u32 (sa : Int)) ∧ a.cell? ⟨w.heap.size + 1, 0, none⟩ = some (.int .u8 (bl : Int)) ∧ a.cell? ⟨w.heap.size + 1, 1, none⟩ = some (.int .u32 (sb : Int)) ∧ a.cell? ⟨w.heap.size + 1 + 1, 0, none⟩ = some (.int .u8 (cl : Int)) ∧ a.cell? ⟨w.heap.size + 1 + 1, 1, none⟩ = some (.int .u32 (sc : Int)) ∧ a.cell? ⟨bj, 0, none⟩ = some (.int .u8 (jl : Int)) ∧ a.cell? ⟨bj, 1, none⟩ = some (.int .u32 (js : Int)) ∧ a.cell? ⟨bm, 0, none⟩ = some (.int .u8 (ml : Int)) ∧ a.cell? ⟨bm, 1, none⟩ = some (.int .u32 (ms : Int)) ∧ Five al sa bl sb cl sc jl js ml ms w bj bm a)) (by kernel_rfl) ?_ (fun hHeld => ?_)
      · (try dsimp only); first | exact (F.out.on (Below.refl _ _).drew).cells | assumption | exact Five.keep (by assumption) hb2
      refine wpAnyH_take (i := 0) (v := ?_) rfl (by kernel_rfl) (by kernel_rfl) (by kernel_rfl) (fun _ _ _ h => h) (Or.inl ⟨by rfl, ?_⟩) (by assumption) ?_
      rotate_left
      · intro w hSw; (try dsimp only at hSw); go_simp; try with_reducible rfl
      (try simp only [List.getElem_toArray, List.getElem_cons_succ, List.getElem_cons_zero, Act.put, List.setIfInBounds_toArray, List.set_cons_zero, List.set_cons_succ])
      refine wpAnyH_take (i := 1) (v := ?_) rfl (by kernel_rfl) (by kernel_rfl) (by kernel_rfl) (fun _ _ _ h => h) (Or.inl ⟨by rfl, ?_⟩) (by assumption) ?_
      rotate_left
      · intro w hSw; (try dsimp only at hSw); go_simp; try with_reducible rfl
      (try simp only [List.getElem_toArray, List.getElem_cons_succ, List.getElem_cons_zero, Act.put, List.setIfInBounds_toArray, List.set_cons_zero, List.set_cons_succ])
      refine wpAnyH_ready (rs := [2]) (by kernel_rfl) (by simp) ?_
      refine AllReadyH.cons rfl (fun K hK => ?_) ?_
      rotate_left
      · exact AllReadyH.nil
      go_simp
      (go_at_call 7; refine (TA _).mono ?_; rintro e' w2 ⟨rfl, hb2⟩)
      refine hK.out _ _ ?_ (fun hHeld => ?_)
      · (try dsimp only); first | exact (F.out.on (Below.refl _ _).drew).cells | assumption | exact Five.keep (by assumption) hb2
      clear hK K
      (try simp only [List.getElem_toArray, List.getElem_cons_succ, List.getElem_cons_zero, Act.put, List.setIfInBounds_toArray, List.set_cons_zero, List.set_cons_succ])
      refine wpAnyH_take (i := 3) (v := ?_) rfl (by kernel_rfl) (by kernel_rfl) (by kernel_rfl) (fun _ _ _ h => h) (Or.inl ⟨by rfl, ?_⟩) (by assumption) ?_
      rotate_left
      · intro w hSw; (try dsimp only at hSw); go_simp; try with_reducible rfl
      (try simp only [List.getElem_toArray, List.getElem_cons_succ, List.getElem_cons_zero, Act.put, List.setIfInBounds_toArray, List.set_cons_zero, List.set_cons_succ])
      refine wpAnyH_take (i := 4) (v := ?_) rfl (by kernel_rfl) (by kernel_rfl) (by kernel_rfl) (fun _ _ _ h => h) (Or.inl ⟨by rfl, ?_⟩) (by assumption) ?_
      rotate_left
      · intro w hSw; (try dsimp only at hSw); go_simp; try with_reducible rfl
      (try simp only [List.getElem_toArray, List.getElem_cons_succ, List.getElem_cons_zero, Act.put, List.setIfInBounds_toArray, List.set_cons_zero, List.set_cons_succ])
      refine wpAnyH_take (i := 5) (v := ?_) rfl (by kernel_rfl) (by kernel_rfl) (by kernel_rfl) (fun _ _ _ h => h) (Or.inl ⟨by rfl, ?_⟩) (by assumption) ?_
      rotate_left
      · intro w hSw; (try dsimp only at hSw); go_simp; try with_reducible rfl
      (try simp only [List.getElem_toArray, List.getElem_cons_succ, List.getElem_cons_zero, Act.put, List.setIfInBounds_toArray, List.set_cons_zero, List.set_cons_succ])
      refine wpAnyH_ready (rs := [6]) (by kernel_rfl) (by simp) ?_
      refine AllReadyH.cons rfl (fun K hK => ?_) ?_
      rotate_left
      · exact AllReadyH.nil
      go_simp
      (go_at_call 7; refine (TB _).mono ?_; rintro e' w2 ⟨rfl, hb2⟩)
      refine hK.out _ _ ?_ (fun hHeld => ?_)
      · (try dsimp only); first | exact (F.out.on (Below.refl _ _).drew).cells | assumption | exact Five.keep (by assumption) hb2
      clear hK K
      (try simp only [List.getElem_toArray, List.getElem_cons_succ, List.getElem_cons_zero, Act.put, List.setIfInBounds_toArray, List.set_cons_zero, List.set_cons_succ])
      refine wpAnyH_take (i := 7) (v := ?_) rfl (by kernel_rfl) (by kernel_rfl) (by kernel_rfl) (fun _ _ _ h => h) (Or.inl ⟨by rfl, ?_⟩) (by assumption) ?_
      rotate_left
      · intro w hSw; (try dsimp only at hSw); go_simp; try with_reducible rfl
      (try simp only [List.getElem_toArray, List.getElem_cons_succ, List.getElem_cons_zero, Act.put, List.setIfInBounds_toArray, List.set_cons_zero, List.set_cons_succ])
      refine wpAnyH_take (i := 8) (v := ?_) rfl (by kernel_rfl) (by kernel_rfl) (by kernel_rfl) (fun _ _ _ h => h) (Or.inl ⟨by rfl, ?_⟩) (by assumption) ?_
      rotate_left
      · intro w hSw; (try dsimp only at hSw); go_simp; try with_reducible rfl
      (try simp only [List.getElem_toArray, List.getElem_cons_succ, List.getElem_cons_zero, Act.put, List.setIfInBounds_toArray, List.set_cons_zero, List.set_cons_succ])
      refine wpAnyH_take (i := 9) (v := ?_) rfl (by kernel_rfl) (by kernel_rfl) (by kernel_rfl) (fun _ _ _ h => h) (Or.inl ⟨by rfl, ?_⟩) (by assumption) ?_
      rotate_left
      · intro w hSw; (try dsimp only at hSw); go_simp; try with_reducible rfl
      (try simp only [List.getElem_toArray, List.getElem_cons_succ, List.getElem_cons_zero, Act.put, List.setIfInBounds_toArray, List.set_cons_zero, List.set_cons_succ])
      refine wpAnyH_take (i := 10) (v := ?_) rfl (by kernel_rfl) (by kernel_rfl) (by kernel_rfl) (fun _ _ _ h => h) (Or.inl ⟨by rfl, ?_⟩) (by assumption) ?_
      rotate_left
      · intro w hSw; (try dsimp only at hSw); go_simp; try with_reducible rfl
      (try simp only [List.getElem_toArray, List.getElem_cons_succ, List.getElem_cons_zero, Act.put, List.setIfInBounds_toArray, List.set_cons_zero, List.set_cons_succ])
      refine wpAnyH_take (i := 11) (v := ?_) rfl (by kernel_rfl) (by kernel_rfl) (by kernel_rfl) (fun _ _ _ h => h) (Or.inl ⟨by rfl, ?_⟩) (by assumption) ?_
      rotate_left
      · intro w hSw; (try dsimp only at hSw); go_simp; try with_reducible rfl
      (try simp only [List.getElem_toArray, List.getElem_cons_succ, List.getElem_cons_zero, Act.put, List.setIfInBounds_toArray, List.set_cons_zero, List.set_cons_succ])
      refine wpAnyH_ready (rs := [12]) (by kernel_rfl) (by simp) ?_
      refine AllReadyH.cons rfl (fun K hK => ?_) ?_
      rotate_left
      · exact AllReadyH.nil
      go_simp
      (go_at_call 10; refine (HJ2 _).mono ?_; rintro e' w2 ⟨rfl, hb2⟩)
      refine hK.out _ _ ?_ (fun hHeld => ?_)
      · (try dsimp only); first | exact (F.out.on (Below.refl _ _).drew).cells | assumption | exact Five.keep (by assumption) hb2
      clear hK K
      (try simp only [List.getElem_toArray, List.getElem_cons_succ, List.getElem_cons_zero, Act.put, List.setIfInBounds_toArray, List.set_cons_zero, List.set_cons_succ])
      refine wpAnyH_take (i := 13) (v := ?_) rfl (by kernel_rfl) (by kernel_rfl) (by kernel_rfl) (fun _ _ _ h => h) (Or.inl ⟨by rfl, ?_⟩) (by assumption) ?_
      rotate_left
      · intro w hSw; (try dsimp only at hSw); go_simp; try with_reducible rfl
      (try simp only [List.getElem_toArray, List.getElem_cons_succ, List.getElem_cons_zero, Act.put, List.setIfInBounds_toArray, List.set_cons_zero, List.set_cons_succ])
      refine wpAnyH_take (i := 14) (v := ?_) rfl (by kernel_rfl) (by kernel_rfl) (by kernel_rfl) (fun _ _ _ h => h) (Or.inl ⟨by rfl, ?_⟩) (by assumption) ?_
      rotate_left
      · intro w hSw; (try dsimp only at hSw); go_simp; try with_reducible rfl
      (try simp only [List.getElem_toArray, List.getElem_cons_succ, List.getElem_cons_zero, Act.put, List.setIfInBounds_toArray, List.set_cons_zero, List.set_cons_succ])
      refine wpAnyH_take (i := 15) (v := ?_) rfl (by kernel_rfl) (by kernel_rfl) (by kernel_rfl) (fun _ _ _ h => h) (Or.inl ⟨by rfl, ?_⟩) (by assumption) ?_
      rotate_left
      · intro w hSw; (try dsimp only at hSw); go_simp; try with_reducible rfl
      (try simp only [List.getElem_toArray, List.getElem_cons_succ, List.getElem_cons_zero, Act.put, List.setIfInBounds_toArray, List.set_cons_zero, List.set_cons_succ])
      refine wpAnyH_take (i := 16) (v := ?_) rfl (by kernel_rfl) (by kernel_rfl) (by kernel_rfl) (fun _ _ _ h => h) (Or.inl ⟨by rfl, ?_⟩) (by assumption) ?_
      rotate_left
      · intro w hSw; (try dsimp only at hSw); go_simp; try with_reducible rfl
      (try simp only [List.getElem_toArray, List.getElem_cons_succ, List.getElem_cons_zero, Act.put, List.setIfInBounds_toArray, List.set_cons_zero, List.set_cons_succ])
      refine wpAnyH_take (i := 17) (v := ?_) rfl (by kernel_rfl) (by kernel_rfl) (by kernel_rfl) (fun _ _ _ h => h) (Or.inl ⟨by rfl, ?_⟩) (by assumption) ?_
      rotate_left
      · intro w hSw; (try dsimp only at hSw); go_simp; try with_reducible rfl
      (try simp only [List.getElem_toArray, List.getElem_cons_succ, List.getElem_cons_zero, Act.put, List.setIfInBounds_toArray, List.set_cons_zero, List.set_cons_succ])
      refine wpAnyH_take (i := 18) (v := ?_) rfl (by kernel_rfl) (by kernel_rfl) (by kernel_rfl) (fun _ _ _ h => h) (Or.inl ⟨by rfl, ?_⟩) (by assumption) ?_
      rotate_left
      · intro w hSw; (try dsimp only at hSw); go_simp; try with_reducible rfl
      (try simp only [List.getElem_toArray, List.getElem_cons_succ, List.getElem_cons_zero, Act.put, List.setIfInBounds_toArray, List.set_cons_zero, List.set_cons_succ])
      refine wpAnyH_ready (rs := [19]) (by kernel_rfl) (by simp) ?_
      refine AllReadyH.cons rfl (fun K hK => ?_) ?_
      rotate_left
      · exact AllReadyH.nil
      go_simp
      (go_at_call 11; refine (HM2 _).mono ?_; rintro e' w2 ⟨rfl, hb2⟩)
      refine hK.out _ _ ?_ (fun hHeld => ?_)
      · (try dsimp only); first | exact (F.out.on (Below.refl _ _).drew).cells | assumption | exact Five.keep (by assumption) hb2
      clear hK K
      (try simp only [List.getElem_toArray, List.getElem_cons_succ, List.getElem_cons_zero, Act.put, List.setIfInBounds_toArray, List.set_cons_zero, List.set_cons_succ])
      refine wpAnyH_take (i := 20) (v := ?_) rfl (by kernel_rfl) (by kernel_rfl) (by kernel_rfl) (fun _ _ _ h => h) (Or.inl ⟨by rfl, ?_⟩) (by assumption) ?_
      rotate_left
      · intro w hSw; (try dsimp only at hSw); go_simp; try with_reducible rfl
      (try simp only [List.getElem_toArray, List.getElem_cons_succ, List.getElem_cons_zero, Act.put, List.setIfInBounds_toArray, List.set_cons_zero, List.set_cons_succ])
      refine wpAnyH_take (i := 21) (v := ?_) rfl (by kernel_rfl) (by kernel_rfl) (by kernel_rfl) (fun _ _ _ h => h) (Or.inl ⟨by rfl, ?_⟩) (by assumption) ?_
      rotate_left
      · intro w hSw; (try dsimp only at hSw); go_simp; try with_reducible rfl
      (try simp only [List.getElem_toArray, List.getElem_cons_succ, List.getElem_cons_zero, Act.put, List.setIfInBounds_toArray, List.set_cons_zero, List.set_cons_succ])
      refine wpAnyH_take (i := 22) (v := ?_) rfl (by kernel_rfl) (by kernel_rfl) (by kernel_rfl) (fun _ _ _ h => h) (Or.inl ⟨by rfl, ?_⟩) (by assumption) ?_
      rotate_left
      · intro w hSw; (try dsimp only at hSw); go_simp; try with_reducible rfl
      (try simp only [List.getElem_toArray, List.getElem_cons_succ, List.getElem_cons_zero, Act.put, List.setIfInBounds_toArray, List.set_cons_zero, List.set_cons_succ])
      refine wpAnyH_take (i := 23) (v := ?_) rfl (by kernel_rfl) (by kernel_rfl) (by kernel_rfl) (fun _ _ _ h => h) (Or.inl ⟨by rfl, ?_⟩) (by assumption) ?_
      rotate_left
      · intro w hSw; (try dsimp only at hSw); go_simp; try with_reducible rfl
      (try simp only [List.getElem_toArray, List.getElem_cons_succ, List.getElem_cons_zero, Act.put, List.setIfInBounds_toArray, List.set_cons_zero, List.set_cons_succ])
      refine wpAnyH_take (i := 24) (v := ?_) rfl (by kernel_rfl) (by kernel_rfl) (by kernel_rfl) (fun _ _ _ h => h) (Or.inl ⟨by rfl, ?_⟩) (by assumption) ?_
      rotate_left
      · intro w hSw; (try dsimp only at hSw); go_simp; try with_reducible rfl
      (try simp only [List.getElem_toArray, List.getElem_cons_succ, List.getElem_cons_zero, Act.put, List.setIfInBounds_toArray, List.set_cons_zero, List.set_cons_succ])
      refine wpAnyH_take (i := 26) (v := ?_) rfl (by kernel_rfl) (by kernel_rfl) (by kernel_rfl) (fun _ _ _ h => h) (Or.inl ⟨by rfl, ?_⟩) (by assumption) ?_
      rotate_left
      · intro w hSw; (try dsimp only at hSw); go_simp; try with_reducible rfl
      (try simp only [List.getElem_toArray, List.getElem_cons_succ, List.getElem_cons_zero, Act.put, List.setIfInBounds_toArray, List.set_cons_zero, List.set_cons_succ])
      refine wpAnyH_ready (rs := [25]) (by kernel_rfl) (by simp) ?_
      refine AllReadyH.cons rfl (fun K hK => ?_) ?_
      rotate_left
      · exact AllReadyH.nil
      go_simp
      (go_at_call 10; refine (HJ3 _).mono ?_; rintro e' w2 ⟨rfl, hb2⟩)
      refine hK.out _ _ ?_ (fun hHeld => ?_)
      · (try dsimp only); first | exact (F.out.on (Below.refl _ _).drew).cells | assumption | exact Five.keep (by assumption) hb2
      clear hK K
      (try simp only [List.getElem_toArray, List.getElem_cons_succ, List.getElem_cons_zero, Act.put, List.setIfInBounds_toArray, List.set_cons_zero, List.set_cons_succ])
      refine wpAnyH_take (i := 27) (v := ?_) rfl (by kernel_rfl) (by kernel_rfl) (by kernel_rfl) (fun _ _ _ h => h) (Or.inl ⟨by rfl, ?_⟩) (by assumption) ?_
      rotate_left
      · intro w hSw; (try dsimp only at hSw); go_simp; try with_reducible rfl
      (try simp only [List.getElem_toArray, List.getElem_cons_succ, List.getElem_cons_zero, Act.put, List.setIfInBounds_toArray, List.set_cons_zero, List.set_cons_succ])
      refine wpAnyH_take (i := 28) (v := ?_) rfl (by kernel_rfl) (by kernel_rfl) (by kernel_rfl) (fun _ _ _ h => h) (Or.inl ⟨by rfl, ?_⟩) (by assumption) ?_
      rotate_left
      · intro w hSw; (try dsimp only at hSw); go_simp; try with_reducible rfl
      (try simp only [List.getElem_toArray, List.getElem_cons_succ, List.getElem_cons_zero, Act.put, List.setIfInBounds_toArray, List.set_cons_zero, List.set_cons_succ])
      refine wpAnyH_take (i := 29) (v := ?_) rfl (by kernel_rfl) (by kernel_rfl) (by kernel_rfl) (fun _ _ _ h => h) (Or.inl ⟨by rfl, ?_⟩) (by assumption) ?_
      rotate_left
      · intro w hSw; (try dsimp only at hSw); go_simp; try with_reducible rfl
      (try simp only [List.getElem_toArray, List.getElem_cons_succ, List.getElem_cons_zero, Act.put, List.setIfInBounds_toArray, List.set_cons_zero, List.set_cons_succ])
      refine wpAnyH_take (i := 30) (v := ?_) rfl (by kernel_rfl) (by kernel_rfl) (by kernel_rfl) (fun _ _ _ h => h) (Or.inl ⟨by rfl, ?_⟩) (by assumption) ?_
      rotate_left
      · intro w hSw; (try dsimp only at hSw); go_simp; try with_reducible rfl
      (try simp only [List.getElem_toArray, List.getElem_cons_succ, List.getElem_cons_zero, Act.put, List.setIfInBounds_toArray, List.set_cons_zero, List.set_cons_succ])
      refine wpAnyH_take (i := 31) (v := ?_) rfl (by kernel_rfl) (by kernel_rfl) (by kernel_rfl) (fun _ _ _ h => h) (Or.inl ⟨by rfl, ?_⟩) (by assumption) ?_
      rotate_left
      · intro w hSw; (try dsimp only at hSw); go_simp; try with_reducible rfl
      (try simp only [List.getElem_toArray, List.getElem_cons_succ, List.getElem_cons_zero, Act.put, List.setIfInBounds_toArray, List.set_cons_zero, List.set_cons_succ])
      refine wpAnyH_take (i := 33) (v := ?_) rfl (by kernel_rfl) (by kernel_rfl) (by kernel_rfl) (fun _ _ _ h => h) (Or.inl ⟨by rfl, ?_⟩) (by assumption) ?_
      rotate_left
      · intro w hSw; (try dsimp only at hSw); go_simp; try with_reducible rfl
      (try simp only [List.getElem_toArray, List.getElem_cons_succ, List.getElem_cons_zero, Act.put, List.setIfInBounds_toArray, List.set_cons_zero, List.set_cons_succ])
      refine wpAnyH_ready (rs := [32]) (by kernel_rfl) (by simp) ?_
      refine AllReadyH.cons rfl (fun K hK => ?_) ?_
      rotate_left
      · exact AllReadyH.nil
      go_simp
      (go_at_call 11; refine (HM3 _).mono ?_; rintro e' w2 ⟨rfl, hb2⟩)
      refine hK.out _ _ ?_ (fun hHeld => ?_)
      · (try dsimp only); first | exact (F.out.on (Below.refl _ _).drew).cells | assumption | exact Five.keep (by assumption) hb2
      clear hK K
      (try simp only [List.getElem_toArray, List.getElem_cons_succ, List.getElem_cons_zero, Act.put, List.setIfInBounds_toArray, List.set_cons_zero, List.set_cons_succ])
      refine wpAnyH_take (i := 34) (v := ?_) rfl (by kernel_rfl) (by kernel_rfl) (by kernel_rfl) (fun _ _ _ h => h) (Or.inl ⟨by rfl, ?_⟩) (by assumption) ?_
      rotate_left
      · intro w hSw; (try dsimp only at hSw); go_simp; try with_reducible rfl
      (try simp only [List.getElem_toArray, List.getElem_cons_succ, List.getElem_cons_zero, Act.put, List.setIfInBounds_toArray, List.set_cons_zero, List.set_cons_succ])
      refine wpAnyH_take (i := 35) (v := ?_) rfl (by kernel_rfl) (by kernel_rfl) (by kernel_rfl) (fun _ _ _ h => h) (Or.inl ⟨by rfl, ?_⟩) (by assumption) ?_
      rotate_left
      · intro w hSw; (try dsimp only at hSw); go_simp; try with_reducible rfl
      (try simp only [List.getElem_toArray, List.getElem_cons_succ, List.getElem_cons_zero, Act.put, List.setIfInBounds_toArray, List.set_cons_zero, List.set_cons_succ])
      refine wpAnyH_take (i := 36) (v := ?_) rfl (by kernel_rfl) (by kernel_rfl) (by kernel_rfl) (fun _ _ _ h => h) (Or.inl ⟨by rfl, ?_⟩) (by assumption) ?_
      rotate_left
      · intro w hSw; (try dsimp only at hSw); go_simp; try with_reducible rfl
      (try simp only [List.getElem_toArray, List.getElem_cons_succ, List.getElem_cons_zero, Act.put, List.setIfInBounds_toArray, List.set_cons_zero, List.set_cons_succ])
      refine wpAnyH_done (by kernel_rfl) ?_ _
      refine NoPanic.normal ?_
      have F2 := Lib.hid hHeld.2.2.2.2.2.2.2.2.2.2
      clear hHeld
      go_wp2_with fail
      go_ret
      exact ⟨by first | rfl | simp, F2.out.three.below⟩
theorem lawBounds_walk (al sa bl sb cl sc : Nat) (w : World) (h1 : sa < 4294967296) (h2 : sb < 4294967296) (h3 : sc < 4294967296) :
    Calls Try.prog 5 #[.agg #[.int .u8 (al : Int), .int .u32 (sa : Int)], .agg #[.int .u8 (bl : Int), .int .u32 (sb : Int)], .agg #[.int .u8 (cl : Int), .int .u32 (sc : Int)]] w fun e w' => e = .returned (.bool true) ∧ Below w.heap.size w w' := by
  have hj := Lat.or_lt h1 h2
  have hm := Lat.and_lt sb h1
  have e1 := Lat.under_join al sa bl sb (max al bl) (sa ||| sb)
  have e2 := Lat.under_meet al sa bl sb (min al bl) (sa &&& sb)
  rw [Lat.under_refl] at e1 e2
  have e3 : Lat.under al sa (max al bl) (sa ||| sb) = true := (Bool.and_eq_true_iff.1 e1.symm).1
  have e4 : Lat.under (min al bl) (sa &&& sb) al sa = true := (Bool.and_eq_true_iff.1 e2.symm).1
  refine bounds_walk al sa bl sb cl sc (max al bl) (sa ||| sb) (min al bl) (sa &&& sb) (Lat.under al sa cl sc) (Lat.under bl sb cl sc) (Lat.under cl sc al sa) (Lat.under cl sc bl sb) w
    (fun W => join_any al sa bl sb W h1 h2) (fun W => meet_any al sa bl sb W h1 h2) (fun W => ?_) (fun W => ?_) (fun W => ?_) (fun W => ?_)
    (fun W => ?_) (fun W => under_any al sa cl sc W h1 h3) (fun W => under_any bl sb cl sc W h2 h3) (fun W => ?_) (fun W => under_any cl sc al sa W h3 h1) (fun W => under_any cl sc bl sb W h3 h2) (fun W => ?_) (fun W => ?_)
  · have := join_any bl sb al sa W h2 h1
    rw [Nat.max_comm, Nat.or_comm] at this
    exact this
  · have := meet_any bl sb al sa W h2 h1
    rw [Nat.min_comm, Nat.and_comm] at this
    exact this
  · have := join_any al sa (min al bl) (sa &&& sb) W h1 hm
    rw [Lat.join_meet, show max al (min al bl) = al by omega] at this
    exact this
  · have := meet_any al sa (max al bl) (sa ||| sb) W h1 hj
    rw [Lat.meet_join, show min al (max al bl) = al by omega] at this
    exact this
  · have := under_any (max al bl) (sa ||| sb) cl sc W hj h3
    rw [Lat.under_join] at this
    exact this
  · have := under_any cl sc (min al bl) (sa &&& sb) W h3 hm
    rw [Lat.under_meet] at this
    exact this
  · have := under_any al sa (max al bl) (sa ||| sb) W h1 hj
    rw [e3] at this
    exact this
  · have := under_any (min al bl) (sa &&& sb) al sa W hm h1
    rw [e4] at this
    exact this
end Go.Proofs.Ytchfddlfpcgbbaa
