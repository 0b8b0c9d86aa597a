/-
  MAY A POLICY BE: the program's Check, walked: the places.
-/
import Derived.Test.YtokljdaofjgihaaGreatDoorPolB
namespace Go.Proofs.YtokljdaofjgihaaGreatDoor
open Go.ChangeShapes Go.WideShapes Go.ChangeAt Go.RowKit

/-- five cells -/
structure Cell5 (w : World) (b : Nat) (x0 x1 x2 x3 x4 : Value) : Prop where
  c0 : w.cell? ⟨b, 0, none⟩ = some x0
  c1 : w.cell? ⟨b, 1, none⟩ = some x1
  c2 : w.cell? ⟨b, 2, none⟩ = some x2
  c3 : w.cell? ⟨b, 3, none⟩ = some x3
  c4 : w.cell? ⟨b, 4, none⟩ = some x4
theorem Cell5.new (w : World) (x0 x1 x2 x3 x4 : Value) (t : TypeId) : Cell5 (w.alloc (.cells #[x0, x1, x2, x3, x4] t)) w.heap.size x0 x1 x2 x3 x4 := by constructor <;> simp
theorem Cell5.lt {w : World} {b : Nat} {x0 x1 x2 x3 x4 : Value} (h : Cell5 w b x0 x1 x2 x3 x4) : b < w.heap.size := World.block_lt_of_cell? w _ h.c0
theorem Cell5.below {w w' : World} {b B : Nat} {x0 x1 x2 x3 x4 : Value} (h : Cell5 w b x0 x1 x2 x3 x4) (hb : Below B w w') (hB : b < B) : Cell5 w' b x0 x1 x2 x3 x4 :=
  ⟨(hb.cell (p := ⟨b, 0, none⟩) hB).trans h.c0, (hb.cell (p := ⟨b, 1, none⟩) hB).trans h.c1, (hb.cell (p := ⟨b, 2, none⟩) hB).trans h.c2, (hb.cell (p := ⟨b, 3, none⟩) hB).trans h.c3, (hb.cell (p := ⟨b, 4, none⟩) hB).trans h.c4⟩
theorem Cell5.on {w w' : World} {b : Nat} {x0 x1 x2 x3 x4 : Value} (h : Cell5 w b x0 x1 x2 x3 x4) (hb : Below w.heap.size w w') : Cell5 w' b x0 x1 x2 x3 x4 := h.below hb h.lt
theorem counted_16 (n : Nat) (w : World) : Calls Tryz.prog 71 #[.int .i64 (n : Int), .int .i64 16] w fun e w' => e = .returned (.int .i64 (Pl.counted n 16 : Int)) ∧ w = w' := counted_any n 16 w
theorem counted_32 (n : Nat) (w : World) : Calls Tryz.prog 71 #[.int .i64 (n : Int), .int .i64 32] w fun e w' => e = .returned (.int .i64 (Pl.counted n 32 : Int)) ∧ w = w' := counted_any n 32 w
def ChkPl (l : List Pl.Plc) (w : World) (x0 x1 x2 x3 x4 : Value) (g : Nat) (i : Value) (wr : World) : Prop :=
  ∃ k : Nat, k + g = l.length ∧ i = .int .i64 (k : Int) ∧ (∀ j, j < k → Pl.plcCode (l.take j) (Pl.plc l j) = 0) ∧ Below w.heap.size w wr ∧ Cell5 wr w.heap.size x0 x1 x2 x3 x4
theorem plc_at (l : List Pl.Plc) (A : Option Addr) (c k : Nat) (hk : k < l.length) (hl : l.length ≤ 100000) (W : World) (hp : Plcs W A l) (hx : (Pl.plc l k).name.length ≤ 100000) :
    Calls Tryz.prog 72 #[plcV (Pl.plc l k), .slice A k c] W fun e w' => e = .returned (.int .i64 (Pl.plcCode (l.take k) (Pl.plc l k) : Int)) ∧ Below W.heap.size W w' := by
  have h := plcCheck_any (Pl.plc l k) (l.take k) A c W (by rw [List.length_take]; omega) hx (hp.take k)
  rw [List.length_take, Nat.min_eq_left (by omega)] at h
  exact h
set_option maxRecDepth 100000 in
set_option maxHeartbeats 2000000 in
theorem checkPlaces_any (p : Pl.Pol) (pa : Option Addr) (pc : Nat) (sa : Option Addr) (sc : Nat) (ga : Option Addr) (gc : Nat) (w : World) (hl : p.places.length ≤ 100000) (hlc : p.places.length ≤ pc) (hp : Plcs w pa p.places) :
    Calls Tryz.prog 44 #[polV p pa pc sa sc ga gc] w fun e w' => e = .returned (.int .i64 (Pl.placesCode p.places : Int)) ∧ Below w.heap.size w w' := by
  have HP := Lib.hid hp
  clear hp
  have HK := Lib.hid (fun W => counted_16 p.places.length W)
  have HX : Hid (Pl.placesCode p.places = if Pl.counted p.places.length 16 ≠ 0 then Pl.counted p.places.length 16 else Pl.scan (fun i => Pl.plcCode (p.places.take i) (Pl.plc p.places i)) p.places.length) := rfl
  obtain ⟨wk, gv, l, sl, gr⟩ := p
  simp only [polV] at *
  try simp only at HK HX HP
  have HB0 := Lib.hid (show Below w.heap.size w (w.alloc (.cells #[.int .i64 wk, .int .i64 gv, .slice pa l.length pc, .slice sa sl.length sc, .slice ga gr.length gc] 26)) from (Below.refl _ _).alloc (Nat.le_refl _) _)
  have HC0 := Lib.hid (Cell5.new w (.int .i64 wk) (.int .i64 gv) (.slice pa l.length pc) (.slice sa sl.length sc) (.slice ga gr.length gc) 26)
  have HSC0 := Lib.hid (fun h => Pl.scan_zero (f := fun i => Pl.plcCode (l.take i) (Pl.plc l i)) (n := l.length) h)
  have HSC1 := Lib.hid (fun k hk h hf => Pl.scan_at (f := fun i => Pl.plcCode (l.take i) (Pl.plc l i)) (n := l.length) (k := k) hk h hf)
  generalize Pl.placesCode l = M at *
  generalize Pl.scan _ l.length = S at *
  generalize Pl.counted l.length 16 = N at *
  obtain ⟨n, hn⟩ : ∃ n, n = l.length := ⟨_, rfl⟩
  rw [← hn] at HK HB0 HC0 hl hlc ⊢
  have HN := Lib.hid hn
  clear hn
  by_cases hN : N = 0
  · have hne := isz hN
    have HM := Lib.hid (show M = S by rw [HX.out, if_neg (by rw [hN]; simp)])
    clear hN
    go_enter Tryz.func44, Tryz.ntmps44
    go_wp2_with fail
    with_reducible refine (HK.out _).mono ?_
    rintro e w' ⟨rfl, rfl⟩
    go_wp2_with fail
    go_loopg [17] n (fun g i wr => ChkPl l w (.int .i64 wk) (.int .i64 gv) (.slice pa n pc) (.slice sa sl.length sc) (.slice ga gr.length gc) g i wr)
    case atStart => exact ⟨0, by have := HN.out; omega, rfl, fun j hj => absurd hj (by omega), HB0.out, HC0.out⟩
    case round =>
      obtain ⟨k, hk, rfl, hno, hB, hC⟩ := hrel
      have HB := Lib.hid hB
      have HNO := Lib.hid hno
      have HKK := Lib.hid hk
      have HC := Lib.hid hC
      clear hB hno hk hC
      by_cases hlt : k < n
      · have hkl : k < l.length := by have := HN.out; omega
        obtain ⟨b, off, rfl, hbl, hft, hat⟩ := (HP.out.on HB.out).at_ k hkl
        have HCALL := Lib.hid (fun W h => plc_at l (some ⟨b, off, none⟩) pc k hkl (by have := HN.out; omega) W h hft.name)
        have HQ : Hid (∀ h, Pl.plcCode (l.take k) (Pl.plc l k) ≠ 0 → S = Pl.plcCode (l.take k) (Pl.plc l k)) := fun h hq => HSC1.out k hkl h hq
        have HPR := Lib.hid (HP.out.on HB.out)
        have HBX := Lib.hid (PlcAt.box (Pl.plc l k) wr)
        have HNX : Hid (Pl.plcCode (l.take k) (Pl.plc l k) = 0 → ∀ j, j < k + 1 → Pl.plcCode (l.take j) (Pl.plc l j) = 0) := fun h j hj => by
          by_cases e : j = k
          · rw [e]; exact h
          · exact HNO.out j (by omega)
        generalize Pl.plcCode (l.take k) (Pl.plc l k) = D at *
        generalize Pl.plc l k = x at *
        obtain ⟨xn, xl, xs, xb, xa⟩ := x
        obtain ⟨c0, c1, c2, c3, c4⟩ := hat
        simp only [plcV] at HCALL c0 c1 c2 c3 c4
        try simp only at HBX
        have hkc : k ≤ pc := by omega
        obtain ⟨-, -, p2, -, -⟩ := HC.out
        have HCB := Lib.hid HC.out.lt
        clear hft hkl
        have hcb := HCB.out
        go_wp2_with fail
        refine region_tail 5 (by kernel_rfl) (by kernel_rfl) ?_
        simp only [List.take_succ_cons, List.take_zero, List.drop_succ_cons, List.drop_zero]
        obtain ⟨y0, y1, y2, y3, y4⟩ := HBX.out
        repeat still_step
        refine wpStill_nil ?_
        go_wp2_with fail
        have HS0 := Lib.hid (((Below.refl wr.heap.size wr).alloc (Nat.le_refl _) (.cells #[.string (ofL xn), .int .u8 (xl : Int), .int .u32 (xs : Int), .int .i64 xb, .int .u64 (xa : Int)] 72)).drew)
        with_reducible refine (HCALL.out _ (HPR.out.on HS0.out)).mono ?_
        rintro e w1 ⟨rfl, hB⟩
        have HB1 := Lib.hid (bthen (bthen HB.out HS0.out (Nat.le_refl _)) hB (Nat.le_refl _))
        have HC1 := Lib.hid ((HC.out.on HS0.out).on hB)
        clear hB p2 hcb
        by_cases hD : D = 0
        · have hne2 := isz hD
          have HNX := Lib.hid (HNX.out hD)
          clear hD
          go_wp2_with fail
          go_roundg (gk - 1)
          case rel => exact ⟨k + 1, by have := HKK.out; have := HN.out; omega, by go_num, HNX.out, HB1.out, HC1.out⟩
          case measure => have := HKK.out; have := HN.out; omega
        · have hne2 := nz hD
          have HE := Lib.hid (HQ.out HNO.out hD)
          clear hD
          go_wp2_with fail
          go_ret
          exact ⟨ret_nat (by rw [HM.out, HE.out]), HB1.out⟩
      · have HE := Lib.hid (HSC0.out (fun i hi => HNO.out i (by have := HN.out; have := HKK.out; omega)))
        go_wp2_with fail
        go_ret
        exact ⟨ret_nat (by rw [HM.out, HE.out]; rfl), HB.out⟩
  · have hne := nz hN
    have HM := Lib.hid (show M = N by rw [HX.out, if_pos hN])
    clear hN
    go_enter Tryz.func44, Tryz.ntmps44
    go_wp2_with fail
    with_reducible refine (HK.out _).mono ?_
    rintro e w' ⟨rfl, rfl⟩
    go_wp2_with fail
    go_ret
    exact ⟨ret_nat (by rw [HM.out]), HB0.out⟩
end Go.Proofs.YtokljdaofjgihaaGreatDoor
