/-
  THE LAW DiskFalls: a beginning of what was written lasts.
-/
import Derived.Test.YtpdgadohfhmcnaaDkM
namespace Go.Proofs.Ytpdgadohfhmcnaa
open Go.ChangeShapes Go.WideShapes Go.ChangeAt Go.RowKit

/-- a disk of six blocks of noughts, on, on which these wait -/
def dsk (l : List Dk.Wr) : Dk.St := { last := (Dk.new 6).last, wait := l, on := true, arm := none }
theorem wcode_dsk (l m : List Dk.Wr) (a : Int) (d : List UInt8) : Dk.wcode 6 (dsk l) a d = Dk.wcode 6 (dsk m) a d := rfl
theorem write_dsk {l : List Dk.Wr} {a : Int} {d : List UInt8} (h : Dk.wcode 6 (dsk l) a d = 0) : Dk.write 6 (dsk l) a d = dsk (l ++ [(a.toNat, d)]) := by
  unfold Dk.write; rw [if_pos h]; rfl
theorem write_dsk_no {l : List Dk.Wr} {a : Int} {d : List UInt8} (h : Dk.wcode 6 (dsk l) a d ≠ 0) : Dk.write 6 (dsk l) a d = dsk l := by
  unfold Dk.write; rw [if_neg h]
theorem wcode_short {l : List Dk.Wr} {a : Int} {d : List UInt8} (h : Dk.wcode 6 (dsk l) a d = 0) (t : Nat) : Dk.wcode 6 (dsk l) a (d.take t) = 0 := by
  obtain ⟨h1, h2⟩ := Dk.wcode_ok h
  unfold Dk.wcode
  rw [if_neg (by rw [h1]; decide), if_neg (by rw [List.length_take]; omega)]
/-- what the loop of DiskFalls keeps -/
def FlSt (w : World) (Da Db : Nat) (c n g : Nat) (v7 v22 : Value) (wr : World) : Prop :=
  ∃ (k : Nat) (l : List Dk.Wr), k + g = n ∧ l.length ≤ k ∧ v22 = .int .i64 (k : Int) ∧ v7 = .int .i64 ((c - Dk.waits l : Nat) : Int) ∧ Two w Da Db (dsk l) (dsk (Dk.takes l c)) [] wr
theorem takes_len (l : List Dk.Wr) : ∀ c, (Dk.takes l c).length = l.length := by
  induction l with
  | nil => intro c; rfl
  | cons x l ih => intro c; simp [Dk.takes, ih]
theorem down_last (l : List Dk.Wr) (c : Nat) : Dk.down (dsk l) c = { last := Dk.done (Dk.new 6).last l c, wait := [], on := false, arm := none } := rfl
theorem sync_takes (l : List Dk.Wr) (c : Nat) : Dk.sync (dsk (Dk.takes l c)) = { last := Dk.done (Dk.new 6).last l c, wait := [], on := true, arm := none } := by
  show ({ last := Dk.done (Dk.new 6).last (Dk.takes l c) (Dk.waits (Dk.takes l c)), wait := [], on := true, arm := none } : Dk.St) = _
  rw [Dk.done_takes l _ c _ (Nat.le_refl _)]
/-- THE LAW -/
def LawPost (w : World) (e : Ending) (w' : World) : Prop := e = .returned (.bool true) ∧ Below w.heap.size w w'
set_option maxRecDepth 100000 in
set_option maxHeartbeats 8000000 in
theorem diskFalls_walk (A : Option Addr) (ca : Nat) (l : List Ac) (cut : Int) (w : World) (hl : l.length ≤ 9223372036854775807) (hA : ARow w A l) (hc : cut ≤ 9223372036854775807) :
    Calls Try.prog 4 #[.slice A l.length ca, .int .i64 cut] w (LawPost w) := by
  have HAW := Lib.hid (fun W => awake15_any W)
  have HLI := Lib.hid (fun W h => light15_any A ca l W hl h)
  have HA := Lib.hid hA
  clear hA
  have hmx : max cut 0 = ((cut.toNat : Nat) : Int) := by omega
  obtain ⟨c, hcc⟩ : ∃ c, c = cut.toNat := ⟨_, rfl⟩
  have HCC := Lib.hid hcc
  rw [← hcc] at hmx
  have hcl : c ≤ 9223372036854775807 := by omega
  have HCB := Lib.hid hc
  clear hc hcc
  go_enter Try.func4, Try.ntmps4
  go_wp2_with fail
  refine (HAW.out _).mono ?_
  rintro x w1 ⟨rfl, b1⟩
  have B1 := Lib.hid b1
  clear b1
  go_wp2_with fail
  refine (HLI.out _ (HA.out.on B1.out)).mono ?_
  rintro x w2 ⟨h2, b2⟩
  have B2 := Lib.hid (Below.trans B1.out (b2.mono B1.out.size))
  clear b2
  rcases h2 with ⟨rfl, hf⟩ | rfl
  · have HF := Lib.hid hf
    clear hf
    go_wp2_with fail
    refine (one_new 6 w _ B2.out).mono ?_
    rintro x w3 ⟨Da, rfl, h3⟩
    have H3 := Lib.hid h3
    clear h3
    go_wp2_with fail
    refine (two_new Da w _ _ H3.out).mono ?_
    rintro x w4 ⟨Db, rfl, h4⟩
    have H4 := Lib.hid h4
    clear h4
    go_wp2_with fail
    go_loopg [7, 22] l.length (fun g v7 v22 wr => FlSt w Da Db c l.length g v7 v22 wr)
    case atStart => exact ⟨0, [], by omega, Nat.le_refl _, rfl, by simp [Dk.waits], H4.out⟩
    case round =>
      obtain ⟨k, q, hk, hq, rfl, rfl, h5⟩ := hrel
      have HK := Lib.hid hk
      have HQ := Lib.hid hq
      have H5 := Lib.hid h5
      clear hk hq h5
      by_cases hlt : k < l.length
      · obtain ⟨b, off, rfl, hbl, x0, x1, x2, x3⟩ := HA.out.at_ k hlt
        have y0 := (H5.out.below.cell (p := ⟨b, off + k * 4, none⟩) hbl).trans x0
        have y1 := (H5.out.below.cell (p := ⟨b, off + k * 4 + 1, none⟩) hbl).trans x1
        have y2 := (H5.out.below.cell (p := ⟨b, off + k * 4 + 2, none⟩) hbl).trans x2
        have y3 := (H5.out.below.cell (p := ⟨b, off + k * 4 + 3, none⟩) hbl).trans x3
        clear x0 x1 x2 x3 hbl
        have h80 := HF.out.2 k hlt
        have h60 := HF.out.1
        generalize l.getD k ac0 = x at *
        obtain ⟨xw, xa, xc, xd⟩ := x
        dsimp only at *
        have hz : (ofL xd).size = xd.length := ofL_size _
        have HAL := Lib.hid (H5.out.push (.cells #[.int .u8 xw, .int .i64 xa, .int .i64 xc, .string (ofL xd)] 34))
        obtain ⟨bx, hbx⟩ : ∃ bx, bx = [(wr.heap.size, Obj.cells #[.int .u8 xw, .int .i64 xa, .int .i64 xc, .string (ofL xd)] 34 (0, 0))] := ⟨_, rfl⟩
        have HBX := Lib.hid hbx
        rw [← hbx] at HAL
        clear hbx
        have HWA := Lib.hid (fun W (h : Two w Da Db (dsk q) (dsk (Dk.takes q c)) bx W) => h.callA (fun F hd => dkWrite_any xa xd W hd (by show q.length ≤ 100000; have := HQ.out; omega) (by omega)))
        by_cases h0 : Dk.wcode 6 (dsk q) xa xd = 0
        · rw [h0, write_dsk h0] at HWA
          obtain ⟨m, hmm⟩ : ∃ m, m = c - Dk.waits q := ⟨_, rfl⟩
          obtain ⟨t, ht⟩ : ∃ t, t = min m xd.length := ⟨_, rfl⟩
          have htl : t ≤ xd.length := by omega
          have hmi : min (m : Int) (xd.length : Int) = (t : Int) := by omega
          have HWB := Lib.hid (fun W (h : Two w Da Db (dsk (q ++ [(xa.toNat, xd)])) (dsk (Dk.takes q c)) bx W) => h.callB (fun F hd => dkWrite_any xa (xd.take t) W hd (by show (Dk.takes q c).length ≤ 100000; rw [takes_len]; have := HQ.out; omega) (by rw [List.length_take]; omega)))
          have h0' : Dk.wcode 6 (dsk (Dk.takes q c)) xa (xd.take t) = 0 := wcode_short (l := Dk.takes q c) h0 t
          rw [h0', write_dsk h0'] at HWB
          have HTK := Lib.hid (show Dk.takes q c ++ [(xa.toNat, xd.take t)] = Dk.takes (q ++ [(xa.toNat, xd)]) c by
            rw [Dk.takes_app]
            congr 3
            rw [ht, hmm]
            by_cases h : c - Dk.waits q ≤ xd.length
            · rw [Nat.min_eq_left h]
            · rw [Nat.min_eq_right (by omega), List.take_of_length_le (Nat.le_refl _), List.take_of_length_le (by show xd.length ≤ _; omega)])
          have HWW := Lib.hid (show c - Dk.waits (q ++ [(xa.toNat, xd)]) = m - t by
            have : Dk.waits (q ++ [(xa.toNat, xd)]) = Dk.waits q + xd.length := by rw [Dk.waits_app]; rfl
            omega)
          have hsub : IntKind.i64.wrap ((m : Int) - (t : Int)) = ((m - t : Nat) : Int) := by rw [IntKind.wrap_i64]; omega
          have hsl : ∀ W', (Instr.slice 9 (.string (ofL xd)) none (some (.int .i64 (t : Int))) none).run Try.prog W' = .ok (.string (ofL (xd.take t))) W' := fun W' => slice_to_l (P := Try.prog) Try.underlying9 xd .i64 (t : Int) t rfl htl W'
          rw [← hmm]
          rw [HTK.out] at HWB
          clear h0 h0' hmm ht htl hcl h80 h60
          go_wp2_with fail
          refine (HWA.out _ HAL.out).mono ?_
          rintro x w6 ⟨rfl, h6⟩
          have H6 := Lib.hid h6
          have hbo := H6.out.get (x := (wr.heap.size, Obj.cells #[.int .u8 xw, .int .i64 xa, .int .i64 xc, .string (ofL xd)] 34 (0, 0))) (by rw [HBX.out]; exact List.mem_singleton.2 rfl)
          have z1 : w6.cell? ⟨wr.heap.size, 1, none⟩ = some (.int .i64 xa) := by rw [Lib.cell_of_heap hbo]; rfl
          have z3 : w6.cell? ⟨wr.heap.size, 3, none⟩ = some (.string (ofL xd)) := by rw [Lib.cell_of_heap hbo]; rfl
          clear h6 hbo
          go_upto_region 13 with fail
          go_region_held3 (fun a => a.cell? ⟨wr.heap.size, 1, none⟩ = some (.int .i64 xa) ∧ a.cell? ⟨wr.heap.size, 3, none⟩ = some (.string (ofL xd)))
            (first | exact ⟨z1, z3⟩ | exact ⟨u1, u3⟩) ((go_at_call 22; refine (HWB.out _ (H6.out.keep (Below.refl _ _).drew)).mono ?_; rintro x w7 ⟨rfl, h7⟩; have H7 := Lib.hid h7; have hb7 := H7.out.get (x := (wr.heap.size, Obj.cells #[.int .u8 xw, .int .i64 xa, .int .i64 xc, .string (ofL xd)] 34 (0, 0))) (by rw [HBX.out]; exact List.mem_singleton.2 rfl); have u1 : w7.cell? ⟨wr.heap.size, 1, none⟩ = some (.int .i64 xa) := (by rw [Lib.cell_of_heap hb7]; rfl); have u3 : w7.cell? ⟨wr.heap.size, 3, none⟩ = some (.string (ofL xd)) := (by rw [Lib.cell_of_heap hb7]; rfl); clear h7 hb7))
          have H8 := Lib.hid (H7.out.sub (by' := []) (fun x hx => by cases hx))
          clear u1 u3 z1 z3 y0 y1 y2 y3
          go_wp2_with fail
          go_roundg (gk - 1)
          case rel => exact ⟨k + 1, _, by have := HK.out; omega, by rw [List.length_append]; have := HQ.out; simp; omega, by go_num, by rw [HWW.out], H8.out⟩
          case measure => have := HK.out; omega
        · rw [write_dsk_no h0] at HWA
          have hb : (Dk.wcode 6 (dsk q) xa xd != 0) = true := by simpa using h0
          generalize Dk.wcode 6 (dsk q) xa xd = cd at *
          clear h0 hcl h80 h60
          go_wp2_with fail
          refine (HWA.out _ HAL.out).mono ?_
          rintro x w6 ⟨rfl, h6⟩
          have H6 := Lib.hid (h6.sub (by' := []) (fun x hx => by cases hx))
          clear h6
          go_wp2_with fail
          go_roundg (gk - 1)
          case rel => exact ⟨k + 1, q, by have := HK.out; omega, by have := HQ.out; omega, by go_num, rfl, H6.out⟩
          case measure => have := HK.out; omega
      · have hq' : q.length ≤ 100000 := by have := HQ.out; have := HK.out; have := HF.out.1; omega
        have HD := Lib.hid (fun W (h : Two w Da Db (dsk q) (dsk (Dk.takes q c)) [] W) => h.callA (fun F hd => dkDown_any cut W hd hq' HCB.out))
        rw [← HCC.out, down_last] at HD
        have HS := Lib.hid (fun W (h : Two w Da Db { last := Dk.done (Dk.new 6).last q c, wait := [], on := false, arm := none } (dsk (Dk.takes q c)) [] W) => h.callB (fun F hd => dkSync_any W hd (by show (Dk.takes q c).length ≤ 100000; rw [takes_len]; exact hq') (fun s c e => by cases e)))
        rw [sync_takes, show Dk.scode (dsk (Dk.takes q c)) = 0 from rfl] at HS
        have HLA := Lib.hid (fun W (h : Two w Da Db { last := Dk.done (Dk.new 6).last q c, wait := [], on := false, arm := none } { last := Dk.done (Dk.new 6).last q c, wait := [], on := true, arm := none } [] W) => h.readA (fun F hd => dkLasts_any W hd (by decide)))
        have HLB := Lib.hid (fun W (h : Two w Da Db { last := Dk.done (Dk.new 6).last q c, wait := [], on := false, arm := none } { last := Dk.done (Dk.new 6).last q c, wait := [], on := true, arm := none } [] W) => h.readB (fun F hd => dkLasts_any W hd (by decide)))
        have HSA := Lib.hid (fun W (h : Two w Da Db { last := Dk.done (Dk.new 6).last q c, wait := [], on := false, arm := none } { last := Dk.done (Dk.new 6).last q c, wait := [], on := true, arm := none } [] W) => h.callA (fun F hd => dkSync_any W hd (by show (0 : Nat) ≤ 100000; omega) (fun s c e => by cases e)))
        rw [show Dk.scode { last := Dk.done (Dk.new 6).last q c, wait := [], on := false, arm := none } = 16 from rfl] at HSA
        generalize Dk.done (Dk.new 6).last q c = zz at *
        clear hq' hcl
        go_wp2_with fail
        refine (HD.out _ H5.out).mono ?_
        rintro x w6 ⟨rfl, h6⟩
        have H6 := Lib.hid h6
        clear h6
        go_wp2_with fail
        refine (HS.out _ H6.out).mono ?_
        rintro x w7 ⟨rfl, h7⟩
        have H7 := Lib.hid h7
        clear h7
        go_wp2_with fail
        refine (HLA.out _ H7.out).mono ?_
        rintro x w8 ⟨rfl, h8⟩
        have H8 := Lib.hid h8
        clear h8
        go_wp2_with fail
        refine (HLB.out _ H8.out).mono ?_
        rintro x w9 ⟨rfl, h9⟩
        have H9 := Lib.hid h9
        clear h9
        go_wp2_with fail
        refine (HSA.out _ H9.out).mono ?_
        rintro x wa ⟨rfl, ha⟩
        have HZ := Lib.hid ha.below
        clear ha
        go_wp2_with fail
        go_ret
        exact ⟨by simp, HZ.out⟩
  · go_wp2_with fail
    go_ret
    exact ⟨rfl, B2.out⟩
end Go.Proofs.Ytpdgadohfhmcnaa
