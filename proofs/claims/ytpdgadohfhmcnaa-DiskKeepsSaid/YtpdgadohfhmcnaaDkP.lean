/-
  THE LAW DiskKeeps: what was synced lasts in each block that wasn't written since.
-/
import Derived.Test.YtpdgadohfhmcnaaDkO
import Derived.BigQuiet
import Derived.Deep.QuietTactic
namespace Go.Proofs.Ytpdgadohfhmcnaa
open Go.ChangeShapes Go.WideShapes Go.ChangeAt Go.RowKit

/-- a disk that is on, not armed -/
def pl (L : List UInt8) (q : List Dk.Wr) : Dk.St := { last := L, wait := q, on := true, arm := none }
def offd (L : List UInt8) : Dk.St := { last := L, wait := [], on := false, arm := none }
/-- what a write leaves to wait -/
def more (q : List Dk.Wr) (a : Int) (d : List UInt8) : List Dk.Wr := if Dk.wcode 6 (pl [] []) a d = 0 then q ++ [(a.toNat, d)] else q
theorem pl_write (L : List UInt8) (q : List Dk.Wr) (a : Int) (d : List UInt8) : Dk.write 6 (pl L q) a d = pl L (more q a d) := by
  unfold Dk.write more
  by_cases h : Dk.wcode 6 (pl L q) a d = 0
  · rw [if_pos h, if_pos (show Dk.wcode 6 (pl [] []) a d = 0 from h)]; rfl
  · rw [if_neg h, if_neg (show ¬ Dk.wcode 6 (pl [] []) a d = 0 from h)]
theorem ad_write2 (L : List UInt8) (q : List Dk.Wr) (s c : Nat) (a : Int) (d : List UInt8) : Dk.write 6 (ad L q s c) a d = ad L (more q a d) s c := by
  unfold Dk.write more
  by_cases h : Dk.wcode 6 (ad L q s c) a d = 0
  · rw [if_pos h, if_pos (show Dk.wcode 6 (pl [] []) a d = 0 from h)]; rfl
  · rw [if_neg h, if_neg (show ¬ Dk.wcode 6 (pl [] []) a d = 0 from h)]
theorem more_len (q : List Dk.Wr) (a : Int) (d : List UInt8) : (more q a d).length ≤ q.length + 1 := by
  unfold more; split <;> simp
/-- the first loop's state -/
def K1St (w : World) (Da Db n c g : Nat) (v34 : Value) (wr : World) : Prop :=
  ∃ (k : Nat) (q : List Dk.Wr), k + g = n ∧ v34 = .int .i64 (k : Int) ∧ q.length ≤ k ∧ Two w Da Db (pl (Dk.new 6).last q) (ad (Dk.new 6).last q 1 c) [] wr
/-- which blocks were written since -/
abbrev since (s : Fin 6 → Bool) : Array Value := #[.bool (s 0), .bool (s 1), .bool (s 2), .bool (s 3), .bool (s 4), .bool (s 5)]
def sput (s : Fin 6 → Bool) (a : Nat) : Fin 6 → Bool := fun i => if i.val = a then true else s i
theorem since_put (s : Fin 6 → Bool) (a : Nat) (ha : a < 6) : (since s).setIfInBounds a (.bool true) = since (sput s a) := by
  match a, ha with
  | 0, _ => rfl
  | 1, _ => rfl
  | 2, _ => rfl
  | 3, _ => rfl
  | 4, _ => rfl
  | 5, _ => rfl
theorem since_get (s : Fin 6 → Bool) (a : Nat) (ha : a < 6) : (since s)[a]? = some (.bool (s ⟨a, ha⟩)) := by
  match a, ha with
  | 0, _ => rfl
  | 1, _ => rfl
  | 2, _ => rfl
  | 3, _ => rfl
  | 4, _ => rfl
  | 5, _ => rfl
def Told (q : List Dk.Wr) (s : Fin 6 → Bool) : Prop := ∀ x ∈ q, ∀ h : x.1 < 6, s ⟨x.1, h⟩ = true
theorem told_more {q : List Dk.Wr} {s : Fin 6 → Bool} (h : Told q s) (a : Nat) (d : List UInt8) : Told (q ++ [(a, d)]) (sput s a) := by
  intro x hx hlt
  unfold sput
  rcases List.mem_append.1 hx with hx | hx
  · split
    · rfl
    · exact h x hx hlt
  · obtain rfl := List.mem_singleton.1 hx
    rw [if_pos rfl]
def K2St (w : World) (Da Db gs n c : Nat) (L : List UInt8) (g : Nat) (v63 : Value) (wr : World) : Prop :=
  ∃ (k : Nat) (q : List Dk.Wr) (s : Fin 6 → Bool), k + g = n ∧ v63 = .int .i64 (k : Int) ∧ q.length ≤ k ∧ Told q s ∧ Two w Da Db (pl L q) (ad L q 0 c) [(gs, .cells (since s) 48 (0, 0))] wr
theorem blk_sl {L : List UInt8} {i : Nat} : (L.drop (i * 64)).take ((i + 1) * 64 - i * 64) = Dk.blk L i := by
  unfold Dk.blk
  rw [Nat.mul_comm i 64, show (i + 1) * 64 - 64 * i = 64 by omega]
set_option maxRecDepth 100000 in
set_option maxHeartbeats 16000000 in
theorem diskKeeps_walk (A B : Option Addr) (ca cb : Nat) (l m : List Ac) (cut : Int) (w : World) (hl : l.length ≤ 9223372036854775807) (hm : m.length ≤ 9223372036854775807) (hA : ARow w A l) (hB : ARow w B m) (hc : cut ≤ 9223372036854775807) :
    Calls Try.prog 5 #[.slice A l.length ca, .slice B m.length cb, .int .i64 cut] w (LawPost w) := by
  have HAW := Lib.hid (fun W => awake15_any W)
  have HLI := Lib.hid (fun W h => light15_any A ca l W hl h)
  have HLM := Lib.hid (fun W h => light15_any B cb m W hm h)
  have HA := Lib.hid hA
  have HB := Lib.hid hB
  have HCB := Lib.hid hc
  clear hA hB hc
  go_enter Try.func5, Try.ntmps5
  go_wp2_with fail
  refine (HAW.out _).mono ?_
  rintro x w1 ⟨rfl, b1⟩
  have B1 := Lib.hid b1
  clear b1
  go_wp2_with fail
  refine (HLI.out _ (HA.out.on B1.out)).mono ?_
  rintro x w2 ⟨h2, b2⟩
  have B2 := Lib.hid (Below.trans B1.out (b2.mono B1.out.size))
  clear b2
  rcases h2 with ⟨rfl, hf⟩ | rfl
  · have HF := Lib.hid hf
    clear hf
    go_wp2_with fail
    refine (HLM.out _ (HB.out.on B2.out)).mono ?_
    rintro x w2b ⟨h2, b2⟩
    have B3 := Lib.hid (Below.trans B2.out (b2.mono B2.out.size))
    clear b2
    rcases h2 with ⟨rfl, hf⟩ | rfl
    · have HG := Lib.hid hf
      clear hf
      go_wp2_with fail
      refine (one_new 6 w _ B3.out).mono ?_
      rintro x w3 ⟨Da, rfl, h3⟩
      have H3 := Lib.hid h3
      clear h3
      go_wp2_with fail
      refine (two_new Da w _ _ H3.out).mono ?_
      rintro x w4 ⟨Db, rfl, h4⟩
      have HAR := Lib.hid (h4.callB (fun F hd => dkArm_any 1 cut _ hd))
      have hcn : cut.toNat ≤ 9223372036854775807 := by have := HCB.out; omega
      have HCN := Lib.hid hcn
      obtain ⟨c, hcc⟩ : ∃ c, c = cut.toNat := ⟨_, rfl⟩
      have HCC := Lib.hid hcc
      rw [show Dk.armed (Dk.new 6) 1 cut = ad (Dk.new 6).last [] 1 c by rw [HCC.out]; rfl] at HAR
      clear h4 hcn hcc
      go_wp2_with fail
      refine HAR.out.mono ?_
      rintro x w5 ⟨rfl, h5⟩
      have H5 := Lib.hid h5
      clear h5
      go_wp2_with fail
      go_loopg [34] l.length (fun g v34 wr => K1St w Da Db l.length c g v34 wr)
      case atStart => exact ⟨0, [], by omega, rfl, Nat.le_refl _, H5.out⟩
      case round =>
        obtain ⟨k, q, hk, rfl, hq, h6⟩ := hrel
        have HK := Lib.hid hk
        have HQ := Lib.hid hq
        have H6 := Lib.hid h6
        clear hk hq h6
        have h60 := HF.out.1
        obtain ⟨gO, rfl⟩ : ∃ gO, gO = gk := ⟨gk, rfl⟩
        by_cases hlt : k < l.length
        · obtain ⟨b, off, rfl, hbl, x0, x1, x2, x3⟩ := HA.out.at_ k hlt
          have y0 := (H6.out.below.cell (p := ⟨b, off + k * 4, none⟩) hbl).trans x0
          have y1 := (H6.out.below.cell (p := ⟨b, off + k * 4 + 1, none⟩) hbl).trans x1
          have y2 := (H6.out.below.cell (p := ⟨b, off + k * 4 + 2, none⟩) hbl).trans x2
          have y3 := (H6.out.below.cell (p := ⟨b, off + k * 4 + 3, none⟩) hbl).trans x3
          clear x0 x1 x2 x3 hbl
          have h80 := HF.out.2 k hlt
          generalize l.getD k ac0 = x at *
          obtain ⟨xw, xa, xc, xd⟩ := x
          dsimp only at *
          have HAL := Lib.hid (H6.out.push (.cells #[.int .u8 xw, .int .i64 xa, .int .i64 xc, .string (ofL xd)] 34))
          obtain ⟨bx, hbx⟩ : ∃ bx, bx = [(wr.heap.size, Obj.cells #[.int .u8 xw, .int .i64 xa, .int .i64 xc, .string (ofL xd)] 34 (0, 0))] := ⟨_, rfl⟩
          have HBX := Lib.hid hbx
          rw [← hbx] at HAL
          have hq' : q.length ≤ 100000 := by have := HQ.out; omega
          have HML := Lib.hid (more_len q xa xd)
          have HWA := Lib.hid (fun W (h : Two w Da Db (pl (Dk.new 6).last q) (ad (Dk.new 6).last q 1 c) bx W) => h.callA (fun F hd => dkWrite_any xa xd W hd hq' (by omega)))
          have HWB := Lib.hid (fun W (h : Two w Da Db (pl (Dk.new 6).last (more q xa xd)) (ad (Dk.new 6).last q 1 c) bx W) => h.callB (fun F hd => dkWrite_any xa xd W hd hq' (by omega)))
          rw [pl_write] at HWA
          rw [ad_write2] at HWB
          generalize Dk.wcode 6 (pl (Dk.new 6).last q) xa xd = cd at *
          generalize Dk.wcode 6 (ad (Dk.new 6).last q 1 c) xa xd = ce at *
          generalize more q xa xd = q' at *
          clear hq' hbx h80 h60
          go_wp2_with fail
          refine (HWA.out _ HAL.out).mono ?_
          rintro x w6 ⟨rfl, h6⟩
          have H7 := Lib.hid h6
          have hbo := H7.out.get (x := (wr.heap.size, Obj.cells #[.int .u8 xw, .int .i64 xa, .int .i64 xc, .string (ofL xd)] 34 (0, 0))) (by rw [HBX.out]; exact List.mem_singleton.2 rfl)
          have z1 : w6.cell? ⟨wr.heap.size, 1, none⟩ = some (.int .i64 xa) := by rw [Lib.cell_of_heap hbo]; rfl
          have z3 : w6.cell? ⟨wr.heap.size, 3, none⟩ = some (.string (ofL xd)) := by rw [Lib.cell_of_heap hbo]; rfl
          clear h6 hbo
          go_wp2_with fail
          refine (HWB.out _ H7.out).mono ?_
          rintro x w7 ⟨rfl, h7⟩
          have H8 := Lib.hid (h7.sub (by' := []) (fun x hx => by cases hx))
          clear h7 z1 z3 y0 y1 y2 y3
          go_wp2_with fail
          go_roundg (gO - 1)
          case rel => exact ⟨k + 1, q', by have := HK.out; omega, by go_num, by have := HQ.out; have := HML.out; omega, H8.out⟩
          case measure => have := HK.out; omega
        · have hq' : q.length ≤ 100000 := by have := HQ.out; have := HK.out; omega
          have HSA := Lib.hid (H6.out.callA (fun F hd => dkSync_any _ hd hq' (fun s t e => by cases e)))
          have HSB := Lib.hid (fun W (h : Two w Da Db (pl (Dk.done (Dk.new 6).last q (Dk.waits q)) []) (ad (Dk.new 6).last q 1 c) [] W) => h.callB (fun F hd => dkSync_any W hd hq' (fun s t e => by have := HCN.out; have := HCC.out; cases e; omega)))
          rw [show Dk.sync (pl (Dk.new 6).last q) = pl (Dk.done (Dk.new 6).last q (Dk.waits q)) [] from rfl, show Dk.scode (pl (Dk.new 6).last q) = 0 from rfl] at HSA
          rw [show Dk.sync (ad (Dk.new 6).last q 1 c) = ad (Dk.done (Dk.new 6).last q (Dk.waits q)) [] 0 c from rfl, show Dk.scode (ad (Dk.new 6).last q 1 c) = 0 from rfl] at HSB
          have HL1 := Lib.hid (Dk.done_len (n := 6) q (Dk.waits q) H6.out.wfa.ok (Dk.new_wf 6).len)
          generalize Dk.done (Dk.new 6).last q (Dk.waits q) = L1 at *
          have HLA := Lib.hid (fun W (h : Two w Da Db (pl L1 []) (ad L1 [] 0 c) [] W) => h.readA (fun F hd => dkLasts_any W hd (by decide)))
          rw [show (pl L1 []).last = L1 from rfl] at HLA
          clear hq' h60
          go_wp2_with fail
          refine HSA.out.mono ?_
          rintro x w6 ⟨rfl, h6⟩
          have H7 := Lib.hid h6
          clear h6
          go_wp2_with fail
          refine (HSB.out _ H7.out).mono ?_
          rintro x w7 ⟨rfl, h7⟩
          have H8 := Lib.hid h7
          clear h7
          go_wp2_with fail
          refine (HLA.out _ H8.out).mono ?_
          rintro x w8 ⟨rfl, h8⟩
          have HGS := Lib.hid h8.below.size
          have H9 := Lib.hid (h8.push (.cells (since fun _ => false) 48))
          clear h8
          go_wp2_with fail
          generalize w8.alloc (Obj.cells (since fun _ => false) 48) = w9 at *
          generalize w8.heap.size = gs at *
          go_loopg [63] m.length (fun g v63 wr => K2St w Da Db gs m.length c L1 g v63 wr)
          case atStart => exact ⟨0, [], fun _ => false, by omega, rfl, Nat.le_refl _, (fun x hx => by cases hx), H9.out⟩
          case round =>
            obtain ⟨j, p, s, hj, rfl, hp, htold, h10⟩ := hrel
            have HJ := Lib.hid hj
            have HP := Lib.hid hp
            have HT := Lib.hid htold
            have H10 := Lib.hid h10
            clear hj hp htold h10
            have h61 := HG.out.1
            obtain ⟨gP, rfl⟩ : ∃ gP, gP = gk := ⟨gk, rfl⟩
            by_cases hlj : j < m.length
            · obtain ⟨b, off, rfl, hbl, x0, x1, x2, x3⟩ := HB.out.at_ j hlj
              have y0 := (H10.out.below.cell (p := ⟨b, off + j * 4, none⟩) hbl).trans x0
              have y1 := (H10.out.below.cell (p := ⟨b, off + j * 4 + 1, none⟩) hbl).trans x1
              have y2 := (H10.out.below.cell (p := ⟨b, off + j * 4 + 2, none⟩) hbl).trans x2
              have y3 := (H10.out.below.cell (p := ⟨b, off + j * 4 + 3, none⟩) hbl).trans x3
              clear x0 x1 x2 x3 hbl
              have h80 := HG.out.2 j hlj
              generalize m.getD j ac0 = x at *
              obtain ⟨xw, xa, xc, xd⟩ := x
              dsimp only at *
              have hgl : gs < wr.heap.size := (Array.getElem?_eq_some_iff.1 (H10.out.get (List.mem_singleton.2 rfl))).1
              have HGL := Lib.hid hgl
              have HAL := Lib.hid (H10.out.push (.cells #[.int .u8 xw, .int .i64 xa, .int .i64 xc, .string (ofL xd)] 34))
              clear hgl
              have hq' : p.length ≤ 100000 := by have := HP.out; omega
              have HML := Lib.hid (more_len p xa xd)
              have HWA := Lib.hid (fun bx W (h : Two w Da Db (pl L1 p) (ad L1 p 0 c) bx W) => h.callA (fun F hd => dkWrite_any xa xd W hd hq' (by omega)))
              have HWB := Lib.hid (fun bx W (h : Two w Da Db (pl L1 (more p xa xd)) (ad L1 p 0 c) bx W) => h.callB (fun F hd => dkWrite_any xa xd W hd hq' (by omega)))
              rw [pl_write] at HWA
              rw [ad_write2] at HWB
              have HMO := Lib.hid (show more p xa xd = if Dk.wcode 6 (pl L1 p) xa xd = 0 then p ++ [(xa.toNat, xd)] else p from rfl)
              have HCD := Lib.hid (show Dk.wcode 6 (pl L1 p) xa xd = 0 → 0 ≤ xa ∧ xa < 6 from fun h => (Dk.code_ok (Dk.wcode_ok h).1).2)
              generalize Dk.wcode 6 (pl L1 p) xa xd = cd at *
              generalize Dk.wcode 6 (ad L1 p 0 c) xa xd = ce at *
              generalize more p xa xd = p' at *
              clear hq' h80 h61
              by_cases hcd : cd = 0
              · obtain ⟨ha1, ha2⟩ := HCD.out hcd
                obtain ⟨a, rfl⟩ : ∃ a : Nat, xa = (a : Int) := ⟨xa.toNat, by omega⟩
                rw [if_pos hcd, Int.toNat_natCast] at HMO
                subst hcd
                have ha6 : a < 6 := by omega
                have HT2 := Lib.hid (told_more HT.out a xd)
                rw [← HMO.out] at HT2
                go_wp2_with fail
                refine (HWA.out _ _ HAL.out).mono ?_
                rintro x w10 ⟨rfl, h11⟩
                have H11 := Lib.hid h11
                have hbo := H11.out.get (x := (wr.heap.size, Obj.cells #[.int .u8 xw, .int .i64 (a : Int), .int .i64 xc, .string (ofL xd)] 34 (0, 0))) (List.mem_cons_self ..)
                have hbs := H11.out.get (x := (gs, Obj.cells (since s) 48 (0, 0))) (by simp)
                have z1 : w10.cell? ⟨wr.heap.size, 1, none⟩ = some (.int .i64 (a : Int)) := by rw [Lib.cell_of_heap hbo]; rfl
                have z3 : w10.cell? ⟨wr.heap.size, 3, none⟩ = some (.string (ofL xd)) := by rw [Lib.cell_of_heap hbo]; rfl
                have s1 : w10.cell? ⟨gs, a, none⟩ = some (.bool (s ⟨a, ha6⟩)) := by rw [Lib.cell_of_heap hbs]; exact since_get s a ha6
                have s2 := Lib.frozen_of_heap hbs a
                have hgl10 : gs < w10.heap.size := (Array.getElem?_eq_some_iff.1 hbs).1
                clear h11 hbo hbs
                go_upto_region 22 with fail
                have HPT := Lib.hid ((H11.out.sub (by' := [(gs, Obj.cells (since s) 48 (0, 0)), (wr.heap.size, Obj.cells #[.int .u8 xw, .int .i64 (a : Int), .int .i64 xc, .string (ofL xd)] 34 (0, 0))]) (fun x hx => by simp only [List.mem_cons, List.not_mem_nil, or_false] at hx ⊢; exact hx.symm)).put HGS.out (fun x hx => by
                  obtain rfl := List.mem_singleton.1 hx
                  have := HGL.out; dsimp only; omega) a (.bool true))
                rw [since_put s a ha6] at HPT
                generalize w10.setCell ⟨gs, a, none⟩ (.bool true) = w11 at *
                have hbo := HPT.out.get (x := (wr.heap.size, Obj.cells #[.int .u8 xw, .int .i64 (a : Int), .int .i64 xc, .string (ofL xd)] 34 (0, 0))) (by simp)
                have v1 : w11.cell? ⟨wr.heap.size, 1, none⟩ = some (.int .i64 (a : Int)) := by rw [Lib.cell_of_heap hbo]; rfl
                have v3 : w11.cell? ⟨wr.heap.size, 3, none⟩ = some (.string (ofL xd)) := by rw [Lib.cell_of_heap hbo]; rfl
                clear z1 z3 s1 s2 hgl10 hbo y0 y1 y2 y3
                go_wp2_with fail
                refine (HWB.out _ _ HPT.out).mono ?_
                rintro x w12 ⟨rfl, h12⟩
                have H12 := Lib.hid (h12.sub (by' := [(gs, Obj.cells (since (sput s a)) 48 (0, 0))]) (fun x hx => by obtain rfl := List.mem_singleton.1 hx; exact List.mem_cons_self ..))
                clear h12 v1 v3
                go_wp2_with fail
                go_roundg (gP - 1)
                case rel => exact ⟨j + 1, p', _, by have := HJ.out; omega, by go_num, by have := HP.out; have := HML.out; omega, HT2.out, H12.out⟩
                case measure => have := HJ.out; omega
              · rw [if_neg hcd] at HMO
                have hbc : (cd == 0) = false := by simpa using hcd
                clear hcd
                go_wp2_with fail
                refine (HWA.out _ _ HAL.out).mono ?_
                rintro x w10 ⟨rfl, h11⟩
                have H11 := Lib.hid h11
                have hbo := H11.out.get (x := (wr.heap.size, Obj.cells #[.int .u8 xw, .int .i64 xa, .int .i64 xc, .string (ofL xd)] 34 (0, 0))) (List.mem_cons_self ..)
                have z1 : w10.cell? ⟨wr.heap.size, 1, none⟩ = some (.int .i64 xa) := by rw [Lib.cell_of_heap hbo]; rfl
                have z3 : w10.cell? ⟨wr.heap.size, 3, none⟩ = some (.string (ofL xd)) := by rw [Lib.cell_of_heap hbo]; rfl
                clear h11 hbo y0 y1 y2 y3
                go_wp2_with fail
                refine (HWB.out _ _ H11.out).mono ?_
                rintro x w12 ⟨rfl, h12⟩
                have H12 := Lib.hid (h12.sub (by' := [(gs, Obj.cells (since s) 48 (0, 0))]) (fun x hx => by obtain rfl := List.mem_singleton.1 hx; simp))
                clear h12 z1 z3
                go_wp2_with fail
                go_roundg (gP - 1)
                case rel => exact ⟨j + 1, p', s, by have := HJ.out; omega, by go_num, by have := HP.out; have := HML.out; omega, by rw [HMO.out]; exact HT.out, H12.out⟩
                case measure => have := HJ.out; omega
            · have hq' : p.length ≤ 100000 := by have := HP.out; have := HJ.out; omega
              have HWF := Lib.hid H10.out.wfa.ok
              have HD := Lib.hid (H10.out.callA (fun F hd => dkDown_any cut _ hd hq' HCB.out))
              rw [← HCC.out, show Dk.down (pl L1 p) c = offd (Dk.done L1 p c) from rfl] at HD
              have HS := Lib.hid (fun bx W (h : Two w Da Db (offd (Dk.done L1 p c)) (ad L1 p 0 c) bx W) => h.callB (fun F hd => dkSync_any W hd hq' (fun s t e => by have := HCN.out; have := HCC.out; cases e; omega)))
              rw [show Dk.sync (ad L1 p 0 c) = offd (Dk.done L1 p c) from rfl, show Dk.scode (ad L1 p 0 c) = 16 from rfl] at HS
              have HL2 := Lib.hid (Dk.done_len (n := 6) p c HWF.out HL1.out)
              have HBK := Lib.hid (show ∀ i : Fin 6, s i = false → Dk.blk (Dk.done L1 p c) i.val = Dk.blk L1 i.val from fun i hi => Dk.done_blk (n := 6) p L1 c HL1.out HWF.out (fun x hx e => by
                have h1 := HT.out x hx (by rw [e]; exact i.isLt)
                rw [show (⟨x.1, by rw [e]; exact i.isLt⟩ : Fin 6) = i from Fin.ext e, hi] at h1
                cases h1))
              generalize Dk.done L1 p c = L2 at *
              have HLA2 := Lib.hid (fun bx W (h : Two w Da Db (offd L2) (offd L2) bx W) => h.readA (fun F hd => dkLasts_any W hd (by decide)))
              have HLB2 := Lib.hid (fun bx W (h : Two w Da Db (offd L2) (offd L2) bx W) => h.readB (fun F hd => dkLasts_any W hd (by decide)))
              rw [show (offd L2).last = L2 from rfl] at HLA2 HLB2
              have hz1 : (ofL L1).size = 384 := by rw [ofL_size, HL1.out]
              clear hq' h61
              go_wp2_with fail
              refine HD.out.mono ?_
              rintro x w10 ⟨rfl, h11⟩
              have H11 := Lib.hid h11
              clear h11
              go_wp2_with fail
              refine (HS.out _ _ H11.out).mono ?_
              rintro x w11 ⟨rfl, h12⟩
              have H12 := Lib.hid h12
              clear h12
              go_wp2_with fail
              refine (HLA2.out _ _ H12.out).mono ?_
              rintro x w12 ⟨rfl, h13⟩
              have H13 := Lib.hid h13
              clear h13
              go_wp2_with fail
              refine (HLB2.out _ _ H13.out).mono ?_
              rintro x w13 ⟨rfl, h14⟩
              have H14 := Lib.hid h14
              clear h14
              go_wp2_with fail
              refine (HLA2.out _ _ H14.out).mono ?_
              rintro x w14 ⟨rfl, h15⟩
              have H15 := Lib.hid h15
              clear h15
              go_wp2_with fail
              go_loopg [104] 6 (fun g v104 wr => ∃ k : Nat, k + g = 6 ∧ v104 = .int .i64 (k : Int) ∧ Two w Da Db (offd L2) (offd L2) [(gs, .cells (since s) 48 (0, 0))] wr)
              case atStart => exact ⟨0, by omega, rfl, H15.out⟩
              case round =>
                obtain ⟨e, he, rfl, h16⟩ := hrel
                have HEK := Lib.hid he
                have H16 := Lib.hid h16
                clear he h16
                by_cases he6 : e < 6
                · have hbs := H16.out.get (x := (gs, Obj.cells (since s) 48 (0, 0))) (List.mem_singleton.2 rfl)
                  have s1 : wr.cell? ⟨gs, e, none⟩ = some (.bool (s ⟨e, he6⟩)) := by rw [Lib.cell_of_heap hbs]; exact since_get s e he6
                  have HBE := Lib.hid (HBK.out ⟨e, he6⟩)
                  have i0 : (0 : Int) ≤ (e : Int) := by omega
                  have i6 : (e : Int) < 6 := by omega
                  have hw1 : IntKind.i64.wrap ((e : Int) * 64) = (e : Int) * 64 := by rw [IntKind.wrap_i64]; omega
                  have hw2 : IntKind.i64.wrap ((e : Int) + 1) = (e : Int) + 1 := by rw [IntKind.wrap_i64]; omega
                  have hw3 : IntKind.i64.wrap (((e : Int) + 1) * 64) = ((e : Int) + 1) * 64 := by rw [IntKind.wrap_i64]; omega
                  have hs1 := fun W' => slice_l (P := Try.prog) Try.underlying9 L2 .i64 .i64 ((e : Int) * 64) (((e : Int) + 1) * 64) (e * 64) ((e + 1) * 64) (by omega) (by omega) (by omega) (by rw [HL2.out]; omega) W'
                  have hs2 := fun W' => slice_l (P := Try.prog) Try.underlying9 L1 .i64 .i64 ((e : Int) * 64) (((e : Int) + 1) * 64) (e * 64) ((e + 1) * 64) (by omega) (by omega) (by omega) (by rw [HL1.out]; omega) W'
                  rw [blk_sl] at hs1 hs2
                  have HH := Lib.hid (fun q => H16.out.keep (show Below wr.heap.size wr (wr.drewN q) from ⟨rfl, rfl, rfl, by simp, fun _ _ => by simp⟩))
                  cases hse : s ⟨e, he6⟩ with
                  | true =>
                    rw [hse] at s1
                    clear hbs hse
                    go_upto_region 31 with fail
                    go_quiet (fail)
                    go_wp2_with fail
                    go_roundg (gk - 1)
                    case rel => exact ⟨e + 1, by have := HEK.out; omega, by go_num, HH.out _⟩
                    case measure => have := HEK.out; omega
                  | false =>
                    rw [hse] at s1
                    have hbe := HBE.out hse
                    dsimp only at hbe
                    rw [hbe] at hs1
                    clear hbs hse hbe
                    generalize Dk.blk L1 e = zb at *
                    go_upto_region 31 with fail
                    go_quiet (fail)
                    go_wp2_with fail
                    go_roundg (gk - 1)
                    case rel => exact ⟨e + 1, by have := HEK.out; omega, by go_num, HH.out _⟩
                    case measure => have := HEK.out; omega
                · have HUP := Lib.hid (H16.out.callA (fun F hd => dkUp_any _ hd))
                  rw [show Dk.up (offd L2) = pl L2 [] from rfl] at HUP
                  have HON := Lib.hid (fun bx W (h : Two w Da Db (pl L2 []) (offd L2) bx W) => h.readA (fun F hd => same_below (dkOn_any W hd)))
                  rw [show (pl L2 []).on = true from rfl] at HON
                  have HSY := Lib.hid (fun bx W (h : Two w Da Db (pl L2 []) (offd L2) bx W) => h.callA (fun F hd => dkSync_any W hd (by show (0 : Nat) ≤ 100000; omega) (fun s t e => by cases e)))
                  rw [show Dk.sync (pl L2 []) = pl L2 [] from rfl, show Dk.scode (pl L2 []) = 0 from rfl] at HSY
                  have HLZ := Lib.hid (fun bx W (h : Two w Da Db (pl L2 []) (offd L2) bx W) => h.readA (fun F hd => dkLasts_any W hd (by decide)))
                  rw [show (pl L2 []).last = L2 from rfl] at HLZ
                  go_wp2_with fail
                  refine HUP.out.mono ?_
                  rintro x w15 ⟨rfl, h17⟩
                  have H17 := Lib.hid h17
                  clear h17
                  go_wp2_with fail
                  refine (HON.out _ _ H17.out).mono ?_
                  rintro x w16 ⟨rfl, h18⟩
                  have H18 := Lib.hid h18
                  clear h18
                  go_wp2_with fail
                  refine (HSY.out _ _ H18.out).mono ?_
                  rintro x w17 ⟨rfl, h19⟩
                  have H19 := Lib.hid h19
                  clear h19
                  go_wp2_with fail
                  refine (HLZ.out _ _ H19.out).mono ?_
                  rintro x w18 ⟨rfl, h20⟩
                  have H20 := Lib.hid h20.below
                  clear h20
                  go_wp2_with fail
                  go_ret
                  exact ⟨by simp, H20.out⟩
    · go_wp2_with fail
      go_ret
      exact ⟨rfl, B3.out⟩
  · go_wp2_with fail
    go_ret
    exact ⟨rfl, B2.out⟩
end Go.Proofs.Ytpdgadohfhmcnaa
