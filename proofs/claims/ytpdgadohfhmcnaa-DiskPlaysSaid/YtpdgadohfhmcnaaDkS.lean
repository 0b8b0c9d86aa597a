/-
  THE DOCUMENT's DISK: what is done of what waits.
-/
import Derived.Test.YtpdgadohfhmcnaaDkR
namespace Go.Proofs.Ytpdgadohfhmcnaa
open Go.ChangeShapes Go.WideShapes Go.ChangeAt Go.RowKit

def RdoSt (w : World) (l : List Dk.Wr) (s : List UInt8) (c : Nat) (g : Nat) (m v i : Value) (wr : World) : Prop :=
  ∃ k : Nat, k + g = l.length ∧ i = .int .i64 (k : Int) ∧ m = .int .i64 ((c - Dk.waits (l.take k) : Nat) : Int) ∧ v = .string (ofL (Dk.done s (l.take k) c)) ∧ Below w.heap.size w wr
set_option maxHeartbeats 4000000 in
theorem r15Done_any (s : List UInt8) (l : List Dk.Wr) (n c : Nat) (A : Option Addr) (ca : Nat) (on am : Bool) (sy ct : Int) (w : World) (hA : WRow w A l) (hl : l.length ≤ 100000) (ho : ∀ x ∈ l, Dk.WOk n x) (hs : s.length = 64 * n) (hn : n ≤ 4096) (hc : c ≤ 9223372036854775807) :
    Calls Try.prog 34 #[dq s A l.length ca on am sy ct, .int .i64 (c : Int)] w fun e w' => e = .returned (.string (ofL (Dk.done s l c))) ∧ Below w.heap.size w w' := by
  have HA := Lib.hid hA
  have HO := Lib.hid ho
  have HS := Lib.hid hs
  clear hA ho hs
  go_enter Try.func34, Try.ntmps34
  go_wp2_with fail
  have HB0 := Lib.hid ((Below.refl w.heap.size w).alloc (Nat.le_refl _) (.cells #[.string (ofL s), .slice A l.length ca, .bool on, .bool am, .int .i64 sy, .int .i64 ct] 31))
  generalize w.alloc (.cells #[.string (ofL s), .slice A l.length ca, .bool on, .bool am, .int .i64 sy, .int .i64 ct] 31) = w1 at *
  go_loopg [1, 5, 14] l.length (fun g m v i wr => RdoSt w l s c g m v i wr)
  case atStart => exact ⟨0, by omega, rfl, by simp [Dk.waits], rfl, HB0.out⟩
  case round =>
    obtain ⟨k, hk, rfl, rfl, rfl, hb⟩ := hrel
    have HK := Lib.hid hk
    have HB := Lib.hid hb
    clear hk hb
    by_cases hlt : k < l.length
    · obtain ⟨b, off, rfl, hbl, x0, x1⟩ := HA.out.at_ k hlt
      have y0 := (HB.out.cell (p := ⟨b, off + k * 2, none⟩) hbl).trans x0
      have y1 := (HB.out.cell (p := ⟨b, off + k * 2 + 1, none⟩) hbl).trans x1
      clear x0 x1 hbl
      have HSN := Lib.hid (show l.take (k + 1) = l.take k ++ [l.getD k (0, [])] by rw [List.take_succ_eq_append_getElem hlt, List.getD_eq_getElem?_getD, List.getElem?_eq_getElem hlt]; rfl)
      have HW := Lib.hid (HO.out (l.getD k (0, [])) (by rw [List.getD_eq_getElem?_getD, List.getElem?_eq_getElem hlt]; exact List.getElem_mem hlt))
      have HLN := Lib.hid (Dk.done_len (n := n) (l.take k) c (fun w hw => HO.out w (List.mem_of_mem_take hw)) HS.out)
      generalize l.getD k (0, []) = x at *
      obtain ⟨xa, xd⟩ := x
      dsimp only at *
      have hz : (ofL xd).size = xd.length := ofL_size _
      obtain ⟨m, hm⟩ : ∃ m, m = c - Dk.waits (l.take k) := ⟨_, rfl⟩
      obtain ⟨t, ht⟩ : ∃ t, t = min m xd.length := ⟨_, rfl⟩
      have htl : t ≤ xd.length := by omega
      have HPD := Lib.hid (put_done s (l.take k) c xa t xd (by rw [ht, hm]))
      rw [← HSN.out] at HPD
      have hw1 : xa < n := HW.out.1
      have hw2 : xd.length ≤ 64 := HW.out.2
      have HH := Lib.hid (fun W => r15Held_any m xd.length W)
      rw [← ht] at HH
      have HPT := Lib.hid (fun W => r15put_any (Dk.done s (l.take k) c) (xd.take t) xa W (by rw [HLN.out, List.length_take]; omega) (by rw [HLN.out]; omega))
      rw [HPD.out] at HPT
      have hsl : ∀ W', (Instr.slice 9 (.string (ofL xd)) none (some (.int .i64 (t : Int))) none).run Try.prog W' = .ok (.string (ofL (xd.take t))) W' := fun W' => slice_to_l (P := Try.prog) Try.underlying9 xd .i64 (t : Int) t rfl htl W'
      have hsub : IntKind.i64.wrap ((m : Int) - (t : Int)) = ((m - t : Nat) : Int) := by rw [IntKind.wrap_i64]; omega
      have HWW := Lib.hid (show c - Dk.waits (l.take (k + 1)) = m - t by
        rw [HSN.out, Dk.waits_app]
        show c - (Dk.waits (l.take k) + (xd.length + 0)) = m - t
        omega)
      have HB2 := Lib.hid (HB.out.alloc HB.out.size (.cells #[.int .i64 (xa : Int), .string (ofL xd)] 70))
      have b0 : (wr.alloc (.cells #[.int .i64 (xa : Int), .string (ofL xd)] 70)).cell? ⟨wr.heap.size, 0, none⟩ = some (.int .i64 (xa : Int)) := dnew _ _ _ _ _ rfl
      have b1 : (wr.alloc (.cells #[.int .i64 (xa : Int), .string (ofL xd)] 70)).cell? ⟨wr.heap.size, 1, none⟩ = some (.string (ofL xd)) := dnew _ _ _ _ _ rfl
      have hbs : wr.heap.size < (wr.alloc (.cells #[.int .i64 (xa : Int), .string (ofL xd)] 70)).heap.size := by simp
      rw [← hm]
      clear hm ht htl hw1 hw2 hc
      generalize Dk.done s (l.take k) c = dk at *
      go_wp2_with fail
      refine (HH.out _).mono ?_
      rintro x w2 ⟨rfl, rfl⟩
      go_upto_region 6 with fail
      generalize wr.alloc (.cells #[.int .i64 (xa : Int), .string (ofL xd)] 70) = W at *
      generalize wr.heap.size = bx at *
      clear y0 y1
      go_region_held3 (fun a => a.cell? ⟨bx, 0, none⟩ = some (.int .i64 (xa : Int)) ∧ a.cell? ⟨bx, 1, none⟩ = some (.string (ofL xd)))
        (first | exact ⟨b0, b1⟩ | exact ⟨u0, u1⟩) ((go_at_call 36; refine (HPT.out _).mono ?_; rintro x w7 ⟨rfl, b7⟩; have u0 := (b7.cell (p := ⟨bx, 0, none⟩) hbs).trans b0; have u1 := (b7.cell (p := ⟨bx, 1, none⟩) hbs).trans b1; have HB3 := Lib.hid (Below.trans HB2.out.drew (b7.mono HB2.out.size)); clear b7))
      clear u0 u1 b0 b1
      go_wp2_with fail
      go_roundg (gk - 1)
      case rel => exact ⟨k + 1, by have := HK.out; omega, by go_num, by rw [HWW.out], rfl, HB3.out⟩
      case measure => have := HK.out; omega
    · have e : l.take k = l := List.take_of_length_le (by omega)
      rw [e]
      clear e
      go_wp2_with fail
      go_ret
      exact ⟨rfl, HB.out⟩
end Go.Proofs.Ytpdgadohfhmcnaa
