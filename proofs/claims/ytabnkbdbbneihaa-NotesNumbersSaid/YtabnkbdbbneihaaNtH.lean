/-
  THE LAW NotesNumbers, walked.
-/
import Derived.Test.YtabnkbdbbneihaaNtG
namespace Go.Proofs.Ytabnkbdbbneihaa
open Go.ChangeShapes Go.WideShapes Go.ChangeAt Go.RowKit

def NnSt (w : World) (b : Nat) (L : List Nt) (g : Nat) (i : Value) (wr : World) : Prop := ∃ k : Nat, k + g = L.length ∧ i = .int .i64 (k : Int) ∧ NtBox b (Nt.good (L.take k)).length (lastN 32 (Nt.good (L.take k))) wr ∧ Below w.heap.size w wr
def NmSt (w : World) (n g : Nat) (v : Value) (wr : World) : Prop := ∃ k : Nat, k + g = n ∧ v = .int .u64 (k : Int) ∧ Below w.heap.size w wr
attribute [local go_sem ↓] nt_eql
attribute [local go_sem] guardNt
set_option maxRecDepth 100000 in
set_option maxHeartbeats 8000000 in
theorem notesNumbers_walk (A0 : Option Addr) (c0 : Nat) (l : List Nt) (w : World) (hl : l.length ≤ 9223372036854775807) (hf : ∀ x ∈ l, x.Fits) (hA : Nts w A0 l) :
    Calls Try.prog 6 #[.slice A0 l.length c0] w fun e w' => e = .returned (.bool true) ∧ Below w.heap.size w w' := by
  have HA := Lib.hid hA
  have HFI := Lib.hid hf
  have HLi := Lib.hid (fun W h => light19_any A0 c0 l W hl hf h)
  have HAW := Lib.hid (awake19_any w)
  clear hA hf
  go_enter Try.func6, Try.ntmps6
  go_wp2_with fail
  refine HAW.out.mono ?_
  rintro e w1 ⟨rfl, b1⟩
  have HB1 := Lib.hid b1
  have HA1 := Lib.hid (HA.out.on b1)
  clear b1
  go_wp2_with fail
  refine (HLi.out _ HA1.out).mono ?_
  rintro e w3 ⟨⟨rfl, hfew⟩ | rfl, b3⟩
  · have HB3 := Lib.hid (bthen HB1.out b3 (Nat.le_refl _))
    have hle1 := hfew.1
    clear b3 hfew
    have HS := Lib.hid (show NtBox w3.heap.size (Nt.good (l.take 0)).length (lastN 32 (Nt.good (l.take 0))) (w3.alloc (.cells #[.int .u64 0, .slice none 0 0] 27)) from ⟨none, 0, Du2.new _ _ _ _, Nat.le_refl _, fun _ => rfl, Nts.nil _ _, fun a h => by cases h⟩)
    have HB4 := Lib.hid (HB3.out.alloc HB3.out.size (.cells #[.int .u64 0, .slice none 0 0] 27))
    have hge : w.heap.size ≤ w3.heap.size := HB3.out.size
    go_wp2_with fail
    go_loopg [19] l.length (fun g i wr => NnSt w w3.heap.size l g i wr)
    case atStart => exact ⟨0, by omega, rfl, HS.out, HB4.out⟩
    case round =>
      obtain ⟨k, hk, rfl, hbox, hB⟩ := hrel
      obtain ⟨A, c, hd, hc, hn, hN, hne⟩ := hbox.at_
      have HK := Lib.hid hk
      have HBe := Lib.hid hB
      have e0 := hd.c0
      have e1 := hd.c1
      have el := hd.lt
      have HD := Lib.hid hd
      have HNE := Lib.hid hne
      have HN := Lib.hid hN
      have HCC := Lib.hid hc
      have HNN := Lib.hid hn
      clear hk hbox hB hd hne hN hc hn
      by_cases hlt : k < l.length
      · obtain ⟨b, off, rfl, hb, x0, x1, x2⟩ := (HA.out.on HBe.out).get hlt
        have hfit : (l.getD k Nt.zero).Fits := HFI.out _ (by rw [List.getD_eq_getElem?_getD, List.getElem?_eq_getElem hlt]; exact List.getElem_mem hlt)
        have hTl : (Nt.good (l.take k)).length ≤ 160 := Nat.le_trans (Nt.good_le _) (by rw [List.length_take]; omega)
        obtain ⟨hT, hK, -⟩ := nl_add hlt (by omega)
        have HC := Lib.hid (fun W h => ntAdd_any (Nt.good (l.take k)).length c A (lastN 32 (Nt.good (l.take k))) (l.getD k Nt.zero) W (lastN_le _ _) HCC.out HNN.out (by omega) hfit.2.2 h)
        unfold NtAddPost at HC
        rw [hT, hK] at HC
        have HA1 := Lib.hid (fun x : Nt => alloc1B wr (.cells #[.int .u64 (x.t : Int), .int .u8 (x.k : Int), .string (ofL x.b)] 32))
        clear hT hK hfit
        generalize hcd : Nt.addC (Nt.good (l.take k)).length (l.getD k Nt.zero) = cd at *
        clear hcd
        generalize l.getD k Nt.zero = x at *
        generalize hE : Nt.good (l.take (k + 1)) = G1 at *
        have HE := Lib.hid hE
        clear hE
        generalize Nt.good (l.take k) = G0 at *
        go_wp2_with fail
        refine (HC.out _ (HN.out.on (HA1.out x))).mono ?_
        rintro e w5 ⟨A', c', rfl, hc', hn', hN', hne', b5⟩
        have HB5 := Lib.hid (bthen (HA1.out x) b5 (Nat.le_refl _))
        have hd1 := HD.out.on HB5.out
        have f0 := hd1.c0
        have f1 := hd1.c1
        have ff0 := hd1.fz 0
        have ff1 := hd1.fz 1
        have fl := hd1.lt
        have HX := Lib.hid (show NtBox w3.heap.size G1.length (lastN 32 G1) ((w5.setCell ⟨w3.heap.size, 0, none⟩ (.int .u64 (G1.length : Int))).setCell ⟨w3.heap.size, 1, none⟩ (.slice A' (lastN 32 G1).length c')) from
          have hz : ∀ a, A' = some a → a.block ≠ w3.heap.size := fun a ha => (hne' a ha).elim (fun h => HNE.out a h) (fun h => by have := h.1; simp at this; omega)
          ⟨A', c', hd1.set _ _, hc', hn', hN'.put2 hz _ _, hz⟩)
        have HB6 := Lib.hid (((bthen HBe.out HB5.out (Nat.le_refl _)).setCell (p := ⟨w3.heap.size, 0, none⟩) hge (.int .u64 (G1.length : Int))).setCell (p := ⟨w3.heap.size, 1, none⟩) hge (.slice A' (lastN 32 G1).length c'))
        clear e0 e1 el hc' hn' hN' hne' b5 hd1
        go_wp2_with fail
        go_roundg (gk - 1)
        case rel => exact ⟨k + 1, by have := HK.out; omega, by go_num, by rw [HE.out]; exact HX.out, HB6.out⟩
        case measure => have := HK.out; omega
      · have hkL : k = l.length := by have := HK.out; omega
        have hGe : Nt.good (l.take k) = Nt.good l := by rw [hkL, List.take_length]
        rw [hGe] at HD HN HCC e1 e0
        clear hGe
        have hGl : (Nt.good l).length ≤ 160 := Nat.le_trans (Nt.good_le _) (by omega)
        have hKl := lastN_len 32 (Nt.good l)
        have hle : (lastN 32 (Nt.good l)).length ≤ (Nt.good l).length := by omega
        have HALL := Lib.hid (fun W h => ntAll_any (Nt.good l).length c A (lastN 32 (Nt.good l)) W (by omega) h)
        have HTO := Lib.hid (fun W => ntTotal_any (Nt.good l).length (lastN 32 (Nt.good l)).length c A W)
        have HGET := Lib.hid (fun k W hk h => ntGet_any (Nt.good l).length c A (lastN 32 (Nt.good l)) k W (by omega) hle (by omega) hk h)
        clear hKl
        generalize lastN 32 (Nt.good l) = K at *
        generalize Nt.good l = G at *
        go_wp2_with fail
        refine (HALL.out _ HN.out).mono ?_
        rintro e w5 ⟨A5, c5, rfl, -, -, hK5, -, b5⟩
        have HD5 := Lib.hid (HD.out.on b5)
        have HN5 := Lib.hid (HN.out.on b5)
        have HK5 := Lib.hid hK5
        have HB5 := Lib.hid (bthen HBe.out b5 (Nat.le_refl _))
        clear e0 e1 el b5 hK5
        have e0 := HD5.out.c0
        have e1 := HD5.out.c1
        have el := HD5.out.lt
        go_wp2_with fail
        refine (HTO.out _).mono ?_
        rintro e w6 ⟨rfl, b6⟩
        have HD6 := Lib.hid (HD5.out.on b6)
        have HN6 := Lib.hid (HN5.out.on b6)
        have HK6 := Lib.hid (HK5.out.on b6)
        have HB6 := Lib.hid (bthen HB5.out b6 (Nat.le_refl _))
        clear e0 e1 el b6
        go_wp2_with fail
        go_loopg [8] (G.length + 2) (fun g v wr => NmSt w6 (G.length + 2) g v wr)
        case atStart => exact ⟨0, by omega, rfl, Below.refl _ _⟩
        case round =>
          obtain ⟨k, hj, rfl, hBj⟩ := hrel
          have HJ := Lib.hid hj
          have HBJ := Lib.hid hBj
          have hd := HD6.out.on hBj
          have e0 := hd.c0
          have e1 := hd.c1
          have el := hd.lt
          clear hj hBj hd
          by_cases hkt : k ≤ G.length + 1
          · have HG := fun W h => HGET.out k W (by omega) h
            by_cases h1 : k ≤ G.length - K.length
            · have hh : Nt.has G.length K.length k = false := by unfold Nt.has; simp; omega
              rw [hh, if_neg (by decide), show ntV Nt.zero = .agg #[.int .u64 0, .int .u8 0, .string ⟨#[]⟩] from rfl] at HG
              have d1 : decide ((G.length : Int) - (K.length : Int) < (k : Int)) = false := decide_eq_false (by omega)
              go_wp2_with fail
              refine (HTO.out _).mono ?_
              rintro e w7 ⟨rfl, b7⟩
              have HD7 := Lib.hid ((HD6.out.on HBJ.out).on b7)
              have HN7 := Lib.hid ((HN6.out.on HBJ.out).on b7)
              have HB7 := Lib.hid (bthen HBJ.out b7 (Nat.le_refl _))
              clear e0 e1 el b7
              have e0 := HD7.out.c0
              have e1 := HD7.out.c1
              have el := HD7.out.lt
              go_wp2_with fail
              refine (HG _ HN7.out).mono ?_
              rintro e w8 ⟨rfl, b8⟩
              have HD8 := Lib.hid (HD7.out.on b8)
              have HB8 := Lib.hid (bthen HB7.out b8 (Nat.le_refl _))
              clear e0 e1 el b8
              have e0 := HD8.out.c0
              have e1 := HD8.out.c1
              have el := HD8.out.lt
              have HA8 := Lib.hid (alloc1B w8 (.cells #[.int .u64 0, .int .u8 0, .string ⟨#[]⟩] 32))
              have HQ := Lib.hid (show (w8.alloc (.cells #[.int .u64 0, .int .u8 0, .string ⟨#[]⟩] 32)).cell? ⟨w8.heap.size, 0, none⟩ = some (.int .u64 0) ∧ (w8.alloc (.cells #[.int .u64 0, .int .u8 0, .string ⟨#[]⟩] 32)).cell? ⟨w8.heap.size, 1, none⟩ = some (.int .u8 0) ∧ (w8.alloc (.cells #[.int .u64 0, .int .u8 0, .string ⟨#[]⟩] 32)).cell? ⟨w8.heap.size, 2, none⟩ = some (.string ⟨#[]⟩) from ⟨cell_new _ _ _ _ _ rfl, cell_new _ _ _ _ _ rfl, cell_new _ _ _ _ _ rfl⟩)
              skip
              have HB9 := Lib.hid (bthen HB8.out HA8.out (Nat.le_refl _))
              have q0 := HQ.out.1
              have q1 := HQ.out.2.1
              have q2 := HQ.out.2.2
              clear e0 e1
              go_wp2_with fail
              go_quiet (fail)
              go_wp2_with fail
              go_roundg (gk - 1)
              case rel => exact ⟨k + 1, by have := HJ.out; omega, by go_num, HB9.out.trans ⟨rfl, rfl, rfl, Nat.le_refl _, fun _ _ => rfl⟩⟩
              case measure => have := HJ.out; omega
            · have d1 : decide ((G.length : Int) - (K.length : Int) < (k : Int)) = true := decide_eq_true (by omega)
              by_cases h2 : k ≤ G.length
              · have hh : Nt.has G.length K.length k = true := by unfold Nt.has; simp; omega
                rw [hh, if_pos rfl] at HG
                have d2 : decide ((k : Int) ≤ (G.length : Int)) = true := decide_eq_true (by omega)
                obtain ⟨i, hi, hik, hin⟩ : ∃ i, i < K.length ∧ (k : Int) - ((G.length : Int) - (K.length : Int)) - 1 = (i : Int) ∧ k - (G.length - K.length) - 1 = i := ⟨k - (G.length - K.length) - 1, by omega, by omega, rfl⟩
                rw [hin] at HG
                obtain ⟨x, hx⟩ : ∃ x, K.getD i Nt.zero = x := ⟨_, rfl⟩
                rw [hx] at HG
                clear hin
                go_wp2_with fail
                refine (HTO.out _).mono ?_
                rintro e w7 ⟨rfl, b7⟩
                have HD7 := Lib.hid ((HD6.out.on HBJ.out).on b7)
                have HN7 := Lib.hid ((HN6.out.on HBJ.out).on b7)
                have HB7 := Lib.hid (bthen HBJ.out b7 (Nat.le_refl _))
                clear e0 e1 el b7
                have e0 := HD7.out.c0
                have e1 := HD7.out.c1
                have el := HD7.out.lt
                go_wp2_with fail
                refine (HG _ HN7.out).mono ?_
                rintro e w8 ⟨rfl, b8⟩
                have HD8 := Lib.hid (HD7.out.on b8)
                have HB8 := Lib.hid (bthen HB7.out b8 (Nat.le_refl _))
                clear e0 e1 el b8
                have e0 := HD8.out.c0
                have e1 := HD8.out.c1
                have el := HD8.out.lt
                have HA8 := Lib.hid (alloc1B w8 (.cells #[.int .u64 (x.t : Int), .int .u8 (x.k : Int), .string (ofL x.b)] 32))
                have HQ := Lib.hid (show (w8.alloc (.cells #[.int .u64 (x.t : Int), .int .u8 (x.k : Int), .string (ofL x.b)] 32)).cell? ⟨w8.heap.size, 0, none⟩ = some (.int .u64 (x.t : Int)) ∧ (w8.alloc (.cells #[.int .u64 (x.t : Int), .int .u8 (x.k : Int), .string (ofL x.b)] 32)).cell? ⟨w8.heap.size, 1, none⟩ = some (.int .u8 (x.k : Int)) ∧ (w8.alloc (.cells #[.int .u64 (x.t : Int), .int .u8 (x.k : Int), .string (ofL x.b)] 32)).cell? ⟨w8.heap.size, 2, none⟩ = some (.string (ofL x.b)) from ⟨cell_new _ _ _ _ _ rfl, cell_new _ _ _ _ _ rfl, cell_new _ _ _ _ _ rfl⟩)
                simp only [ntV]
                go_wp2_with fail
                refine (HTO.out _).mono ?_
                rintro e w9 ⟨rfl, b9⟩
                have q0 := (b9.cell (p := ⟨w8.heap.size, 0, none⟩) (by simp)).trans HQ.out.1
                have q1 := (b9.cell (p := ⟨w8.heap.size, 1, none⟩) (by simp)).trans HQ.out.2.1
                have q2 := (b9.cell (p := ⟨w8.heap.size, 2, none⟩) (by simp)).trans HQ.out.2.2
                have HB9 := Lib.hid (bthen (bthen HB8.out HA8.out (Nat.le_refl _)) b9 (Nat.le_refl _))
                have ql : w8.heap.size < w9.heap.size := Nat.lt_of_lt_of_le (by simp) b9.size
                obtain ⟨b3, o3, e3, hb3, z0, z1, z2⟩ := (HK6.out.on HB9.out).get hi
                subst e3
                rw [hx] at z0 z1 z2
                clear e0 e1 el b9
                go_wp2_with fail
                go_quiet (fail)
                go_wp2_with fail
                go_roundg (gk - 1)
                case rel => exact ⟨k + 1, by have := HJ.out; omega, by go_num, HB9.out.trans ⟨rfl, rfl, rfl, Nat.le_refl _, fun _ _ => rfl⟩⟩
                case measure => have := HJ.out; omega
              · have hh : Nt.has G.length K.length k = false := by unfold Nt.has; simp; omega
                rw [hh, if_neg (by decide), show ntV Nt.zero = .agg #[.int .u64 0, .int .u8 0, .string ⟨#[]⟩] from rfl] at HG
                have d2 : decide ((k : Int) ≤ (G.length : Int)) = false := decide_eq_false (by omega)
                go_wp2_with fail
                refine (HTO.out _).mono ?_
                rintro e w7 ⟨rfl, b7⟩
                have HD7 := Lib.hid ((HD6.out.on HBJ.out).on b7)
                have HN7 := Lib.hid ((HN6.out.on HBJ.out).on b7)
                have HB7 := Lib.hid (bthen HBJ.out b7 (Nat.le_refl _))
                clear e0 e1 el b7
                have e0 := HD7.out.c0
                have e1 := HD7.out.c1
                have el := HD7.out.lt
                go_wp2_with fail
                refine (HG _ HN7.out).mono ?_
                rintro e w8 ⟨rfl, b8⟩
                have HD8 := Lib.hid (HD7.out.on b8)
                have HB8 := Lib.hid (bthen HB7.out b8 (Nat.le_refl _))
                clear e0 e1 el b8
                have e0 := HD8.out.c0
                have e1 := HD8.out.c1
                have el := HD8.out.lt
                have HA8 := Lib.hid (alloc1B w8 (.cells #[.int .u64 0, .int .u8 0, .string ⟨#[]⟩] 32))
                have HQ := Lib.hid (show (w8.alloc (.cells #[.int .u64 0, .int .u8 0, .string ⟨#[]⟩] 32)).cell? ⟨w8.heap.size, 0, none⟩ = some (.int .u64 0) ∧ (w8.alloc (.cells #[.int .u64 0, .int .u8 0, .string ⟨#[]⟩] 32)).cell? ⟨w8.heap.size, 1, none⟩ = some (.int .u8 0) ∧ (w8.alloc (.cells #[.int .u64 0, .int .u8 0, .string ⟨#[]⟩] 32)).cell? ⟨w8.heap.size, 2, none⟩ = some (.string ⟨#[]⟩) from ⟨cell_new _ _ _ _ _ rfl, cell_new _ _ _ _ _ rfl, cell_new _ _ _ _ _ rfl⟩)
                skip
                go_wp2_with fail
                refine (HTO.out _).mono ?_
                rintro e w9 ⟨rfl, b9⟩
                have q0 := (b9.cell (p := ⟨w8.heap.size, 0, none⟩) (by simp)).trans HQ.out.1
                have q1 := (b9.cell (p := ⟨w8.heap.size, 1, none⟩) (by simp)).trans HQ.out.2.1
                have q2 := (b9.cell (p := ⟨w8.heap.size, 2, none⟩) (by simp)).trans HQ.out.2.2
                have HB9 := Lib.hid (bthen (bthen HB8.out HA8.out (Nat.le_refl _)) b9 (Nat.le_refl _))
                have ql : w8.heap.size < w9.heap.size := Nat.lt_of_lt_of_le (by simp) b9.size
                clear e0 e1 el b9
                go_wp2_with fail
                go_quiet (fail)
                go_wp2_with fail
                go_roundg (gk - 1)
                case rel => exact ⟨k + 1, by have := HJ.out; omega, by go_num, HB9.out.trans ⟨rfl, rfl, rfl, Nat.le_refl _, fun _ _ => rfl⟩⟩
                case measure => have := HJ.out; omega
          · go_wp2_with fail
            refine (HTO.out _).mono ?_
            rintro e w7 ⟨rfl, b7⟩
            have HB7 := Lib.hid (bthen HBJ.out b7 (Nat.le_refl _))
            clear b7
            go_wp2_with fail
            go_ret
            exact ⟨rfl, bthen HB6.out HB7.out (Nat.le_refl _)⟩
  · have HB3 := Lib.hid (bthen HB1.out b3 (Nat.le_refl _))
    clear b3
    go_wp2_with fail
    go_ret
    exact ⟨rfl, HB3.out⟩
end Go.Proofs.Ytabnkbdbbneihaa
