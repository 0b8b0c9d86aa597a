/-
  THE LAW ON FRAMES THAT WERE WRITTEN, walked.
-/
import Derived.Test.YtecgedbabcdfkaaDoorFdD
namespace Go.Proofs.YtecgedbabcdfkaaDoor
open Go.ChangeShapes Go.WideShapes Go.ChangeAt Go.RowKit

theorem frm_get (l : List Fr.Frame) (k : Nat) (h : k < l.length) : frm l k = l[k] := by unfold frm; rw [List.getD_eq_getElem?_getD, List.getElem?_eq_getElem h]; rfl
theorem encs_next (l : List Fr.Frame) (k : Nat) (h : k < l.length) : Fr.encs (l.take (k + 1)) = Fr.encs (l.take k) ++ Fr.encF (frm l k) := by
  unfold Fr.encs
  rw [List.take_succ_eq_append_getElem h, List.flatMap_append, frm_get l k h]
  simp
theorem encs_le (l : List Fr.Frame) (h : ∀ f ∈ l, f.b.length ≤ 200) : (Fr.encs l).length ≤ l.length * 209 := by
  induction l with
  | nil => simp [Fr.encs]
  | cons f l ih =>
    have h1 := h f (by simp)
    have h2 := ih (fun g hg => h g (List.mem_cons_of_mem _ hg))
    unfold Fr.encs at *
    rw [List.flatMap_cons, List.length_append, List.length_cons]
    rw [show (Fr.encF f).length = f.b.length + 9 from Fr.enc_length _ _ _]
    omega
theorem Frms.far {w w' : World} {A : Option Addr} {l : List Fr.Frame} (h : Frms w A l) (hb : Below w.heap.size w w') : Frms w' A l := h.on hb
def FfSt (w : World) (l : List Fr.Frame) (g : Nat) (s i : Value) (wr : World) : Prop :=
  ∃ k : Nat, k + g = l.length ∧ i = .int .i64 (k : Int) ∧ s = .string (ofL (Fr.encs (l.take k))) ∧ (∀ f ∈ l.take k, f.b.length ≤ 200) ∧ Below w.heap.size w wr
set_option maxRecDepth 100000 in
set_option maxHeartbeats 4000000 in
theorem frames_walk (A : Option Addr) (ca : Nat) (l : List Fr.Frame) (w : World) (hln : l.length ≤ 9223372036854775807) (hbn : ∀ f ∈ l, f.b.length ≤ 9223372036854775807) (hA : Frms w A l) (hT : Tab w) :
    Calls Tryd.prog 9 #[.slice A l.length ca] w fun e w' => e = .returned (.bool true) ∧ Below w.heap.size w w' := by
  have HT := Lib.hid hT
  have HA := Lib.hid hA
  have HAW := Lib.hid (fdAwake_any w hT)
  have HBN := Lib.hid hbn
  clear hT hA hbn
  by_cases h8 : 8 < l.length
  · go_enter Tryd.func9, Tryd.ntmps9
    go_wp2_with fail
    refine HAW.out.mono ?_
    rintro e w1 ⟨rfl, b1⟩
    have B1 := Lib.hid b1
    clear b1
    go_wp2_with fail
    go_ret
    exact ⟨rfl, B1.out⟩
  have HBy := Lib.hid (fun c k b W h1 h2 => fbytes_any c k b W h1 h2)
  go_enter Tryd.func9, Tryd.ntmps9
  go_wp2_with fail
  refine HAW.out.mono ?_
  rintro e w1 ⟨rfl, b1⟩
  have B1 := Lib.hid b1
  clear b1
  go_wp2_with fail
  go_loopg [3, 19] l.length (fun g s i wr => FfSt w l g s i wr)
  case atStart => exact ⟨0, by omega, rfl, rfl, fun f hf => by simp at hf, B1.out⟩
  case round =>
    obtain ⟨k, hk, rfl, rfl, hall, hB⟩ := hrel
    have HK := Lib.hid hk
    have HALL := Lib.hid hall
    have HB := Lib.hid hB
    clear hk hall hB
    have hsl := encs_le (l.take k) HALL.out
    have hs2 : (Fr.encs (l.take k)).length ≤ 3000 := by rw [List.length_take] at hsl; omega
    have hz : (ofL (Fr.encs (l.take k))).size ≤ 3000 := by rw [ofL_size]; exact hs2
    clear hsl
    by_cases hlt : k < l.length
    · obtain ⟨b, off, rfl, hb, hat⟩ := HA.out.at_ k hlt
      have hat2 := hat.below HB.out hb
      have l1 : b < wr.heap.size := Nat.lt_of_lt_of_le hb HB.out.size
      have hmem : frm l k ∈ l := by rw [frm_get l k hlt]; exact List.getElem_mem hlt
      have hfb := HBN.out _ hmem
      have HN := Lib.hid (encs_next l k hlt)
      have HTK := Lib.hid (show ∀ f ∈ l.take (k + 1), f ∈ l.take k ∨ f = frm l k from fun f hf => by
        rw [List.take_succ_eq_append_getElem hlt] at hf
        rcases List.mem_append.1 hf with h | h
        · exact Or.inl h
        · right; rw [frm_get l k hlt]; simpa using h)
      clear hat hmem
      generalize frm l k = f at *
      obtain ⟨fc, fk, fb⟩ := f
      simp only at hfb
      obtain ⟨c0, c1, c2⟩ := hat2
      simp only at c0 c1 c2
      have hzb : (ofL fb).size = fb.length := ofL_size fb
      by_cases hbig : 200 < fb.length
      · go_wp2_with fail
        go_ret
        exact ⟨rfl, HB.out.alloc HB.out.size _⟩
      · have hv : bytesV fc fk fb = .tuple #[.string (ofL (Fr.enc fc fk fb)), .int .i64 0] := if_pos (by omega)
        have HC := Lib.hid (fun W h => HBy.out fc fk fb W (by omega) h)
        rw [hv] at HC
        have hel := Fr.enc_length fc fk fb
        have hzE : (ofL (Fr.enc fc fk fb)).size = fb.length + 9 := by rw [ofL_size]; exact hel
        have hcat : ofL (Fr.encs (l.take k)) ++ ofL (Fr.enc fc fk fb) = ofL (Fr.encs (l.take (k + 1))) := by rw [HN.out]; exact ofL_app _ _
        have HCAT := Lib.hid hcat
        have HB2 := Lib.hid (HB.out.alloc HB.out.size (.cells #[.int .u8 (fc.toNat : Int), .int .u8 (fk.toNat : Int), .string (ofL fb)] 23))
        have HTr := Lib.hid (HT.out.below HB2.out HT.out.pos)
        clear hv hel hcat
        generalize Fr.enc fc fk fb = E at *
        go_wp2_with fail
        refine (HC.out _ HTr.out).mono ?_
        rintro e w2 ⟨rfl, b2⟩
        have HB3 := Lib.hid (bthen HB2.out b2 (Nat.le_refl _))
        clear b2
        go_wp2_with fail
        go_roundg (gk - 1)
        case rel => exact ⟨k + 1, by have := HK.out; omega, by go_num, by rw [← HCAT.out], fun f hf => by
          rcases HTK.out f hf with h | h
          · exact HALL.out f h
          · rw [h]; show fb.length ≤ 200; omega, HB3.out⟩
        case measure => have := HK.out; omega
    · have hkn : k = l.length := by have := HK.out; omega
      have htk : l.take k = l := by rw [hkn, List.take_length]
      rw [htk] at hz
      have hall := HALL.out
      rw [htk] at hall hs2
      have hf := Fr.feed_encs l (fun f hf => Nat.le_trans (hall f hf) (by decide))
      have T1 := Lib.hid (fun W h => take_ok [] (Fr.encs l) W (by simp only [List.length_nil]; omega) h)
      rw [List.nil_append, hf] at T1
      have T2 := Lib.hid (fun W h => take_ok [] [] W (by decide) h)
      rw [List.nil_append, Fr.feed_nil] at T2
      rw [show ofL [] = ⟨#[]⟩ from rfl] at T1 T2
      have HTr := Lib.hid (HT.out.below HB.out HT.out.pos)
      clear hall hf hkn
      rw [htk]
      clear htk
      generalize Fr.encs l = S at *
      go_wp2_with fail
      refine (T1.out _ HTr.out).mono ?_
      rintro e w2 ⟨A2, c2, rfl, hc2, -, hF, -, b2⟩
      rw [takeV0]
      have HF := Lib.hid (hF.on ((Below.refl _ _).alloc (Nat.le_refl _) (.cells #[.string ⟨#[]⟩, .int .i64 0] 45)))
      have HB2 := Lib.hid ((bthen HB.out b2 (Nat.le_refl _)).alloc (Nat.le_trans HB.out.size b2.size) (.cells #[.string ⟨#[]⟩, .int .i64 0] 45))
      have HD := Lib.hid (Duo.new w2 (.string ⟨#[]⟩) (.int .i64 0) 45)
      have HT2 := Lib.hid (HT.out.below HB2.out HT.out.pos)
      clear hF b2
      go_wp2_with fail
      refine (T2.out _ HT2.out).mono ?_
      rintro e w3 ⟨A3, c3, rfl, hc3, -, hF3, -, b3⟩
      rw [takeV0]
      simp only [List.length_nil]
      have HF3 := Lib.hid ((HF.out.on b3).on ((Below.refl _ _).alloc (Nat.le_refl _) (.cells #[.string ⟨#[]⟩, .int .i64 0] 45)))
      have HD3 := Lib.hid ((HD.out.on b3 HD.out.lt).on ((Below.refl _ _).alloc (Nat.le_refl _) (.cells #[.string ⟨#[]⟩, .int .i64 0] 45)) (Nat.lt_of_lt_of_le HD.out.lt b3.size))
      have HE3 := Lib.hid (Duo.new w3 (.string ⟨#[]⟩) (.int .i64 0) 45)
      have HB3 := Lib.hid ((bthen HB2.out b3 (Nat.le_refl _)).alloc (Nat.le_trans HB2.out.size b3.size) (.cells #[.string ⟨#[]⟩, .int .i64 0] 45))
      clear b3 hF3
      go_wp2_with fail
      refine (eqSelf_any A A2 ca c2 l _ (by omega) (HA.out.far HB3.out) HF3.out).mono ?_
      rintro e w4 ⟨rfl, b4⟩
      have HD4 := Lib.hid (HD3.out.on b4 HD3.out.lt)
      have HE4 := Lib.hid (HE3.out.on b4 HE3.out.lt)
      have HB4 := Lib.hid (bthen HB3.out b4 (Nat.le_refl _))
      clear b4
      have d0 := HD4.out.c0
      have d1 := HD4.out.c1
      go_wp2_with fail
      refine (frest_any _ _ _).mono ?_
      rintro e w5 ⟨rfl, b5⟩
      have HD5 := Lib.hid (HD4.out.on b5 HD4.out.lt)
      have HE5 := Lib.hid (HE4.out.on b5 HE4.out.lt)
      have HB5 := Lib.hid (bthen HB4.out b5 (Nat.le_refl _))
      clear b5 d0 d1
      have d0 := HD5.out.c0
      have d1 := HD5.out.c1
      go_wp2_with fail
      refine (ferr_any _ _ _).mono ?_
      rintro e w6 ⟨rfl, b6⟩
      have HE6 := Lib.hid (HE5.out.on b6 HE5.out.lt)
      have HB6 := Lib.hid (bthen HB5.out b6 (Nat.le_refl _))
      clear b6 d0 d1
      have d0 := HE6.out.c0
      have d1 := HE6.out.c1
      go_wp2_with fail
      refine (frest_any _ _ _).mono ?_
      rintro e w7 ⟨rfl, b7⟩
      have HE7 := Lib.hid (HE6.out.on b7 HE6.out.lt)
      have HB7 := Lib.hid (bthen HB6.out b7 (Nat.le_refl _))
      clear b7 d0 d1
      have d0 := HE7.out.c0
      have d1 := HE7.out.c1
      go_wp2_with fail
      refine (ferr_any _ _ _).mono ?_
      rintro e w8 ⟨rfl, b8⟩
      have HB8 := Lib.hid (bthen HB7.out b8 (Nat.le_refl _))
      clear b8 d0 d1
      go_wp2_with fail
      go_ret
      exact ⟨rfl, HB8.out⟩
end Go.Proofs.YtecgedbabcdfkaaDoor
