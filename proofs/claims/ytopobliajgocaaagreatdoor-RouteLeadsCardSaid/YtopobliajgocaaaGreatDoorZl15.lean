/-
  WHICH MESSAGES GO BY A RULE: walked, the program's and the document's; rules held against each other.
-/
import Derived.Test.YtopobliajgocaaaGreatDoorZl10
import Derived.Test.YtopobliajgocaaaGreatDoorZl13
import Derived.Test.YtopobliajgocaaaGreatDoorZl14

section
namespace Go.Proofs.YtopobliajgocaaaGreatDoor
open Go.ChangeShapes Go.WideShapes Go.ChangeAt Go.RowKit
/-- does a message go? -/
def goesB (r : Ru) (key : List UInt8) (h : List Hd.Pr) : Bool :=
  if r.sort = 0 then r.key == key else if r.sort = 1 then true else if r.sort = 2 then Wrd.matches' (Wrd.words r.key) (Wrd.words key) else
  if r.all then r.want.all (hasP h) else r.want.any (hasP h)
theorem goes_0 {r : Ru} (h0 : r.sort = 0) (key : List UInt8) (h : List Hd.Pr) : goesB r key h = (r.key == key) := by unfold goesB; rw [if_pos h0]
theorem goes_1 {r : Ru} (h0 : r.sort = 1) (key : List UInt8) (h : List Hd.Pr) : goesB r key h = true := by unfold goesB; rw [if_neg (by omega), if_pos h0]
theorem goes_2 {r : Ru} (h0 : r.sort = 2) (key : List UInt8) (h : List Hd.Pr) : goesB r key h = Wrd.matches' (Wrd.words r.key) (Wrd.words key) := by unfold goesB; rw [if_neg (by omega), if_neg (by omega), if_pos h0]
theorem goes_3 {r : Ru} (h0 : r.sort = 3) (key : List UInt8) (h : List Hd.Pr) : goesB r key h = if r.all then r.want.all (hasP h) else r.want.any (hasP h) := by unfold goesB; rw [if_neg (by omega), if_neg (by omega), if_neg (by omega)]
set_option maxRecDepth 100000 in
set_option maxHeartbeats 8000000 in
theorem mGoes_any (r : Ru) (A : Option Addr) (c : Nat) (key : List UInt8) (h : List Hd.Pr) (B : Option Addr) (d : Nat) (w : World) (hr : RuOk w r A c) (hs : r.sort ≤ 3) (hk : key.length ≤ 90000) (hh : h.length ≤ 100000) (hp : Prs w B h) (hL : Len w) :
    Calls Tryz.prog 70 #[ruV r A c, .string (ofL key), .slice B h.length d] w fun e w' => e = .returned (.bool (goesB r key h)) ∧ Below w.heap.size w w' := by
  have HB0 := Lib.hid (show Below w.heap.size w (w.alloc (.cells #[.int .u8 (r.sort : Int), .string (ofL r.key), .slice A r.want.length c, .bool r.all] 106)) from (Below.refl _ _).alloc (Nat.le_refl _) _)
  have HX0 := Lib.hid (ruBox r A c w 106)
  have HL0 := Lib.hid (hL.on HB0.out)
  have HR0 := Lib.hid (hr.on HB0.out)
  have HP0 := Lib.hid (hp.on HB0.out)
  have hrk := hr.key
  have hrw := hr.len
  clear hr hp hL
  simp only [ruV]
  obtain h0 | h0 | h0 | h0 : r.sort = 0 ∨ r.sort = 1 ∨ r.sort = 2 ∨ r.sort = 3 := by omega
  · have HC := Lib.hid (goes_0 h0 key h)
    have hq := str_same key r.key
    rw [show (key == r.key) = (r.key == key) from Bool.beq_comm] at hq
    generalize (r.key == key) = M at *
    rw [h0]
    go_enter Tryz.func70, Tryz.ntmps70
    go_wp2_with fail
    go_ret
    exact ⟨ret_bool HC.out.symm, by have := HB0.out; rw [h0] at this; exact this⟩
  · have HC := Lib.hid (goes_1 h0 key h)
    rw [h0]
    go_enter Tryz.func70, Tryz.ntmps70
    go_wp2_with fail
    go_ret
    exact ⟨ret_bool HC.out.symm, by have := HB0.out; rw [h0] at this; exact this⟩
  · have HC := Lib.hid (goes_2 h0 key h)
    have HM := Lib.hid (fun W hL => matches_any r.key key W (by omega) (by omega) hL)
    generalize Wrd.matches' (Wrd.words r.key) (Wrd.words key) = M at *
    rw [h0] at HB0 HL0 ⊢
    go_enter Tryz.func70, Tryz.ntmps70
    go_wp2_with fail
    refine (HM.out _ HL0.out).mono ?_
    rintro e w1 ⟨rfl, b1⟩
    have HB1 := Lib.hid (bthen HB0.out b1 (Nat.le_refl _))
    clear b1
    go_wp2_with fail
    go_ret
    exact ⟨ret_bool HC.out.symm, HB1.out⟩
  · have HC := Lib.hid (goes_3 h0 key h)
    cases hall : r.all with
    | true =>
      rw [hall, if_pos rfl] at HC
      have HE := Lib.hid (fun W h1 h2 => hasEach_any h r.want B d A c W hh hrw h1 h2)
      generalize r.want.all (hasP h) = M at *
      rw [h0, hall] at HB0 HP0 HR0 HX0
      rw [h0]
      cases M with
      | true =>
        go_enter Tryz.func70, Tryz.ntmps70
        go_wp2_with fail
        refine (HE.out _ HP0.out HR0.out.row).mono ?_
        rintro e w1 ⟨rfl, b1⟩
        have HB1 := Lib.hid (bthen HB0.out b1 (Nat.le_refl _))
        clear b1
        go_wp2_with fail
        go_ret
        exact ⟨ret_bool HC.out.symm, HB1.out⟩
      | false =>
        go_enter Tryz.func70, Tryz.ntmps70
        go_wp2_with fail
        refine (HE.out _ HP0.out HR0.out.row).mono ?_
        rintro e w1 ⟨rfl, b1⟩
        have HB1 := Lib.hid (bthen HB0.out b1 (Nat.le_refl _))
        have hX1 := (HX0.out.on b1 (by simp))
        have hlt1 : w.heap.size < w1.heap.size := by have := b1.size; simp at this; omega
        have c3 := hX1 3 _ rfl
        rw [hall] at c3
        clear b1 hX1
        go_wp2_with fail
        go_ret
        exact ⟨ret_bool HC.out.symm, HB1.out⟩
    | false =>
      rw [hall, if_neg (by simp)] at HC
      have HO := Lib.hid (fun W h1 h2 => hasOne_any h r.want B d A c W hh hrw h1 h2)
      generalize r.want.any (hasP h) = M at *
      rw [h0, hall] at HB0 HP0 HR0
      rw [h0]
      go_enter Tryz.func70, Tryz.ntmps70
      go_wp2_with fail
      refine (HO.out _ HP0.out HR0.out.row).mono ?_
      rintro e w1 ⟨rfl, b1⟩
      have HB1 := Lib.hid (bthen HB0.out b1 (Nat.le_refl _))
      clear b1
      go_wp2_with fail
      go_ret
      exact ⟨ret_bool HC.out.symm, HB1.out⟩
theorem cnt_take (q : Hd.Pr → Bool) (l : List Hd.Pr) (k : Nat) (h : k < l.length) : (l.take (k + 1)).countP q = (l.take k).countP q + (if q (Hd.pr l k) then 1 else 0) := by
  rw [List.take_succ_eq_append_getElem h, List.countP_append, Hd.pr_at h]
  simp [List.countP_cons]
theorem cnt_all (q : Hd.Pr → Bool) (l : List Hd.Pr) : decide (((l.countP q : Nat) : Int) = (l.length : Int)) = l.all q := by
  rw [Bool.eq_iff_iff, decide_eq_true_iff, List.all_eq_true]
  rw [show (((l.countP q : Nat) : Int) = (l.length : Int)) ↔ l.countP q = l.length from ⟨fun h => by omega, fun h => by omega⟩]
  exact List.countP_eq_length
theorem cnt_any (q : Hd.Pr → Bool) (l : List Hd.Pr) : decide (0 < ((l.countP q : Nat) : Int)) = l.any q := by
  rw [Bool.eq_iff_iff, decide_eq_true_iff, List.any_eq_true]
  rw [show (0 < ((l.countP q : Nat) : Int)) ↔ 0 < l.countP q from ⟨fun h => by omega, fun h => by omega⟩]
  exact List.countP_pos_iff
/-- what the document's count keeps -/
def CntSt (r : Ru) (A : Option Addr) (c : Nat) (h : List Hd.Pr) (w : World) (n g : Nat) (v i : Value) (wr : World) : Prop :=
  ∃ k : Nat, k + g = n ∧ i = .int .i64 (k : Int) ∧ v = .int .i64 (((r.want.take k).countP (hasP h) : Nat) : Int) ∧ Cels wr w.heap.size (ruL r A c) ∧ w.heap.size < wr.heap.size ∧ Below w.heap.size w wr
set_option maxRecDepth 100000 in
set_option maxHeartbeats 8000000 in
theorem rGoes_any (r : Ru) (A : Option Addr) (c : Nat) (key : List UInt8) (h : List Hd.Pr) (B : Option Addr) (d : Nat) (w : World) (hr : RuOk w r A c) (hs : r.sort ≤ 3) (hk : key.length ≤ 90000) (hh : h.length ≤ 100000) (hp : Prs w B h) :
    Calls Tryz.prog 44 #[ruV r A c, .string (ofL key), .slice B h.length d] w fun e w' => e = .returned (.bool (goesB r key h)) ∧ Below w.heap.size w w' := by
  have HB0 := Lib.hid (show Below w.heap.size w (w.alloc (.cells #[.int .u8 (r.sort : Int), .string (ofL r.key), .slice A r.want.length c, .bool r.all] 88)) from (Below.refl _ _).alloc (Nat.le_refl _) _)
  have HX0 := Lib.hid (ruBox r A c w 88)
  have HR0 := Lib.hid (hr.on HB0.out)
  have HP0 := Lib.hid (hp.on HB0.out)
  have HRO := Lib.hid hr
  have HPO := Lib.hid hp
  have hrk := hr.key
  have hrw := hr.len
  clear hr hp
  simp only [ruV]
  obtain h0 | h0 | h0 | h0 : r.sort = 0 ∨ r.sort = 1 ∨ r.sort = 2 ∨ r.sort = 3 := by omega
  · have HC := Lib.hid (goes_0 h0 key h)
    have hq := str_same r.key key
    generalize (r.key == key) = M at *
    rw [h0]
    go_enter Tryz.func44, Tryz.ntmps44
    go_wp2_with fail
    go_ret
    exact ⟨ret_bool HC.out.symm, by have := HB0.out; rw [h0] at this; exact this⟩
  · have HC := Lib.hid (goes_1 h0 key h)
    rw [h0]
    go_enter Tryz.func44, Tryz.ntmps44
    go_wp2_with fail
    go_ret
    exact ⟨ret_bool HC.out.symm, by have := HB0.out; rw [h0] at this; exact this⟩
  · have HC := Lib.hid (goes_2 h0 key h)
    have HS1 := Lib.hid (fun W => rsplit_any r.key W (by omega))
    have HS2 := Lib.hid (fun W => rsplit_any key W (by omega))
    have hl1 := Wrd.words_len r.key
    have hl2 := Wrd.words_len key
    have HM := Lib.hid (fun pp q cp cq W h1 h2 => rmatches_any (Wrd.words r.key) (Wrd.words key) pp q cp cq W (by omega) (by omega) h1 h2)
    generalize Wrd.matches' (Wrd.words r.key) (Wrd.words key) = M at *
    rw [h0] at HB0 HX0 ⊢
    go_enter Tryz.func44, Tryz.ntmps44
    go_wp2_with fail
    refine (HS1.out _).mono ?_
    rintro e w1 ⟨v1, rfl, ho1, b1⟩
    obtain ⟨p1, c1, rfl, hr1⟩ := reads_own ho1
    have HR1 := Lib.hid hr1
    have HB1 := Lib.hid (bthen HB0.out b1 (Nat.le_refl _))
    clear b1 ho1 hr1
    go_wp2_with fail
    refine (HS2.out _).mono ?_
    rintro e w2 ⟨v2, rfl, ho2, b2⟩
    obtain ⟨p2, c2, rfl, hr2⟩ := reads_own ho2
    have HR2 := Lib.hid hr2
    have HR1b := Lib.hid (HR1.out.on b2)
    have HB2 := Lib.hid (bthen HB1.out b2 (Nat.le_refl _))
    clear b2 ho2 hr2
    go_wp2_with fail
    refine (HM.out _ _ _ _ _ HR1b.out HR2.out).mono ?_
    rintro e w3 ⟨rfl, b3⟩
    have HB3 := Lib.hid (bthen HB2.out b3 (Nat.le_refl _))
    clear b3
    go_wp2_with fail
    go_ret
    exact ⟨ret_bool HC.out.symm, HB3.out⟩
  · have HC := Lib.hid (goes_3 h0 key h)
    have HCA := Lib.hid (cnt_all (hasP h) r.want)
    have HCN := Lib.hid (cnt_any (hasP h) r.want)
    have HHAS := Lib.hid (fun x W h1 => rhas_any x h B d W hh h1)
    obtain ⟨n, hn⟩ : ∃ n, n = r.want.length := ⟨_, rfl⟩
    have HN := Lib.hid hn
    have hnl : n ≤ 100000 := by omega
    have HS3 := Lib.hid h0
    have e3 : (Value.int IntKind.u8 (r.sort : Int)) = .int .u8 3 := by rw [h0]; rfl
    rw [h0, ← hn] at HB0 HP0 HR0 HX0 ⊢
    clear h0 hn hs
    go_enter Tryz.func44, Tryz.ntmps44
    go_wp2_with fail
    generalize w.alloc (.cells #[.int .u8 3, .string (ofL r.key), .slice A n c, .bool r.all] 88) = w0 at *
    go_loopg [7, 32] n (fun g v i wr => CntSt r A c h w n g v i wr)
    case atStart => exact ⟨0, by omega, rfl, by simp, HX0.out, World.block_lt_of_cell? w0 _ (HX0.out 0 _ rfl), HB0.out⟩
    case round =>
      obtain ⟨k, hk2, rfl, rfl, hcel, hwl, hB⟩ := hrel
      have HCL := Lib.hid hcel
      have HBK := Lib.hid hB
      clear hcel hB
      by_cases hlt : k < n
      · have hkl : k < r.want.length := by have := HN.out; omega
        obtain ⟨b, off, rfl, hbl, hat⟩ := (HRO.out.row.on HBK.out).at_ k hkl
        have HCT := Lib.hid (cnt_take (hasP h) r.want k hkl)
        have HX1 := Lib.hid (HCL.out.on ((Below.refl wr.heap.size wr).alloc (Nat.le_refl _) (.cells #[.string (ofL (Hd.pr r.want k).key), .int .u8 ((Hd.pr r.want k).kind : Int), .int .i64 (Hd.pr r.want k).num, .string (ofL (Hd.pr r.want k).txt)] 83)) hwl)
        have HB1 := Lib.hid (HBK.out.alloc HBK.out.size (.cells #[.string (ofL (Hd.pr r.want k).key), .int .u8 ((Hd.pr r.want k).kind : Int), .int .i64 (Hd.pr r.want k).num, .string (ofL (Hd.pr r.want k).txt)] 83))
        have hcnt : (List.take k r.want).countP (hasP h) ≤ 100000 := Nat.le_trans (List.countP_le_length) (by rw [List.length_take]; omega)
        generalize (List.take k r.want).countP (hasP h) = cn at *
        generalize hcm : (List.take (k + 1) r.want).countP (hasP h) = cm at *
        have HCMN := Lib.hid hcm
        clear hcm
        generalize Hd.pr r.want k = x at *
        have HH := Lib.hid (fun W h1 => HHAS.out x W h1)
        have HPW := Lib.hid (HPO.out.on HB1.out)
        obtain ⟨x1, x2, x3, x4⟩ := x
        obtain ⟨c0, c1, c2, c3⟩ := hat
        simp only [prV] at HH c0 c1 c2 c3
        cases hq : hasP h ⟨x1, x2, x3, x4⟩ with
        | true =>
          have HCM := Lib.hid (show cm = cn + 1 by rw [HCT.out, hq]; rfl)
          rw [hq] at HH
          clear hq
          go_wp2_with fail
          refine (HH.out _ HPW.out).mono ?_
          rintro e w2 ⟨rfl, b2⟩
          have HX2 := Lib.hid (HX1.out.on b2 (by simp; omega))
          have HB2 := Lib.hid (bthen HB1.out b2 (Nat.le_refl _))
          have hwl2 : w.heap.size < w2.heap.size := by have := b2.size; simp at this; omega
          clear b2
          go_wp2_with fail
          go_roundg (gk - 1)
          case rel => exact ⟨k + 1, by omega, by go_num, by rw [HCMN.out, HCM.out]; go_num, HX2.out, hwl2, HB2.out⟩
          case measure => omega
        | false =>
          have HCM := Lib.hid (show cm = cn by rw [HCT.out, hq]; rfl)
          rw [hq] at HH
          clear hq
          go_wp2_with fail
          refine (HH.out _ HPW.out).mono ?_
          rintro e w2 ⟨rfl, b2⟩
          have HX2 := Lib.hid (HX1.out.on b2 (by simp; omega))
          have HB2 := Lib.hid (bthen HB1.out b2 (Nat.le_refl _))
          have hwl2 : w.heap.size < w2.heap.size := by have := b2.size; simp at this; omega
          clear b2
          go_wp2_with fail
          go_roundg (gk - 1)
          case rel => exact ⟨k + 1, by omega, by go_num, by rw [HCMN.out, HCM.out], HX2.out, hwl2, HB2.out⟩
          case measure => omega
      · have hkn : k = n := by omega
        have HCE := Lib.hid (show List.take k r.want = r.want from List.take_of_length_le (by have := HN.out; omega))
        rw [HCE.out]
        have hca := HCA.out
        have hcn := HCN.out
        rw [← HN.out] at hca
        have hcnt : r.want.countP (hasP h) ≤ 100000 := Nat.le_trans (List.countP_le_length) (by have := HN.out; omega)
        generalize r.want.countP (hasP h) = cn at *
        generalize r.want.all (hasP h) = MA at *
        generalize r.want.any (hasP h) = MO at *
        have c2 := HCL.out 2 _ rfl
        have c3 := HCL.out 3 _ rfl
        rw [← HN.out] at c2
        have hkk : ¬ k < n := hlt
        cases hall : r.all with
        | true =>
          have HCC := Lib.hid (show goesB r key h = MA by rw [HC.out, hall, if_pos rfl])
          have hb : (((cn : Nat) : Int) == ((n : Nat) : Int)) = MA := by rw [← hca, Bool.eq_iff_iff]; simp
          rw [hall] at c3
          clear hkn hca hcn
          go_wp2_with fail
          go_ret
          exact ⟨ret_bool HCC.out.symm, HBK.out⟩
        | false =>
          have HCC := Lib.hid (show goesB r key h = MO by rw [HC.out, hall, if_neg (by simp)])
          rw [hall] at c3
          clear hkn hca
          go_wp2_with fail
          go_ret
          exact ⟨ret_bool (by rw [HCC.out, ← hcn]; simp), HBK.out⟩
end Go.Proofs.YtopobliajgocaaaGreatDoor
end
