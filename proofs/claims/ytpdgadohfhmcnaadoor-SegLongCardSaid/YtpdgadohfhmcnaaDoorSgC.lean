/-
  RECORDS AS THEY STAND: the program's Bytes; what it reads of bytes.
-/
import Derived.Test.YtpdgadohfhmcnaaDoorSgB
import Derived.Test.YtpdgadohfhmcnaaDoorRow
namespace Go.Proofs.YtpdgadohfhmcnaaDoor
open Go.ChangeShapes Go.WideShapes Go.ChangeAt Go.RowKit

theorem sbat_on {B b : Nat} {p : Value} {bs : List Value} {w w' : World} (h : Lib.BuilderAt 47 5 B b p bs w) (hb : Below w.heap.size w w') : Lib.BuilderAt 47 5 B b p bs w' := by
  have hlt := h.lt
  obtain ⟨hB, v, hbk, hown, hne⟩ := h
  exact ⟨hB, v, (hb.block b hlt).trans hbk, Rw.own_on hown hb, hne⟩
theorem sb_on {B b : Nat} {l : List UInt8} {w w' : World} (h : Sb B b l w) (hb : Below w.heap.size w w') : Sb B b l w' := h.imp (fun h => sbat_on h hb) (fun h => sbat_on h hb)
/-- texts in memory -/
structure Sts (w : World) (A : Option Addr) (l : List (List UInt8)) : Prop where
  at_ : ∀ i, i < l.length → ∃ b off, A = some ⟨b, off, none⟩ ∧ b < w.heap.size ∧ w.cell? ⟨b, off + i, none⟩ = some (.string (ofL (l.getD i [])))
theorem Sts.on {w w' : World} {A : Option Addr} {l : List (List UInt8)} (h : Sts w A l) (hb : Below w.heap.size w w') : Sts w' A l := ⟨fun i hi => by
  obtain ⟨b, off, hA, hlt, hc⟩ := h.at_ i hi
  exact ⟨b, off, hA, Nat.lt_of_lt_of_le hlt hb.size, (hb.cell (p := ⟨b, off + i, none⟩) hlt).trans hc⟩⟩
/-- what is wrong with records first -/
def bcode : List (List UInt8) → Nat
  | [] => 0
  | r :: l => if Sg.rcode r ≠ 0 then Sg.rcode r else bcode l
theorem bcode_zero : ∀ {l : List (List UInt8)}, (∀ r ∈ l, Sg.Good r) → bcode l = 0
  | [], _ => rfl
  | r :: l, h => by
    show (if Sg.rcode r ≠ 0 then _ else _) = _
    rw [if_neg (by rw [Sg.rcode_good.2 (h r (by simp))]; simp)]
    exact bcode_zero fun x hx => h x (by simp [hx])
theorem bcode_good : ∀ {l : List (List UInt8)}, bcode l = 0 → ∀ r ∈ l, Sg.Good r
  | [], _, r, hr => by simp at hr
  | x :: l, h, r, hr => by
    have h' : (if Sg.rcode x ≠ 0 then Sg.rcode x else bcode l) = 0 := h
    by_cases hx : Sg.rcode x ≠ 0
    · rw [if_pos hx] at h'; exact absurd h' hx
    · rw [if_neg hx] at h'
      rcases List.mem_cons.1 hr with rfl | hr
      · exact Sg.rcode_good.1 (by omega)
      · exact bcode_good h' r hr
theorem bcode_first {l : List (List UInt8)} {k : Nat} (hk : k < l.length) (h : ∀ r ∈ l.take k, Sg.Good r) (hb : Sg.rcode (l.getD k []) ≠ 0) : bcode l = Sg.rcode (l.getD k []) := by
  induction l generalizing k with
  | nil => simp at hk
  | cons x l ih =>
    cases k with
    | zero => show (if Sg.rcode x ≠ 0 then _ else _) = _; rw [if_pos (by simpa using hb)]; rfl
    | succ k =>
      have hx : Sg.rcode x = 0 := Sg.rcode_good.2 (h x (by simp))
      show (if Sg.rcode x ≠ 0 then _ else _) = _
      rw [if_neg (by omega)]
      exact ih (by simpa using hk) (fun r hr => h r (by simp [hr])) (by simpa using hb)
/-- what seg.Bytes answers -/
def sbytesV (l : List (List UInt8)) : Value := if bcode l = 0 then .tuple #[.string (ofL (Sg.encs l)), .int .i64 0] else .tuple #[.string ⟨#[]⟩, .int .i64 (bcode l : Int)]
theorem encs_take {l : List (List UInt8)} {k : Nat} (h : k < l.length) : Sg.encs (l.take (k + 1)) = Sg.encs (l.take k) ++ Sg.enc (l.getD k []) := by
  unfold Sg.encs
  rw [List.take_succ_eq_append_getElem h, List.flatMap_append, List.getD_eq_getElem?_getD, List.getElem?_eq_getElem h]
  show _ ++ (Sg.enc l[k] ++ []) = _
  rw [List.append_nil]
  rfl
theorem encs_le {l : List (List UInt8)} {m : Nat} (h : ∀ r ∈ l, r.length ≤ m) : (Sg.encs l).length ≤ l.length * (m + 9) := by
  induction l with
  | nil => simp [Sg.encs]
  | cons x l ih =>
    have h1 := h x (by simp)
    have h2 := ih fun r hr => h r (by simp [hr])
    have e : (Sg.encs (x :: l)).length = x.length + 9 + (Sg.encs l).length := by simp [Sg.encs, Sg.enc_len]
    rw [e, List.length_cons, Nat.succ_mul]
    omega
def SbSt (w : World) (b : Nat) (l : List (List UInt8)) (g : Nat) (i : Value) (wr : World) : Prop :=
  ∃ k : Nat, k + g = l.length ∧ i = .int .i64 (k : Int) ∧ (∀ r ∈ l.take k, Sg.Good r) ∧ Sb w.heap.size b (Sg.encs (l.take k)) wr ∧ Below w.heap.size w wr
set_option maxRecDepth 100000 in
set_option maxHeartbeats 4000000 in
theorem sgBytes_any (A : Option Addr) (ca : Nat) (l : List (List UInt8)) (w : World) (hl : l.length ≤ 20) (hr : ∀ r ∈ l, r.length ≤ 200000) (hA : Sts w A l) (hT : Tab w) :
    Calls Tryd.prog 10 #[.slice A l.length ca] w fun e w' => e = .returned (sbytesV l) ∧ Below w.heap.size w w' := by
  have HA := Lib.hid hA
  have HT := Lib.hid hT
  have HRR := Lib.hid hr
  have HS0 := Lib.hid (sb_new w)
  have HB0 := Lib.hid ((Below.refl w.heap.size w).alloc (Nat.le_refl _) (.cells #[.pointer none, .slice none 0 0] 47))
  have HSW := Lib.hid (fun l s W h h1 h2 => sbWrite_any w.heap.size w.heap.size l s W h h1 h2)
  have HSS := Lib.hid (fun l W h h2 => sbStr_any w.heap.size w.heap.size l W h h2)
  clear hA hT hr
  go_enter Tryd.func10, Tryd.ntmps10
  go_wp2_with fail
  generalize w.alloc (.cells #[.pointer none, .slice none 0 0] 47) = w1 at *
  go_loopg [10] l.length (fun g i wr => SbSt w w.heap.size l g i wr)
  case atStart => exact ⟨0, by omega, rfl, (fun r hr => by simp at hr), HS0.out, HB0.out⟩
  case round =>
    obtain ⟨k, hk, rfl, hgood, hsb, hb⟩ := hrel
    have HK := Lib.hid hk
    have HG := Lib.hid hgood
    have HSB := Lib.hid hsb
    have HB := Lib.hid hb
    clear hk hgood hsb hb
    by_cases hlt : k < l.length
    · obtain ⟨b, off, rfl, hbl, x0⟩ := HA.out.at_ k hlt
      have y0 := (HB.out.cell (p := ⟨b, off + k, none⟩) hbl).trans x0
      have hmem : l.getD k [] ∈ l := by rw [List.getD_eq_getElem?_getD, List.getElem?_eq_getElem hlt]; exact List.getElem_mem hlt
      have hrk := HRR.out _ hmem
      have HEN := Lib.hid (encs_take hlt)
      have HLE := Lib.hid (show (Sg.encs (l.take k)).length ≤ 4000180 from by
        have h1 := encs_le (l := l.take k) (m := 200000) (fun r hr => HRR.out r (List.mem_of_mem_take hr))
        have h2 : (l.take k).length ≤ 20 := by rw [List.length_take]; omega
        have h3 : (l.take k).length * 200009 ≤ 20 * 200009 := Nat.mul_le_mul_right _ h2
        omega)
      have HFI := Lib.hid (bcode_first hlt HG.out)
      have HTK := Lib.hid (show ∀ r ∈ l.take (k + 1), r ∈ l.take k ∨ r = l.getD k [] from fun r hr => by
        rw [List.take_succ_eq_append_getElem hlt] at hr
        rcases List.mem_append.1 hr with h | h
        · exact .inl h
        · right; rw [List.getD_eq_getElem?_getD, List.getElem?_eq_getElem hlt]; simpa using h)
      clear x0 hbl hmem
      generalize l.getD k [] = x at *
      have hz : (ofL x).size = x.length := ofL_size x
      have hcv : IntKind.u64.wrap (x.length : Int) = (x.length : Int) := by rw [IntKind.wrap_u64]; omega
      have HCK := Lib.hid (fun W => sgCheck_any x.length W)
      rw [show (if x.length = 0 then 15 else if 131072 < x.length then 5 else 0) = Sg.rcode x from rfl] at HCK
      by_cases h0 : Sg.rcode x = 0
      · have HX := Lib.hid h0
        rw [h0] at HCK
        have HSTA := Lib.hid (fun W h => sgStand_any x W hrk h)
        have HEL := Lib.hid (show (Sg.enc x).length ≤ 200009 by rw [Sg.enc_len]; omega)
        clear h0 hrk
        go_wp2_with fail
        refine (HCK.out _).mono ?_
        rintro y w2 ⟨rfl, rfl⟩
        go_wp2_with fail
        refine (HSTA.out _ (HT.out.below HB.out HT.out.pos)).mono ?_
        rintro y w3 ⟨rfl, b3⟩
        have HB3 := Lib.hid (bthen HB.out b3 (Nat.le_refl _))
        have HSB3 := Lib.hid (show Sb w.heap.size w.heap.size (Sg.encs (l.take k)) w3 from sb_on HSB.out b3)
        clear b3
        go_wp2_with fail
        refine (HSW.out _ _ _ HSB3.out (by have := HLE.out; have := HEL.out; omega) HB3.out.size).mono ?_
        rintro y w4 ⟨rfl, hs4, b4⟩
        have HS4 := Lib.hid hs4
        have HB4 := Lib.hid (Below.trans HB3.out b4)
        clear hs4 b4
        go_wp2_with fail
        go_roundg (gk - 1)
        case rel => exact ⟨k + 1, by have := HK.out; omega, by go_num, fun r hr => (HTK.out r hr).elim (HG.out r) (fun e => e ▸ Sg.rcode_good.1 HX.out), by rw [HEN.out]; exact HS4.out, HB4.out⟩
        case measure => have := HK.out; omega
      · have HV := Lib.hid (show sbytesV l = .tuple #[.string ⟨#[]⟩, .int .i64 (Sg.rcode x : Int)] by unfold sbytesV; rw [HFI.out h0, if_neg h0])
        have hbn : ((Sg.rcode x : Int) != 0) = true := by simpa using h0
        generalize Sg.rcode x = cd at *
        clear h0 hrk
        go_wp2_with fail
        refine (HCK.out _).mono ?_
        rintro y w2 ⟨rfl, rfl⟩
        go_wp2_with fail
        go_ret2
        exact ⟨by rw [HV.out]; rfl, HB.out⟩
    · have e : l.take k = l := List.take_of_length_le (by omega)
      rw [e] at HSB HG
      have HV := Lib.hid (show sbytesV l = .tuple #[.string (ofL (Sg.encs l)), .int .i64 0] by unfold sbytesV; rw [if_pos (bcode_zero HG.out)])
      clear e
      go_wp2_with fail
      refine (HSS.out _ _ HSB.out HB.out.size).mono ?_
      rintro y w2 ⟨rfl, b2⟩
      have HB2 := Lib.hid (Below.trans HB.out b2)
      clear b2
      go_wp2_with fail
      go_ret2
      exact ⟨by rw [HV.out]; rfl, HB2.out⟩
end Go.Proofs.YtpdgadohfhmcnaaDoor
