/-
  REPLIES, ONE BEHIND THE OTHER: rows of replies in memory; the program's Bytes. REPLIES, ONE BEHIND THE OTHER: the document's Bytes.
-/
import Derived.Test.YtnjlhafhgfpfiaaGreatDoorRb44

section
namespace Go.Proofs.YtnjlhafhgfpfiaaGreatDoor
open Go.ChangeShapes Go.WideShapes Go.ChangeAt Go.RowKit
theorem ry_sb_on {B b : Nat} {l : List UInt8} {w w' : World} (h : Sb B b l w) (hb : Below w.heap.size w w') : Sb B b l w' := h.imp (fun h => by
  have hlt := h.lt
  obtain ⟨hB, v, hbk, hown, hne⟩ := h
  exact ⟨hB, v, (hb.block b hlt).trans hbk, Rw.own_on hown hb, hne⟩) (fun h => by
  have hlt := h.lt
  obtain ⟨hB, v, hbk, hown, hne⟩ := h
  exact ⟨hB, v, (hb.block b hlt).trans hbk, Rw.own_on hown hb, hne⟩)
/-- a reply, and where its pairs lie -/
structure Rp where
  x : Re
  A : Option Addr
  c : Nat
/-- replies in memory -/
structure Rpls (w : World) (A : Option Addr) (l : List Rp) : Prop where
  at_ : ∀ i (h : i < l.length), ∃ b off, A = some ⟨b, off, none⟩ ∧ b < w.heap.size ∧ ∀ j v, (reL l[i].x l[i].A l[i].c)[j]? = some v → w.cell? ⟨b, off + i * 13 + j, none⟩ = some v
  ok : ∀ p ∈ l, ReOk w p.x p.A p.c ∧ Re.Fits p.x ∧ (p.x.code = 0 → p.x.enc.length ≤ 2048)
theorem Rpls.on {w w' : World} {A : Option Addr} {l : List Rp} (h : Rpls w A l) (hb : Below w.heap.size w w') : Rpls w' A l := ⟨fun i hi => by
  obtain ⟨b, off, hA, hlt, hc⟩ := h.at_ i hi
  exact ⟨b, off, hA, Nat.lt_of_lt_of_le hlt hb.size, fun j v hv => (hb.cell (p := ⟨b, off + i * 13 + j, none⟩) hlt).trans (hc j v hv)⟩, fun p hp => by
  obtain ⟨h1, h2, h3⟩ := h.ok p hp
  exact ⟨h1.on hb, h2, h3⟩⟩
/-- what is written of a reply -/
def reBy (x : Re) : List UInt8 := if x.code = 0 then Fr.enc x.ch (Re.up x.kd) x.enc else []
def rBytes (l : List Rp) : List UInt8 := l.flatMap fun p => reBy p.x
theorem rBytes_take {l : List Rp} {k : Nat} (h : k < l.length) : rBytes (l.take (k + 1)) = rBytes (l.take k) ++ reBy l[k].x := by
  unfold rBytes
  rw [List.take_succ_eq_append_getElem h, List.flatMap_append]
  show _ ++ (reBy l[k].x ++ []) = _
  rw [List.append_nil]
theorem reBy_len {x : Re} (h : x.code = 0 → x.enc.length ≤ 2048) : (reBy x).length ≤ 3000 := by
  unfold reBy
  split
  · rename_i h0
    have := h h0
    rw [Fr.enc_length]; omega
  · exact Nat.zero_le _
theorem rBytes_le {l : List Rp} (h : ∀ p ∈ l, p.x.code = 0 → p.x.enc.length ≤ 2048) : (rBytes l).length ≤ l.length * 3000 := by
  induction l with
  | nil => simp [rBytes]
  | cons p l ih =>
    have h1 := reBy_len (h p (by simp))
    have h2 := ih fun q hq => h q (by simp [hq])
    have e : (rBytes (p :: l)).length = (reBy p.x).length + (rBytes l).length := by simp [rBytes]
    rw [e, List.length_cons, Nat.succ_mul]
    omega
def RplSt (w : World) (l : List Rp) (g : Nat) (i : Value) (wr : World) : Prop :=
  ∃ k : Nat, k + g = l.length ∧ i = .int .i64 (k : Int) ∧ Sb w.heap.size w.heap.size (rBytes (l.take k)) wr ∧ Below w.heap.size w wr
set_option maxRecDepth 100000 in
set_option maxHeartbeats 8000000 in
theorem reBytes_any (A : Option Addr) (ca : Nat) (l : List Rp) (w : World) (hl : l.length ≤ 1000) (hA : Rpls w A l) (hT : Tab w) (hL : Len w) :
    Calls Tryz.prog 8 #[.slice A l.length ca] w fun e w' => e = .returned (.string (ofL (rBytes l))) ∧ Below w.heap.size w w' := by
  have HA := Lib.hid hA
  have HT := Lib.hid hT
  have HL := Lib.hid hL
  have HS0 := Lib.hid (sb_new w)
  have HB0 := Lib.hid ((Below.refl w.heap.size w).alloc (Nat.le_refl _) (.cells #[.pointer none, .slice none 0 0] 63))
  have HSW := Lib.hid (fun l s W h h1 h2 => sbWrite_any w.heap.size w.heap.size l s W h h1 h2)
  have HSS := Lib.hid (fun l W h h2 => sbStr_any w.heap.size w.heap.size l W h h2)
  clear hA hT hL
  go_enter Tryz.func8, Tryz.ntmps8
  go_wp2_with fail
  generalize w.alloc (.cells #[.pointer none, .slice none 0 0] 63) = w1 at *
  go_loopg [12] l.length (fun g i wr => RplSt w l g i wr)
  case atStart => exact ⟨0, by omega, rfl, HS0.out, HB0.out⟩
  case round =>
    obtain ⟨k, hk, rfl, hsb, hb⟩ := hrel
    have HK := Lib.hid hk
    have HSB := Lib.hid hsb
    have HB := Lib.hid hb
    clear hk hsb hb
    by_cases hlt : k < l.length
    · obtain ⟨b, off, rfl, hbl, hc⟩ := HA.out.at_ k hlt
      have hok := HA.out.ok l[k] (List.getElem_mem hlt)
      have HTK := Lib.hid (rBytes_take hlt)
      have HLE := Lib.hid (show (rBytes (l.take k)).length ≤ 3000000 from by
        have h1 := rBytes_le (l := l.take k) (fun p hp => (HA.out.ok p (List.mem_of_mem_take hp)).2.2)
        have h2 : (l.take k).length ≤ 1000 := by rw [List.length_take]; omega
        omega)
      generalize l[k] = p at *
      obtain ⟨x, Ah, ch⟩ := p
      dsimp only at hc hok HTK
      have c0 := (HB.out.cell (p := ⟨b, off + k * 13 + 0, none⟩) hbl).trans (hc 0 _ rfl)
      have c1 := (HB.out.cell (p := ⟨b, off + k * 13 + 1, none⟩) hbl).trans (hc 1 _ rfl)
      have c2 := (HB.out.cell (p := ⟨b, off + k * 13 + 2, none⟩) hbl).trans (hc 2 _ rfl)
      have c3 := (HB.out.cell (p := ⟨b, off + k * 13 + 3, none⟩) hbl).trans (hc 3 _ rfl)
      have c4 := (HB.out.cell (p := ⟨b, off + k * 13 + 4, none⟩) hbl).trans (hc 4 _ rfl)
      have c5 := (HB.out.cell (p := ⟨b, off + k * 13 + 5, none⟩) hbl).trans (hc 5 _ rfl)
      have c6 := (HB.out.cell (p := ⟨b, off + k * 13 + 6, none⟩) hbl).trans (hc 6 _ rfl)
      have c7 := (HB.out.cell (p := ⟨b, off + k * 13 + 7, none⟩) hbl).trans (hc 7 _ rfl)
      have c8 := (HB.out.cell (p := ⟨b, off + k * 13 + 8, none⟩) hbl).trans (hc 8 _ rfl)
      have c9 := (HB.out.cell (p := ⟨b, off + k * 13 + 9, none⟩) hbl).trans (hc 9 _ rfl)
      have c10 := (HB.out.cell (p := ⟨b, off + k * 13 + 10, none⟩) hbl).trans (hc 10 _ rfl)
      have c11 := (HB.out.cell (p := ⟨b, off + k * 13 + 11, none⟩) hbl).trans (hc 11 _ rfl)
      have c12 := (HB.out.cell (p := ⟨b, off + k * 13 + 12, none⟩) hbl).trans (hc 12 _ rfl)
      rw [Nat.add_zero] at c0
      have HO := Lib.hid hok
      have HFR := Lib.hid (fun W h => re_Frame_any x Ah ch W (hok.1.on h) hok.2.1)
      have HX := Lib.hid (show Below w.heap.size w (wr.alloc (.cells (reL x Ah ch).toArray 30)) from HB.out.alloc HB.out.size _)
      clear hc hok hbl
      simp only [reV] at HFR
      have HSX := Lib.hid (show Sb w.heap.size w.heap.size (rBytes (l.take k)) (wr.alloc (.cells (reL x Ah ch).toArray 30)) from ry_sb_on HSB.out ((Below.refl _ _).alloc (Nat.le_refl _) _))
      by_cases h0 : x.code = 0
      · rw [show reFrameV x = .tuple #[.agg #[.int .u8 (x.ch.toNat : Int), .int .u8 ((Re.up x.kd).toNat : Int), .string (ofL x.enc)], .int .i64 0] by unfold reFrameV; rw [if_pos h0]] at HFR
        have h20 := HO.out.2.2 h0
        have HFB := Lib.hid (fun W h => fbytes_any x.ch (Re.up x.kd) x.enc W (by omega) h)
        rw [show bytesV x.ch (Re.up x.kd) x.enc = .tuple #[.string (ofL (Fr.enc x.ch (Re.up x.kd) x.enc)), .int .i64 0] from if_pos h20] at HFB
        have hby : reBy x = Fr.enc x.ch (Re.up x.kd) x.enc := by unfold reBy; rw [if_pos h0]
        rw [hby] at HTK
        have HEL := Lib.hid (show (Fr.enc x.ch (Re.up x.kd) x.enc).length ≤ 3000 by rw [Fr.enc_length]; omega)
        clear h0 hby h20 HO
        generalize Fr.enc x.ch (Re.up x.kd) x.enc = E at *
        go_wp2_with fail
        refine (HFR.out _ HX.out (HL.out.on HX.out)).mono ?_
        rintro y w2 ⟨rfl, b2⟩
        have HB2 := Lib.hid (bthen HX.out b2 (Nat.le_refl _))
        have HS2 := Lib.hid (ry_sb_on HSX.out b2)
        clear b2 c0 c1 c2 c3 c4 c5 c6 c7 c8 c9 c10 c11 c12
        have HB3 := Lib.hid (HB2.out.alloc HB2.out.size (.cells #[.int .u8 (x.ch.toNat : Int), .int .u8 ((Re.up x.kd).toNat : Int), .string (ofL x.enc)] 50))
        have HS3 := Lib.hid (ry_sb_on HS2.out ((Below.refl _ _).alloc (Nat.le_refl _) (.cells #[.int .u8 (x.ch.toNat : Int), .int .u8 ((Re.up x.kd).toNat : Int), .string (ofL x.enc)] 50)))
        go_wp2_with fail
        refine (HFB.out _ (HT.out.below HB3.out HT.out.pos)).mono ?_
        rintro y w4 ⟨rfl, b4⟩
        have HB4 := Lib.hid (bthen HB3.out b4 (Nat.le_refl _))
        have HS4 := Lib.hid (ry_sb_on HS3.out b4)
        clear b4
        go_wp2_with fail
        refine (HSW.out _ _ _ HS4.out (by have := HLE.out; have := HEL.out; omega) HB4.out.size).mono ?_
        rintro y w5 ⟨rfl, hs5, b5⟩
        have HS5 := Lib.hid hs5
        have HB5 := Lib.hid (Below.trans HB4.out b5)
        clear hs5 b5
        go_wp2_with fail
        go_roundg (gk - 1)
        case rel => exact ⟨k + 1, by have := HK.out; omega, by go_num, by rw [HTK.out]; exact HS5.out, HB5.out⟩
        case measure => have := HK.out; omega
      · rw [show reFrameV x = .tuple #[.agg #[.int .u8 0, .int .u8 0, .string ⟨#[]⟩], .int .i64 (x.code : Int)] by unfold reFrameV; rw [if_neg h0]] at HFR
        have hby : reBy x = [] := by unfold reBy; rw [if_neg h0]
        rw [hby, List.append_nil] at HTK
        have hce : ((x.code : Int) == 0) = false := by simpa using h0
        clear h0 hby HO
        generalize x.code = cd at *
        go_wp2_with fail
        refine (HFR.out _ HX.out (HL.out.on HX.out)).mono ?_
        rintro y w2 ⟨rfl, b2⟩
        have HB2 := Lib.hid (bthen HX.out b2 (Nat.le_refl _))
        have HS2 := Lib.hid (ry_sb_on HSX.out b2)
        clear b2 c0 c1 c2 c3 c4 c5 c6 c7 c8 c9 c10 c11 c12
        have HB3 := Lib.hid (HB2.out.alloc HB2.out.size (.cells #[.int .u8 0, .int .u8 0, .string ⟨#[]⟩] 50))
        have HS3 := Lib.hid (ry_sb_on HS2.out ((Below.refl _ _).alloc (Nat.le_refl _) (.cells #[.int .u8 0, .int .u8 0, .string ⟨#[]⟩] 50)))
        go_wp2_with fail
        go_roundg (gk - 1)
        case rel => exact ⟨k + 1, by have := HK.out; omega, by go_num, by rw [HTK.out]; exact HS3.out, HB3.out⟩
        case measure => have := HK.out; omega
    · have e : l.take k = l := List.take_of_length_le (by omega)
      rw [e] at HSB
      clear e
      go_wp2_with fail
      refine (HSS.out _ _ HSB.out HB.out.size).mono ?_
      rintro y w2 ⟨rfl, b2⟩
      have HB2 := Lib.hid (Below.trans HB.out b2)
      clear b2
      go_wp2_with fail
      go_ret
      exact ⟨rfl, HB2.out⟩
end Go.Proofs.YtnjlhafhgfpfiaaGreatDoor
end
section
namespace Go.Proofs.YtnjlhafhgfpfiaaGreatDoor
open Go.ChangeShapes Go.WideShapes Go.ChangeAt Go.RowKit
def RyrSt (w : World) (l : List Rp) (g : Nat) (v i : Value) (wr : World) : Prop :=
  ∃ k : Nat, k + g = l.length ∧ i = .int .i64 (k : Int) ∧ v = .string (ofL (rBytes (l.take k))) ∧ Below w.heap.size w wr
set_option maxRecDepth 100000 in
set_option maxHeartbeats 8000000 in
theorem r12Bytes_any (A : Option Addr) (ca : Nat) (l : List Rp) (w : World) (hl : l.length ≤ 1000) (hA : Rpls w A l) :
    Calls Tryz.prog 9 #[.slice A l.length ca] w fun e w' => e = .returned (.string (ofL (rBytes l))) ∧ Below w.heap.size w w' := by
  have HA := Lib.hid hA
  clear hA
  go_enter Tryz.func9, Tryz.ntmps9
  go_wp2_with fail
  go_loopg [3, 8] l.length (fun g v i wr => RyrSt w l g v i wr)
  case atStart => exact ⟨0, by omega, rfl, rfl, Below.refl _ _⟩
  case round =>
    obtain ⟨k, hk, rfl, rfl, hb⟩ := hrel
    have HK := Lib.hid hk
    have HB := Lib.hid hb
    clear hk hb
    by_cases hlt : k < l.length
    · obtain ⟨b, off, rfl, hbl, hc⟩ := HA.out.at_ k hlt
      have hok := HA.out.ok l[k] (List.getElem_mem hlt)
      have HTK := Lib.hid (rBytes_take hlt)
      have HLE := Lib.hid (show (rBytes (l.take k)).length ≤ 3000000 from by
        have h1 := rBytes_le (l := l.take k) (fun p hp => (HA.out.ok p (List.mem_of_mem_take hp)).2.2)
        have h2 : (l.take k).length ≤ 1000 := by rw [List.length_take]; omega
        omega)
      generalize l[k] = p at *
      obtain ⟨x, Ah, ch⟩ := p
      dsimp only at hc hok HTK
      have c0 := (HB.out.cell (p := ⟨b, off + k * 13 + 0, none⟩) hbl).trans (hc 0 _ rfl)
      have c1 := (HB.out.cell (p := ⟨b, off + k * 13 + 1, none⟩) hbl).trans (hc 1 _ rfl)
      have c2 := (HB.out.cell (p := ⟨b, off + k * 13 + 2, none⟩) hbl).trans (hc 2 _ rfl)
      have c3 := (HB.out.cell (p := ⟨b, off + k * 13 + 3, none⟩) hbl).trans (hc 3 _ rfl)
      have c4 := (HB.out.cell (p := ⟨b, off + k * 13 + 4, none⟩) hbl).trans (hc 4 _ rfl)
      have c5 := (HB.out.cell (p := ⟨b, off + k * 13 + 5, none⟩) hbl).trans (hc 5 _ rfl)
      have c6 := (HB.out.cell (p := ⟨b, off + k * 13 + 6, none⟩) hbl).trans (hc 6 _ rfl)
      have c7 := (HB.out.cell (p := ⟨b, off + k * 13 + 7, none⟩) hbl).trans (hc 7 _ rfl)
      have c8 := (HB.out.cell (p := ⟨b, off + k * 13 + 8, none⟩) hbl).trans (hc 8 _ rfl)
      have c9 := (HB.out.cell (p := ⟨b, off + k * 13 + 9, none⟩) hbl).trans (hc 9 _ rfl)
      have c10 := (HB.out.cell (p := ⟨b, off + k * 13 + 10, none⟩) hbl).trans (hc 10 _ rfl)
      have c11 := (HB.out.cell (p := ⟨b, off + k * 13 + 11, none⟩) hbl).trans (hc 11 _ rfl)
      have c12 := (HB.out.cell (p := ⟨b, off + k * 13 + 12, none⟩) hbl).trans (hc 12 _ rfl)
      rw [Nat.add_zero] at c0
      have HO := Lib.hid hok
      have HCK := Lib.hid (fun W h => r12Check_any x Ah ch W (hok.1.on h))
      have HX := Lib.hid (show Below w.heap.size w (wr.alloc (.cells (reL x Ah ch).toArray 33)) from HB.out.alloc HB.out.size _)
      have HN := Lib.hid (heap_alloc_new wr (.cells (reL x Ah ch).toArray 33))
      have HNL := Lib.hid (show wr.heap.size < (wr.alloc (.cells (reL x Ah ch).toArray 33)).heap.size by simp)
      have hs1 : (ofL (rBytes (l.take k))).size ≤ 3000000 := by rw [ofL_size]; exact HLE.out
      simp only [reV] at HCK
      by_cases h0 : x.code = 0
      · have hce : ((x.code : Int) == 0) = true := by simpa using h0
        have h20 := hok.2.2 h0
        have HFR := Lib.hid (fun W h => r12Frame_any x Ah ch W (hok.1.on h) hok.2.1 h0)
        have HFB := Lib.hid (fun W => rbytes_any x.ch (Re.up x.kd) x.enc W h20)
        have hby : reBy x = Fr.enc x.ch (Re.up x.kd) x.enc := by unfold reBy; rw [if_pos h0]
        rw [hby] at HTK
        have hs2 : (ofL (Fr.enc x.ch (Re.up x.kd) x.enc)).size ≤ 3000 := by rw [ofL_size, Fr.enc_length]; omega
        have HE := Lib.hid (show ofL (rBytes (l.take k)) ++ ofL (Fr.enc x.ch (Re.up x.kd) x.enc) = ofL (rBytes (l.take (k + 1))) by rw [HTK.out, ofL_app])
        simp only [reV, rfV] at HFR
        clear hc hok hbl h0 hby h20 HO
        generalize ofL (Fr.enc x.ch (Re.up x.kd) x.enc) = q2 at *
        generalize ofL (rBytes (l.take k)) = q1 at *
        generalize x.code = cd at *
        go_wp2_with fail
        refine (HCK.out _ HX.out).mono ?_
        rintro y w2 ⟨rfl, b2⟩
        have HB2 := Lib.hid (bthen HX.out b2 (Nat.le_refl _))
        have hbx := (b2.block _ HNL.out).trans HN.out
        clear b2 c0 c1 c2 c3 c4 c5 c6 c7 c8 c9 c10 c11 c12
        have d0 : w2.cell? ⟨wr.heap.size, 0, none⟩ = some (.int .u8 (x.ch.toNat : Int)) := by rw [Lib.cell_of_heap hbx]; rfl
        have d1 : w2.cell? ⟨wr.heap.size, 1, none⟩ = some (.int .u8 (x.kd.toNat : Int)) := by rw [Lib.cell_of_heap hbx]; rfl
        have d2 : w2.cell? ⟨wr.heap.size, 2, none⟩ = some (.int .u64 (x.n : Int)) := by rw [Lib.cell_of_heap hbx]; rfl
        have d3 : w2.cell? ⟨wr.heap.size, 3, none⟩ = some (.int .u64 (x.m : Int)) := by rw [Lib.cell_of_heap hbx]; rfl
        have d4 : w2.cell? ⟨wr.heap.size, 4, none⟩ = some (.bool x.yes) := by rw [Lib.cell_of_heap hbx]; rfl
        have d5 : w2.cell? ⟨wr.heap.size, 5, none⟩ = some (.string (ofL x.name)) := by rw [Lib.cell_of_heap hbx]; rfl
        have d6 : w2.cell? ⟨wr.heap.size, 6, none⟩ = some (.int .u64 (x.id : Int)) := by rw [Lib.cell_of_heap hbx]; rfl
        have d7 : w2.cell? ⟨wr.heap.size, 7, none⟩ = some (.string (ofL x.shop)) := by rw [Lib.cell_of_heap hbx]; rfl
        have d8 : w2.cell? ⟨wr.heap.size, 8, none⟩ = some (.string (ofL x.key)) := by rw [Lib.cell_of_heap hbx]; rfl
        have d9 : w2.cell? ⟨wr.heap.size, 9, none⟩ = some (.slice Ah x.head.length ch) := by rw [Lib.cell_of_heap hbx]; rfl
        have d10 : w2.cell? ⟨wr.heap.size, 10, none⟩ = some (.string (ofL x.body)) := by rw [Lib.cell_of_heap hbx]; rfl
        have d11 : w2.cell? ⟨wr.heap.size, 11, none⟩ = some (.int .u64 (x.due : Int)) := by rw [Lib.cell_of_heap hbx]; rfl
        have d12 : w2.cell? ⟨wr.heap.size, 12, none⟩ = some (.int .u8 (x.hops : Int)) := by rw [Lib.cell_of_heap hbx]; rfl
        clear hbx
        go_wp2_with fail
        refine (HFR.out _ HB2.out).mono ?_
        rintro y w3 ⟨rfl, b3⟩
        have HB3 := Lib.hid (bthen HB2.out b3 (Nat.le_refl _))
        clear b3 d0 d1 d2 d3 d4 d5 d6 d7 d8 d9 d10 d11 d12
        go_wp2_with fail
        refine (HFB.out _).mono ?_
        rintro y w4 ⟨rfl, b4⟩
        have HB4 := Lib.hid (bthen HB3.out b4 (Nat.le_refl _))
        clear b4
        go_wp2_with fail
        go_roundg (gk - 1)
        case rel => exact ⟨k + 1, by have := HK.out; omega, by go_num, by rw [← HE.out], HB4.out⟩
        case measure => have := HK.out; omega
      · have hce : ((x.code : Int) == 0) = false := by simpa using h0
        have hby : reBy x = [] := by unfold reBy; rw [if_neg h0]
        rw [hby, List.append_nil] at HTK
        clear hc hok hbl h0 hby HO
        generalize x.code = cd at *
        go_wp2_with fail
        refine (HCK.out _ HX.out).mono ?_
        rintro y w2 ⟨rfl, b2⟩
        have HB2 := Lib.hid (bthen HX.out b2 (Nat.le_refl _))
        clear b2 c0 c1 c2 c3 c4 c5 c6 c7 c8 c9 c10 c11 c12
        go_wp2_with fail
        go_roundg (gk - 1)
        case rel => exact ⟨k + 1, by have := HK.out; omega, by go_num, by rw [HTK.out], HB2.out⟩
        case measure => have := HK.out; omega
    · have e : l.take k = l := List.take_of_length_le (by omega)
      rw [e]
      clear e
      go_wp2_with fail
      go_ret
      exact ⟨rfl, HB.out⟩
end Go.Proofs.YtnjlhafhgfpfiaaGreatDoor
end
