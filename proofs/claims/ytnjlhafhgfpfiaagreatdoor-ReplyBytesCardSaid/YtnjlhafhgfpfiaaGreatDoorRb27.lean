/-
  A REPLY's FRAME: walked.
-/
import Derived.Test.YtnjlhafhgfpfiaaGreatDoorRb26
import Derived.Deep.RegionHeld3
import Derived.Deep.DeepCutAuto
section
namespace Go.Proofs.YtnjlhafhgfpfiaaGreatDoor
open Go.ChangeShapes Go.WideShapes Go.ChangeAt Go.RowKit
theorem qrb27a (l : List Value) (i : Nat) (v : Value) : l.toArray.setIfInBounds i v = (l.set i v).toArray := by simp
theorem qrb27b (v u : Value) (l : List Value) : (v :: l).set 0 u = u :: l := rfl
theorem qrb27c (v u : Value) (n : Nat) (l : List Value) : (v :: l).set (n + 1) u = v :: l.set n u := rfl
def reFrameV (x : Re) : Value := if x.code = 0 then .tuple #[.agg #[.int .u8 (x.ch.toNat : Int), .int .u8 ((Re.up x.kd).toNat : Int), .string (ofL x.enc)], .int .i64 0] else .tuple #[.agg #[.int .u8 0, .int .u8 0, .string ⟨#[]⟩], .int .i64 (x.code : Int)]
theorem re_enc1_len {x : Re} {p : Nat} (hp : p < 8) (h : x.pcode p = 0) : (x.enc1 p).length ≤ 1000 := by
  rcases Re.lt8 hp with rfl | rfl | rfl | rfl | rfl | rfl | rfl | rfl
  · show (Oct.be 8 x.n).length ≤ 1000
    rw [Oct.length_be]; omega
  · show (Oct.be 8 x.m).length ≤ 1000
    rw [Oct.length_be]; omega
  · show (Pt.yesEnc x.yes).length ≤ 1000
    cases x.yes <;> decide
  · show (Oct.text x.name).length ≤ 1000
    unfold Oct.text
    rw [List.length_append, Oct.length_be]
    have := (Hd.name_ok_len (show Wrd.nameCode x.name = 0 from h)).1
    omega
  · show (Oct.text x.shop).length ≤ 1000
    unfold Oct.text
    rw [List.length_append, Oct.length_be]
    have := (Hd.name_ok_len (show Wrd.nameCode x.shop = 0 from h)).1
    omega
  · show (Oct.text x.key).length ≤ 1000
    unfold Oct.text
    rw [List.length_append, Oct.length_be]
    have := Re.key_len (show Wrd.keyCode [] x.key = 0 from h)
    omega
  · have h0 : Hd.hcode x.head = 0 := h
    have := (hfine_of h0).pre x.head.length
    rw [hpre_all (Nat.le_refl _)] at this
    exact this
  · show (Oct.text x.body).length ≤ 1000
    unfold Oct.text
    rw [List.length_append, Oct.length_be]
    have h0 : (if 256 < x.body.length then 5 else 0) = 0 := h
    by_cases hh : 256 < x.body.length
    · rw [if_pos hh] at h0; omega
    · omega
/-- the bytes of the parts ahead of part k -/
def rePre (x : Re) (l : List Nat) (k : Nat) : List UInt8 := (l.take k).flatMap x.enc1
theorem re_pre_all {x : Re} {l : List Nat} {k : Nat} (h : l.length ≤ k) : rePre x l k = l.flatMap x.enc1 := by unfold rePre; rw [List.take_of_length_le h]
theorem re_pre_next {x : Re} {l : List Nat} {k : Nat} (h : k < l.length) : rePre x l k ++ x.enc1 (l.getD k 0) = rePre x l (k + 1) := by
  unfold rePre
  rw [List.take_succ_eq_append_getElem h, List.flatMap_append, List.getD_eq_getElem?_getD, List.getElem?_eq_getElem h]
  simp
theorem re_flat_len {x : Re} : ∀ {l : List Nat}, (∀ p ∈ l, p < 8 ∧ x.pcode p = 0) → (l.flatMap x.enc1).length ≤ 1000 * l.length
  | [], _ => by simp
  | p :: l, h => by
    have h0 := h p (by simp)
    have h1 := re_enc1_len h0.1 h0.2
    have h2 := re_flat_len (x := x) (l := l) fun q hq => h q (by simp [hq])
    rw [List.flatMap_cons, List.length_append, List.length_cons]
    omega
theorem re_pre_len {x : Re} {l : List Nat} (k : Nat) (hl : l.length ≤ 7) (h : ∀ p ∈ l, p < 8 ∧ x.pcode p = 0) : (rePre x l k).length ≤ 100000 := by
  have := re_flat_len (x := x) (l := l.take k) fun p hp => h p (List.mem_of_mem_take hp)
  rw [List.length_take] at this
  unfold rePre
  omega
/-- while it is written: its box, the answer's, the Out's -/
structure ReFr (w : World) (x : Re) (A : Option Addr) (c : Nat) (g : Nat) (E : List UInt8) (ys : List Value) (W : World) : Prop where
  p : BoxC w w.heap.size (reL x A c) W
  q : BoxC w (w.heap.size + 1) ys W
  o : BoxC w g [.string (ofL E), .int .i64 0] W
  gp : w.heap.size + 1 < g
  B : Below w.heap.size w W
theorem ReFr.on {w : World} {x : Re} {A : Option Addr} {c g : Nat} {E : List UInt8} {ys : List Value} {W W' : World} (h : ReFr w x A c g E ys W) (hb : Below W.heap.size W W') : ReFr w x A c g E ys W' :=
  ⟨h.p.on hb, h.q.on hb, h.o.on hb, h.gp, bthen h.B hb (Nat.le_refl _)⟩
theorem ReFr.puto {w : World} {x : Re} {A : Option Addr} {c g : Nat} {E : List UInt8} {ys : List Value} {W : World} (h : ReFr w x A c g E ys W) (E2 : List UInt8) : ReFr w x A c g E2 ys ((W.setCell ⟨g, 0, none⟩ (.string (ofL E2))).setCell ⟨g, 1, none⟩ (.int .i64 0)) := by
  have hg := h.gp
  exact ⟨(h.p.aside (by omega) 0 _).aside (by omega) 1 _, (h.q.aside (by omega) 0 _).aside (by omega) 1 _, (h.o.put 0 _ (by simp)).put 1 _ (by simp), h.gp, (h.B.setCell h.o.ge _).setCell h.o.ge _⟩
theorem ReFr.putq {w : World} {x : Re} {A : Option Addr} {c g : Nat} {E : List UInt8} {a0 a1 a2 : Value} {W : World} (h : ReFr w x A c g E [a0, a1, a2] W) (v0 v1 v2 : Value) : ReFr w x A c g E [v0, v1, v2] (((W.setCell ⟨w.heap.size + 1, 0, none⟩ v0).setCell ⟨w.heap.size + 1, 1, none⟩ v1).setCell ⟨w.heap.size + 1, 2, none⟩ v2) := by
  have hg := h.gp
  exact ⟨((h.p.aside (by omega) 0 _).aside (by omega) 1 _).aside (by omega) 2 _, ((h.q.put 0 _ (by simp)).put 1 _ (by simp)).put 2 _ (by simp), ((h.o.aside (by omega) 0 _).aside (by omega) 1 _).aside (by omega) 2 _, h.gp, ((h.B.setCell h.q.ge _).setCell h.q.ge _).setCell h.q.ge _⟩
abbrev ReFrS (w : World) (x : Re) (A : Option Addr) (c : Nat) (g : Nat) (E : List UInt8) (W : World) : Prop :=
  (W.cell? ⟨w.heap.size, 0, none⟩ = some (.int .u8 (x.ch.toNat : Int)) ∧ W.cell? ⟨w.heap.size, 1, none⟩ = some (.int .u8 (x.kd.toNat : Int)) ∧ w.heap.size < W.heap.size ∧ W.cell? ⟨g, 0, none⟩ = some (.string (ofL E)) ∧ W.cell? ⟨g, 1, none⟩ = some (.int .i64 0) ∧ g < W.heap.size) ∧ ∃ ys, ReFr w x A c g E ys W
theorem ReFr.s {w : World} {x : Re} {A : Option Addr} {c g : Nat} {E : List UInt8} {ys : List Value} {W : World} (h : ReFr w x A c g E ys W) : ReFrS w x A c g E W :=
  ⟨⟨h.p.cs 0 _ rfl, h.p.cs 1 _ rfl, h.p.lt, h.o.cs 0 _ rfl, h.o.cs 1 _ rfl, h.o.lt⟩, ys, h⟩
/-- three boxes, one behind the other, calls between -/
theorem ReFr.start {w W1 : World} {x : Re} {A : Option Addr} {c : Nat} (hb : Below ((w.alloc (.cells #[.int .u8 (x.ch.toNat : Int), .int .u8 (x.kd.toNat : Int), .int .u64 (x.n : Int), .int .u64 (x.m : Int), .bool x.yes, .string (ofL x.name), .int .u64 (x.id : Int), .string (ofL x.shop), .string (ofL x.key), .slice A x.head.length c, .string (ofL x.body), .int .u64 (x.due : Int), .int .u8 (x.hops : Int)] 30)).alloc (.cells #[.int .u8 0, .int .u8 0, .string ⟨#[]⟩] 50)).heap.size ((w.alloc (.cells #[.int .u8 (x.ch.toNat : Int), .int .u8 (x.kd.toNat : Int), .int .u64 (x.n : Int), .int .u64 (x.m : Int), .bool x.yes, .string (ofL x.name), .int .u64 (x.id : Int), .string (ofL x.shop), .string (ofL x.key), .slice A x.head.length c, .string (ofL x.body), .int .u64 (x.due : Int), .int .u8 (x.hops : Int)] 30)).alloc (.cells #[.int .u8 0, .int .u8 0, .string ⟨#[]⟩] 50)) W1) :
    ReFr w x A c W1.heap.size [] [.int .u8 0, .int .u8 0, .string ⟨#[]⟩] (W1.alloc (.cells #[.string ⟨#[]⟩, .int .i64 0] 83)) := by
  have hs : w.heap.size + 1 + 1 ≤ W1.heap.size := by have := hb.size; simpa using this
  have h1 : BoxC w w.heap.size (reL x A c) (w.alloc (.cells #[.int .u8 (x.ch.toNat : Int), .int .u8 (x.kd.toNat : Int), .int .u64 (x.n : Int), .int .u64 (x.m : Int), .bool x.yes, .string (ofL x.name), .int .u64 (x.id : Int), .string (ofL x.shop), .string (ofL x.key), .slice A x.head.length c, .string (ofL x.body), .int .u64 (x.due : Int), .int .u8 (x.hops : Int)] 30)) := BoxC.new (Nat.le_refl _) #[.int .u8 (x.ch.toNat : Int), .int .u8 (x.kd.toNat : Int), .int .u64 (x.n : Int), .int .u64 (x.m : Int), .bool x.yes, .string (ofL x.name), .int .u64 (x.id : Int), .string (ofL x.shop), .string (ofL x.key), .slice A x.head.length c, .string (ofL x.body), .int .u64 (x.due : Int), .int .u8 (x.hops : Int)] 30
  have h2 : BoxC w (w.heap.size + 1) [.int .u8 0, .int .u8 0, .string ⟨#[]⟩] ((w.alloc (.cells #[.int .u8 (x.ch.toNat : Int), .int .u8 (x.kd.toNat : Int), .int .u64 (x.n : Int), .int .u64 (x.m : Int), .bool x.yes, .string (ofL x.name), .int .u64 (x.id : Int), .string (ofL x.shop), .string (ofL x.key), .slice A x.head.length c, .string (ofL x.body), .int .u64 (x.due : Int), .int .u8 (x.hops : Int)] 30)).alloc (.cells #[.int .u8 0, .int .u8 0, .string ⟨#[]⟩] 50)) := by
    have := BoxC.new (w := w) (W := (w.alloc (.cells #[.int .u8 (x.ch.toNat : Int), .int .u8 (x.kd.toNat : Int), .int .u64 (x.n : Int), .int .u64 (x.m : Int), .bool x.yes, .string (ofL x.name), .int .u64 (x.id : Int), .string (ofL x.shop), .string (ofL x.key), .slice A x.head.length c, .string (ofL x.body), .int .u64 (x.due : Int), .int .u8 (x.hops : Int)] 30))) (by simp) #[.int .u8 0, .int .u8 0, .string ⟨#[]⟩] 50
    simpa using this
  have hB : Below w.heap.size w W1 := bthen (((Below.refl _ _).alloc (Nat.le_refl _) _).alloc (by simp) _) hb (Nat.le_refl _)
  have ha : Below W1.heap.size W1 (W1.alloc (.cells #[.string ⟨#[]⟩, .int .i64 0] 83)) := (Below.refl _ _).alloc (Nat.le_refl _) _
  exact ⟨((h1.on ((Below.refl _ _).alloc (Nat.le_refl _) _)).on hb).on ha, (h2.on hb).on ha, BoxC.new hB.size #[.string ⟨#[]⟩, .int .i64 0] 83, by omega, bthen hB ha (Nat.le_refl _)⟩
set_option maxRecDepth 100000 in
set_option maxHeartbeats 4000000 in
theorem re_Frame_any (x : Re) (A : Option Addr) (c : Nat) (w : World) (h : ReOk w x A c) (hf : Re.Fits x) (hL : Len w) : Calls Tryz.prog 16 #[reV x A c] w fun e w' => e = .returned (reFrameV x) ∧ Below w.heap.size w w' := by
  have HBX := Lib.hid (show Below w.heap.size w ((w.alloc (.cells #[.int .u8 (x.ch.toNat : Int), .int .u8 (x.kd.toNat : Int), .int .u64 (x.n : Int), .int .u64 (x.m : Int), .bool x.yes, .string (ofL x.name), .int .u64 (x.id : Int), .string (ofL x.shop), .string (ofL x.key), .slice A x.head.length c, .string (ofL x.body), .int .u64 (x.due : Int), .int .u8 (x.hops : Int)] 30)).alloc (.cells #[.int .u8 0, .int .u8 0, .string ⟨#[]⟩] 50)) from ((Below.refl _ _).alloc (Nat.le_refl _) _).alloc (by simp) _)
  have HLX := Lib.hid (hL.on HBX.out)
  have HRX := Lib.hid (h.on HBX.out)
  have HR := Lib.hid h
  have HK := Lib.hid (fun W h1 h2 => re_Check_any x A c W h1 h2)
  have HT := Lib.hid (fun W => Re_tells_any x.kd.toNat W)
  have HV : Hid (reFrameV x = if x.code = 0 then .tuple #[.agg #[.int .u8 (x.ch.toNat : Int), .int .u8 ((Re.up x.kd).toNat : Int), .string (ofL x.enc)], .int .i64 0] else .tuple #[.agg #[.int .u8 0, .int .u8 0, .string ⟨#[]⟩], .int .i64 (x.code : Int)]) := rfl
  have HST := Lib.hid (fun W1 hb => ReFr.start (w := w) (W1 := W1) (x := x) (A := A) (c := c) hb)
  have HBQ := Lib.hid (show BoxC w (w.heap.size + 1) [.int .u8 0, .int .u8 0, .string ⟨#[]⟩] ((w.alloc (.cells #[.int .u8 (x.ch.toNat : Int), .int .u8 (x.kd.toNat : Int), .int .u64 (x.n : Int), .int .u64 (x.m : Int), .bool x.yes, .string (ofL x.name), .int .u64 (x.id : Int), .string (ofL x.shop), .string (ofL x.key), .slice A x.head.length c, .string (ofL x.body), .int .u64 (x.due : Int), .int .u8 (x.hops : Int)] 30)).alloc (.cells #[.int .u8 0, .int .u8 0, .string ⟨#[]⟩] 50)) by
    have := BoxC.new (w := w) (W := (w.alloc (.cells #[.int .u8 (x.ch.toNat : Int), .int .u8 (x.kd.toNat : Int), .int .u64 (x.n : Int), .int .u64 (x.m : Int), .bool x.yes, .string (ofL x.name), .int .u64 (x.id : Int), .string (ofL x.shop), .string (ofL x.key), .slice A x.head.length c, .string (ofL x.body), .int .u64 (x.due : Int), .int .u8 (x.hops : Int)] 30))) (by simp) #[.int .u8 0, .int .u8 0, .string ⟨#[]⟩] 50
    simpa using this)
  clear h hL
  simp only [reV] at HK ⊢
  by_cases h0 : x.code = 0
  · have HVV := Lib.hid (show reFrameV x = .tuple #[.agg #[.int .u8 (x.ch.toNat : Int), .int .u8 ((Re.up x.kd).toNat : Int), .string (ofL x.enc)], .int .i64 0] by rw [HV.out, if_pos h0])
    obtain ⟨hk20, -, hpc⟩ := Re.code_ok h0
    have HE : Hid (x.enc = (Re.tells x.kd.toNat).flatMap x.enc1) := rfl
    have HPC := Lib.hid (show ∀ p ∈ Re.tells x.kd.toNat, p < 8 ∧ x.pcode p = 0 from fun p hp => ⟨Re.tells_lt _ p hp, hpc p hp⟩)
    have hlen := Re.tells_len x.kd.toNat
    have HW := Lib.hid (fun p hp8 y W hy h1 hp => re_write_any x A c p hp8 y W hy h1 hf hp)
    simp only [reV] at HW
    rw [h0] at HK
    have hup : IntKind.u8.wrap (64 + (x.kd.toNat : Int)) = ((Re.up x.kd).toNat : Int) := by
      unfold Re.up
      rw [UInt8.toNat_add, show IntKind.u8.wrap (64 + (x.kd.toNat : Int)) = (64 + (x.kd.toNat : Int)) % 256 from rfl]
      show _ = (((64 + x.kd.toNat) % 256 : Nat) : Int)
      omega
    generalize Re.up x.kd = UP at *
    generalize x.enc = EN at *
    generalize reFrameV x = V at *
    generalize Re.tells x.kd.toNat = l at *
    clear h0 HV hpc hf hk20
    go_enter Tryz.func16, Tryz.ntmps16
    go_wp2_with fail
    refine (HK.out _ HRX.out HLX.out).mono ?_
    rintro e w1 ⟨rfl, b1⟩
    have HS0 := Lib.hid (HST.out w1 b1)
    have hS := HS0.out
    have c0 := hS.p.cs 0 _ rfl
    have c1 := hS.p.cs 1 _ rfl
    have c2 := hS.p.cs 2 _ rfl
    have c3 := hS.p.cs 3 _ rfl
    have c4 := hS.p.cs 4 _ rfl
    have c5 := hS.p.cs 5 _ rfl
    have c6 := hS.p.cs 6 _ rfl
    have c7 := hS.p.cs 7 _ rfl
    have c8 := hS.p.cs 8 _ rfl
    have c9 := hS.p.cs 9 _ rfl
    have c10 := hS.p.cs 10 _ rfl
    have c11 := hS.p.cs 11 _ rfl
    have c12 := hS.p.cs 12 _ rfl
    clear b1 HST HK hS
    go_wp2_with fail
    generalize w1.alloc (.cells #[.string ⟨#[]⟩, .int .i64 0] 83) = w2 at *
    generalize w1.heap.size = g at *
    refine (HT.out _).mono ?_
    rintro e w3 ⟨T, tc, rfl, hp3, b3, hTn⟩
    have HS3 := Lib.hid (HS0.out.on b3)
    have HTG := Lib.hid (show ∀ a, T = some a → g ≠ a.block from fun a ha => by have := hTn a ha; have := HS0.out.o.lt; omega)
    have HP3 := Lib.hid hp3
    clear hp3 b3 hTn c0 c1 c2 c3 c4 c5 c6 c7 c8 c9 c10 c11 c12 HS0 HT
    obtain ⟨n, hn⟩ : ∃ n, n = l.length := ⟨_, rfl⟩
    have HN := Lib.hid hn
    rw [← hn] at hlen ⊢
    clear hn
    go_wp2_with fail
    go_loopg [18] n (fun gk i wr => ∃ k : Nat, k + gk = n ∧ i = .int .i64 (k : Int) ∧ ReFr w x A c g (rePre x l k) [.int .u8 0, .int .u8 0, .string ⟨#[]⟩] wr ∧ Parts wr T l)
    case atStart => exact ⟨0, by omega, rfl, HS3.out, HP3.out⟩
    case round =>
      obtain ⟨k, hk, rfl, hS, hP⟩ := hrel
      have HS := Lib.hid hS
      have HP := Lib.hid hP
      clear HS3 HP3
      by_cases hlt : k < n
      · have hkl : k < l.length := by have := HN.out; omega
        obtain ⟨b, rfl, hbl, hat⟩ := HP.out.at_ hkl
        have hmem : l.getD k 0 ∈ l := by rw [List.getD_eq_getElem?_getD, List.getElem?_eq_getElem hkl]; exact List.getElem_mem hkl
        have hpp := HPC.out _ hmem
        have hy := re_pre_len (x := x) (l := l) k (by have := HN.out; omega) HPC.out
        have HWC := Lib.hid (fun W h1 => HW.out (l.getD k 0) hpp.1 (rePre x l k) W hy h1 hpp.2)
        have hnx := re_pre_next (x := x) (l := l) hkl
        rw [hnx] at HWC
        clear hnx hpp hmem hy hP
        generalize l.getD k 0 = p at *
        have c0 := hS.p.cs 0 _ rfl
        have c1 := hS.p.cs 1 _ rfl
        have c2 := hS.p.cs 2 _ rfl
        have c3 := hS.p.cs 3 _ rfl
        have c4 := hS.p.cs 4 _ rfl
        have c5 := hS.p.cs 5 _ rfl
        have c6 := hS.p.cs 6 _ rfl
        have c7 := hS.p.cs 7 _ rfl
        have c8 := hS.p.cs 8 _ rfl
        have c9 := hS.p.cs 9 _ rfl
        have c10 := hS.p.cs 10 _ rfl
        have c11 := hS.p.cs 11 _ rfl
        have c12 := hS.p.cs 12 _ rfl
        have q0 := hS.o.cs 0 _ rfl
        have q1 := hS.o.cs 1 _ rfl
        have ql := hS.o.lt
        have HRW := Lib.hid (HR.out.on HS.out.B)
        clear hS hkl
        go_wp2_with fail
        refine (HWC.out _ HRW.out).mono ?_
        rintro e w5 ⟨rfl, b5⟩
        have hS5 := HS.out.on b5
        have HS5 := Lib.hid hS5
        have HP5 := Lib.hid (((HP.out.on b5).aside HTG.out 0 (.string (ofL (rePre x l (k + 1))))).aside HTG.out 1 (.int .i64 0))
        clear b5 c0 c1 c2 c3 c4 c5 c6 c7 c8 c9 c10 c11 c12 q0 q1 ql
        have q0 := hS5.o.cs 0 _ rfl
        have q1 := hS5.o.cs 1 _ rfl
        have ql := hS5.o.lt
        have qf : ∀ j, w5.frozen? ⟨g, j, none⟩ = false := hS5.o.s
        clear hS5
        go_wp2_with fail
        go_roundg (gk - 1)
        case rel => exact ⟨k + 1, by omega, by go_num, HS5.out.puto (rePre x l (k + 1)), HP5.out⟩
        case measure => omega
      · have hE := re_pre_all (x := x) (l := l) (k := k) (by have := HN.out; omega)
        rw [hE, ← HE.out] at HS
        have HSF := Lib.hid (HS.out.on (Below.refl _ _).drew)
        have HSD := Lib.hid HSF.out.s
        have HSO := Lib.hid (fun W => str_any (ofL EN) 0 W)
        clear hS hP hE
        go_upto_region 10 with fail
        refine wp_region_noPanic ?_
        refine wp_region_held_drew (S := ReFrS w x A c g EN) (by kernel_rfl) ?_ (fun hHeld => ?_)
        · (try dsimp only); (first | assumption | exact HSD.out | exact HS7.out.s | exact ((ReFr.putq HS7.out _ _ _)).s)
        refine wpAnyH_take (i := 0) (v := ?_) rfl (by kernel_rfl) (by kernel_rfl) (by kernel_rfl) (fun _ _ _ h => h) (Or.inl ⟨by rfl, ?_⟩) (by assumption) ?_
        rotate_left
        · intro w hSw; (try dsimp only at hSw); go_simp; try with_reducible rfl
        (try simp only [List.getElem_toArray, List.getElem_cons_zero, Act.put, qrb27a, qrb27b, qrb27c])
        refine wpAnyH_take (i := 1) (v := ?_) rfl (by kernel_rfl) (by kernel_rfl) (by kernel_rfl) (fun _ _ _ h => h) (Or.inl ⟨by rfl, ?_⟩) (by assumption) ?_
        rotate_left
        · intro w hSw; (try dsimp only at hSw); go_simp; try with_reducible rfl
        (try simp only [List.getElem_toArray, List.getElem_cons_succ, List.getElem_cons_zero, Act.put, qrb27a, qrb27b, qrb27c])
        refine wpAnyH_take (i := 2) (v := ?_) rfl (by kernel_rfl) (by kernel_rfl) (by kernel_rfl) (fun _ _ _ h => h) (Or.inl ⟨by rfl, ?_⟩) (by assumption) ?_
        rotate_left
        · intro w hSw; (try dsimp only at hSw); go_simp; try with_reducible rfl
        (try simp only [List.getElem_toArray, List.getElem_cons_succ, List.getElem_cons_zero, Act.put, qrb27a, qrb27b, qrb27c])
        refine wpAnyH_take (i := 3) (v := ?_) rfl (by kernel_rfl) (by kernel_rfl) (by kernel_rfl) (fun _ _ _ h => h) (Or.inl ⟨by rfl, ?_⟩) (by assumption) ?_
        rotate_left
        · intro w hSw; (try dsimp only at hSw); go_simp; try with_reducible rfl
        (try simp only [List.getElem_toArray, List.getElem_cons_succ, List.getElem_cons_zero, Act.put, qrb27a, qrb27b, qrb27c])
        refine wpAnyH_take (i := 4) (v := ?_) rfl (by kernel_rfl) (by kernel_rfl) (by kernel_rfl) (fun _ _ _ h => h) (Or.inl ⟨by rfl, ?_⟩) (by assumption) ?_
        rotate_left
        · intro w hSw; (try dsimp only at hSw); go_simp; try with_reducible rfl
        (try simp only [List.getElem_toArray, List.getElem_cons_succ, List.getElem_cons_zero, Act.put, qrb27a, qrb27b, qrb27c])
        refine wpAnyH_take (i := 5) (v := ?_) rfl (by kernel_rfl) (by kernel_rfl) (by kernel_rfl) (fun _ _ _ h => h) (Or.inl ⟨by rfl, ?_⟩) (by assumption) ?_
        rotate_left
        · intro w hSw; (try dsimp only at hSw); go_simp; try with_reducible rfl
        (try simp only [List.getElem_toArray, List.getElem_cons_succ, List.getElem_cons_zero, Act.put, qrb27a, qrb27b, qrb27c])
        refine wpAnyH_ready (rs := [6]) (by kernel_rfl) (by simp) ?_
        refine AllReadyH.cons rfl (fun K hK => ?_) (AllReadyH.nil)
        · go_simp
          (go_at_call 38; ((refine (HSO.out _).mono ?_); rintro e' w7 ⟨rfl, b7⟩); have HS7 := Lib.hid (HSF.out.on b7); clear b7; have q0 := HS7.out.q.cs 0 _ rfl; have q1 := HS7.out.q.cs 1 _ rfl; have q2 := HS7.out.q.cs 2 _ rfl; have qf : ∀ j, w7.frozen? ⟨w.heap.size + 1, j, none⟩ = false := HS7.out.q.s; have ql := HS7.out.q.lt)
          refine hK.out _ _ ?_ (fun hHeld => ?_)
          · (try dsimp only); (first | assumption | exact HSD.out | exact HS7.out.s | exact ((ReFr.putq HS7.out _ _ _)).s)
          clear hK K
          (try simp only [List.getElem_toArray, List.getElem_cons_succ, List.getElem_cons_zero, Act.put, qrb27a, qrb27b, qrb27c])
          refine wpAnyH_take (i := 7) (v := ?_) rfl (by kernel_rfl) (by kernel_rfl) (by kernel_rfl) (fun _ _ _ h => h) (Or.inl ⟨by rfl, ?_⟩) (by assumption) ?_
          rotate_left
          · intro w hSw; (try dsimp only at hSw); go_simp; try with_reducible rfl
          (try simp only [List.getElem_toArray, List.getElem_cons_succ, List.getElem_cons_zero, Act.put, qrb27a, qrb27b, qrb27c])
          refine wpAnyH_ready (rs := [8]) (by kernel_rfl) (by simp) ?_
          refine AllReadyH.cons rfl (fun K hK => ?_) (AllReadyH.nil)
          · go_simp
            refine hK.out _ _ ?_ (fun hHeld => ?_)
            · (try dsimp only); (first | assumption | exact HSD.out | exact HS7.out.s | exact ((ReFr.putq HS7.out _ _ _)).s)
            clear hK K
            (try simp only [List.getElem_toArray, List.getElem_cons_succ, List.getElem_cons_zero, Act.put, qrb27a, qrb27b, qrb27c])
            refine wpAnyH_take (i := 9) (v := ?_) rfl (by kernel_rfl) (by kernel_rfl) (by kernel_rfl) (fun _ _ _ h => h) (Or.inl ⟨by rfl, ?_⟩) (by assumption) ?_
            rotate_left
            · intro w hSw; (try dsimp only at hSw); go_simp; try with_reducible rfl
            (try simp only [List.getElem_toArray, List.getElem_cons_succ, List.getElem_cons_zero, Act.put, qrb27a, qrb27b, qrb27c])
            refine wpAnyH_done (by kernel_rfl) ?_ _
            refine NoPanic.normal ?_
            have hP := ReFr.putq HS7.out (.int .u8 (x.ch.toNat : Int)) (.int .u8 (UP.toNat : Int)) (.string (ofL EN))
            have g0 := hP.q.cs 0 _ rfl
            have g1 := hP.q.cs 1 _ rfl
            have g2 := hP.q.cs 2 _ rfl
            clear hHeld q0 q1 q2 qf ql
            go_wp2_with fail
            exact bodyPost_ret (v := .tuple #[.agg #[.int .u8 (x.ch.toNat : Int), .int .u8 (UP.toNat : Int), .string (ofL EN)], .int .i64 0]) (by simp [results, Tryz.results16, go_sem, g0, g1, g2]) rfl ⟨by rw [HVV.out], hP.B⟩
  · have HVV := Lib.hid (show reFrameV x = .tuple #[.agg #[.int .u8 0, .int .u8 0, .string ⟨#[]⟩], .int .i64 (x.code : Int)] by rw [HV.out, if_neg h0])
    have hk0 := code_ne h0
    generalize x.code = C at *
    generalize reFrameV x = V at *
    clear HV HST HT hf h0
    go_enter Tryz.func16, Tryz.ntmps16
    go_wp2_with fail
    refine (HK.out _ HRX.out HLX.out).mono ?_
    rintro e w1 ⟨rfl, b1⟩
    have hQ := HBQ.out.on b1
    have HB1 := Lib.hid (bthen HBX.out b1 (Nat.le_refl _))
    have HQ := Lib.hid hQ
    clear b1
    have q0 := hQ.cs 0 _ rfl
    have q1 := hQ.cs 1 _ rfl
    have q2 := hQ.cs 2 _ rfl
    have qf : ∀ j, w1.frozen? ⟨w.heap.size + 1, j, none⟩ = false := hQ.s
    have ql := hQ.lt
    clear hQ
    go_wp2_with fail
    have hP := ((HQ.out.put 0 (.int .u8 0) (by simp)).put 1 (.int .u8 0) (by simp)).put 2 (.string ⟨#[]⟩) (by simp)
    have g0 := hP.cs 0 _ rfl
    have g1 := hP.cs 1 _ rfl
    have g2 := hP.cs 2 _ rfl
    exact bodyPost_ret (v := .tuple #[.agg #[.int .u8 0, .int .u8 0, .string ⟨#[]⟩], .int .i64 (C : Int)]) (by simp [results, Tryz.results16, go_sem, g0, g1, g2]) rfl ⟨by rw [HVV.out], ((HB1.out.setCell HQ.out.ge _).setCell HQ.out.ge _).setCell HQ.out.ge _⟩
end Go.Proofs.YtnjlhafhgfpfiaaGreatDoor
end
