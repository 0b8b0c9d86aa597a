/-
  A REPLY's FRAME, as the document has it: walked.
-/
import Derived.Test.YtnjlhafhgfpfiaaGreatDoorRb17
import Derived.Test.YtnjlhafhgfpfiaaGreatDoorRb21
import Derived.Test.YtnjlhafhgfpfiaaGreatDoorRb22
import Derived.Deep.RegionHeld3
import Derived.Deep.DeepCutAuto
section
namespace Go.Proofs.YtnjlhafhgfpfiaaGreatDoor
open Go.ChangeShapes Go.WideShapes Go.ChangeAt Go.RowKit
theorem qrb23a (l : List Value) (i : Nat) (v : Value) : l.toArray.setIfInBounds i v = (l.set i v).toArray := by simp
theorem qrb23b (v u : Value) (l : List Value) : (v :: l).set 0 u = u :: l := rfl
theorem qrb23c (v u : Value) (n : Nat) (l : List Value) : (v :: l).set (n + 1) u = v :: l.set n u := rfl
def rfV (x : Re) : Value := .agg #[.int .u8 (x.ch.toNat : Int), .int .u8 ((Re.up x.kd).toNat : Int), .string (ofL x.enc)]
theorem enc_0 {x : Re} (h : x.kd.toNat = 0) : x.enc = Oct.text x.name := by unfold Re.enc; rw [h]; show Oct.text x.name ++ [] = _; rw [List.append_nil]
theorem enc_n {x : Re} (h : x.kd.toNat = 2 ∨ x.kd.toNat = 5 ∨ x.kd.toNat = 7) : x.enc = Oct.be 8 x.n := by
  unfold Re.enc
  rcases h with h | h | h <;> rw [h] <;> show Oct.be 8 x.n ++ [] = _ <;> rw [List.append_nil]
theorem enc_6 {x : Re} (h : x.kd.toNat = 6) : x.enc = Oct.be 8 x.n ++ Oct.be 8 x.m := by unfold Re.enc; rw [h]; show Oct.be 8 x.n ++ (Oct.be 8 x.m ++ []) = _; rw [List.append_nil]
theorem enc_z {x : Re} (h : x.kd.toNat = 1 ∨ x.kd.toNat = 4) : x.enc = [] := by unfold Re.enc; rcases h with h | h <;> rw [h] <;> rfl
theorem enc_3 {x : Re} (h : x.kd.toNat = 3) : x.enc = Oct.be 8 x.n ++ Oct.be 8 x.m ++ Pt.yesEnc x.yes ++ Oct.text x.shop ++ Oct.text x.key ++ Hd.henc x.head ++ Oct.text x.body := by
  unfold Re.enc
  rw [h]
  show Oct.be 8 x.n ++ (Oct.be 8 x.m ++ (Pt.yesEnc x.yes ++ (Oct.text x.shop ++ (Oct.text x.key ++ (Hd.henc x.head ++ (Oct.text x.body ++ [])))))) = _
  simp only [List.append_nil, List.append_assoc]
/-- while it is made: its box, the answer's -/
structure ReFd (w : World) (x : Re) (A : Option Addr) (c : Nat) (ys : List Value) (W : World) : Prop where
  p : BoxC w w.heap.size (reL x A c) W
  q : BoxC w (w.heap.size + 1) ys W
  B : Below w.heap.size w W
theorem ReFd.on {w : World} {x : Re} {A : Option Addr} {c : Nat} {ys : List Value} {W W' : World} (h : ReFd w x A c ys W) (hb : Below W.heap.size W W') : ReFd w x A c ys W' := ⟨h.p.on hb, h.q.on hb, bthen h.B hb (Nat.le_refl _)⟩
theorem ReFd.start (w : World) (x : Re) (A : Option Addr) (c : Nat) : ReFd w x A c [.int .u8 0, .int .u8 0, .string ⟨#[]⟩] ((w.alloc (.cells #[.int .u8 (x.ch.toNat : Int), .int .u8 (x.kd.toNat : Int), .int .u64 (x.n : Int), .int .u64 (x.m : Int), .bool x.yes, .string (ofL x.name), .int .u64 (x.id : Int), .string (ofL x.shop), .string (ofL x.key), .slice A x.head.length c, .string (ofL x.body), .int .u64 (x.due : Int), .int .u8 (x.hops : Int)] 33)).alloc (.cells #[.int .u8 0, .int .u8 0, .string ⟨#[]⟩] 71)) := by
  have h1 : BoxC w w.heap.size (reL x A c) (w.alloc (.cells #[.int .u8 (x.ch.toNat : Int), .int .u8 (x.kd.toNat : Int), .int .u64 (x.n : Int), .int .u64 (x.m : Int), .bool x.yes, .string (ofL x.name), .int .u64 (x.id : Int), .string (ofL x.shop), .string (ofL x.key), .slice A x.head.length c, .string (ofL x.body), .int .u64 (x.due : Int), .int .u8 (x.hops : Int)] 33)) := BoxC.new (Nat.le_refl _) #[.int .u8 (x.ch.toNat : Int), .int .u8 (x.kd.toNat : Int), .int .u64 (x.n : Int), .int .u64 (x.m : Int), .bool x.yes, .string (ofL x.name), .int .u64 (x.id : Int), .string (ofL x.shop), .string (ofL x.key), .slice A x.head.length c, .string (ofL x.body), .int .u64 (x.due : Int), .int .u8 (x.hops : Int)] 33
  have h2 : BoxC w (w.heap.size + 1) [.int .u8 0, .int .u8 0, .string ⟨#[]⟩] ((w.alloc (.cells #[.int .u8 (x.ch.toNat : Int), .int .u8 (x.kd.toNat : Int), .int .u64 (x.n : Int), .int .u64 (x.m : Int), .bool x.yes, .string (ofL x.name), .int .u64 (x.id : Int), .string (ofL x.shop), .string (ofL x.key), .slice A x.head.length c, .string (ofL x.body), .int .u64 (x.due : Int), .int .u8 (x.hops : Int)] 33)).alloc (.cells #[.int .u8 0, .int .u8 0, .string ⟨#[]⟩] 71)) := by
    have := BoxC.new (w := w) (W := (w.alloc (.cells #[.int .u8 (x.ch.toNat : Int), .int .u8 (x.kd.toNat : Int), .int .u64 (x.n : Int), .int .u64 (x.m : Int), .bool x.yes, .string (ofL x.name), .int .u64 (x.id : Int), .string (ofL x.shop), .string (ofL x.key), .slice A x.head.length c, .string (ofL x.body), .int .u64 (x.due : Int), .int .u8 (x.hops : Int)] 33))) (by simp) #[.int .u8 0, .int .u8 0, .string ⟨#[]⟩] 71
    simpa using this
  exact ⟨h1.on ((Below.refl _ _).alloc (Nat.le_refl _) _), h2, ((Below.refl _ _).alloc (Nat.le_refl _) _).alloc (by simp) _⟩
abbrev ReFdS (w : World) (x : Re) (A : Option Addr) (c : Nat) (W : World) : Prop :=
  (W.cell? ⟨w.heap.size, 7, none⟩ = some (.string (ofL x.shop)) ∧ W.cell? ⟨w.heap.size, 8, none⟩ = some (.string (ofL x.key)) ∧ W.cell? ⟨w.heap.size, 9, none⟩ = some (.slice A x.head.length c) ∧ W.cell? ⟨w.heap.size, 10, none⟩ = some (.string (ofL x.body)) ∧ w.heap.size < W.heap.size) ∧ ReFd w x A c [.int .u8 0, .int .u8 0, .string ⟨#[]⟩] W
theorem ReFd.s {w : World} {x : Re} {A : Option Addr} {c : Nat} {W : World} (h : ReFd w x A c [.int .u8 0, .int .u8 0, .string ⟨#[]⟩] W) : ReFdS w x A c W := ⟨⟨h.p.cs 7 _ rfl, h.p.cs 8 _ rfl, h.p.cs 9 _ rfl, h.p.cs 10 _ rfl, h.p.lt⟩, h⟩
theorem ReFd.end_ {w : World} {x : Re} {A : Option Addr} {c : Nat} {W : World} (h : ReFd w x A c [.int .u8 0, .int .u8 0, .string ⟨#[]⟩] W) (v0 v1 v2 : Value) : ∃ W', W' = ((W.setCell ⟨w.heap.size + 1, 0, none⟩ v0).setCell ⟨w.heap.size + 1, 1, none⟩ v1).setCell ⟨w.heap.size + 1, 2, none⟩ v2 ∧ W'.cell? ⟨w.heap.size + 1, 0, none⟩ = some v0 ∧ W'.cell? ⟨w.heap.size + 1, 1, none⟩ = some v1 ∧ W'.cell? ⟨w.heap.size + 1, 2, none⟩ = some v2 ∧ Below w.heap.size w W' := by
  have h1 := ((h.q.put 0 v0 (by simp)).put 1 v1 (by simp)).put 2 v2 (by simp)
  exact ⟨_, rfl, h1.cs 0 _ rfl, h1.cs 1 _ rfl, h1.cs 2 _ rfl, ((h.B.setCell h.q.ge _).setCell h.q.ge _).setCell h.q.ge _⟩
set_option maxRecDepth 100000 in
set_option maxHeartbeats 8000000 in
theorem r12Frame_any (x : Re) (A : Option Addr) (c : Nat) (w : World) (h : ReOk w x A c) (hf : Re.Fits x) (h0 : x.code = 0) : Calls Tryz.prog 29 #[reV x A c] w fun e w' => e = .returned (rfV x) ∧ Below w.heap.size w w' := by
  obtain ⟨h7, -, hpc⟩ := Re.code_ok h0
  have HD := Lib.hid (ReFd.start w x A c)
  have HTN := Lib.hid (fun W => tellsN_any x.kd.toNat W)
  have HTM := Lib.hid (fun W => tellsM_any x.kd.toNat W)
  have HN := Lib.hid (fun W => hrnum_l x.n 8 8 W hf.n (by omega) rfl)
  have HM := Lib.hid (fun W => hrnum_l x.m 8 8 W hf.m (by omega) rfl)
  have HV : Hid (rfV x = .agg #[.int .u8 (x.ch.toNat : Int), .int .u8 ((Re.up x.kd).toNat : Int), .string (ofL x.enc)]) := rfl
  have hup : IntKind.u8.wrap (64 + (x.kd.toNat : Int)) = ((Re.up x.kd).toNat : Int) := by
    unfold Re.up
    rw [UInt8.toNat_add, show IntKind.u8.wrap (64 + (x.kd.toNat : Int)) = (64 + (x.kd.toNat : Int)) % 256 from rfl]
    show _ = (((64 + x.kd.toNat) % 256 : Nat) : Int)
    omega
  generalize Re.up x.kd = UP at *
  have sn : (ofL (Oct.be 8 x.n)).size = 8 := by rw [ofL_size, Oct.length_be]
  have sm : (ofL (Oct.be 8 x.m)).size = 8 := by rw [ofL_size, Oct.length_be]
  simp only [reV]
  obtain hk | hk | hk | hk | hk : x.kd.toNat = 0 ∨ (x.kd.toNat = 2 ∨ x.kd.toNat = 5 ∨ x.kd.toNat = 7) ∨ x.kd.toNat = 6 ∨ (x.kd.toNat = 1 ∨ x.kd.toNat = 4) ∨ x.kd.toNat = 3 := by omega
  · have HE := Lib.hid (enc_0 hk)
    have hn16 : x.name.length ≤ 65535 := by
      have := hpc 3 (by rw [hk]; decide)
      have := (Hd.name_ok_len (show Wrd.nameCode x.name = 0 from this)).1
      omega
    have HTX := Lib.hid (fun W => hrtext_l x.name W hn16)
    have k0 : ((x.kd.toNat : Int) == 0) = true := by rw [hk]; rfl
    have k3 : ((x.kd.toNat : Int) == 3) = false := beq_eq_false_iff_ne.2 (by omega)
    rw [show Re.tellsN x.kd.toNat = false by rw [hk]; rfl] at HTN
    rw [show Re.tellsM x.kd.toNat = false by rw [hk]; rfl] at HTM
    clear h hf h0 h7 hpc hk hn16
    go_enter Tryz.func29, Tryz.ntmps29
    go_wp2_with fail
    refine (HTX.out _).mono ?_
    rintro e w3 ⟨rfl, b3⟩
    have HD3 := Lib.hid (HD.out.on b3)
    clear b3
    have q0 := HD3.out.q.cs 0 _ rfl
    have q1 := HD3.out.q.cs 1 _ rfl
    have q2 := HD3.out.q.cs 2 _ rfl
    have qf : ∀ j, w3.frozen? ⟨w.heap.size + 1, j, none⟩ = false := HD3.out.q.s
    have ql := HD3.out.q.lt
    have c0 := HD3.out.p.cs 0 _ rfl
    have c1 := HD3.out.p.cs 1 _ rfl
    have c2 := HD3.out.p.cs 2 _ rfl
    have c3 := HD3.out.p.cs 3 _ rfl
    have c4 := HD3.out.p.cs 4 _ rfl
    have c5 := HD3.out.p.cs 5 _ rfl
    have c6 := HD3.out.p.cs 6 _ rfl
    have c7 := HD3.out.p.cs 7 _ rfl
    have c8 := HD3.out.p.cs 8 _ rfl
    have c9 := HD3.out.p.cs 9 _ rfl
    have c10 := HD3.out.p.cs 10 _ rfl
    have c11 := HD3.out.p.cs 11 _ rfl
    have c12 := HD3.out.p.cs 12 _ rfl
    have cl := HD3.out.p.lt
    clear c2 c3 c4 c5 c6 c7 c8 c9 c10 c11 c12
    go_wp2_with fail
    refine (HTN.out _).mono ?_
    rintro e w9 ⟨rfl, rfl⟩
    go_wp2_with fail
    refine (HTM.out _).mono ?_
    rintro e w9 ⟨rfl, rfl⟩
    go_wp2_with fail
    obtain ⟨W', hW', g0, g1, g2, hB'⟩ := HD3.out.end_ (.int .u8 (x.ch.toNat : Int)) (.int .u8 (UP.toNat : Int)) (.string (ofL (Oct.text x.name)))
    exact bodyPost_ret (v := .agg #[.int .u8 (x.ch.toNat : Int), .int .u8 (UP.toNat : Int), .string (ofL (Oct.text x.name))]) (by rw [← hW']; simp [results, Tryz.results29, go_sem, g0, g1, g2]) rfl ⟨by rw [HV.out, HE.out], by rw [← hW']; exact hB'⟩
  · have HE := Lib.hid (enc_n hk)
    have k0 : ((x.kd.toNat : Int) == 0) = false := beq_eq_false_iff_ne.2 (by omega)
    have k3 : ((x.kd.toNat : Int) == 3) = false := beq_eq_false_iff_ne.2 (by omega)
    rw [show Re.tellsN x.kd.toNat = true by rcases hk with h | h | h <;> rw [h] <;> rfl] at HTN
    rw [show Re.tellsM x.kd.toNat = false by rcases hk with h | h | h <;> rw [h] <;> rfl] at HTM
    have HA1 := Lib.hid (show (⟨#[]⟩ : ByteArray) ++ ofL (Oct.be 8 x.n) = ofL (Oct.be 8 x.n) from ofL_app [] _)
    clear h hf h0 h7 hpc hk
    go_enter Tryz.func29, Tryz.ntmps29
    go_wp2_with fail
    refine (HTN.out _).mono ?_
    rintro e w9 ⟨rfl, rfl⟩
    go_wp2_with fail
    refine (HN.out _).mono ?_
    rintro e w3 ⟨rfl, b3⟩
    have HD3 := Lib.hid (HD.out.on b3)
    clear b3
    have q0 := HD3.out.q.cs 0 _ rfl
    have q1 := HD3.out.q.cs 1 _ rfl
    have q2 := HD3.out.q.cs 2 _ rfl
    have qf : ∀ j, w3.frozen? ⟨w.heap.size + 1, j, none⟩ = false := HD3.out.q.s
    have ql := HD3.out.q.lt
    have c0 := HD3.out.p.cs 0 _ rfl
    have c1 := HD3.out.p.cs 1 _ rfl
    have c2 := HD3.out.p.cs 2 _ rfl
    have c3 := HD3.out.p.cs 3 _ rfl
    have c4 := HD3.out.p.cs 4 _ rfl
    have c5 := HD3.out.p.cs 5 _ rfl
    have c6 := HD3.out.p.cs 6 _ rfl
    have c7 := HD3.out.p.cs 7 _ rfl
    have c8 := HD3.out.p.cs 8 _ rfl
    have c9 := HD3.out.p.cs 9 _ rfl
    have c10 := HD3.out.p.cs 10 _ rfl
    have c11 := HD3.out.p.cs 11 _ rfl
    have c12 := HD3.out.p.cs 12 _ rfl
    have cl := HD3.out.p.lt
    clear c2 c3 c4 c5 c6 c7 c8 c9 c10 c11 c12
    go_wp2_with fail
    refine (HTM.out _).mono ?_
    rintro e w9 ⟨rfl, rfl⟩
    go_wp2_with fail
    rw [HA1.out]
    obtain ⟨W', hW', g0, g1, g2, hB'⟩ := HD3.out.end_ (.int .u8 (x.ch.toNat : Int)) (.int .u8 (UP.toNat : Int)) (.string (ofL (Oct.be 8 x.n)))
    exact bodyPost_ret (v := .agg #[.int .u8 (x.ch.toNat : Int), .int .u8 (UP.toNat : Int), .string (ofL (Oct.be 8 x.n))]) (by rw [← hW']; simp [results, Tryz.results29, go_sem, g0, g1, g2]) rfl ⟨by rw [HV.out, HE.out], by rw [← hW']; exact hB'⟩
  · have HE := Lib.hid (enc_6 hk)
    have k0 : ((x.kd.toNat : Int) == 0) = false := beq_eq_false_iff_ne.2 (by omega)
    have k3 : ((x.kd.toNat : Int) == 3) = false := beq_eq_false_iff_ne.2 (by omega)
    rw [show Re.tellsN x.kd.toNat = true by rw [hk]; rfl] at HTN
    rw [show Re.tellsM x.kd.toNat = true by rw [hk]; rfl] at HTM
    have HA2 := Lib.hid (show (⟨#[]⟩ : ByteArray) ++ ofL (Oct.be 8 x.n) ++ ofL (Oct.be 8 x.m) = ofL (Oct.be 8 x.n ++ Oct.be 8 x.m) from by rw [show (⟨#[]⟩ : ByteArray) ++ ofL (Oct.be 8 x.n) = ofL (Oct.be 8 x.n) from ofL_app [] _]; exact ofL_app _ _)
    clear h hf h0 h7 hpc hk
    go_enter Tryz.func29, Tryz.ntmps29
    go_wp2_with fail
    refine (HTN.out _).mono ?_
    rintro e w9 ⟨rfl, rfl⟩
    go_wp2_with fail
    refine (HN.out _).mono ?_
    rintro e w3 ⟨rfl, b3⟩
    have HD3 := Lib.hid (HD.out.on b3)
    clear b3
    have c0 := HD3.out.p.cs 0 _ rfl
    have c1 := HD3.out.p.cs 1 _ rfl
    have c2 := HD3.out.p.cs 2 _ rfl
    have c3 := HD3.out.p.cs 3 _ rfl
    have c4 := HD3.out.p.cs 4 _ rfl
    have c5 := HD3.out.p.cs 5 _ rfl
    have c6 := HD3.out.p.cs 6 _ rfl
    have c7 := HD3.out.p.cs 7 _ rfl
    have c8 := HD3.out.p.cs 8 _ rfl
    have c9 := HD3.out.p.cs 9 _ rfl
    have c10 := HD3.out.p.cs 10 _ rfl
    have c11 := HD3.out.p.cs 11 _ rfl
    have c12 := HD3.out.p.cs 12 _ rfl
    have cl := HD3.out.p.lt
    go_wp2_with fail
    refine (HTM.out _).mono ?_
    rintro e w9 ⟨rfl, rfl⟩
    go_wp2_with fail
    refine (HM.out _).mono ?_
    rintro e w4 ⟨rfl, b4⟩
    have HD4 := Lib.hid (HD3.out.on b4)
    clear b4
    clear c0 c1 c2 c3 c4 c5 c6 c7 c8 c9 c10 c11 c12 cl
    have q0 := HD4.out.q.cs 0 _ rfl
    have q1 := HD4.out.q.cs 1 _ rfl
    have q2 := HD4.out.q.cs 2 _ rfl
    have qf : ∀ j, w4.frozen? ⟨w.heap.size + 1, j, none⟩ = false := HD4.out.q.s
    have ql := HD4.out.q.lt
    have c0 := HD4.out.p.cs 0 _ rfl
    have c1 := HD4.out.p.cs 1 _ rfl
    have c2 := HD4.out.p.cs 2 _ rfl
    have c3 := HD4.out.p.cs 3 _ rfl
    have c4 := HD4.out.p.cs 4 _ rfl
    have c5 := HD4.out.p.cs 5 _ rfl
    have c6 := HD4.out.p.cs 6 _ rfl
    have c7 := HD4.out.p.cs 7 _ rfl
    have c8 := HD4.out.p.cs 8 _ rfl
    have c9 := HD4.out.p.cs 9 _ rfl
    have c10 := HD4.out.p.cs 10 _ rfl
    have c11 := HD4.out.p.cs 11 _ rfl
    have c12 := HD4.out.p.cs 12 _ rfl
    have cl := HD4.out.p.lt
    clear c2 c3 c4 c5 c6 c7 c8 c9 c10 c11 c12
    go_wp2_with fail
    rw [HA2.out]
    obtain ⟨W', hW', g0, g1, g2, hB'⟩ := HD4.out.end_ (.int .u8 (x.ch.toNat : Int)) (.int .u8 (UP.toNat : Int)) (.string (ofL (Oct.be 8 x.n ++ Oct.be 8 x.m)))
    exact bodyPost_ret (v := .agg #[.int .u8 (x.ch.toNat : Int), .int .u8 (UP.toNat : Int), .string (ofL (Oct.be 8 x.n ++ Oct.be 8 x.m))]) (by rw [← hW']; simp [results, Tryz.results29, go_sem, g0, g1, g2]) rfl ⟨by rw [HV.out, HE.out], by rw [← hW']; exact hB'⟩
  · have HE := Lib.hid (enc_z hk)
    have k0 : ((x.kd.toNat : Int) == 0) = false := beq_eq_false_iff_ne.2 (by omega)
    have k3 : ((x.kd.toNat : Int) == 3) = false := beq_eq_false_iff_ne.2 (by omega)
    rw [show Re.tellsN x.kd.toNat = false by rcases hk with h | h <;> rw [h] <;> rfl] at HTN
    rw [show Re.tellsM x.kd.toNat = false by rcases hk with h | h <;> rw [h] <;> rfl] at HTM
    clear h hf h0 h7 hpc hk
    go_enter Tryz.func29, Tryz.ntmps29
    go_wp2_with fail
    refine (HTN.out _).mono ?_
    rintro e w9 ⟨rfl, rfl⟩
    go_wp2_with fail
    refine (HTM.out _).mono ?_
    rintro e w9 ⟨rfl, rfl⟩
    go_wp2_with fail
    exact bodyPost_ret (v := .agg #[.int .u8 (x.ch.toNat : Int), .int .u8 (UP.toNat : Int), .string ⟨#[]⟩]) (by simp [results, Tryz.results29, go_sem]) rfl ⟨by rw [HV.out, HE.out]; rfl, ((Below.refl _ _).alloc (Nat.le_refl _) _).alloc (by simp) _⟩
  · have HE := Lib.hid (enc_3 hk)
    have p4 := hpc 4 (by rw [hk]; decide)
    have p5 := hpc 5 (by rw [hk]; decide)
    have p6 := hpc 6 (by rw [hk]; decide)
    have p7 := hpc 7 (by rw [hk]; decide)
    have l4 : x.shop.length ≤ 16 := (Hd.name_ok_len (show Wrd.nameCode x.shop = 0 from p4)).1
    have l5 : x.key.length ≤ 64 := Re.key_len (show Wrd.keyCode [] x.key = 0 from p5)
    have l7 : x.body.length ≤ 256 := by
      have h0 : (if 256 < x.body.length then 5 else 0) = 0 := p7
      by_cases hh : 256 < x.body.length
      · rw [if_pos hh] at h0; omega
      · omega
    have h6 : Hd.hcode x.head = 0 := p6
    have l6 : (Hd.henc x.head).length ≤ 1000 := by
      have := (hfine_of h6).pre x.head.length
      rw [hpre_all (Nat.le_refl _)] at this
      exact this
    have HT1 := Lib.hid (fun W => hrtext_l x.shop W (by omega))
    have HT2 := Lib.hid (fun W => hrtext_l x.key W (by omega))
    have HT3 := Lib.hid (fun W => hrtext_l x.body W (by omega))
    have HTH := Lib.hid (fun W g => rbytes9_any x.head A c W h6 g)
    have HP := Lib.hid (fun W (g : Below w.heap.size w W) => h.row.on g)
    have s4 : (ofL (Oct.text x.shop)).size ≤ 100 := by rw [ofL_size]; unfold Oct.text; rw [List.length_append, Oct.length_be]; omega
    have s5 : (ofL (Oct.text x.key)).size ≤ 100 := by rw [ofL_size]; unfold Oct.text; rw [List.length_append, Oct.length_be]; omega
    have s6 : (ofL (Hd.henc x.head)).size ≤ 1000 := by rw [ofL_size]; exact l6
    have s7 : (ofL (Oct.text x.body)).size ≤ 300 := by rw [ofL_size]; unfold Oct.text; rw [List.length_append, Oct.length_be]; omega
    have k0 : ((x.kd.toNat : Int) == 0) = false := beq_eq_false_iff_ne.2 (by omega)
    have k3 : ((x.kd.toNat : Int) == 3) = true := by rw [hk]; rfl
    rw [show Re.tellsN x.kd.toNat = true by rw [hk]; rfl] at HTN
    rw [show Re.tellsM x.kd.toNat = true by rw [hk]; rfl] at HTM
    have se : (⟨#[]⟩ : ByteArray).size = 0 := rfl
    have HSUM := Lib.hid (show ∀ y : List UInt8, (⟨#[]⟩ : ByteArray) ++ ofL (Oct.be 8 x.n) ++ ofL (Oct.be 8 x.m) ++ ofL y ++ ofL (Oct.text x.shop) ++ ofL (Oct.text x.key) ++ ofL (Hd.henc x.head) ++ ofL (Oct.text x.body) = ofL (Oct.be 8 x.n ++ Oct.be 8 x.m ++ y ++ Oct.text x.shop ++ Oct.text x.key ++ Hd.henc x.head ++ Oct.text x.body) by intro y; simp only [show (⟨#[]⟩ : ByteArray) = ofL [] from rfl, ofL_app, List.nil_append])
    clear h hf h0 h7 hpc hk p4 p5 p6 p7 l4 l5 l6 l7 h6
    generalize Oct.be 8 x.n ++ Oct.be 8 x.m = NM at *
    generalize ofL (Oct.text x.shop) = TS at *
    generalize ofL (Oct.text x.key) = TK at *
    generalize ofL (Hd.henc x.head) = TH at *
    generalize ofL (Oct.text x.body) = TB at *
    go_enter Tryz.func29, Tryz.ntmps29
    go_wp2_with fail
    refine (HTN.out _).mono ?_
    rintro e w9 ⟨rfl, rfl⟩
    go_wp2_with fail
    refine (HN.out _).mono ?_
    rintro e w3 ⟨rfl, b3⟩
    have HD3 := Lib.hid (HD.out.on b3)
    clear b3
    have c0 := HD3.out.p.cs 0 _ rfl
    have c1 := HD3.out.p.cs 1 _ rfl
    have c2 := HD3.out.p.cs 2 _ rfl
    have c3 := HD3.out.p.cs 3 _ rfl
    have c4 := HD3.out.p.cs 4 _ rfl
    have c5 := HD3.out.p.cs 5 _ rfl
    have c6 := HD3.out.p.cs 6 _ rfl
    have c7 := HD3.out.p.cs 7 _ rfl
    have c8 := HD3.out.p.cs 8 _ rfl
    have c9 := HD3.out.p.cs 9 _ rfl
    have c10 := HD3.out.p.cs 10 _ rfl
    have c11 := HD3.out.p.cs 11 _ rfl
    have c12 := HD3.out.p.cs 12 _ rfl
    have cl := HD3.out.p.lt
    go_wp2_with fail
    refine (HTM.out _).mono ?_
    rintro e w9 ⟨rfl, rfl⟩
    go_wp2_with fail
    refine (HM.out _).mono ?_
    rintro e w4 ⟨rfl, b4⟩
    have HD4 := Lib.hid (HD3.out.on b4)
    clear b4
    clear c0 c1 c2 c3 c4 c5 c6 c7 c8 c9 c10 c11 c12 cl
    have c0 := HD4.out.p.cs 0 _ rfl
    have c1 := HD4.out.p.cs 1 _ rfl
    have c2 := HD4.out.p.cs 2 _ rfl
    have c3 := HD4.out.p.cs 3 _ rfl
    have c4 := HD4.out.p.cs 4 _ rfl
    have c5 := HD4.out.p.cs 5 _ rfl
    have c6 := HD4.out.p.cs 6 _ rfl
    have c7 := HD4.out.p.cs 7 _ rfl
    have c8 := HD4.out.p.cs 8 _ rfl
    have c9 := HD4.out.p.cs 9 _ rfl
    have c10 := HD4.out.p.cs 10 _ rfl
    have c11 := HD4.out.p.cs 11 _ rfl
    have c12 := HD4.out.p.cs 12 _ rfl
    have cl := HD4.out.p.lt
    cases hy : x.yes with
    | true =>
      have HSM := Lib.hid (HSUM.out [1])
      rw [show ofL [1] = ⟨#[1]⟩ from rfl, show NM ++ [1] ++ Oct.text x.shop ++ Oct.text x.key ++ Hd.henc x.head ++ Oct.text x.body = x.enc by rw [HE.out, hy]; rfl] at HSM
      rw [hy] at c4
      generalize x.enc = EN at *
      have sy : (⟨#[1]⟩ : ByteArray).size = 1 := rfl
      clear hy
      go_upto_region 12 with fail
      have HDD := Lib.hid ((HD4.out.on (Below.refl _ _).drew).s)
      clear c0 c1 c2 c3 c4 c5 c6 c7 c8 c9 c10 c11 c12 cl
      refine wp_region_noPanic ?_
      refine wp_region_held_drew (S := ReFdS w x A c) (by kernel_rfl) ?_ (fun hHeld => ?_)
      · (try dsimp only); (first | assumption | exact HDD.out | exact (hHeld.2.on hb2).s)
      refine wpAnyH_take (i := 0) (v := ?_) rfl (by kernel_rfl) (by kernel_rfl) (by kernel_rfl) (fun _ _ _ h => h) (Or.inl ⟨by rfl, ?_⟩) (by assumption) ?_
      rotate_left
      · intro w hSw; (try dsimp only at hSw); go_simp; (try rw [if_neg (by first | omega | (simp [ByteArray.size_append]; omega))]); try with_reducible rfl
      (try simp only [List.getElem_toArray, List.getElem_cons_zero, Act.put, qrb23a, qrb23b, qrb23c])
      refine wpAnyH_take (i := 1) (v := ?_) rfl (by kernel_rfl) (by kernel_rfl) (by kernel_rfl) (fun _ _ _ h => h) (Or.inl ⟨by rfl, ?_⟩) (by assumption) ?_
      rotate_left
      · intro w hSw; (try dsimp only at hSw); go_simp; (try rw [if_neg (by first | omega | (simp [ByteArray.size_append]; omega))]); try with_reducible rfl
      (try simp only [List.getElem_toArray, List.getElem_cons_succ, List.getElem_cons_zero, Act.put, qrb23a, qrb23b, qrb23c])
      refine wpAnyH_take (i := 2) (v := ?_) rfl (by kernel_rfl) (by kernel_rfl) (by kernel_rfl) (fun _ _ _ h => h) (Or.inl ⟨by rfl, ?_⟩) (by assumption) ?_
      rotate_left
      · intro w hSw; (try dsimp only at hSw); go_simp; (try rw [if_neg (by first | omega | (simp [ByteArray.size_append]; omega))]); try with_reducible rfl
      (try simp only [List.getElem_toArray, List.getElem_cons_succ, List.getElem_cons_zero, Act.put, qrb23a, qrb23b, qrb23c])
      refine wpAnyH_take (i := 3) (v := ?_) rfl (by kernel_rfl) (by kernel_rfl) (by kernel_rfl) (fun _ _ _ h => h) (Or.inl ⟨by rfl, ?_⟩) (by assumption) ?_
      rotate_left
      · intro w hSw; (try dsimp only at hSw); go_simp; (try rw [if_neg (by first | omega | (simp [ByteArray.size_append]; omega))]); try with_reducible rfl
      (try simp only [List.getElem_toArray, List.getElem_cons_succ, List.getElem_cons_zero, Act.put, qrb23a, qrb23b, qrb23c])
      refine wpAnyH_take (i := 4) (v := ?_) rfl (by kernel_rfl) (by kernel_rfl) (by kernel_rfl) (fun _ _ _ h => h) (Or.inl ⟨by rfl, ?_⟩) (by assumption) ?_
      rotate_left
      · intro w hSw; (try dsimp only at hSw); go_simp; (try rw [if_neg (by first | omega | (simp [ByteArray.size_append]; omega))]); try with_reducible rfl
      (try simp only [List.getElem_toArray, List.getElem_cons_succ, List.getElem_cons_zero, Act.put, qrb23a, qrb23b, qrb23c])
      refine wpAnyH_take (i := 5) (v := ?_) rfl (by kernel_rfl) (by kernel_rfl) (by kernel_rfl) (fun _ _ _ h => h) (Or.inl ⟨by rfl, ?_⟩) (by assumption) ?_
      rotate_left
      · intro w hSw; (try dsimp only at hSw); go_simp; (try rw [if_neg (by first | omega | (simp [ByteArray.size_append]; omega))]); try with_reducible rfl
      (try simp only [List.getElem_toArray, List.getElem_cons_succ, List.getElem_cons_zero, Act.put, qrb23a, qrb23b, qrb23c])
      refine wpAnyH_take (i := 8) (v := ?_) rfl (by kernel_rfl) (by kernel_rfl) (by kernel_rfl) (fun _ _ _ h => h) (Or.inl ⟨by rfl, ?_⟩) (by assumption) ?_
      rotate_left
      · intro w hSw; (try dsimp only at hSw); go_simp; (try rw [if_neg (by first | omega | (simp [ByteArray.size_append]; omega))]); try with_reducible rfl
      (try simp only [List.getElem_toArray, List.getElem_cons_succ, List.getElem_cons_zero, Act.put, qrb23a, qrb23b, qrb23c])
      refine wpAnyH_take (i := 9) (v := ?_) rfl (by kernel_rfl) (by kernel_rfl) (by kernel_rfl) (fun _ _ _ h => h) (Or.inl ⟨by rfl, ?_⟩) (by assumption) ?_
      rotate_left
      · intro w hSw; (try dsimp only at hSw); go_simp; (try rw [if_neg (by first | omega | (simp [ByteArray.size_append]; omega))]); try with_reducible rfl
      (try simp only [List.getElem_toArray, List.getElem_cons_succ, List.getElem_cons_zero, Act.put, qrb23a, qrb23b, qrb23c])
      refine wpAnyH_take (i := 10) (v := ?_) rfl (by kernel_rfl) (by kernel_rfl) (by kernel_rfl) (fun _ _ _ h => h) (Or.inl ⟨by rfl, ?_⟩) (by assumption) ?_
      rotate_left
      · intro w hSw; (try dsimp only at hSw); go_simp; (try rw [if_neg (by first | omega | (simp [ByteArray.size_append]; omega))]); try with_reducible rfl
      (try simp only [List.getElem_toArray, List.getElem_cons_succ, List.getElem_cons_zero, Act.put, qrb23a, qrb23b, qrb23c])
      refine wpAnyH_take (i := 13) (v := ?_) rfl (by kernel_rfl) (by kernel_rfl) (by kernel_rfl) (fun _ _ _ h => h) (Or.inl ⟨by rfl, ?_⟩) (by assumption) ?_
      rotate_left
      · intro w hSw; (try dsimp only at hSw); go_simp; (try rw [if_neg (by first | omega | (simp [ByteArray.size_append]; omega))]); try with_reducible rfl
      (try simp only [List.getElem_toArray, List.getElem_cons_succ, List.getElem_cons_zero, Act.put, qrb23a, qrb23b, qrb23c])
      refine wpAnyH_take (i := 14) (v := ?_) rfl (by kernel_rfl) (by kernel_rfl) (by kernel_rfl) (fun _ _ _ h => h) (Or.inl ⟨by rfl, ?_⟩) (by assumption) ?_
      rotate_left
      · intro w hSw; (try dsimp only at hSw); go_simp; (try rw [if_neg (by first | omega | (simp [ByteArray.size_append]; omega))]); try with_reducible rfl
      (try simp only [List.getElem_toArray, List.getElem_cons_succ, List.getElem_cons_zero, Act.put, qrb23a, qrb23b, qrb23c])
      refine wpAnyH_take (i := 15) (v := ?_) rfl (by kernel_rfl) (by kernel_rfl) (by kernel_rfl) (fun _ _ _ h => h) (Or.inl ⟨by rfl, ?_⟩) (by assumption) ?_
      rotate_left
      · intro w hSw; (try dsimp only at hSw); go_simp; (try rw [if_neg (by first | omega | (simp [ByteArray.size_append]; omega))]); try with_reducible rfl
      (try simp only [List.getElem_toArray, List.getElem_cons_succ, List.getElem_cons_zero, Act.put, qrb23a, qrb23b, qrb23c])
      refine wpAnyH_take (i := 18) (v := ?_) rfl (by kernel_rfl) (by kernel_rfl) (by kernel_rfl) (fun _ _ _ h => h) (Or.inl ⟨by rfl, ?_⟩) (by assumption) ?_
      rotate_left
      · intro w hSw; (try dsimp only at hSw); go_simp; (try rw [if_neg (by first | omega | (simp [ByteArray.size_append]; omega))]); try with_reducible rfl
      (try simp only [List.getElem_toArray, List.getElem_cons_succ, List.getElem_cons_zero, Act.put, qrb23a, qrb23b, qrb23c])
      refine wpAnyH_take (i := 19) (v := ?_) rfl (by kernel_rfl) (by kernel_rfl) (by kernel_rfl) (fun _ _ _ h => h) (Or.inl ⟨by rfl, ?_⟩) (by assumption) ?_
      rotate_left
      · intro w hSw; (try dsimp only at hSw); go_simp; (try rw [if_neg (by first | omega | (simp [ByteArray.size_append]; omega))]); try with_reducible rfl
      (try simp only [List.getElem_toArray, List.getElem_cons_succ, List.getElem_cons_zero, Act.put, qrb23a, qrb23b, qrb23c])
      refine wpAnyH_take (i := 20) (v := ?_) rfl (by kernel_rfl) (by kernel_rfl) (by kernel_rfl) (fun _ _ _ h => h) (Or.inl ⟨by rfl, ?_⟩) (by assumption) ?_
      rotate_left
      · intro w hSw; (try dsimp only at hSw); go_simp; (try rw [if_neg (by first | omega | (simp [ByteArray.size_append]; omega))]); try with_reducible rfl
      (try simp only [List.getElem_toArray, List.getElem_cons_succ, List.getElem_cons_zero, Act.put, qrb23a, qrb23b, qrb23c])
      refine wpAnyH_ready (rs := [6]) (by kernel_rfl) (by simp) ?_
      refine AllReadyH.cons rfl (fun K hK => ?_) (AllReadyH.nil)
      · go_simp
        (go_at_call 48; ((refine (HT1.out _).mono ?_); rintro e' wz ⟨rfl, hb2⟩))
        refine hK.out _ _ ?_ (fun hHeld => ?_)
        · (try dsimp only); (first | assumption | exact HDD.out | exact (hHeld.2.on hb2).s)
        clear hK K
        (try simp only [List.getElem_toArray, List.getElem_cons_succ, List.getElem_cons_zero, Act.put, qrb23a, qrb23b, qrb23c])
        refine wpAnyH_take (i := 7) (v := ?_) rfl (by kernel_rfl) (by kernel_rfl) (by kernel_rfl) (fun _ _ _ h => h) (Or.inl ⟨by rfl, ?_⟩) (by assumption) ?_
        rotate_left
        · intro w hSw; (try dsimp only at hSw); go_simp; (try rw [if_neg (by first | omega | (simp [ByteArray.size_append]; omega))]); try with_reducible rfl
        (try simp only [List.getElem_toArray, List.getElem_cons_succ, List.getElem_cons_zero, Act.put, qrb23a, qrb23b, qrb23c])
        refine wpAnyH_ready (rs := [11]) (by kernel_rfl) (by simp) ?_
        refine AllReadyH.cons rfl (fun K hK => ?_) (AllReadyH.nil)
        · go_simp
          (go_at_call 48; ((refine (HT2.out _).mono ?_); rintro e' wz ⟨rfl, hb2⟩))
          refine hK.out _ _ ?_ (fun hHeld => ?_)
          · (try dsimp only); (first | assumption | exact HDD.out | exact (hHeld.2.on hb2).s)
          clear hK K
          (try simp only [List.getElem_toArray, List.getElem_cons_succ, List.getElem_cons_zero, Act.put, qrb23a, qrb23b, qrb23c])
          refine wpAnyH_take (i := 12) (v := ?_) rfl (by kernel_rfl) (by kernel_rfl) (by kernel_rfl) (fun _ _ _ h => h) (Or.inl ⟨by rfl, ?_⟩) (by assumption) ?_
          rotate_left
          · intro w hSw; (try dsimp only at hSw); go_simp; (try rw [if_neg (by first | omega | (simp [ByteArray.size_append]; omega))]); try with_reducible rfl
          (try simp only [List.getElem_toArray, List.getElem_cons_succ, List.getElem_cons_zero, Act.put, qrb23a, qrb23b, qrb23c])
          refine wpAnyH_ready (rs := [16]) (by kernel_rfl) (by simp) ?_
          refine AllReadyH.cons rfl (fun K hK => ?_) (AllReadyH.nil)
          · go_simp
            (go_at_call 51; ((refine (HTH.out _ (HP.out _ hHeld.2.B)).mono ?_); rintro e' wz ⟨rfl, hb2⟩))
            refine hK.out _ _ ?_ (fun hHeld => ?_)
            · (try dsimp only); (first | assumption | exact HDD.out | exact (hHeld.2.on hb2).s)
            clear hK K
            (try simp only [List.getElem_toArray, List.getElem_cons_succ, List.getElem_cons_zero, Act.put, qrb23a, qrb23b, qrb23c])
            refine wpAnyH_take (i := 17) (v := ?_) rfl (by kernel_rfl) (by kernel_rfl) (by kernel_rfl) (fun _ _ _ h => h) (Or.inl ⟨by rfl, ?_⟩) (by assumption) ?_
            rotate_left
            · intro w hSw; (try dsimp only at hSw); go_simp; (try rw [if_neg (by first | omega | (simp [ByteArray.size_append]; omega))]); try with_reducible rfl
            (try simp only [List.getElem_toArray, List.getElem_cons_succ, List.getElem_cons_zero, Act.put, qrb23a, qrb23b, qrb23c])
            refine wpAnyH_ready (rs := [21]) (by kernel_rfl) (by simp) ?_
            refine AllReadyH.cons rfl (fun K hK => ?_) (AllReadyH.nil)
            · go_simp
              (go_at_call 48; ((refine (HT3.out _).mono ?_); rintro e' wz ⟨rfl, hb2⟩))
              refine hK.out _ _ ?_ (fun hHeld => ?_)
              · (try dsimp only); (first | assumption | exact HDD.out | exact (hHeld.2.on hb2).s)
              clear hK K
              (try simp only [List.getElem_toArray, List.getElem_cons_succ, List.getElem_cons_zero, Act.put, qrb23a, qrb23b, qrb23c])
              refine wpAnyH_take (i := 22) (v := ?_) rfl (by kernel_rfl) (by kernel_rfl) (by kernel_rfl) (fun _ _ _ h => h) (Or.inl ⟨by rfl, ?_⟩) (by assumption) ?_
              rotate_left
              · intro w hSw; (try dsimp only at hSw); go_simp; (try rw [if_neg (by first | omega | (simp [ByteArray.size_append]; omega))]); try with_reducible rfl
              (try simp only [List.getElem_toArray, List.getElem_cons_succ, List.getElem_cons_zero, Act.put, qrb23a, qrb23b, qrb23c])
              refine wpAnyH_take (i := 23) (v := ?_) rfl (by kernel_rfl) (by kernel_rfl) (by kernel_rfl) (fun _ _ _ h => h) (Or.inl ⟨by rfl, ?_⟩) (by assumption) ?_
              rotate_left
              · intro w hSw; (try dsimp only at hSw); go_simp; (try rw [if_neg (by first | omega | (simp [ByteArray.size_append]; omega))]); try with_reducible rfl
              (try simp only [List.getElem_toArray, List.getElem_cons_succ, List.getElem_cons_zero, Act.put, qrb23a, qrb23b, qrb23c])
              refine wpAnyH_done (by kernel_rfl) ?_ _
              refine NoPanic.normal ?_
              have HD9 := Lib.hid hHeld.2
              clear hHeld
              have q0 := HD9.out.q.cs 0 _ rfl
              have q1 := HD9.out.q.cs 1 _ rfl
              have q2 := HD9.out.q.cs 2 _ rfl
              have qf : ∀ j, wz.frozen? ⟨w.heap.size + 1, j, none⟩ = false := HD9.out.q.s
              have ql := HD9.out.q.lt
              have c0 := HD9.out.p.cs 0 _ rfl
              have c1 := HD9.out.p.cs 1 _ rfl
              have cl := HD9.out.p.lt
              rw [HSM.out]
              go_wp2_with fail
              obtain ⟨W', hW', g0, g1, g2, hB'⟩ := HD9.out.end_ (.int .u8 (x.ch.toNat : Int)) (.int .u8 (UP.toNat : Int)) (.string (ofL EN))
              exact bodyPost_ret (v := .agg #[.int .u8 (x.ch.toNat : Int), .int .u8 (UP.toNat : Int), .string (ofL EN)]) (by rw [← hW']; simp [results, Tryz.results29, go_sem, g0, g1, g2]) rfl ⟨by rw [HV.out], by rw [← hW']; exact hB'⟩
    | false =>
      have HSM := Lib.hid (HSUM.out [0])
      rw [show ofL [0] = ⟨#[0]⟩ from rfl, show NM ++ [0] ++ Oct.text x.shop ++ Oct.text x.key ++ Hd.henc x.head ++ Oct.text x.body = x.enc by rw [HE.out, hy]; rfl] at HSM
      rw [hy] at c4
      generalize x.enc = EN at *
      have sy : (⟨#[0]⟩ : ByteArray).size = 1 := rfl
      clear hy
      go_upto_region 12 with fail
      have HDD := Lib.hid ((HD4.out.on (Below.refl _ _).drew).s)
      clear c0 c1 c2 c3 c4 c5 c6 c7 c8 c9 c10 c11 c12 cl
      refine wp_region_noPanic ?_
      refine wp_region_held_drew (S := ReFdS w x A c) (by kernel_rfl) ?_ (fun hHeld => ?_)
      · (try dsimp only); (first | assumption | exact HDD.out | exact (hHeld.2.on hb2).s)
      refine wpAnyH_take (i := 0) (v := ?_) rfl (by kernel_rfl) (by kernel_rfl) (by kernel_rfl) (fun _ _ _ h => h) (Or.inl ⟨by rfl, ?_⟩) (by assumption) ?_
      rotate_left
      · intro w hSw; (try dsimp only at hSw); go_simp; (try rw [if_neg (by first | omega | (simp [ByteArray.size_append]; omega))]); try with_reducible rfl
      (try simp only [List.getElem_toArray, List.getElem_cons_zero, Act.put, qrb23a, qrb23b, qrb23c])
      refine wpAnyH_take (i := 1) (v := ?_) rfl (by kernel_rfl) (by kernel_rfl) (by kernel_rfl) (fun _ _ _ h => h) (Or.inl ⟨by rfl, ?_⟩) (by assumption) ?_
      rotate_left
      · intro w hSw; (try dsimp only at hSw); go_simp; (try rw [if_neg (by first | omega | (simp [ByteArray.size_append]; omega))]); try with_reducible rfl
      (try simp only [List.getElem_toArray, List.getElem_cons_succ, List.getElem_cons_zero, Act.put, qrb23a, qrb23b, qrb23c])
      refine wpAnyH_take (i := 2) (v := ?_) rfl (by kernel_rfl) (by kernel_rfl) (by kernel_rfl) (fun _ _ _ h => h) (Or.inl ⟨by rfl, ?_⟩) (by assumption) ?_
      rotate_left
      · intro w hSw; (try dsimp only at hSw); go_simp; (try rw [if_neg (by first | omega | (simp [ByteArray.size_append]; omega))]); try with_reducible rfl
      (try simp only [List.getElem_toArray, List.getElem_cons_succ, List.getElem_cons_zero, Act.put, qrb23a, qrb23b, qrb23c])
      refine wpAnyH_take (i := 3) (v := ?_) rfl (by kernel_rfl) (by kernel_rfl) (by kernel_rfl) (fun _ _ _ h => h) (Or.inl ⟨by rfl, ?_⟩) (by assumption) ?_
      rotate_left
      · intro w hSw; (try dsimp only at hSw); go_simp; (try rw [if_neg (by first | omega | (simp [ByteArray.size_append]; omega))]); try with_reducible rfl
      (try simp only [List.getElem_toArray, List.getElem_cons_succ, List.getElem_cons_zero, Act.put, qrb23a, qrb23b, qrb23c])
      refine wpAnyH_take (i := 4) (v := ?_) rfl (by kernel_rfl) (by kernel_rfl) (by kernel_rfl) (fun _ _ _ h => h) (Or.inl ⟨by rfl, ?_⟩) (by assumption) ?_
      rotate_left
      · intro w hSw; (try dsimp only at hSw); go_simp; (try rw [if_neg (by first | omega | (simp [ByteArray.size_append]; omega))]); try with_reducible rfl
      (try simp only [List.getElem_toArray, List.getElem_cons_succ, List.getElem_cons_zero, Act.put, qrb23a, qrb23b, qrb23c])
      refine wpAnyH_take (i := 5) (v := ?_) rfl (by kernel_rfl) (by kernel_rfl) (by kernel_rfl) (fun _ _ _ h => h) (Or.inl ⟨by rfl, ?_⟩) (by assumption) ?_
      rotate_left
      · intro w hSw; (try dsimp only at hSw); go_simp; (try rw [if_neg (by first | omega | (simp [ByteArray.size_append]; omega))]); try with_reducible rfl
      (try simp only [List.getElem_toArray, List.getElem_cons_succ, List.getElem_cons_zero, Act.put, qrb23a, qrb23b, qrb23c])
      refine wpAnyH_take (i := 8) (v := ?_) rfl (by kernel_rfl) (by kernel_rfl) (by kernel_rfl) (fun _ _ _ h => h) (Or.inl ⟨by rfl, ?_⟩) (by assumption) ?_
      rotate_left
      · intro w hSw; (try dsimp only at hSw); go_simp; (try rw [if_neg (by first | omega | (simp [ByteArray.size_append]; omega))]); try with_reducible rfl
      (try simp only [List.getElem_toArray, List.getElem_cons_succ, List.getElem_cons_zero, Act.put, qrb23a, qrb23b, qrb23c])
      refine wpAnyH_take (i := 9) (v := ?_) rfl (by kernel_rfl) (by kernel_rfl) (by kernel_rfl) (fun _ _ _ h => h) (Or.inl ⟨by rfl, ?_⟩) (by assumption) ?_
      rotate_left
      · intro w hSw; (try dsimp only at hSw); go_simp; (try rw [if_neg (by first | omega | (simp [ByteArray.size_append]; omega))]); try with_reducible rfl
      (try simp only [List.getElem_toArray, List.getElem_cons_succ, List.getElem_cons_zero, Act.put, qrb23a, qrb23b, qrb23c])
      refine wpAnyH_take (i := 10) (v := ?_) rfl (by kernel_rfl) (by kernel_rfl) (by kernel_rfl) (fun _ _ _ h => h) (Or.inl ⟨by rfl, ?_⟩) (by assumption) ?_
      rotate_left
      · intro w hSw; (try dsimp only at hSw); go_simp; (try rw [if_neg (by first | omega | (simp [ByteArray.size_append]; omega))]); try with_reducible rfl
      (try simp only [List.getElem_toArray, List.getElem_cons_succ, List.getElem_cons_zero, Act.put, qrb23a, qrb23b, qrb23c])
      refine wpAnyH_take (i := 13) (v := ?_) rfl (by kernel_rfl) (by kernel_rfl) (by kernel_rfl) (fun _ _ _ h => h) (Or.inl ⟨by rfl, ?_⟩) (by assumption) ?_
      rotate_left
      · intro w hSw; (try dsimp only at hSw); go_simp; (try rw [if_neg (by first | omega | (simp [ByteArray.size_append]; omega))]); try with_reducible rfl
      (try simp only [List.getElem_toArray, List.getElem_cons_succ, List.getElem_cons_zero, Act.put, qrb23a, qrb23b, qrb23c])
      refine wpAnyH_take (i := 14) (v := ?_) rfl (by kernel_rfl) (by kernel_rfl) (by kernel_rfl) (fun _ _ _ h => h) (Or.inl ⟨by rfl, ?_⟩) (by assumption) ?_
      rotate_left
      · intro w hSw; (try dsimp only at hSw); go_simp; (try rw [if_neg (by first | omega | (simp [ByteArray.size_append]; omega))]); try with_reducible rfl
      (try simp only [List.getElem_toArray, List.getElem_cons_succ, List.getElem_cons_zero, Act.put, qrb23a, qrb23b, qrb23c])
      refine wpAnyH_take (i := 15) (v := ?_) rfl (by kernel_rfl) (by kernel_rfl) (by kernel_rfl) (fun _ _ _ h => h) (Or.inl ⟨by rfl, ?_⟩) (by assumption) ?_
      rotate_left
      · intro w hSw; (try dsimp only at hSw); go_simp; (try rw [if_neg (by first | omega | (simp [ByteArray.size_append]; omega))]); try with_reducible rfl
      (try simp only [List.getElem_toArray, List.getElem_cons_succ, List.getElem_cons_zero, Act.put, qrb23a, qrb23b, qrb23c])
      refine wpAnyH_take (i := 18) (v := ?_) rfl (by kernel_rfl) (by kernel_rfl) (by kernel_rfl) (fun _ _ _ h => h) (Or.inl ⟨by rfl, ?_⟩) (by assumption) ?_
      rotate_left
      · intro w hSw; (try dsimp only at hSw); go_simp; (try rw [if_neg (by first | omega | (simp [ByteArray.size_append]; omega))]); try with_reducible rfl
      (try simp only [List.getElem_toArray, List.getElem_cons_succ, List.getElem_cons_zero, Act.put, qrb23a, qrb23b, qrb23c])
      refine wpAnyH_take (i := 19) (v := ?_) rfl (by kernel_rfl) (by kernel_rfl) (by kernel_rfl) (fun _ _ _ h => h) (Or.inl ⟨by rfl, ?_⟩) (by assumption) ?_
      rotate_left
      · intro w hSw; (try dsimp only at hSw); go_simp; (try rw [if_neg (by first | omega | (simp [ByteArray.size_append]; omega))]); try with_reducible rfl
      (try simp only [List.getElem_toArray, List.getElem_cons_succ, List.getElem_cons_zero, Act.put, qrb23a, qrb23b, qrb23c])
      refine wpAnyH_take (i := 20) (v := ?_) rfl (by kernel_rfl) (by kernel_rfl) (by kernel_rfl) (fun _ _ _ h => h) (Or.inl ⟨by rfl, ?_⟩) (by assumption) ?_
      rotate_left
      · intro w hSw; (try dsimp only at hSw); go_simp; (try rw [if_neg (by first | omega | (simp [ByteArray.size_append]; omega))]); try with_reducible rfl
      (try simp only [List.getElem_toArray, List.getElem_cons_succ, List.getElem_cons_zero, Act.put, qrb23a, qrb23b, qrb23c])
      refine wpAnyH_ready (rs := [6]) (by kernel_rfl) (by simp) ?_
      refine AllReadyH.cons rfl (fun K hK => ?_) (AllReadyH.nil)
      · go_simp
        (go_at_call 48; ((refine (HT1.out _).mono ?_); rintro e' wz ⟨rfl, hb2⟩))
        refine hK.out _ _ ?_ (fun hHeld => ?_)
        · (try dsimp only); (first | assumption | exact HDD.out | exact (hHeld.2.on hb2).s)
        clear hK K
        (try simp only [List.getElem_toArray, List.getElem_cons_succ, List.getElem_cons_zero, Act.put, qrb23a, qrb23b, qrb23c])
        refine wpAnyH_take (i := 7) (v := ?_) rfl (by kernel_rfl) (by kernel_rfl) (by kernel_rfl) (fun _ _ _ h => h) (Or.inl ⟨by rfl, ?_⟩) (by assumption) ?_
        rotate_left
        · intro w hSw; (try dsimp only at hSw); go_simp; (try rw [if_neg (by first | omega | (simp [ByteArray.size_append]; omega))]); try with_reducible rfl
        (try simp only [List.getElem_toArray, List.getElem_cons_succ, List.getElem_cons_zero, Act.put, qrb23a, qrb23b, qrb23c])
        refine wpAnyH_ready (rs := [11]) (by kernel_rfl) (by simp) ?_
        refine AllReadyH.cons rfl (fun K hK => ?_) (AllReadyH.nil)
        · go_simp
          (go_at_call 48; ((refine (HT2.out _).mono ?_); rintro e' wz ⟨rfl, hb2⟩))
          refine hK.out _ _ ?_ (fun hHeld => ?_)
          · (try dsimp only); (first | assumption | exact HDD.out | exact (hHeld.2.on hb2).s)
          clear hK K
          (try simp only [List.getElem_toArray, List.getElem_cons_succ, List.getElem_cons_zero, Act.put, qrb23a, qrb23b, qrb23c])
          refine wpAnyH_take (i := 12) (v := ?_) rfl (by kernel_rfl) (by kernel_rfl) (by kernel_rfl) (fun _ _ _ h => h) (Or.inl ⟨by rfl, ?_⟩) (by assumption) ?_
          rotate_left
          · intro w hSw; (try dsimp only at hSw); go_simp; (try rw [if_neg (by first | omega | (simp [ByteArray.size_append]; omega))]); try with_reducible rfl
          (try simp only [List.getElem_toArray, List.getElem_cons_succ, List.getElem_cons_zero, Act.put, qrb23a, qrb23b, qrb23c])
          refine wpAnyH_ready (rs := [16]) (by kernel_rfl) (by simp) ?_
          refine AllReadyH.cons rfl (fun K hK => ?_) (AllReadyH.nil)
          · go_simp
            (go_at_call 51; ((refine (HTH.out _ (HP.out _ hHeld.2.B)).mono ?_); rintro e' wz ⟨rfl, hb2⟩))
            refine hK.out _ _ ?_ (fun hHeld => ?_)
            · (try dsimp only); (first | assumption | exact HDD.out | exact (hHeld.2.on hb2).s)
            clear hK K
            (try simp only [List.getElem_toArray, List.getElem_cons_succ, List.getElem_cons_zero, Act.put, qrb23a, qrb23b, qrb23c])
            refine wpAnyH_take (i := 17) (v := ?_) rfl (by kernel_rfl) (by kernel_rfl) (by kernel_rfl) (fun _ _ _ h => h) (Or.inl ⟨by rfl, ?_⟩) (by assumption) ?_
            rotate_left
            · intro w hSw; (try dsimp only at hSw); go_simp; (try rw [if_neg (by first | omega | (simp [ByteArray.size_append]; omega))]); try with_reducible rfl
            (try simp only [List.getElem_toArray, List.getElem_cons_succ, List.getElem_cons_zero, Act.put, qrb23a, qrb23b, qrb23c])
            refine wpAnyH_ready (rs := [21]) (by kernel_rfl) (by simp) ?_
            refine AllReadyH.cons rfl (fun K hK => ?_) (AllReadyH.nil)
            · go_simp
              (go_at_call 48; ((refine (HT3.out _).mono ?_); rintro e' wz ⟨rfl, hb2⟩))
              refine hK.out _ _ ?_ (fun hHeld => ?_)
              · (try dsimp only); (first | assumption | exact HDD.out | exact (hHeld.2.on hb2).s)
              clear hK K
              (try simp only [List.getElem_toArray, List.getElem_cons_succ, List.getElem_cons_zero, Act.put, qrb23a, qrb23b, qrb23c])
              refine wpAnyH_take (i := 22) (v := ?_) rfl (by kernel_rfl) (by kernel_rfl) (by kernel_rfl) (fun _ _ _ h => h) (Or.inl ⟨by rfl, ?_⟩) (by assumption) ?_
              rotate_left
              · intro w hSw; (try dsimp only at hSw); go_simp; (try rw [if_neg (by first | omega | (simp [ByteArray.size_append]; omega))]); try with_reducible rfl
              (try simp only [List.getElem_toArray, List.getElem_cons_succ, List.getElem_cons_zero, Act.put, qrb23a, qrb23b, qrb23c])
              refine wpAnyH_take (i := 23) (v := ?_) rfl (by kernel_rfl) (by kernel_rfl) (by kernel_rfl) (fun _ _ _ h => h) (Or.inl ⟨by rfl, ?_⟩) (by assumption) ?_
              rotate_left
              · intro w hSw; (try dsimp only at hSw); go_simp; (try rw [if_neg (by first | omega | (simp [ByteArray.size_append]; omega))]); try with_reducible rfl
              (try simp only [List.getElem_toArray, List.getElem_cons_succ, List.getElem_cons_zero, Act.put, qrb23a, qrb23b, qrb23c])
              refine wpAnyH_done (by kernel_rfl) ?_ _
              refine NoPanic.normal ?_
              have HD9 := Lib.hid hHeld.2
              clear hHeld
              have q0 := HD9.out.q.cs 0 _ rfl
              have q1 := HD9.out.q.cs 1 _ rfl
              have q2 := HD9.out.q.cs 2 _ rfl
              have qf : ∀ j, wz.frozen? ⟨w.heap.size + 1, j, none⟩ = false := HD9.out.q.s
              have ql := HD9.out.q.lt
              have c0 := HD9.out.p.cs 0 _ rfl
              have c1 := HD9.out.p.cs 1 _ rfl
              have cl := HD9.out.p.lt
              rw [HSM.out]
              go_wp2_with fail
              obtain ⟨W', hW', g0, g1, g2, hB'⟩ := HD9.out.end_ (.int .u8 (x.ch.toNat : Int)) (.int .u8 (UP.toNat : Int)) (.string (ofL EN))
              exact bodyPost_ret (v := .agg #[.int .u8 (x.ch.toNat : Int), .int .u8 (UP.toNat : Int), .string (ofL EN)]) (by rw [← hW']; simp [results, Tryz.results29, go_sem, g0, g1, g2]) rfl ⟨by rw [HV.out], by rw [← hW']; exact hB'⟩
end Go.Proofs.YtnjlhafhgfpfiaaGreatDoor
end
