/-
 A part of the proof.
-/
import Derived.Test.YtaikigponkjkgaaGreatDoorXq31
import Derived.Test.YtaikigponkjkgaaGreatDoorXq35
import Derived.Test.YtaikigponkjkgaaGreatDoorXq37

section
namespace Go.Proofs.YtaikigponkjkgaaGreatDoor
open Go.ChangeShapes Go.WideShapes Go.ChangeAt Go.RowKit
open Go.Lib (hid)
namespace De
def n1 (s : LSt) : Nat := Oct.val (lOut s.1 1)
def n8 (s : LSt) : Nat := Oct.val (lOut s.1 8)
def r1 (s : LSt) : LSt := lRaw s 1
def r8 (s : LSt) : LSt := lRaw s 8
theorem n1_lt (s : LSt) : n1 s < 256 := Nat.lt_of_lt_of_le (val_out_lt s.1 1) (by decide)
theorem n8_lt (s : LSt) : n8 s < 18446744073709551616 := Nat.lt_of_lt_of_le (val_out_lt s.1 8) (by decide)
def shE (s : LSt) : LSt := lText (r1 (lText s 16)) 16
def shA (s : LSt) : Sh := ⟨lTextOut s 16, n1 (lText s 16), lTextOut (r1 (lText s 16)) 16⟩
def quE (s : LSt) : LSt := lText (r8 (r8 (lText s 16))) 16
def quA (s : LSt) : Qu := ⟨lTextOut s 16, n8 (lText s 16), n8 (r8 (lText s 16)), lTextOut (r8 (r8 (lText s 16))) 16⟩
def b2 (s : LSt) : LSt := lText (lText s 16) 16
def b4 (s : LSt) : LSt := lText (r1 (b2 s)) 64
def b5 (s : LSt) : LSt := (Hd.hread (b4 s)).2
def bdR (s : LSt) : LSt := r1 (b5 s)
def bdA (s : LSt) : Bd := ⟨lTextOut s 16, lTextOut (lText s 16) 16, decide (n1 (b2 s) = 1), lTextOut (r1 (b2 s)) 64, (Hd.hread (b4 s)).1, decide (n1 (b5 s) = 1)⟩
def rk (s : LSt) : Nat := n1 s
def rt (s : LSt) : Nat := n8 (r1 s)
def r0 (s : LSt) : LSt := r8 (r1 s)
def rdK (k t : Nat) (s : LSt) : De × LSt :=
 if k = 0 then ({ of k t with shop := shA s }, shE s) else
 if k = 2 then ({ of k t with q := quA s }, quE s) else
 if k = 4 ∨ k = 5 then ({ of k t with bind := bdA s }, bdR s) else
 if k = 1 ∨ k = 3 ∨ k = 7 then ({ of k t with name := lTextOut s 16 }, lText s 16) else
 if k = 6 then ({ of k t with mail := (Ml.rd s).1 }, (Ml.rd s).2) else
 if k = 8 then ({ of k t with name := lTextOut s 16, id := n8 (lText s 16), how := n1 (r8 (lText s 16)) }, r1 (r8 (lText s 16))) else
 if k = 10 then ({ of k t with frm := n1 s, num := n8 (r1 s), mail := (Ml.rd (r8 (r1 s))).1 }, (Ml.rd (r8 (r1 s))).2) else
 if k = 12 then ({ of k t with cd := n1 s, text := lTextOut (r1 s) 64 }, lText (r1 s) 64) else
 (of k t, s)
def rd (s : LSt) : De × LSt := rdK (rk s) (rt s) (r0 s)
theorem ok_r1 {s : LSt} (h : lOk s) : lOk (r1 s) := lOk_raw h 1
theorem ok_r8 {s : LSt} (h : lOk s) : lOk (r8 s) := lOk_raw h 8
theorem ok_sh {s : LSt} (h : lOk s) : lOk (shE s) := lOk_text (ok_r1 (lOk_text h _)) _
theorem ok_qu {s : LSt} (h : lOk s) : lOk (quE s) := lOk_text (ok_r8 (ok_r8 (lOk_text h _))) _
theorem ok_b4 {s : LSt} (h : lOk s) : lOk (b4 s) := lOk_text (ok_r1 (lOk_text (lOk_text h _) _)) _
theorem ok_b5 {s : LSt} (h : lOk s) : lOk (b5 s) := Hd.lOk_hread (ok_b4 h)
theorem ok_bd {s : LSt} (h : lOk s) : lOk (bdR s) := ok_r1 (ok_b5 h)
theorem ok_r0 {s : LSt} (h : lOk s) : lOk (r0 s) := ok_r8 (ok_r1 h)
theorem rdK_0 {k t : Nat} {s : LSt} (h0 : k = 0) : rdK k t s = ({ of k t with shop := shA s }, shE s) := by unfold rdK; rw [if_pos h0]
theorem rdK_1 {k t : Nat} {s : LSt} (h0 : ¬ (k = 0)) (h1 : k = 2) : rdK k t s = ({ of k t with q := quA s }, quE s) := by unfold rdK; rw [if_neg h0, if_pos h1]
theorem rdK_2 {k t : Nat} {s : LSt} (h0 : ¬ (k = 0)) (h1 : ¬ (k = 2)) (h2 : k = 4 ∨ k = 5) : rdK k t s = ({ of k t with bind := bdA s }, bdR s) := by unfold rdK; rw [if_neg h0, if_neg h1, if_pos h2]
theorem rdK_3 {k t : Nat} {s : LSt} (h0 : ¬ (k = 0)) (h1 : ¬ (k = 2)) (h2 : ¬ (k = 4 ∨ k = 5)) (h3 : k = 1 ∨ k = 3 ∨ k = 7) : rdK k t s = ({ of k t with name := lTextOut s 16 }, lText s 16) := by unfold rdK; rw [if_neg h0, if_neg h1, if_neg h2, if_pos h3]
theorem rdK_4 {k t : Nat} {s : LSt} (h0 : ¬ (k = 0)) (h1 : ¬ (k = 2)) (h2 : ¬ (k = 4 ∨ k = 5)) (h3 : ¬ (k = 1 ∨ k = 3 ∨ k = 7)) (h4 : k = 6) : rdK k t s = ({ of k t with mail := (Ml.rd s).1 }, (Ml.rd s).2) := by unfold rdK; rw [if_neg h0, if_neg h1, if_neg h2, if_neg h3, if_pos h4]
theorem rdK_5 {k t : Nat} {s : LSt} (h0 : ¬ (k = 0)) (h1 : ¬ (k = 2)) (h2 : ¬ (k = 4 ∨ k = 5)) (h3 : ¬ (k = 1 ∨ k = 3 ∨ k = 7)) (h4 : ¬ (k = 6)) (h5 : k = 8) : rdK k t s = ({ of k t with name := lTextOut s 16, id := n8 (lText s 16), how := n1 (r8 (lText s 16)) }, r1 (r8 (lText s 16))) := by unfold rdK; rw [if_neg h0, if_neg h1, if_neg h2, if_neg h3, if_neg h4, if_pos h5]
theorem rdK_6 {k t : Nat} {s : LSt} (h0 : ¬ (k = 0)) (h1 : ¬ (k = 2)) (h2 : ¬ (k = 4 ∨ k = 5)) (h3 : ¬ (k = 1 ∨ k = 3 ∨ k = 7)) (h4 : ¬ (k = 6)) (h5 : ¬ (k = 8)) (h6 : k = 10) : rdK k t s = ({ of k t with frm := n1 s, num := n8 (r1 s), mail := (Ml.rd (r8 (r1 s))).1 }, (Ml.rd (r8 (r1 s))).2) := by unfold rdK; rw [if_neg h0, if_neg h1, if_neg h2, if_neg h3, if_neg h4, if_neg h5, if_pos h6]
theorem rdK_7 {k t : Nat} {s : LSt} (h0 : ¬ (k = 0)) (h1 : ¬ (k = 2)) (h2 : ¬ (k = 4 ∨ k = 5)) (h3 : ¬ (k = 1 ∨ k = 3 ∨ k = 7)) (h4 : ¬ (k = 6)) (h5 : ¬ (k = 8)) (h6 : ¬ (k = 10)) (h7 : k = 12) : rdK k t s = ({ of k t with cd := n1 s, text := lTextOut (r1 s) 64 }, lText (r1 s) 64) := by unfold rdK; rw [if_neg h0, if_neg h1, if_neg h2, if_neg h3, if_neg h4, if_neg h5, if_neg h6, if_pos h7]
theorem rdK_8 {k t : Nat} {s : LSt} (h0 : ¬ (k = 0)) (h1 : ¬ (k = 2)) (h2 : ¬ (k = 4 ∨ k = 5)) (h3 : ¬ (k = 1 ∨ k = 3 ∨ k = 7)) (h4 : ¬ (k = 6)) (h5 : ¬ (k = 8)) (h6 : ¬ (k = 10)) (h7 : ¬ (k = 12)) : rdK k t s = (of k t, s) := by unfold rdK; rw [if_neg h0, if_neg h1, if_neg h2, if_neg h3, if_neg h4, if_neg h5, if_neg h6, if_neg h7]
theorem rdK_ok (k t : Nat) {s : LSt} (h : lOk s) : lOk (rdK k t s).2 := by
 by_cases h0 : k = 0
 ·rw [rdK_0 h0]; dsimp only; exact ok_sh h
 by_cases h1 : k = 2
 ·rw [rdK_1 h0 h1]; dsimp only; exact ok_qu h
 by_cases h2 : k = 4 ∨ k = 5
 ·rw [rdK_2 h0 h1 h2]; dsimp only; exact ok_bd h
 by_cases h3 : k = 1 ∨ k = 3 ∨ k = 7
 ·rw [rdK_3 h0 h1 h2 h3]; dsimp only; exact lOk_text h _
 by_cases h4 : k = 6
 ·rw [rdK_4 h0 h1 h2 h3 h4]; dsimp only; exact Rs.rd_ok s h
 by_cases h5 : k = 8
 ·rw [rdK_5 h0 h1 h2 h3 h4 h5]; dsimp only; exact ok_r1 (ok_r8 (lOk_text h _))
 by_cases h6 : k = 10
 ·rw [rdK_6 h0 h1 h2 h3 h4 h5 h6]; dsimp only; exact Rs.rd_ok _ (ok_r8 (ok_r1 h))
 by_cases h7 : k = 12
 ·rw [rdK_7 h0 h1 h2 h3 h4 h5 h6 h7]; dsimp only; exact lOk_text (ok_r1 h) _
 rw [rdK_8 h0 h1 h2 h3 h4 h5 h6 h7]; dsimp only; exact h
theorem rd_ok (s : LSt) (h : lOk s) : lOk (rd s).2 := rdK_ok _ _ (ok_r0 h)
theorem r1_err {s : LSt} (h : lOk s) (he : s.2 ≠ 0) : r1 s = s := lRaw_err h he 1
theorem r8_err {s : LSt} (h : lOk s) (he : s.2 ≠ 0) : r8 s = s := lRaw_err h he 8
theorem sh_err {s : LSt} (h : lOk s) (he : s.2 ≠ 0) : shE s = s := by
 unfold shE
 rw [lText_err h he 16, r1_err h he, lText_err h he 16]
theorem qu_err {s : LSt} (h : lOk s) (he : s.2 ≠ 0) : quE s = s := by
 unfold quE
 rw [lText_err h he 16, r8_err h he, r8_err h he, lText_err h he 16]
theorem bd_err {s : LSt} (h : lOk s) (he : s.2 ≠ 0) : bdR s = s := by
 unfold bdR b5 b4 b2
 rw [lText_err h he 16, lText_err h he 16, r1_err h he, lText_err h he 64, Rs.hread_err h he, r1_err h he]
theorem rdK_err (k t : Nat) {s : LSt} (h : lOk s) (he : s.2 ≠ 0) : (rdK k t s).2 = s := by
 by_cases h0 : k = 0
 ·rw [rdK_0 h0]; dsimp only; exact sh_err h he
 by_cases h1 : k = 2
 ·rw [rdK_1 h0 h1]; dsimp only; exact qu_err h he
 by_cases h2 : k = 4 ∨ k = 5
 ·rw [rdK_2 h0 h1 h2]; dsimp only; exact bd_err h he
 by_cases h3 : k = 1 ∨ k = 3 ∨ k = 7
 ·rw [rdK_3 h0 h1 h2 h3]; dsimp only; exact lText_err h he 16
 by_cases h4 : k = 6
 ·rw [rdK_4 h0 h1 h2 h3 h4]; dsimp only; exact Rs.rd_err h he
 by_cases h5 : k = 8
 ·rw [rdK_5 h0 h1 h2 h3 h4 h5]; dsimp only; rw [lText_err h he 16, r8_err h he, r1_err h he]
 by_cases h6 : k = 10
 ·rw [rdK_6 h0 h1 h2 h3 h4 h5 h6]; dsimp only; rw [r1_err h he, r8_err h he]; exact Rs.rd_err h he
 by_cases h7 : k = 12
 ·rw [rdK_7 h0 h1 h2 h3 h4 h5 h6 h7]; dsimp only; rw [r1_err h he]; exact lText_err h he 64
 rw [rdK_8 h0 h1 h2 h3 h4 h5 h6 h7]
theorem rd_err {s : LSt} (h : lOk s) (he : s.2 ≠ 0) : (rd s).2 = s := by
 have e1 : r0 s = s := by unfold r0; rw [r1_err h he, r8_err h he]
 unfold rd
 rw [e1]
 exact rdK_err _ _ h he
structure Lo (x : De) : Prop where
 f : Fits x
 sn : x.shop.name.length ≤ 65536
 st : x.shop.to.length ≤ 65536
 qn : x.q.name.length ≤ 65536
 qd : x.q.dead.length ≤ 65536
 bs : x.bind.shop.length ≤ 65536
 bt : x.bind.to.length ≤ 65536
 bk : x.bind.key.length ≤ 65536
 bw : x.bind.want.length ≤ 8
 bp : ∀ p ∈ x.bind.want, p.key.length ≤ 65536 ∧ p.txt.length ≤ 65536
 name : x.name.length ≤ 65536
 ms : x.mail.shop.length ≤ 65536
 mky : x.mail.key.length ≤ 65536
 mb : x.mail.body.length ≤ 65536
 mh : x.mail.head.length ≤ 8
 mp : ∀ p ∈ x.mail.head, p.key.length ≤ 65536 ∧ p.txt.length ≤ 65536
 text : x.text.length ≤ 65536
theorem to_len (s : LSt) (m : Int) : (lTextOut s m).length ≤ 65536 := by
 have h := lOut_le (lMid s m).1 (lLen s)
 have h2 : lLen s < 256 ^ 2 := val_out_lt s.1 2
 have h3 : (256 : Nat) ^ 2 = 65536 := by decide
 unfold lTextOut
 omega
theorem fits_ofk {k t : Nat} (hk : k < 256) (ht : t < 18446744073709551616) : Fits (of k t) :=
 ⟨hk, ht, Nat.zero_lt_succ 255, Nat.zero_lt_succ 18446744073709551615, Nat.zero_lt_succ 18446744073709551615, (fun p hp => by simp [of, Bk.Bd0] at hp), Nat.zero_lt_succ 18446744073709551615, Nat.zero_lt_succ 255, Nat.zero_lt_succ 255, Nat.zero_lt_succ 255, Nat.zero_lt_succ 18446744073709551615, ⟨Nat.zero_lt_succ 18446744073709551615, Nat.zero_lt_succ 18446744073709551615, Nat.zero_lt_succ 255, fun p hp => by simp [of, Ml.zero] at hp⟩⟩
theorem lo_of {k t : Nat} (hk : k < 256) (ht : t < 18446744073709551616) : Lo (of k t) :=
 ⟨fits_ofk hk ht, Nat.zero_le _, Nat.zero_le _, Nat.zero_le _, Nat.zero_le _, Nat.zero_le _, Nat.zero_le _, Nat.zero_le _, Nat.zero_le _, fun p hp => by simp [of, Bk.Bd0] at hp, Nat.zero_le _, Nat.zero_le _, Nat.zero_le _, Nat.zero_le _, Nat.zero_le _, fun p hp => by simp [of, Ml.zero] at hp, Nat.zero_le _⟩
theorem lo_shop {k t : Nat} (hk : k < 256) (ht : t < 18446744073709551616) (s : LSt) : Lo { of k t with shop := shA s } :=
 { lo_of hk ht with f := { fits_ofk hk ht with sort := by dsimp only [shA]; exact n1_lt _ }, sn := by dsimp only [shA]; exact to_len _ _, st := by dsimp only [shA]; exact to_len _ _ }
theorem lo_qu {k t : Nat} (hk : k < 256) (ht : t < 18446744073709551616) (s : LSt) : Lo { of k t with q := quA s } :=
 { lo_of hk ht with f := { fits_ofk hk ht with most := by dsimp only [shA]; exact n8_lt _, life := by dsimp only [quA]; exact n8_lt _ }, qn := by dsimp only [quA]; exact to_len _ _, qd := by dsimp only [quA]; exact to_len _ _ }
theorem lo_bd {k t : Nat} (hk : k < 256) (ht : t < 18446744073709551616) (s : LSt) : Lo { of k t with bind := bdA s } :=
 { lo_of hk ht with f := { fits_ofk hk ht with want := by dsimp only [bdA]; exact Hd.hread_fits _ }, bs := by dsimp only [bdA]; exact to_len _ _, bt := by dsimp only [bdA]; exact to_len _ _, bk := by dsimp only [bdA]; exact to_len _ _, bw := by dsimp only [bdA]; exact Hd.hread_len _, bp := by dsimp only [bdA]; exact hread_low _ }
theorem rd_zero_or (s : LSt) : (Ml.rd s).1 = Ml.zero ∨ (Ml.rd s).1 = Ml.got s := by
 show (if (Ml.fin s).2 ≠ 0 then Ml.zero else Ml.got s) = _ ∨ (if (Ml.fin s).2 ≠ 0 then Ml.zero else Ml.got s) = _
 split
 ·exact .inl rfl
 ·exact .inr rfl
theorem rd_mlow (s : LSt) : (Ml.rd s).1.shop.length ≤ 65536 ∧ (Ml.rd s).1.key.length ≤ 65536 ∧ (Ml.rd s).1.body.length ≤ 65536 ∧ (Ml.rd s).1.head.length ≤ 8 ∧ ∀ p ∈ (Ml.rd s).1.head, p.key.length ≤ 65536 ∧ p.txt.length ≤ 65536 := by
 rcases rd_zero_or s with e | e
 ·rw [e]; exact ⟨by decide, by decide, by decide, by decide, fun p hp => by simp [Ml.zero] at hp⟩
 ·exact ml_low s _ e.symm
theorem lo_mail {k t : Nat} (hk : k < 256) (ht : t < 18446744073709551616) (a b : Nat) (ha : a < 256) (hb : b < 18446744073709551616) (s : LSt) : Lo { of k t with frm := a, num := b, mail := (Ml.rd s).1 } := by
 obtain ⟨h1, h2, h3, h4, h5⟩ := rd_mlow s
 exact { lo_of hk ht with f := { fits_ofk hk ht with frm := ha, num := hb, mail := Rs.rd_fits s }, ms := h1, mky := h2, mb := h3, mh := h4, mp := h5 }
theorem rdK_lo {k t : Nat} (hk : k < 256) (ht : t < 18446744073709551616) (s : LSt) : Lo (rdK k t s).1 := by
 by_cases h0 : k = 0
 ·rw [rdK_0 h0]; exact lo_shop hk ht s
 by_cases h1 : k = 2
 ·rw [rdK_1 h0 h1]; exact lo_qu hk ht s
 by_cases h2 : k = 4 ∨ k = 5
 ·rw [rdK_2 h0 h1 h2]; exact lo_bd hk ht s
 by_cases h3 : k = 1 ∨ k = 3 ∨ k = 7
 ·rw [rdK_3 h0 h1 h2 h3]; exact { lo_of hk ht with f := { fits_ofk hk ht with }, name := by dsimp only; exact to_len _ _ }
 by_cases h4 : k = 6
 ·rw [rdK_4 h0 h1 h2 h3 h4]; exact lo_mail hk ht 0 0 (by decide) (by decide) s
 by_cases h5 : k = 8
 ·rw [rdK_5 h0 h1 h2 h3 h4 h5]; exact { lo_of hk ht with f := { fits_ofk hk ht with id := by dsimp only; exact n8_lt _, how := by dsimp only; exact n1_lt _ }, name := by dsimp only; exact to_len _ _ }
 by_cases h6 : k = 10
 ·rw [rdK_6 h0 h1 h2 h3 h4 h5 h6]; exact lo_mail hk ht _ _ (n1_lt _) (n8_lt _) _
 by_cases h7 : k = 12
 ·rw [rdK_7 h0 h1 h2 h3 h4 h5 h6 h7]; exact { lo_of hk ht with f := { fits_ofk hk ht with cd := by dsimp only; exact n1_lt _ }, text := by dsimp only; exact to_len _ _ }
 rw [rdK_8 h0 h1 h2 h3 h4 h5 h6 h7]; exact lo_of hk ht
theorem rd_lo (s : LSt) : Lo (rd s).1 := rdK_lo (n1_lt _) (n8_lt _) _
theorem f1 {n : Nat} (hn : n < 256) (r : List UInt8) : n1 (Oct.be 1 n ++ r, 0) = n ∧ r1 (Oct.be 1 n ++ r, 0) = (r, 0) :=
 ⟨by unfold n1; rw [Hd.lOut_front _ _ 1 (Oct.length_be _ _), Hd.val_be_at 1 _ hn], Hd.lRaw_front _ _ _ 1 (Oct.length_be _ _)⟩
theorem f8 {n : Nat} (hn : n < 18446744073709551616) (r : List UInt8) : n8 (Oct.be 8 n ++ r, 0) = n ∧ r8 (Oct.be 8 n ++ r, 0) = (r, 0) := Pt.num_front hn r
def rest (x : De) : List UInt8 :=
 if x.kd = 0 then tx x.shop.name ++ (Oct.be 1 x.shop.sort ++ tx x.shop.to) else
 if x.kd = 2 then tx x.q.name ++ (Oct.be 8 x.q.most ++ (Oct.be 8 x.q.life ++ tx x.q.dead)) else
 if x.kd = 4 ∨ x.kd = 5 then bdE x.bind [] else
 if x.kd = 1 ∨ x.kd = 3 ∨ x.kd = 7 then tx x.name else
 if x.kd = 6 then x.mail.enc else
 if x.kd = 8 then tx x.name ++ (Oct.be 8 x.id ++ Oct.be 1 x.how) else
 if x.kd = 10 then Oct.be 1 x.frm ++ (Oct.be 8 x.num ++ x.mail.enc) else
 if x.kd = 12 then Oct.be 1 x.cd ++ tx x.text else
 []
theorem enc_rest (x : De) : x.enc = Oct.be 1 x.kd ++ (Oct.be 8 x.tick ++ rest x) := by
 unfold enc rest E1 bdE
 repeat' split
 all_goals simp [List.append_assoc]
def rds : Nat → LSt → List De × LSt
 | 0, s => ([], s)
 | n + 1, s => ((rds n s).1 ++ [(rd (rds n s).2).1], (rd (rds n s).2).2)
theorem rds_len : ∀ (n : Nat) (s : LSt), (rds n s).1.length = n
 | 0, _ => rfl
 | n + 1, s => by simp [rds, rds_len n s]
theorem rds_ok : ∀ (n : Nat) {s : LSt}, lOk s → lOk (rds n s).2
 | 0, _, h => h
 | n + 1, _, h => rd_ok _ (rds_ok n h)
theorem rds_lo : ∀ (n : Nat) (s : LSt), ∀ x ∈ (rds n s).1, Lo x
 | 0, _, x, h => by simp [rds] at h
 | n + 1, s, x, h => by
  rcases List.mem_append.1 (show x ∈ (rds n s).1 ++ [(rd (rds n s).2).1] from h) with e | e
  ·exact rds_lo n s x e
  ·rw [List.mem_singleton.1 e]; exact rd_lo _
theorem rds_stop {s : LSt} (h : lOk s) {k : Nat} (he : (rds k s).2.2 ≠ 0) : ∀ m, (rds (k + m) s).2 = (rds k s).2
 | 0 => rfl
 | m + 1 => by
  have g := rds_stop h he m
  show (rd (rds (k + m) s).2).2 = _
  rw [g]
  exact rd_err (rds_ok k h) he
def encs (l : List De) : List UInt8 := l.flatMap enc
def codes : List De → Nat
 | [] => 0
 | x :: l => if x.code ≠ 0 then x.code else codes l
theorem codes_zero : ∀ {l : List De}, codes l = 0 → ∀ x ∈ l, x.code = 0
 | [], _, x, h => by simp at h
 | y :: l, h, x, hx => by
  by_cases g : y.code = 0
  ·rw [codes, if_neg (fun e => e g)] at h
   rcases List.mem_cons.1 hx with e | e
   ·rw [e]; exact g
   ·exact codes_zero h x e
  ·rw [codes, if_pos g] at h; exact absurd h g
theorem codes_all : ∀ {l : List De}, (∀ x ∈ l, x.code = 0) → codes l = 0
 | [], _ => rfl
 | y :: l, h => by
  rw [codes, if_neg (fun e => e (h y (List.mem_cons_self ..)))]
  exact codes_all fun x hx => h x (List.mem_cons_of_mem _ hx)
theorem codes_at : ∀ {l : List De} {k : Nat} (hk : k < l.length), (∀ x ∈ l.take k, x.code = 0) → l[k].code ≠ 0 → codes l = l[k].code
 | [], k, hk, _, _ => by simp at hk
 | y :: l, 0, _, _, h2 => by
  rw [codes, if_pos (show y.code ≠ 0 from h2)]; rfl
 | y :: l, k + 1, hk, h1, h2 => by
  have g : y.code = 0 := h1 y (by simp)
  rw [codes, if_neg (fun e => e g)]
  exact codes_at (by simpa using hk) (fun x hx => h1 x (by simp only [List.take_succ_cons]; exact List.mem_cons_of_mem _ hx)) h2
def packc (l : List De) : Nat := if 255 < l.length then 6 else codes l
def pack (l : List De) : List UInt8 := Oct.be 1 l.length ++ encs l
theorem packc_zero {l : List De} (h : packc l = 0) : l.length ≤ 255 ∧ ∀ x ∈ l, x.code = 0 := by
 unfold packc at h
 by_cases g : 255 < l.length
 ·rw [if_pos g] at h; omega
 ·rw [if_neg g] at h; exact ⟨by omega, codes_zero h⟩
def unN (t : List UInt8) : Nat := n1 (t, 0)
def unR (t : List UInt8) : List De × LSt := rds (unN t) (r1 (t, 0))
def unB (t : List UInt8) : Bool := decide (lEnd (unR t).2 = 0) && (decide (packc (unR t).1 = 0) && decide (pack (unR t).1 = t))
def un (t : List UInt8) : List De := if unB t = true then (unR t).1 else []
theorem end_err {s : LSt} (h : lOk s) (he : s.2 ≠ 0) : lEnd s ≠ 0 := by
 unfold lEnd
 rw [h he]
 simpa using he
theorem codes_take {l : List De} {k : Nat} (hk : k < l.length) : encs (l.take (k + 1)) = encs (l.take k) ++ l[k].enc := by
 rw [List.take_succ_eq_append_getElem hk]
 unfold encs
 rw [List.flatMap_append]
 simp
end De
end Go.Proofs.YtaikigponkjkgaaGreatDoor
end
