/-
  PLAIN: messages: what may be, their bytes, what is read. No program is spoken of here.
-/
import Derived.Test.YtnamkglflhkckaaDoorMb07

section
namespace Go.Proofs.YtnamkglflhkckaaDoor
structure Ml where
  id : Nat
  shop : List UInt8
  key : List UInt8
  head : List Hd.Pr
  body : List UInt8
  due : Nat
  hops : Nat
deriving DecidableEq
namespace Ml
def zero : Ml := ⟨0, [], [], [], [], 0, 0⟩
/-- what is wrong with a message -/
def code (x : Ml) : Nat :=
  if Wrd.nameCode x.shop ≠ 0 then Wrd.nameCode x.shop else
  if Wrd.keyCode [] x.key ≠ 0 then Wrd.keyCode [] x.key else
  if Hd.hcode x.head ≠ 0 then Hd.hcode x.head else
  if 256 < x.body.length then 5 else
  if 4 < x.hops then 7 else 0
/-- numbers that their types hold -/
structure Fits (x : Ml) : Prop where
  id : x.id < 18446744073709551616
  due : x.due < 18446744073709551616
  hops : x.hops < 256
  head : ∀ p ∈ x.head, Hd.Fits p
theorem code_ok {x : Ml} (h : code x = 0) : Wrd.nameCode x.shop = 0 ∧ Wrd.keyCode [] x.key = 0 ∧ Hd.hcode x.head = 0 ∧ x.body.length ≤ 256 ∧ x.hops ≤ 4 := by
  unfold code at h
  by_cases h1 : Wrd.nameCode x.shop = 0
  · rw [if_neg (by omega)] at h
    by_cases h2 : Wrd.keyCode [] x.key = 0
    · rw [if_neg (by omega)] at h
      by_cases h3 : Hd.hcode x.head = 0
      · rw [if_neg (by omega)] at h
        by_cases h4 : 256 < x.body.length
        · rw [if_pos h4] at h; omega
        · rw [if_neg h4] at h
          by_cases h5 : 4 < x.hops
          · rw [if_pos h5] at h; omega
          · exact ⟨h1, h2, h3, by omega, by omega⟩
      · rw [if_pos h3] at h; exact absurd h h3
    · rw [if_pos h2] at h; exact absurd h h2
  · rw [if_pos h1] at h; exact absurd h h1
/-- its bytes, as far as its head -/
def enc (x : Ml) : List UInt8 := Oct.be 8 x.id ++ (Oct.text x.shop ++ (Oct.text x.key ++ (Hd.henc x.head ++ (Oct.text x.body ++ (Oct.be 8 x.due ++ Oct.be 1 x.hops)))))
/-- what is read, field by field -/
def s1 (s : LSt) : LSt := lRaw s 8
def s2 (s : LSt) : LSt := lText (s1 s) 16
def s3 (s : LSt) : LSt := lText (s2 s) 64
def s4 (s : LSt) : LSt := (Hd.hread (s3 s)).2
def s5 (s : LSt) : LSt := lText (s4 s) 256
def s6 (s : LSt) : LSt := lRaw (s5 s) 8
def s7 (s : LSt) : LSt := lRaw (s6 s) 1
def got (s : LSt) : Ml := ⟨Oct.val (lOut s.1 8), lTextOut (s1 s) 16, lTextOut (s2 s) 64, (Hd.hread (s3 s)).1, lTextOut (s4 s) 256, Oct.val (lOut (s5 s).1 8), Oct.val (lOut (s6 s).1 1)⟩
def fin (s : LSt) : LSt := lFail (s7 s) (code (got s))
/-- the message that comes next -/
def rd (s : LSt) : Ml × LSt := (if (fin s).2 ≠ 0 then zero else got s, fin s)

theorem key_len {bs : List (List UInt8)} {l : List UInt8} (h : Wrd.keyCode bs l = 0) : l.length ≤ 64 := by
  unfold Wrd.keyCode at h
  by_cases h1 : 64 < l.length
  · rw [if_pos h1] at h; omega
  · omega
theorem ok1 {s : LSt} (h : lOk s) : lOk (s1 s) := lOk_raw h _
theorem ok2 {s : LSt} (h : lOk s) : lOk (s2 s) := lOk_text (ok1 h) _
theorem ok3 {s : LSt} (h : lOk s) : lOk (s3 s) := lOk_text (ok2 h) _
theorem ok4 {s : LSt} (h : lOk s) : lOk (s4 s) := Hd.lOk_hread (ok3 h)
theorem ok5 {s : LSt} (h : lOk s) : lOk (s5 s) := lOk_text (ok4 h) _
theorem ok6 {s : LSt} (h : lOk s) : lOk (s6 s) := lOk_raw (ok5 h) _
theorem val8 (r : List UInt8) : Oct.val (lOut r 8) < 18446744073709551616 := Nat.lt_of_lt_of_le (val_out_lt r 8) (by decide)
theorem val1 (r : List UInt8) : Oct.val (lOut r 1) < 256 := Nat.lt_of_lt_of_le (val_out_lt r 1) (by decide)
theorem fits_of (a : Nat) (b c : List UInt8) (d : List Hd.Pr) (e : List UInt8) (f g : Nat) (ha : a < 18446744073709551616) (hf : f < 18446744073709551616) (hg : g < 256) (hd : ∀ p ∈ d, Hd.Fits p) : Fits ⟨a, b, c, d, e, f, g⟩ := ⟨ha, hf, hg, hd⟩
theorem got_fits (s : LSt) : Fits (got s) := fits_of _ _ _ _ _ _ _ (val8 _) (val8 _) (val1 _) (Hd.hread_fits _)
/-- a message that may be, written, is read as it was -/
theorem rd_enc {x : Ml} (hf : Fits x) (h : code x = 0) (r : List UInt8) : rd (enc x ++ r, 0) = (x, (r, 0)) := by
  obtain ⟨c1, c2, c3, c4, c5⟩ := code_ok h
  have e : enc x ++ r = Oct.be 8 x.id ++ (Oct.text x.shop ++ (Oct.text x.key ++ (Hd.henc x.head ++ (Oct.text x.body ++ (Oct.be 8 x.due ++ (Oct.be 1 x.hops ++ r)))))) := by unfold enc; simp [List.append_assoc]
  have t1 := Pt.num_front hf.id (Oct.text x.shop ++ (Oct.text x.key ++ (Hd.henc x.head ++ (Oct.text x.body ++ (Oct.be 8 x.due ++ (Oct.be 1 x.hops ++ r))))))
  have t2 := Hd.text_front x.shop (Oct.text x.key ++ (Hd.henc x.head ++ (Oct.text x.body ++ (Oct.be 8 x.due ++ (Oct.be 1 x.hops ++ r))))) 16 (Hd.name_ok_len c1).1 (by decide)
  have t3 := Hd.text_front x.key (Hd.henc x.head ++ (Oct.text x.body ++ (Oct.be 8 x.due ++ (Oct.be 1 x.hops ++ r)))) 64 (key_len c2) (by decide)
  have t4 := Hd.hread_henc hf.head c3 (Oct.text x.body ++ (Oct.be 8 x.due ++ (Oct.be 1 x.hops ++ r)))
  have t5 := Hd.text_front x.body (Oct.be 8 x.due ++ (Oct.be 1 x.hops ++ r)) 256 c4 (by decide)
  have t6 := Pt.num_front hf.due (Oct.be 1 x.hops ++ r)
  have v7 : Oct.val (lOut (Oct.be 1 x.hops ++ r) 1) = x.hops := by
    rw [Hd.lOut_front _ _ 1 (Oct.length_be _ _), Hd.val_be_at 1 _ (by show x.hops < 256; exact hf.hops)]
  have l7 : lRaw (Oct.be 1 x.hops ++ r, 0) 1 = (r, 0) := Hd.lRaw_front _ _ _ 1 (Oct.length_be _ _)
  rw [show ((16 : Nat) : Int) = 16 from rfl] at t2
  rw [show ((64 : Nat) : Int) = 64 from rfl] at t3
  rw [show ((256 : Nat) : Int) = 256 from rfl] at t5
  have e1 : s1 (enc x ++ r, 0) = ((Oct.text x.shop ++ (Oct.text x.key ++ (Hd.henc x.head ++ (Oct.text x.body ++ (Oct.be 8 x.due ++ (Oct.be 1 x.hops ++ r)))))), 0) := by unfold s1; rw [e]; exact t1.2
  have e2 : s2 (enc x ++ r, 0) = ((Oct.text x.key ++ (Hd.henc x.head ++ (Oct.text x.body ++ (Oct.be 8 x.due ++ (Oct.be 1 x.hops ++ r))))), 0) := by unfold s2; rw [e1]; exact t2.2
  have e3 : s3 (enc x ++ r, 0) = ((Hd.henc x.head ++ (Oct.text x.body ++ (Oct.be 8 x.due ++ (Oct.be 1 x.hops ++ r)))), 0) := by unfold s3; rw [e2]; exact t3.2
  have e4 : s4 (enc x ++ r, 0) = (Oct.text x.body ++ (Oct.be 8 x.due ++ (Oct.be 1 x.hops ++ r)), 0) := by unfold s4; rw [e3, t4]
  have e5 : s5 (enc x ++ r, 0) = ((Oct.be 8 x.due ++ (Oct.be 1 x.hops ++ r)), 0) := by unfold s5; rw [e4]; exact t5.2
  have e6 : s6 (enc x ++ r, 0) = ((Oct.be 1 x.hops ++ r), 0) := by unfold s6; rw [e5]; exact t6.2
  have e7 : s7 (enc x ++ r, 0) = (r, 0) := by unfold s7; rw [e6]; exact l7
  have g : got (enc x ++ r, 0) = x := by
    unfold got
    rw [e1, e2, e3, e4, e5, e6]
    simp only
    rw [e, t1.1, t2.1, t3.1, t4, t5.1, t6.1, v7]
  have f : fin (enc x ++ r, 0) = (r, 0) := by
    unfold fin
    rw [g, e7, h]
    exact Hd.lFail_ok _
  unfold rd
  rw [f, g]
  simp
end Ml
end Go.Proofs.YtnamkglflhkckaaDoor
end
