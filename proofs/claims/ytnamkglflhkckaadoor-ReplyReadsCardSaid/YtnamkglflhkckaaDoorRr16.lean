/-
  PLAIN: replies: what a kind tells, what may be, their bytes, what is read. No program is spoken of here.
-/
import Derived.Test.YtnamkglflhkckaaDoorRr14

section
namespace Go.Proofs.YtnamkglflhkckaaDoor
structure Re where
  ch : UInt8
  kd : UInt8
  n : Nat
  m : Nat
  yes : Bool
  name : List UInt8
  id : Nat
  shop : List UInt8
  key : List UInt8
  head : List Hd.Pr
  body : List UInt8
  due : Nat
  hops : Nat
deriving DecidableEq
namespace Re
def zero (c k : UInt8) : Re := ⟨c, k, 0, 0, false, [], 0, [], [], [], [], 0, 0⟩
/-- what a kind tells, in the order of its bytes: 0 N, 1 M, 2 Yes, 3 Name, 4 Shop, 5 Key, 6 Head, 7 Body -/
def tells (k : Nat) : List Nat :=
  match k with
  | 0 => [3]
  | 2 => [0]
  | 3 => [0, 1, 2, 4, 5, 6, 7]
  | 5 => [0]
  | 6 => [0, 1]
  | 7 => [0]
  | _ => []
/-- does a kind tell a number? as the document says it -/
def tellsN (k : Nat) : Bool := k == 2 || k == 3 || k == 5 || k == 6 || k == 7
def tellsM (k : Nat) : Bool := k == 3 || k == 6
theorem tells_lt (k : Nat) : ∀ p ∈ tells k, p < 8 := by
  unfold tells
  split <;> intro p hp <;> simp at hp <;> omega
theorem tells_len (k : Nat) : (tells k).length ≤ 7 := by unfold tells; split <;> simp
theorem tells_nodup (k : Nat) : (tells k).Nodup := by unfold tells; split <;> decide

/-- is a part zero? -/
def lacks (x : Re) (p : Nat) : Bool :=
  if p = 0 then x.n == 0 else if p = 1 then x.m == 0 else if p = 2 then !x.yes else if p = 3 then x.name == [] else if p = 4 then x.shop == [] else if p = 5 then x.key == [] else if p = 6 then x.head.length == 0 else if p = 7 then x.body == [] else (x.id == 0 && x.due == 0 && x.hops == 0)
/-- what is wrong with a part -/
def pcode (x : Re) (p : Nat) : Nat :=
  if p = 3 then Wrd.nameCode x.name else if p = 4 then Wrd.nameCode x.shop else if p = 5 then Wrd.keyCode [] x.key else if p = 6 then Hd.hcode x.head else if p = 7 then (if 256 < x.body.length then 5 else 0) else 0
/-- is something there that its kind doesn't tell? -/
def more (x : Re) : Bool := (List.range 9).any fun p => !(tells x.kd.toNat).contains p && !lacks x p
/-- the first code that isn't 0 -/
def firstc (f : Nat → Nat) : List Nat → Nat
  | [] => 0
  | p :: l => if f p ≠ 0 then f p else firstc f l
/-- what is wrong with a reply -/
def code (x : Re) : Nat := if 7 < x.kd.toNat then 8 else if more x then 4 else firstc (pcode x) (tells x.kd.toNat)
theorem firstc_zero {f : Nat → Nat} {l : List Nat} (h : firstc f l = 0) : ∀ p ∈ l, f p = 0 := by
  induction l with
  | nil => intro p hp; simp at hp
  | cons a l ih =>
    rw [firstc] at h
    by_cases h0 : f a = 0
    · rw [if_neg (by omega)] at h
      intro p hp
      rcases List.mem_cons.1 hp with rfl | hp
      · exact h0
      · exact ih h p hp
    · rw [if_pos h0] at h; exact absurd h h0
theorem code_ok {x : Re} (h : code x = 0) : x.kd.toNat ≤ 7 ∧ more x = false ∧ ∀ p ∈ tells x.kd.toNat, pcode x p = 0 := by
  unfold code at h
  by_cases h1 : 7 < x.kd.toNat
  · rw [if_pos h1] at h; omega
  · rw [if_neg h1] at h
    cases hm : more x with
    | true => rw [hm] at h; simp at h
    | false =>
      rw [hm] at h
      exact ⟨by omega, rfl, firstc_zero (by simpa using h)⟩
/-- numbers that their types hold -/
structure Fits (x : Re) : Prop where
  n : x.n < 18446744073709551616
  m : x.m < 18446744073709551616
  head : ∀ p ∈ x.head, Hd.Fits p

/-! ### its bytes -/
def enc1 (x : Re) (p : Nat) : List UInt8 :=
  if p = 0 then Oct.be 8 x.n else if p = 1 then Oct.be 8 x.m else if p = 2 then Pt.yesEnc x.yes else if p = 3 then Oct.text x.name else if p = 4 then Oct.text x.shop else if p = 5 then Oct.text x.key else if p = 6 then Hd.henc x.head else if p = 7 then Oct.text x.body else []
def enc (x : Re) : List UInt8 := (tells x.kd.toNat).flatMap (enc1 x)
def set1 (y x : Re) (p : Nat) : Re :=
  if p = 0 then {y with n := x.n} else if p = 1 then {y with m := x.m} else if p = 2 then {y with yes := x.yes} else if p = 3 then {y with name := x.name} else if p = 4 then {y with shop := x.shop} else if p = 5 then {y with key := x.key} else if p = 6 then {y with head := x.head} else if p = 7 then {y with body := x.body} else y
/-- the part that comes next -/
def rd1 (y : Re) (s : LSt) (p : Nat) : Re × LSt :=
  if p = 0 then ({y with n := Oct.val (lOut s.1 8)}, lRaw s 8) else if p = 1 then ({y with m := Oct.val (lOut s.1 8)}, lRaw s 8) else if p = 2 then ({y with yes := Pt.yesOut s}, Pt.yesIn s) else if p = 3 then ({y with name := lTextOut s 16}, lText s 16) else if p = 4 then ({y with shop := lTextOut s 16}, lText s 16) else if p = 5 then ({y with key := lTextOut s 64}, lText s 64) else if p = 6 then ({y with head := (Hd.hread s).1}, (Hd.hread s).2) else if p = 7 then ({y with body := lTextOut s 256}, lText s 256) else (y, s)
def rdl (l : List Nat) (t : Re × LSt) : Re × LSt := l.foldl (fun t p => rd1 t.1 t.2 p) t
/-- all that is read of a frame's body -/
def rd (c k : UInt8) (b : List UInt8) : Re × LSt := rdl (tells k.toNat) (zero c k, (b, 0))
/-- a frame's kind, a reply's -/
def up (k : UInt8) : UInt8 := 64 + k
def down (k : UInt8) : UInt8 := k - 64
theorem key_len {bs : List (List UInt8)} {l : List UInt8} (h : Wrd.keyCode bs l = 0) : l.length ≤ 64 := by
  unfold Wrd.keyCode at h
  by_cases h1 : 64 < l.length
  · rw [if_pos h1] at h; omega
  · omega
theorem lt8 {p : Nat} (h : p < 8) : p = 0 ∨ p = 1 ∨ p = 2 ∨ p = 3 ∨ p = 4 ∨ p = 5 ∨ p = 6 ∨ p = 7 := by omega
theorem le7 {k : Nat} (h : k ≤ 7) : k = 0 ∨ k = 1 ∨ k = 2 ∨ k = 3 ∨ k = 4 ∨ k = 5 ∨ k = 6 ∨ k = 7 := by omega
theorem rd1_ok {y : Re} {s : LSt} {p : Nat} (h : lOk s) : lOk (rd1 y s p).2 := by
  unfold rd1
  repeat' split
  · exact lOk_raw h _
  · exact lOk_raw h _
  · exact Pt.lOk_yes h
  · exact lOk_text h _
  · exact lOk_text h _
  · exact lOk_text h _
  · exact Hd.lOk_hread h
  · exact lOk_text h _
  · exact h
theorem rdl_ok : ∀ (l : List Nat) (t : Re × LSt), lOk t.2 → lOk (rdl l t).2
  | [], _, h => h
  | p :: l, t, h => rdl_ok l (rd1 t.1 t.2 p) (rd1_ok h)
/-! ### what was read is written so -/
theorem rd1_back {y : Re} {s : LSt} {p : Nat} (hp : p < 8) (hok : lOk s) (h : (rd1 y s p).2.2 = 0) : s = (enc1 (rd1 y s p).1 p ++ (rd1 y s p).2.1, 0) := by
  rcases lt8 hp with rfl | rfl | rfl | rfl | rfl | rfl | rfl | rfl
  · exact Pt.num_back (n := 8) hok h
  · exact Pt.num_back (n := 8) hok h
  · exact Pt.yes_back hok h
  · exact (Pt.text_back (m := 16) hok h).1
  · exact (Pt.text_back (m := 16) hok h).1
  · exact (Pt.text_back (m := 64) hok h).1
  · exact Pt.hread_back hok h
  · exact (Pt.text_back (m := 256) hok h).1
theorem rd1_other {y : Re} {s : LSt} {p q : Nat} (hp : p < 8) (hq : q < 8) (h : q ≠ p) : enc1 (rd1 y s q).1 p = enc1 y p := by
  rcases lt8 hp with rfl | rfl | rfl | rfl | rfl | rfl | rfl | rfl <;> rcases lt8 hq with rfl | rfl | rfl | rfl | rfl | rfl | rfl | rfl <;> first | exact absurd rfl h | rfl
theorem rdl_other : ∀ (l : List Nat) (t : Re × LSt) (p : Nat), p < 8 → (∀ q ∈ l, q < 8 ∧ q ≠ p) → enc1 (rdl l t).1 p = enc1 t.1 p
  | [], _, _, _, _ => rfl
  | q :: l, t, p, hp, h => by
    have h0 := h q (by simp)
    have := rdl_other l (rd1 t.1 t.2 q) p hp fun r hr => h r (by simp [hr])
    rw [rd1_other hp h0.1 h0.2] at this
    exact this
theorem rdl_back : ∀ (l : List Nat) (y : Re) (s : LSt), (∀ p ∈ l, p < 8) → l.Nodup → lOk s → (rdl l (y, s)).2.2 = 0 → s = (l.flatMap (enc1 (rdl l (y, s)).1) ++ (rdl l (y, s)).2.1, 0)
  | [], y, s, _, _, _, h => by
    obtain ⟨r, e⟩ := s
    have h0 : e = 0 := h
    subst h0
    rfl
  | p :: l, y, s, hl, hn, hok, h => by
    have hp := hl p (by simp)
    have hn2 := List.nodup_cons.1 hn
    have ih := rdl_back l (rd1 y s p).1 (rd1 y s p).2 (fun q hq => hl q (by simp [hq])) hn2.2 (rd1_ok hok) h
    have hs := rd1_back (y := y) hp hok (by rw [ih])
    have ho := rdl_other l (rd1 y s p) p hp fun q hq => ⟨hl q (by simp [hq]), fun e => hn2.1 (e ▸ hq)⟩
    have e1 := congrArg Prod.fst ih
    simp only at e1
    show s = ((p :: l).flatMap (enc1 (rdl l (rd1 y s p)).1) ++ (rdl l (rd1 y s p)).2.1, 0)
    rw [List.flatMap_cons, ho, List.append_assoc]
    rw [e1] at hs
    exact hs
theorem rd1_kd {y : Re} {s : LSt} {p : Nat} : (rd1 y s p).1.ch = y.ch ∧ (rd1 y s p).1.kd = y.kd := by
  unfold rd1
  repeat' split
  all_goals exact ⟨rfl, rfl⟩
theorem rdl_kd : ∀ (l : List Nat) (t : Re × LSt), (rdl l t).1.ch = t.1.ch ∧ (rdl l t).1.kd = t.1.kd
  | [], _ => ⟨rfl, rfl⟩
  | p :: l, t => by
    have h1 := rdl_kd l (rd1 t.1 t.2 p)
    have h2 := rd1_kd (y := t.1) (s := t.2) (p := p)
    exact ⟨h1.1.trans h2.1, h1.2.trans h2.2⟩
theorem rd_kd (c k : UInt8) (b : List UInt8) : (rd c k b).1.ch = c ∧ (rd c k b).1.kd = k := rdl_kd _ _
theorem lEnd_zero {s : LSt} (h : lEnd s = 0) : s = ([], 0) := by
  obtain ⟨r, e⟩ := s
  unfold lEnd at h
  by_cases hr : 0 < r.length
  · rw [if_pos hr] at h; exact absurd h (by decide)
  · rw [if_neg hr] at h
    have : r = [] := List.eq_nil_of_length_eq_zero (by omega)
    subst this
    have h0 : e = 0 := h
    subst h0
    rfl
/-- what is read of a frame, if it may be read, has that frame -/
theorem enc_rd {c k : UInt8} {b : List UInt8} (h : lEnd (rd c k b).2 = 0) : enc (rd c k b).1 = b := by
  have he := lEnd_zero h
  have := rdl_back (tells k.toNat) (zero c k) (b, 0) (tells_lt _) (tells_nodup _) (lOk_new b) (by show (rd c k b).2.2 = 0; rw [he])
  have e := congrArg Prod.fst this
  simp only at e
  unfold enc
  rw [(rd_kd c k b).2]
  have e2 : (rdl (tells k.toNat) (zero c k, (b, 0))).2.1 = [] := congrArg Prod.fst he
  rw [e2, List.append_nil] at e
  exact e.symm
theorem rd1_fits {y : Re} {s : LSt} {p : Nat} (h : Fits y) : Fits (rd1 y s p).1 := by
  have h8 : Oct.val (lOut s.1 8) < 18446744073709551616 := Nat.lt_of_lt_of_le (val_out_lt s.1 8) (by decide)
  obtain ⟨a, b, c⟩ := h
  unfold rd1
  repeat' split
  all_goals first | exact ⟨a, b, c⟩ | exact ⟨a, b, Hd.hread_fits s⟩ | exact ⟨h8, b, c⟩ | exact ⟨a, h8, c⟩
theorem rdl_fits : ∀ (l : List Nat) (t : Re × LSt), Fits t.1 → Fits (rdl l t).1
  | [], _, h => h
  | p :: l, t, h => rdl_fits l (rd1 t.1 t.2 p) (rd1_fits h)
theorem rd_fits (c k : UInt8) (b : List UInt8) : Fits (rd c k b).1 := rdl_fits _ _ ⟨(by decide : (0 : Nat) < 18446744073709551616), (by decide : (0 : Nat) < 18446744073709551616), fun p hp => by simp [zero] at hp⟩
end Re
end Go.Proofs.YtnamkglflhkckaaDoor
end
