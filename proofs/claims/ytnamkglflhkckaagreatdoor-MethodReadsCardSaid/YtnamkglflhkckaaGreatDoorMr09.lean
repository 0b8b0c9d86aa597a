/-
  PLAIN: methods: what a kind tells, what may be, their bytes, what is read. No program is spoken of here. PLAIN: replies: what a kind tells, what may be, their bytes, what is read. No program is spoken of here. WHAT A KIND TELLS, in memory: the programs' rows of parts; whether a part is in a row: walked.
-/
import Derived.Test.YtnamkglflhkckaaGreatDoorMr07
import Derived.Test.YtnamkglflhkckaaGreatDoorMr08

section
namespace Go.Proofs.YtnamkglflhkckaaGreatDoor
structure Me where
  ch : UInt8
  kd : UInt8
  name : List UInt8
  other : List UInt8
  key : List UInt8
  head : List Hd.Pr
  body : List UInt8
  n : Nat
  m : Nat
  yes : Bool
deriving DecidableEq
namespace Me
def zero (c k : UInt8) : Me := ⟨c, k, [], [], [], [], [], 0, 0, false⟩
/-- what a kind tells, in the order of its bytes: 0 Name, 1 Other, 2 Key, 3 Head, 4 Body, 5 N, 6 M, 7 Yes -/
def tells (k : Nat) : List Nat :=
  match k with
  | 0 => [5]
  | 3 => [0, 5, 1]
  | 4 => [0]
  | 5 => [0, 5, 6, 1]
  | 6 => [0]
  | 7 => [0, 1, 2, 3, 7]
  | 8 => [0, 1, 2, 3, 7]
  | 9 => [0, 1, 2, 3, 7]
  | 10 => [0, 1, 2, 3, 7]
  | 11 => [0, 2, 3, 6, 4]
  | 12 => [5]
  | 13 => [0, 5]
  | 14 => [5]
  | 15 => [0]
  | 16 => [5, 6, 7]
  | _ => []
/-- what a kind tells, as the document says it -/
structure Has where
  name : Bool
  other : Bool
  lack : Bool
  key : Bool
  pat : Bool
  head : Bool
  body : Bool
  n : Bool
  m : Bool
  yes : Bool
def has (k : Nat) : Has :=
  match k with
  | 0 => ⟨false, false, false, false, false, false, false, true, false, false⟩
  | 3 => ⟨true, true, true, false, false, false, false, true, false, false⟩
  | 4 => ⟨true, false, false, false, false, false, false, false, false, false⟩
  | 5 => ⟨true, true, true, false, false, false, false, true, true, false⟩
  | 6 => ⟨true, false, false, false, false, false, false, false, false, false⟩
  | 7 => ⟨true, true, false, true, true, true, false, false, false, true⟩
  | 8 => ⟨true, true, false, true, true, true, false, false, false, true⟩
  | 9 => ⟨true, true, false, true, true, true, false, false, false, true⟩
  | 10 => ⟨true, true, false, true, true, true, false, false, false, true⟩
  | 11 => ⟨true, false, false, true, false, true, true, false, true, false⟩
  | 12 => ⟨false, false, false, false, false, false, false, true, false, false⟩
  | 13 => ⟨true, false, false, false, false, false, false, true, false, false⟩
  | 14 => ⟨false, false, false, false, false, false, false, true, false, false⟩
  | 15 => ⟨true, false, false, false, false, false, false, false, false, false⟩
  | 16 => ⟨false, false, false, false, false, false, false, true, true, true⟩
  | _ => ⟨false, false, false, false, false, false, false, false, false, false⟩
theorem tells_lt (k : Nat) : ∀ p ∈ tells k, p < 8 := by
  unfold tells
  split <;> intro p hp <;> simp at hp <;> omega
theorem tells_len (k : Nat) : (tells k).length ≤ 5 := by unfold tells; split <;> simp
theorem tells_nodup (k : Nat) : (tells k).Nodup := by unfold tells; split <;> decide

/-- is a part zero? -/
def lacks (x : Me) (p : Nat) : Bool :=
  if p = 0 then x.name == [] else if p = 1 then x.other == [] else if p = 2 then x.key == [] else if p = 3 then x.head.length == 0 else if p = 4 then x.body == [] else if p = 5 then x.n == 0 else if p = 6 then x.m == 0 else !x.yes
def ocode (x : Me) : Nat := if x.other = [] ∧ (x.kd.toNat = 3 ∨ x.kd.toNat = 5) then 0 else Wrd.nameCode x.other
def kcode (x : Me) : Nat := if x.kd.toNat = 11 then Wrd.keyCode [] x.key else Wrd.keyCode wild x.key
/-- what is wrong with a part -/
def pcode (x : Me) (p : Nat) : Nat :=
  if p = 0 then Wrd.nameCode x.name else if p = 1 then ocode x else if p = 2 then kcode x else if p = 3 then Hd.hcode x.head else if p = 4 then (if 256 < x.body.length then 5 else 0) else 0
/-- is something there that its kind doesn't tell? -/
def more (x : Me) : Bool := (List.range 8).any fun p => !(tells x.kd.toNat).contains p && !lacks x p
/-- the first code that isn't 0 -/
def firstc (f : Nat → Nat) : List Nat → Nat
  | [] => 0
  | p :: l => if f p ≠ 0 then f p else firstc f l
/-- what is wrong with a method -/
def code (x : Me) : Nat := if 20 < x.kd.toNat then 8 else if more x then 4 else firstc (pcode x) (tells x.kd.toNat)
theorem firstc_zero {f : Nat → Nat} {l : List Nat} (h : firstc f l = 0) : ∀ p ∈ l, f p = 0 := by
  induction l with
  | nil => intro p hp; simp at hp
  | cons a l ih =>
    rw [firstc] at h
    by_cases h0 : f a = 0
    · rw [if_neg (by omega)] at h
      intro p hp
      rcases List.mem_cons.1 hp with rfl | hp
      · exact h0
      · exact ih h p hp
    · rw [if_pos h0] at h; exact absurd h h0
theorem code_ok {x : Me} (h : code x = 0) : x.kd.toNat ≤ 20 ∧ more x = false ∧ ∀ p ∈ tells x.kd.toNat, pcode x p = 0 := by
  unfold code at h
  by_cases h1 : 20 < x.kd.toNat
  · rw [if_pos h1] at h; omega
  · rw [if_neg h1] at h
    cases hm : more x with
    | true => rw [hm] at h; simp at h
    | false =>
      rw [hm] at h
      exact ⟨by omega, rfl, firstc_zero (by simpa using h)⟩
/-- numbers that their types hold -/
structure Fits (x : Me) : Prop where
  n : x.n < 18446744073709551616
  m : x.m < 18446744073709551616
  head : ∀ p ∈ x.head, Hd.Fits p

/-! ### its bytes -/
def enc1 (x : Me) (p : Nat) : List UInt8 :=
  if p = 0 then Oct.text x.name else if p = 1 then Oct.text x.other else if p = 2 then Oct.text x.key else if p = 3 then Hd.henc x.head else if p = 4 then Oct.text x.body else if p = 5 then Oct.be 8 x.n else if p = 6 then Oct.be 8 x.m else if p = 7 then Pt.yesEnc x.yes else []
def enc (x : Me) : List UInt8 := (tells x.kd.toNat).flatMap (enc1 x)
/-- the part that comes next -/
def rd1 (y : Me) (s : LSt) (p : Nat) : Me × LSt :=
  if p = 0 then ({y with name := lTextOut s 16}, lText s 16) else if p = 1 then ({y with other := lTextOut s 16}, lText s 16) else if p = 2 then ({y with key := lTextOut s 64}, lText s 64) else if p = 3 then ({y with head := (Hd.hread s).1}, (Hd.hread s).2) else if p = 4 then ({y with body := lTextOut s 256}, lText s 256) else if p = 5 then ({y with n := Oct.val (lOut s.1 8)}, lRaw s 8) else if p = 6 then ({y with m := Oct.val (lOut s.1 8)}, lRaw s 8) else if p = 7 then ({y with yes := Pt.yesOut s}, Pt.yesIn s) else (y, s)
def rdl (l : List Nat) (t : Me × LSt) : Me × LSt := l.foldl (fun t p => rd1 t.1 t.2 p) t
/-- all that is read of a frame's body -/
def rd (c k : UInt8) (b : List UInt8) : Me × LSt := rdl (tells k.toNat) (zero c k, (b, 0))
theorem key_len {bs : List (List UInt8)} {l : List UInt8} (h : Wrd.keyCode bs l = 0) : l.length ≤ 64 := by
  unfold Wrd.keyCode at h
  by_cases h1 : 64 < l.length
  · rw [if_pos h1] at h; omega
  · omega
theorem kcode_len {x : Me} (h : kcode x = 0) : x.key.length ≤ 64 := by
  unfold kcode at h
  split at h <;> exact key_len h
theorem ocode_len {x : Me} (h : ocode x = 0) : x.other.length ≤ 16 := by
  unfold ocode at h
  by_cases h1 : x.other = [] ∧ (x.kd.toNat = 3 ∨ x.kd.toNat = 5)
  · rw [h1.1]; simp
  · rw [if_neg h1] at h; exact (Hd.name_ok_len h).1
theorem lt8 {p : Nat} (h : p < 8) : p = 0 ∨ p = 1 ∨ p = 2 ∨ p = 3 ∨ p = 4 ∨ p = 5 ∨ p = 6 ∨ p = 7 := by omega
theorem more_no {x : Me} (h : more x = false) {p : Nat} (hp : p < 8) (ht : (tells x.kd.toNat).contains p = false) : lacks x p = true := by
  unfold more at h
  rw [List.any_eq_false] at h
  have := h p (List.mem_range.2 hp)
  rw [ht] at this
  simpa using this
theorem le20 {k : Nat} (h : k ≤ 20) : k = 0 ∨ k = 1 ∨ k = 2 ∨ k = 3 ∨ k = 4 ∨ k = 5 ∨ k = 6 ∨ k = 7 ∨ k = 8 ∨ k = 9 ∨ k = 10 ∨ k = 11 ∨ k = 12 ∨ k = 13 ∨ k = 14 ∨ k = 15 ∨ k = 16 ∨ k = 17 ∨ k = 18 ∨ k = 19 ∨ k = 20 := by omega
theorem rd1_ok {y : Me} {s : LSt} {p : Nat} (h : lOk s) : lOk (rd1 y s p).2 := by
  unfold rd1
  repeat' split
  · exact lOk_text h _
  · exact lOk_text h _
  · exact lOk_text h _
  · exact Hd.lOk_hread h
  · exact lOk_text h _
  · exact lOk_raw h _
  · exact lOk_raw h _
  · exact Pt.lOk_yes h
  · exact h
theorem rdl_ok : ∀ (l : List Nat) (t : Me × LSt), lOk t.2 → lOk (rdl l t).2
  | [], _, h => h
  | p :: l, t, h => rdl_ok l (rd1 t.1 t.2 p) (rd1_ok h)
/-! ### what was read is written so -/
theorem rd1_back {y : Me} {s : LSt} {p : Nat} (hp : p < 8) (hok : lOk s) (h : (rd1 y s p).2.2 = 0) : s = (enc1 (rd1 y s p).1 p ++ (rd1 y s p).2.1, 0) := by
  rcases lt8 hp with rfl | rfl | rfl | rfl | rfl | rfl | rfl | rfl
  · exact (Pt.text_back (m := 16) hok h).1
  · exact (Pt.text_back (m := 16) hok h).1
  · exact (Pt.text_back (m := 64) hok h).1
  · exact Pt.hread_back hok h
  · exact (Pt.text_back (m := 256) hok h).1
  · exact Pt.num_back (n := 8) hok h
  · exact Pt.num_back (n := 8) hok h
  · exact Pt.yes_back hok h
theorem rd1_other {y : Me} {s : LSt} {p q : Nat} (hp : p < 8) (hq : q < 8) (h : q ≠ p) : enc1 (rd1 y s q).1 p = enc1 y p := by
  rcases lt8 hp with rfl | rfl | rfl | rfl | rfl | rfl | rfl | rfl <;> rcases lt8 hq with rfl | rfl | rfl | rfl | rfl | rfl | rfl | rfl <;> first | exact absurd rfl h | rfl
theorem rdl_other : ∀ (l : List Nat) (t : Me × LSt) (p : Nat), p < 8 → (∀ q ∈ l, q < 8 ∧ q ≠ p) → enc1 (rdl l t).1 p = enc1 t.1 p
  | [], _, _, _, _ => rfl
  | q :: l, t, p, hp, h => by
    have h0 := h q (by simp)
    have := rdl_other l (rd1 t.1 t.2 q) p hp fun r hr => h r (by simp [hr])
    rw [rd1_other hp h0.1 h0.2] at this
    exact this
theorem rdl_back : ∀ (l : List Nat) (y : Me) (s : LSt), (∀ p ∈ l, p < 8) → l.Nodup → lOk s → (rdl l (y, s)).2.2 = 0 → s = (l.flatMap (enc1 (rdl l (y, s)).1) ++ (rdl l (y, s)).2.1, 0)
  | [], y, s, _, _, _, h => by
    obtain ⟨r, e⟩ := s
    have h0 : e = 0 := h
    subst h0
    rfl
  | p :: l, y, s, hl, hn, hok, h => by
    have hp := hl p (by simp)
    have hn2 := List.nodup_cons.1 hn
    have ih := rdl_back l (rd1 y s p).1 (rd1 y s p).2 (fun q hq => hl q (by simp [hq])) hn2.2 (rd1_ok hok) h
    have hs := rd1_back (y := y) hp hok (by rw [ih])
    have ho := rdl_other l (rd1 y s p) p hp fun q hq => ⟨hl q (by simp [hq]), fun e => hn2.1 (e ▸ hq)⟩
    have e1 := congrArg Prod.fst ih
    simp only at e1
    show s = ((p :: l).flatMap (enc1 (rdl l (rd1 y s p)).1) ++ (rdl l (rd1 y s p)).2.1, 0)
    rw [List.flatMap_cons, ho, List.append_assoc]
    rw [e1] at hs
    exact hs
theorem rd1_kd {y : Me} {s : LSt} {p : Nat} : (rd1 y s p).1.ch = y.ch ∧ (rd1 y s p).1.kd = y.kd := by
  unfold rd1
  repeat' split
  all_goals exact ⟨rfl, rfl⟩
theorem rdl_kd : ∀ (l : List Nat) (t : Me × LSt), (rdl l t).1.ch = t.1.ch ∧ (rdl l t).1.kd = t.1.kd
  | [], _ => ⟨rfl, rfl⟩
  | p :: l, t => by
    have h1 := rdl_kd l (rd1 t.1 t.2 p)
    have h2 := rd1_kd (y := t.1) (s := t.2) (p := p)
    exact ⟨h1.1.trans h2.1, h1.2.trans h2.2⟩
theorem rd_kd (c k : UInt8) (b : List UInt8) : (rd c k b).1.ch = c ∧ (rd c k b).1.kd = k := rdl_kd _ _
theorem lEnd_zero {s : LSt} (h : lEnd s = 0) : s = ([], 0) := by
  obtain ⟨r, e⟩ := s
  unfold lEnd at h
  by_cases hr : 0 < r.length
  · rw [if_pos hr] at h; exact absurd h (by decide)
  · rw [if_neg hr] at h
    have : r = [] := List.eq_nil_of_length_eq_zero (by omega)
    subst this
    have h0 : e = 0 := h
    subst h0
    rfl
/-- what is read of a frame, if it may be read, has that frame -/
theorem enc_rd {c k : UInt8} {b : List UInt8} (h : lEnd (rd c k b).2 = 0) : enc (rd c k b).1 = b := by
  have he := lEnd_zero h
  have := rdl_back (tells k.toNat) (zero c k) (b, 0) (tells_lt _) (tells_nodup _) (lOk_new b) (by show (rd c k b).2.2 = 0; rw [he])
  have e := congrArg Prod.fst this
  simp only at e
  unfold enc
  rw [(rd_kd c k b).2]
  have e2 : (rdl (tells k.toNat) (zero c k, (b, 0))).2.1 = [] := congrArg Prod.fst he
  rw [e2, List.append_nil] at e
  exact e.symm
theorem rd1_fits {y : Me} {s : LSt} {p : Nat} (h : Fits y) : Fits (rd1 y s p).1 := by
  have h8 : Oct.val (lOut s.1 8) < 18446744073709551616 := Nat.lt_of_lt_of_le (val_out_lt s.1 8) (by decide)
  obtain ⟨a, b, c⟩ := h
  unfold rd1
  repeat' split
  all_goals first | exact ⟨a, b, c⟩ | exact ⟨a, b, Hd.hread_fits s⟩ | exact ⟨h8, b, c⟩ | exact ⟨a, h8, c⟩
theorem rdl_fits : ∀ (l : List Nat) (t : Me × LSt), Fits t.1 → Fits (rdl l t).1
  | [], _, h => h
  | p :: l, t, h => rdl_fits l (rd1 t.1 t.2 p) (rd1_fits h)
theorem rd_fits (c k : UInt8) (b : List UInt8) : Fits (rd c k b).1 := rdl_fits _ _ ⟨(by decide : (0 : Nat) < 18446744073709551616), (by decide : (0 : Nat) < 18446744073709551616), fun p hp => by simp [zero] at hp⟩
end Me
end Go.Proofs.YtnamkglflhkckaaGreatDoor
end
section
namespace Go.Proofs.YtnamkglflhkckaaGreatDoor
structure Re where
  ch : UInt8
  kd : UInt8
  n : Nat
  m : Nat
  yes : Bool
  name : List UInt8
  id : Nat
  shop : List UInt8
  key : List UInt8
  head : List Hd.Pr
  body : List UInt8
  due : Nat
  hops : Nat
deriving DecidableEq
namespace Re
def zero (c k : UInt8) : Re := ⟨c, k, 0, 0, false, [], 0, [], [], [], [], 0, 0⟩
/-- what a kind tells, in the order of its bytes: 0 N, 1 M, 2 Yes, 3 Name, 4 Shop, 5 Key, 6 Head, 7 Body -/
def tells (k : Nat) : List Nat :=
  match k with
  | 0 => [3]
  | 2 => [0]
  | 3 => [0, 1, 2, 4, 5, 6, 7]
  | 5 => [0]
  | 6 => [0, 1]
  | 7 => [0]
  | _ => []
theorem tells_lt (k : Nat) : ∀ p ∈ tells k, p < 8 := by
  unfold tells
  split <;> intro p hp <;> simp at hp <;> omega
theorem tells_len (k : Nat) : (tells k).length ≤ 7 := by unfold tells; split <;> simp
theorem tells_nodup (k : Nat) : (tells k).Nodup := by unfold tells; split <;> decide

/-- is a part zero? -/
def lacks (x : Re) (p : Nat) : Bool :=
  if p = 0 then x.n == 0 else if p = 1 then x.m == 0 else if p = 2 then !x.yes else if p = 3 then x.name == [] else if p = 4 then x.shop == [] else if p = 5 then x.key == [] else if p = 6 then x.head.length == 0 else if p = 7 then x.body == [] else (x.id == 0 && x.due == 0 && x.hops == 0)
/-- what is wrong with a part -/
def pcode (x : Re) (p : Nat) : Nat :=
  if p = 3 then Wrd.nameCode x.name else if p = 4 then Wrd.nameCode x.shop else if p = 5 then Wrd.keyCode [] x.key else if p = 6 then Hd.hcode x.head else if p = 7 then (if 256 < x.body.length then 5 else 0) else 0
/-- is something there that its kind doesn't tell? -/
def more (x : Re) : Bool := (List.range 9).any fun p => !(tells x.kd.toNat).contains p && !lacks x p
/-- the first code that isn't 0 -/
def firstc (f : Nat → Nat) : List Nat → Nat
  | [] => 0
  | p :: l => if f p ≠ 0 then f p else firstc f l
/-- what is wrong with a reply -/
def code (x : Re) : Nat := if 7 < x.kd.toNat then 8 else if more x then 4 else firstc (pcode x) (tells x.kd.toNat)
theorem firstc_zero {f : Nat → Nat} {l : List Nat} (h : firstc f l = 0) : ∀ p ∈ l, f p = 0 := by
  induction l with
  | nil => intro p hp; simp at hp
  | cons a l ih =>
    rw [firstc] at h
    by_cases h0 : f a = 0
    · rw [if_neg (by omega)] at h
      intro p hp
      rcases List.mem_cons.1 hp with rfl | hp
      · exact h0
      · exact ih h p hp
    · rw [if_pos h0] at h; exact absurd h h0
theorem code_ok {x : Re} (h : code x = 0) : x.kd.toNat ≤ 7 ∧ more x = false ∧ ∀ p ∈ tells x.kd.toNat, pcode x p = 0 := by
  unfold code at h
  by_cases h1 : 7 < x.kd.toNat
  · rw [if_pos h1] at h; omega
  · rw [if_neg h1] at h
    cases hm : more x with
    | true => rw [hm] at h; simp at h
    | false =>
      rw [hm] at h
      exact ⟨by omega, rfl, firstc_zero (by simpa using h)⟩
/-- numbers that their types hold -/
structure Fits (x : Re) : Prop where
  n : x.n < 18446744073709551616
  m : x.m < 18446744073709551616
  head : ∀ p ∈ x.head, Hd.Fits p

/-! ### its bytes -/
def enc1 (x : Re) (p : Nat) : List UInt8 :=
  if p = 0 then Oct.be 8 x.n else if p = 1 then Oct.be 8 x.m else if p = 2 then Pt.yesEnc x.yes else if p = 3 then Oct.text x.name else if p = 4 then Oct.text x.shop else if p = 5 then Oct.text x.key else if p = 6 then Hd.henc x.head else if p = 7 then Oct.text x.body else []
def enc (x : Re) : List UInt8 := (tells x.kd.toNat).flatMap (enc1 x)
/-- the part that comes next -/
def rd1 (y : Re) (s : LSt) (p : Nat) : Re × LSt :=
  if p = 0 then ({y with n := Oct.val (lOut s.1 8)}, lRaw s 8) else if p = 1 then ({y with m := Oct.val (lOut s.1 8)}, lRaw s 8) else if p = 2 then ({y with yes := Pt.yesOut s}, Pt.yesIn s) else if p = 3 then ({y with name := lTextOut s 16}, lText s 16) else if p = 4 then ({y with shop := lTextOut s 16}, lText s 16) else if p = 5 then ({y with key := lTextOut s 64}, lText s 64) else if p = 6 then ({y with head := (Hd.hread s).1}, (Hd.hread s).2) else if p = 7 then ({y with body := lTextOut s 256}, lText s 256) else (y, s)
def rdl (l : List Nat) (t : Re × LSt) : Re × LSt := l.foldl (fun t p => rd1 t.1 t.2 p) t
/-- all that is read of a frame's body -/
def rd (c k : UInt8) (b : List UInt8) : Re × LSt := rdl (tells k.toNat) (zero c k, (b, 0))
theorem key_len {bs : List (List UInt8)} {l : List UInt8} (h : Wrd.keyCode bs l = 0) : l.length ≤ 64 := by
  unfold Wrd.keyCode at h
  by_cases h1 : 64 < l.length
  · rw [if_pos h1] at h; omega
  · omega
theorem lt8 {p : Nat} (h : p < 8) : p = 0 ∨ p = 1 ∨ p = 2 ∨ p = 3 ∨ p = 4 ∨ p = 5 ∨ p = 6 ∨ p = 7 := by omega
theorem more_no {x : Re} (h : more x = false) {p : Nat} (hp : p < 9) (ht : (tells x.kd.toNat).contains p = false) : lacks x p = true := by
  unfold more at h
  rw [List.any_eq_false] at h
  have := h p (List.mem_range.2 hp)
  rw [ht] at this
  simpa using this
theorem rd1_ok {y : Re} {s : LSt} {p : Nat} (h : lOk s) : lOk (rd1 y s p).2 := by
  unfold rd1
  repeat' split
  · exact lOk_raw h _
  · exact lOk_raw h _
  · exact Pt.lOk_yes h
  · exact lOk_text h _
  · exact lOk_text h _
  · exact lOk_text h _
  · exact Hd.lOk_hread h
  · exact lOk_text h _
  · exact h
theorem rdl_ok : ∀ (l : List Nat) (t : Re × LSt), lOk t.2 → lOk (rdl l t).2
  | [], _, h => h
  | p :: l, t, h => rdl_ok l (rd1 t.1 t.2 p) (rd1_ok h)
/-! ### what was read is written so -/
theorem rd1_back {y : Re} {s : LSt} {p : Nat} (hp : p < 8) (hok : lOk s) (h : (rd1 y s p).2.2 = 0) : s = (enc1 (rd1 y s p).1 p ++ (rd1 y s p).2.1, 0) := by
  rcases lt8 hp with rfl | rfl | rfl | rfl | rfl | rfl | rfl | rfl
  · exact Pt.num_back (n := 8) hok h
  · exact Pt.num_back (n := 8) hok h
  · exact Pt.yes_back hok h
  · exact (Pt.text_back (m := 16) hok h).1
  · exact (Pt.text_back (m := 16) hok h).1
  · exact (Pt.text_back (m := 64) hok h).1
  · exact Pt.hread_back hok h
  · exact (Pt.text_back (m := 256) hok h).1
theorem rd1_other {y : Re} {s : LSt} {p q : Nat} (hp : p < 8) (hq : q < 8) (h : q ≠ p) : enc1 (rd1 y s q).1 p = enc1 y p := by
  rcases lt8 hp with rfl | rfl | rfl | rfl | rfl | rfl | rfl | rfl <;> rcases lt8 hq with rfl | rfl | rfl | rfl | rfl | rfl | rfl | rfl <;> first | exact absurd rfl h | rfl
theorem rdl_other : ∀ (l : List Nat) (t : Re × LSt) (p : Nat), p < 8 → (∀ q ∈ l, q < 8 ∧ q ≠ p) → enc1 (rdl l t).1 p = enc1 t.1 p
  | [], _, _, _, _ => rfl
  | q :: l, t, p, hp, h => by
    have h0 := h q (by simp)
    have := rdl_other l (rd1 t.1 t.2 q) p hp fun r hr => h r (by simp [hr])
    rw [rd1_other hp h0.1 h0.2] at this
    exact this
theorem rdl_back : ∀ (l : List Nat) (y : Re) (s : LSt), (∀ p ∈ l, p < 8) → l.Nodup → lOk s → (rdl l (y, s)).2.2 = 0 → s = (l.flatMap (enc1 (rdl l (y, s)).1) ++ (rdl l (y, s)).2.1, 0)
  | [], y, s, _, _, _, h => by
    obtain ⟨r, e⟩ := s
    have h0 : e = 0 := h
    subst h0
    rfl
  | p :: l, y, s, hl, hn, hok, h => by
    have hp := hl p (by simp)
    have hn2 := List.nodup_cons.1 hn
    have ih := rdl_back l (rd1 y s p).1 (rd1 y s p).2 (fun q hq => hl q (by simp [hq])) hn2.2 (rd1_ok hok) h
    have hs := rd1_back (y := y) hp hok (by rw [ih])
    have ho := rdl_other l (rd1 y s p) p hp fun q hq => ⟨hl q (by simp [hq]), fun e => hn2.1 (e ▸ hq)⟩
    have e1 := congrArg Prod.fst ih
    simp only at e1
    show s = ((p :: l).flatMap (enc1 (rdl l (rd1 y s p)).1) ++ (rdl l (rd1 y s p)).2.1, 0)
    rw [List.flatMap_cons, ho, List.append_assoc]
    rw [e1] at hs
    exact hs
theorem rd1_kd {y : Re} {s : LSt} {p : Nat} : (rd1 y s p).1.ch = y.ch ∧ (rd1 y s p).1.kd = y.kd := by
  unfold rd1
  repeat' split
  all_goals exact ⟨rfl, rfl⟩
theorem rdl_kd : ∀ (l : List Nat) (t : Re × LSt), (rdl l t).1.ch = t.1.ch ∧ (rdl l t).1.kd = t.1.kd
  | [], _ => ⟨rfl, rfl⟩
  | p :: l, t => by
    have h1 := rdl_kd l (rd1 t.1 t.2 p)
    have h2 := rd1_kd (y := t.1) (s := t.2) (p := p)
    exact ⟨h1.1.trans h2.1, h1.2.trans h2.2⟩
theorem rd_kd (c k : UInt8) (b : List UInt8) : (rd c k b).1.ch = c ∧ (rd c k b).1.kd = k := rdl_kd _ _
theorem lEnd_zero {s : LSt} (h : lEnd s = 0) : s = ([], 0) := by
  obtain ⟨r, e⟩ := s
  unfold lEnd at h
  by_cases hr : 0 < r.length
  · rw [if_pos hr] at h; exact absurd h (by decide)
  · rw [if_neg hr] at h
    have : r = [] := List.eq_nil_of_length_eq_zero (by omega)
    subst this
    have h0 : e = 0 := h
    subst h0
    rfl
/-- what is read of a frame, if it may be read, has that frame -/
theorem enc_rd {c k : UInt8} {b : List UInt8} (h : lEnd (rd c k b).2 = 0) : enc (rd c k b).1 = b := by
  have he := lEnd_zero h
  have := rdl_back (tells k.toNat) (zero c k) (b, 0) (tells_lt _) (tells_nodup _) (lOk_new b) (by show (rd c k b).2.2 = 0; rw [he])
  have e := congrArg Prod.fst this
  simp only at e
  unfold enc
  rw [(rd_kd c k b).2]
  have e2 : (rdl (tells k.toNat) (zero c k, (b, 0))).2.1 = [] := congrArg Prod.fst he
  rw [e2, List.append_nil] at e
  exact e.symm
theorem rd1_fits {y : Re} {s : LSt} {p : Nat} (h : Fits y) : Fits (rd1 y s p).1 := by
  have h8 : Oct.val (lOut s.1 8) < 18446744073709551616 := Nat.lt_of_lt_of_le (val_out_lt s.1 8) (by decide)
  obtain ⟨a, b, c⟩ := h
  unfold rd1
  repeat' split
  all_goals first | exact ⟨a, b, c⟩ | exact ⟨a, b, Hd.hread_fits s⟩ | exact ⟨h8, b, c⟩ | exact ⟨a, h8, c⟩
theorem rdl_fits : ∀ (l : List Nat) (t : Re × LSt), Fits t.1 → Fits (rdl l t).1
  | [], _, h => h
  | p :: l, t, h => rdl_fits l (rd1 t.1 t.2 p) (rd1_fits h)
theorem rd_fits (c k : UInt8) (b : List UInt8) : Fits (rd c k b).1 := rdl_fits _ _ ⟨(by decide : (0 : Nat) < 18446744073709551616), (by decide : (0 : Nat) < 18446744073709551616), fun p hp => by simp [zero] at hp⟩
end Re
end Go.Proofs.YtnamkglflhkckaaGreatDoor
end
section
namespace Go.Proofs.YtnamkglflhkckaaGreatDoor
open Go.ChangeShapes Go.WideShapes Go.ChangeAt Go.RowKit
theorem emp_eq (l : List UInt8) : l.isEmpty = (l == []) := by cases l <;> rfl
/-- a row of parts -/
def Parts (w : World) (A : Option Addr) (l : List Nat) : Prop := l = [] ∨ ∃ b, A = some ⟨b, 0, none⟩ ∧ b < w.heap.size ∧ Cels w b (l.map fun (p : Nat) => Value.int .i64 (p : Int))
def TellPost (w : World) (l : List Nat) (e : Ending) (w' : World) : Prop := ∃ A c, e = .returned (.slice A l.length c) ∧ Parts w' A l ∧ Below w.heap.size w w' ∧ ∀ a, A = some a → w.heap.size ≤ a.block
theorem Parts.on {w w' : World} {A : Option Addr} {l : List Nat} (h : Parts w A l) (hb : Below w.heap.size w w') : Parts w' A l := by
  rcases h with h | ⟨b, e, hl, hc⟩
  · exact Or.inl h
  · exact Or.inr ⟨b, e, Nat.lt_of_lt_of_le hl hb.size, hc.on hb hl⟩
theorem Parts.at_ {w : World} {A : Option Addr} {l : List Nat} (h : Parts w A l) {k : Nat} (hk : k < l.length) : ∃ b, A = some ⟨b, 0, none⟩ ∧ b < w.heap.size ∧ w.cell? ⟨b, k, none⟩ = some (.int .i64 ((l.getD k 0 : Nat) : Int)) := by
  rcases h with rfl | ⟨b, e, hl, hc⟩
  · simp at hk
  · refine ⟨b, e, hl, ?_⟩
    refine hc k _ ?_
    rw [List.getElem?_map, List.getElem?_eq_getElem hk]
    simp [List.getD_eq_getElem?_getD, List.getElem?_eq_getElem hk]
theorem Parts.aside {w : World} {A : Option Addr} {l : List Nat} (h : Parts w A l) {g : Nat} (hne : ∀ a, A = some a → g ≠ a.block) (j : Nat) (v : Value) : Parts (w.setCell ⟨g, j, none⟩ v) A l := by
  rcases h with h | ⟨b, e, hl, hc⟩
  · exact Or.inl h
  · exact Or.inr ⟨b, e, by simpa [World.setCell] using hl, hc.aside (hne _ e) j v⟩
theorem Parts.grown {w w' : World} {A : Option Addr} {l : List Nat} {row : Option Nat} (h : Parts w A l) (hg : w.grownBy w' row) (hne : ∀ a, A = some a → some a.block ≠ row) : Parts w' A l := by
  rcases h with h | ⟨b, e, hl, hc⟩
  · exact Or.inl h
  · exact Or.inr ⟨b, e, Nat.lt_of_lt_of_le hl hg.size, hc.grown hg (hne _ e)⟩
theorem mtells_0 (w : World) : Calls Tryz.prog 51 #[.int .u8 0] w (TellPost w [5]) := by
  have HB := Lib.hid (show Below w.heap.size w (w.alloc (.cells #[.int .i64 5] 115)) from (Below.refl _ _).alloc (Nat.le_refl _) _)
  have HC := Lib.hid (Cels.new w #[.int .i64 5] 115)
  go_enter Tryz.func51, Tryz.ntmps51
  go_wp2_with fail
  go_ret
  exact ⟨_, _, rfl, Or.inr ⟨_, rfl, by simp, HC.out⟩, HB.out, fun a ha => by cases ha; exact Nat.le_refl _⟩
theorem mtells_3 (w : World) : Calls Tryz.prog 51 #[.int .u8 3] w (TellPost w [0, 5, 1]) := by
  have HB := Lib.hid (show Below w.heap.size w (w.alloc (.cells #[.int .i64 0, .int .i64 5, .int .i64 1] 115)) from (Below.refl _ _).alloc (Nat.le_refl _) _)
  have HC := Lib.hid (Cels.new w #[.int .i64 0, .int .i64 5, .int .i64 1] 115)
  go_enter Tryz.func51, Tryz.ntmps51
  go_wp2_with fail
  go_ret
  exact ⟨_, _, rfl, Or.inr ⟨_, rfl, by simp, HC.out⟩, HB.out, fun a ha => by cases ha; exact Nat.le_refl _⟩
theorem mtells_4 (w : World) : Calls Tryz.prog 51 #[.int .u8 4] w (TellPost w [0]) := by
  have HB := Lib.hid (show Below w.heap.size w (w.alloc (.cells #[.int .i64 0] 115)) from (Below.refl _ _).alloc (Nat.le_refl _) _)
  have HC := Lib.hid (Cels.new w #[.int .i64 0] 115)
  go_enter Tryz.func51, Tryz.ntmps51
  go_wp2_with fail
  go_ret
  exact ⟨_, _, rfl, Or.inr ⟨_, rfl, by simp, HC.out⟩, HB.out, fun a ha => by cases ha; exact Nat.le_refl _⟩
theorem mtells_5 (w : World) : Calls Tryz.prog 51 #[.int .u8 5] w (TellPost w [0, 5, 6, 1]) := by
  have HB := Lib.hid (show Below w.heap.size w (w.alloc (.cells #[.int .i64 0, .int .i64 5, .int .i64 6, .int .i64 1] 115)) from (Below.refl _ _).alloc (Nat.le_refl _) _)
  have HC := Lib.hid (Cels.new w #[.int .i64 0, .int .i64 5, .int .i64 6, .int .i64 1] 115)
  go_enter Tryz.func51, Tryz.ntmps51
  go_wp2_with fail
  go_ret
  exact ⟨_, _, rfl, Or.inr ⟨_, rfl, by simp, HC.out⟩, HB.out, fun a ha => by cases ha; exact Nat.le_refl _⟩
theorem mtells_6 (w : World) : Calls Tryz.prog 51 #[.int .u8 6] w (TellPost w [0]) := by
  have HB := Lib.hid (show Below w.heap.size w (w.alloc (.cells #[.int .i64 0] 115)) from (Below.refl _ _).alloc (Nat.le_refl _) _)
  have HC := Lib.hid (Cels.new w #[.int .i64 0] 115)
  go_enter Tryz.func51, Tryz.ntmps51
  go_wp2_with fail
  go_ret
  exact ⟨_, _, rfl, Or.inr ⟨_, rfl, by simp, HC.out⟩, HB.out, fun a ha => by cases ha; exact Nat.le_refl _⟩
theorem mtells_7 (w : World) : Calls Tryz.prog 51 #[.int .u8 7] w (TellPost w [0, 1, 2, 3, 7]) := by
  have HB := Lib.hid (show Below w.heap.size w (w.alloc (.cells #[.int .i64 0, .int .i64 1, .int .i64 2, .int .i64 3, .int .i64 7] 115)) from (Below.refl _ _).alloc (Nat.le_refl _) _)
  have HC := Lib.hid (Cels.new w #[.int .i64 0, .int .i64 1, .int .i64 2, .int .i64 3, .int .i64 7] 115)
  go_enter Tryz.func51, Tryz.ntmps51
  go_wp2_with fail
  go_ret
  exact ⟨_, _, rfl, Or.inr ⟨_, rfl, by simp, HC.out⟩, HB.out, fun a ha => by cases ha; exact Nat.le_refl _⟩
theorem mtells_8 (w : World) : Calls Tryz.prog 51 #[.int .u8 8] w (TellPost w [0, 1, 2, 3, 7]) := by
  have HB := Lib.hid (show Below w.heap.size w (w.alloc (.cells #[.int .i64 0, .int .i64 1, .int .i64 2, .int .i64 3, .int .i64 7] 115)) from (Below.refl _ _).alloc (Nat.le_refl _) _)
  have HC := Lib.hid (Cels.new w #[.int .i64 0, .int .i64 1, .int .i64 2, .int .i64 3, .int .i64 7] 115)
  go_enter Tryz.func51, Tryz.ntmps51
  go_wp2_with fail
  go_ret
  exact ⟨_, _, rfl, Or.inr ⟨_, rfl, by simp, HC.out⟩, HB.out, fun a ha => by cases ha; exact Nat.le_refl _⟩
theorem mtells_9 (w : World) : Calls Tryz.prog 51 #[.int .u8 9] w (TellPost w [0, 1, 2, 3, 7]) := by
  have HB := Lib.hid (show Below w.heap.size w (w.alloc (.cells #[.int .i64 0, .int .i64 1, .int .i64 2, .int .i64 3, .int .i64 7] 115)) from (Below.refl _ _).alloc (Nat.le_refl _) _)
  have HC := Lib.hid (Cels.new w #[.int .i64 0, .int .i64 1, .int .i64 2, .int .i64 3, .int .i64 7] 115)
  go_enter Tryz.func51, Tryz.ntmps51
  go_wp2_with fail
  go_ret
  exact ⟨_, _, rfl, Or.inr ⟨_, rfl, by simp, HC.out⟩, HB.out, fun a ha => by cases ha; exact Nat.le_refl _⟩
theorem mtells_10 (w : World) : Calls Tryz.prog 51 #[.int .u8 10] w (TellPost w [0, 1, 2, 3, 7]) := by
  have HB := Lib.hid (show Below w.heap.size w (w.alloc (.cells #[.int .i64 0, .int .i64 1, .int .i64 2, .int .i64 3, .int .i64 7] 115)) from (Below.refl _ _).alloc (Nat.le_refl _) _)
  have HC := Lib.hid (Cels.new w #[.int .i64 0, .int .i64 1, .int .i64 2, .int .i64 3, .int .i64 7] 115)
  go_enter Tryz.func51, Tryz.ntmps51
  go_wp2_with fail
  go_ret
  exact ⟨_, _, rfl, Or.inr ⟨_, rfl, by simp, HC.out⟩, HB.out, fun a ha => by cases ha; exact Nat.le_refl _⟩
theorem mtells_11 (w : World) : Calls Tryz.prog 51 #[.int .u8 11] w (TellPost w [0, 2, 3, 6, 4]) := by
  have HB := Lib.hid (show Below w.heap.size w (w.alloc (.cells #[.int .i64 0, .int .i64 2, .int .i64 3, .int .i64 6, .int .i64 4] 115)) from (Below.refl _ _).alloc (Nat.le_refl _) _)
  have HC := Lib.hid (Cels.new w #[.int .i64 0, .int .i64 2, .int .i64 3, .int .i64 6, .int .i64 4] 115)
  go_enter Tryz.func51, Tryz.ntmps51
  go_wp2_with fail
  go_ret
  exact ⟨_, _, rfl, Or.inr ⟨_, rfl, by simp, HC.out⟩, HB.out, fun a ha => by cases ha; exact Nat.le_refl _⟩
theorem mtells_12 (w : World) : Calls Tryz.prog 51 #[.int .u8 12] w (TellPost w [5]) := by
  have HB := Lib.hid (show Below w.heap.size w (w.alloc (.cells #[.int .i64 5] 115)) from (Below.refl _ _).alloc (Nat.le_refl _) _)
  have HC := Lib.hid (Cels.new w #[.int .i64 5] 115)
  go_enter Tryz.func51, Tryz.ntmps51
  go_wp2_with fail
  go_ret
  exact ⟨_, _, rfl, Or.inr ⟨_, rfl, by simp, HC.out⟩, HB.out, fun a ha => by cases ha; exact Nat.le_refl _⟩
theorem mtells_13 (w : World) : Calls Tryz.prog 51 #[.int .u8 13] w (TellPost w [0, 5]) := by
  have HB := Lib.hid (show Below w.heap.size w (w.alloc (.cells #[.int .i64 0, .int .i64 5] 115)) from (Below.refl _ _).alloc (Nat.le_refl _) _)
  have HC := Lib.hid (Cels.new w #[.int .i64 0, .int .i64 5] 115)
  go_enter Tryz.func51, Tryz.ntmps51
  go_wp2_with fail
  go_ret
  exact ⟨_, _, rfl, Or.inr ⟨_, rfl, by simp, HC.out⟩, HB.out, fun a ha => by cases ha; exact Nat.le_refl _⟩
theorem mtells_14 (w : World) : Calls Tryz.prog 51 #[.int .u8 14] w (TellPost w [5]) := by
  have HB := Lib.hid (show Below w.heap.size w (w.alloc (.cells #[.int .i64 5] 115)) from (Below.refl _ _).alloc (Nat.le_refl _) _)
  have HC := Lib.hid (Cels.new w #[.int .i64 5] 115)
  go_enter Tryz.func51, Tryz.ntmps51
  go_wp2_with fail
  go_ret
  exact ⟨_, _, rfl, Or.inr ⟨_, rfl, by simp, HC.out⟩, HB.out, fun a ha => by cases ha; exact Nat.le_refl _⟩
theorem mtells_15 (w : World) : Calls Tryz.prog 51 #[.int .u8 15] w (TellPost w [0]) := by
  have HB := Lib.hid (show Below w.heap.size w (w.alloc (.cells #[.int .i64 0] 115)) from (Below.refl _ _).alloc (Nat.le_refl _) _)
  have HC := Lib.hid (Cels.new w #[.int .i64 0] 115)
  go_enter Tryz.func51, Tryz.ntmps51
  go_wp2_with fail
  go_ret
  exact ⟨_, _, rfl, Or.inr ⟨_, rfl, by simp, HC.out⟩, HB.out, fun a ha => by cases ha; exact Nat.le_refl _⟩
theorem mtells_16 (w : World) : Calls Tryz.prog 51 #[.int .u8 16] w (TellPost w [5, 6, 7]) := by
  have HB := Lib.hid (show Below w.heap.size w (w.alloc (.cells #[.int .i64 5, .int .i64 6, .int .i64 7] 115)) from (Below.refl _ _).alloc (Nat.le_refl _) _)
  have HC := Lib.hid (Cels.new w #[.int .i64 5, .int .i64 6, .int .i64 7] 115)
  go_enter Tryz.func51, Tryz.ntmps51
  go_wp2_with fail
  go_ret
  exact ⟨_, _, rfl, Or.inr ⟨_, rfl, by simp, HC.out⟩, HB.out, fun a ha => by cases ha; exact Nat.le_refl _⟩
set_option maxRecDepth 20000 in
theorem mtells_no (n : Nat) (h0 : n ≠ 0) (h3 : n ≠ 3) (h4 : n ≠ 4) (h5 : n ≠ 5) (h6 : n ≠ 6) (h7 : n ≠ 7) (h8 : n ≠ 8) (h9 : n ≠ 9) (h10 : n ≠ 10) (h11 : n ≠ 11) (h12 : n ≠ 12) (h13 : n ≠ 13) (h14 : n ≠ 14) (h15 : n ≠ 15) (h16 : n ≠ 16) (w : World) : Calls Tryz.prog 51 #[.int .u8 (n : Int)] w (TellPost w []) := by
  have z0 : ((n : Int) == 0) = false := beq_eq_false_iff_ne.2 (by omega)
  have z3 : ((n : Int) == 3) = false := beq_eq_false_iff_ne.2 (by omega)
  have z4 : ((n : Int) == 4) = false := beq_eq_false_iff_ne.2 (by omega)
  have z5 : ((n : Int) == 5) = false := beq_eq_false_iff_ne.2 (by omega)
  have z6 : ((n : Int) == 6) = false := beq_eq_false_iff_ne.2 (by omega)
  have z7 : ((n : Int) == 7) = false := beq_eq_false_iff_ne.2 (by omega)
  have z8 : ((n : Int) == 8) = false := beq_eq_false_iff_ne.2 (by omega)
  have z9 : ((n : Int) == 9) = false := beq_eq_false_iff_ne.2 (by omega)
  have z10 : ((n : Int) == 10) = false := beq_eq_false_iff_ne.2 (by omega)
  have z11 : ((n : Int) == 11) = false := beq_eq_false_iff_ne.2 (by omega)
  have z12 : ((n : Int) == 12) = false := beq_eq_false_iff_ne.2 (by omega)
  have z13 : ((n : Int) == 13) = false := beq_eq_false_iff_ne.2 (by omega)
  have z14 : ((n : Int) == 14) = false := beq_eq_false_iff_ne.2 (by omega)
  have z15 : ((n : Int) == 15) = false := beq_eq_false_iff_ne.2 (by omega)
  have z16 : ((n : Int) == 16) = false := beq_eq_false_iff_ne.2 (by omega)
  clear h0 h3 h4 h5 h6 h7 h8 h9 h10 h11 h12 h13 h14 h15 h16
  go_enter Tryz.func51, Tryz.ntmps51
  go_wp2_with fail
  go_ret
  exact ⟨none, 0, rfl, Or.inl rfl, Below.refl _ _, fun a ha => by cases ha⟩
theorem Me_tells_any (n : Nat) (w : World) : Calls Tryz.prog 51 #[.int .u8 (n : Int)] w (TellPost w (Me.tells n)) := by
  by_cases hn : n = 0 ∨ n = 3 ∨ n = 4 ∨ n = 5 ∨ n = 6 ∨ n = 7 ∨ n = 8 ∨ n = 9 ∨ n = 10 ∨ n = 11 ∨ n = 12 ∨ n = 13 ∨ n = 14 ∨ n = 15 ∨ n = 16
  · rcases hn with rfl | rfl | rfl | rfl | rfl | rfl | rfl | rfl | rfl | rfl | rfl | rfl | rfl | rfl | rfl
    · exact mtells_0 w
    · exact mtells_3 w
    · exact mtells_4 w
    · exact mtells_5 w
    · exact mtells_6 w
    · exact mtells_7 w
    · exact mtells_8 w
    · exact mtells_9 w
    · exact mtells_10 w
    · exact mtells_11 w
    · exact mtells_12 w
    · exact mtells_13 w
    · exact mtells_14 w
    · exact mtells_15 w
    · exact mtells_16 w
  · have he : Me.tells n = [] := by
      unfold Me.tells
      split <;> first | rfl | (exfalso; omega)
    rw [he]
    exact mtells_no n (by omega) (by omega) (by omega) (by omega) (by omega) (by omega) (by omega) (by omega) (by omega) (by omega) (by omega) (by omega) (by omega) (by omega) (by omega) w
set_option maxHeartbeats 1000000 in
theorem Me_index_any (l : List Nat) (A : Option Addr) (c x : Nat) (w : World) (hl : l.length ≤ 100000) (hp : Parts w A l) :
    Calls Tryz.prog 120 #[.slice A l.length c, .int .i64 (x : Int)] w fun e w' => e = .returned (.int .i64 (idx (fun y => y == x) l)) ∧ w = w' := by
  have HP := Lib.hid hp
  have HNONE := Lib.hid (fun h => idx_none (q := fun y => y == x) (l := l) 0 h)
  have HSOME := Lib.hid (fun k (hk : k < l.length) h hq => idx_some (q := fun y => y == x) (l := l) 0 hk h hq)
  clear hp
  generalize idx (fun y => y == x) l = M at *
  obtain ⟨n, hn⟩ : ∃ n, n = l.length := ⟨_, rfl⟩
  rw [← hn]
  have HN := Lib.hid hn
  have hnl : n ≤ 100000 := by omega
  clear hn hl
  go_enter Tryz.func120, Tryz.ntmps120
  go_wp2_with fail
  go_loopg [8] n (fun g i wr => ∃ k : Nat, k + g = n ∧ i = .int .i64 (k : Int) ∧ (∀ j, j < k → (l.getD j 0 == x) = false) ∧ w = wr)
  case atStart => exact ⟨0, by omega, rfl, fun j hj => absurd hj (by omega), rfl⟩
  case round =>
    obtain ⟨k, hk, rfl, hno, rfl⟩ := hrel
    have HNO := Lib.hid hno
    clear hno
    by_cases hlt : k < n
    · obtain ⟨b, rfl, hbl, hat⟩ := HP.out.at_ (k := k) (by have := HN.out; omega)
      cases hq : l.getD k 0 == x with
      | true =>
        have hM := HSOME.out k (by have := HN.out; omega) HNO.out hq
        have hy : ((x : Int) == ((l.getD k 0 : Nat) : Int)) = true := by rw [cast_beq, Bool.beq_comm]; exact hq
        generalize l.getD k 0 = y at *
        clear hq
        go_wp2_with fail
        go_ret
        exact ⟨ret_nat hM.symm, rfl⟩
      | false =>
        have HNX := Lib.hid (show ∀ j, j < k + 1 → (l.getD j 0 == x) = false from fun j hj => by
          by_cases e : j = k
          · rw [e]; exact hq
          · exact HNO.out j (by omega))
        have hy : ((x : Int) == ((l.getD k 0 : Nat) : Int)) = false := by rw [cast_beq, Bool.beq_comm]; exact hq
        generalize l.getD k 0 = y at *
        clear hq
        go_wp2_with fail
        go_roundg (gk - 1)
        case rel => exact ⟨k + 1, by omega, by go_num, HNX.out, rfl⟩
        case measure => omega
    · have hM := HNONE.out (fun i hi => HNO.out i (by have := HN.out; omega))
      go_wp2_with fail
      go_ret
      exact ⟨ret_nat hM.symm, rfl⟩
theorem Me_contains_any (l : List Nat) (A : Option Addr) (c x : Nat) (w : World) (hl : l.length ≤ 100000) (hp : Parts w A l) :
    Calls Tryz.prog 54 #[.slice A l.length c, .int .i64 (x : Int)] w fun e w' => e = .returned (.bool (l.contains x)) ∧ w = w' := by
  have HI := Lib.hid (Me_index_any l A c x w hl hp)
  have HA := Lib.hid (show decide (idx (fun y => y == x) l ≥ 0) = l.contains x by rw [idx_any, List.contains_eq_any_beq]; congr 1; funext y; exact Bool.beq_comm)
  generalize l.contains x = C at *
  generalize idx (fun y => y == x) l = M at *
  obtain ⟨n, hn⟩ : ∃ n, n = l.length := ⟨_, rfl⟩
  rw [← hn] at hl HI ⊢
  clear hn hp
  go_enter Tryz.func54, Tryz.ntmps54
  go_wp2_with fail
  refine HI.out.mono ?_
  rintro e w1 ⟨rfl, rfl⟩
  go_wp2_with fail
  go_ret
  exact ⟨ret_bool HA.out, rfl⟩
end Go.Proofs.YtnamkglflhkckaaGreatDoor
end
