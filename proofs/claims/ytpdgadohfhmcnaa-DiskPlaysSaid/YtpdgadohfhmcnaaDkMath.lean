/-
  A DISK, plain: writes that wait, done as far as a cut; what a block reads; beginnings.
-/
namespace Go.Proofs.Ytpdgadohfhmcnaa.Dk
/-- a write that waits: its block, its bytes -/
abbrev Wr := Nat × List UInt8
def put (s : List UInt8) (a : Nat) (d : List UInt8) : List UInt8 := s.take (64 * a) ++ (d ++ s.drop (64 * a + d.length))
def done : List UInt8 → List Wr → Nat → List UInt8
  | s, [], _ => s
  | s, w :: l, c => done (put s w.1 (w.2.take c)) l (c - w.2.length)
def waits : List Wr → Nat
  | [] => 0
  | w :: l => w.2.length + waits l
/-- a write that may be, of so many blocks -/
def WOk (n : Nat) (w : Wr) : Prop := w.1 < n ∧ w.2.length ≤ 64
structure St where
  last : List UInt8
  wait : List Wr
  on : Bool
  arm : Option (Nat × Nat)
structure Wf (n : Nat) (st : St) : Prop where
  len : st.last.length = 64 * n
  ok : ∀ w ∈ st.wait, WOk n w
  off : st.on = false → st.wait = [] ∧ st.arm = none
def code (n : Nat) (st : St) (a : Int) : Int := if st.on = false then 16 else if a < 0 ∨ (n : Int) ≤ a then 7 else 0
def wcode (n : Nat) (st : St) (a : Int) (d : List UInt8) : Int := if code n st a ≠ 0 then code n st a else if 64 < d.length then 5 else 0
def write (n : Nat) (st : St) (a : Int) (d : List UInt8) : St := if wcode n st a d = 0 then { st with wait := st.wait ++ [(a.toNat, d)] } else st
def down (st : St) (c : Nat) : St := if st.on = true then { last := done st.last st.wait c, wait := [], on := false, arm := none } else st
def scode (st : St) : Int := if st.on = false then 16 else match st.arm with
  | some (0, _) => 16
  | _ => 0
def sync (st : St) : St := if st.on = false then st else match st.arm with
  | some (0, c) => down st c
  | some (k + 1, c) => { st with last := done st.last st.wait (waits st.wait), wait := [], arm := some (k, c) }
  | none => { st with last := done st.last st.wait (waits st.wait), wait := [] }
def armed (st : St) (s c : Int) : St := if st.on = true then { st with arm := some (s.toNat, c.toNat) } else st
def up (st : St) : St := if st.on = true then st else { st with on := true, arm := none }
def blk (s : List UInt8) (i : Nat) : List UInt8 := (s.drop (64 * i)).take 64
def new (n : Nat) : St := { last := List.replicate (64 * n) 0, wait := [], on := true, arm := none }
def over (b d : List UInt8) : List UInt8 := d ++ b.drop d.length
def rd (a : Nat) : List UInt8 → List Wr → List UInt8
  | b, [] => b
  | b, w :: l => rd a (if w.1 = a then over b w.2 else b) l
def readV (n : Nat) (st : St) (a : Int) : List UInt8 := if code n st a = 0 then blk (done st.last st.wait (waits st.wait)) a.toNat else []

theorem put_len {s : List UInt8} {a : Nat} {d : List UInt8} (h : 64 * a + d.length ≤ s.length) : (put s a d).length = s.length := by
  simp [put]; omega
theorem wok_fit {n : Nat} {s : List UInt8} {w : Wr} (h : WOk n w) (hs : s.length = 64 * n) (c : Nat) : 64 * w.1 + (w.2.take c).length ≤ s.length := by
  have h1 := h.1
  have h2 := h.2
  simp only [List.length_take]; omega
theorem done_len {n : Nat} : ∀ (l : List Wr) {s : List UInt8} (c : Nat), (∀ w ∈ l, WOk n w) → s.length = 64 * n → (done s l c).length = 64 * n
  | [], _, _, _, hs => hs
  | w :: l, s, c, h, hs => by
    have hw : WOk n w := h w (by simp)
    exact done_len l _ (fun x hx => h x (by simp [hx])) ((put_len (wok_fit hw hs c)).trans hs)
theorem waits_app (l m : List Wr) : waits (l ++ m) = waits l + waits m := by
  induction l with
  | nil => simp [waits]
  | cons w l ih => simp [waits, ih]; omega
theorem waits_le {n : Nat} (l : List Wr) (h : ∀ w ∈ l, WOk n w) : waits l ≤ 64 * l.length := by
  induction l with
  | nil => simp [waits]
  | cons w l ih =>
    have h1 := (h w (by simp)).2
    have h2 := ih fun x hx => h x (by simp [hx])
    simp only [waits, List.length_cons]; omega
theorem done_app (l m : List Wr) : ∀ (s : List UInt8) (c : Nat), done s (l ++ m) c = done (done s l c) m (c - waits l) := by
  induction l with
  | nil => intro s c; simp [done, waits]
  | cons w l ih =>
    intro s c
    show done (put s w.1 (w.2.take c)) (l ++ m) (c - w.2.length) = _
    rw [ih]
    show _ = done (done (put s w.1 (w.2.take c)) l (c - w.2.length)) m (c - (w.2.length + waits l))
    rw [show c - w.2.length - waits l = c - (w.2.length + waits l) by omega]
/-- the writes that a beginning of their bytes makes -/
def takes : List Wr → Nat → List Wr
  | [], _ => []
  | w :: l, c => (w.1, w.2.take c) :: takes l (c - w.2.length)
theorem takes_app (l : List Wr) (w : Wr) : ∀ c, takes (l ++ [w]) c = takes l c ++ [(w.1, w.2.take (c - waits l))] := by
  induction l with
  | nil => intro c; simp [takes, waits]
  | cons x l ih =>
    intro c
    show (x.1, x.2.take c) :: takes (l ++ [w]) (c - x.2.length) = _
    rw [ih]
    show _ = (x.1, x.2.take c) :: (takes l (c - x.2.length) ++ [(w.1, w.2.take (c - (x.2.length + waits l)))])
    rw [show c - x.2.length - waits l = c - (x.2.length + waits l) by omega]
theorem done_takes : ∀ (l : List Wr) (s : List UInt8) (c d : Nat), waits (takes l c) ≤ d → done s (takes l c) d = done s l c
  | [], _, _, _, _ => rfl
  | w :: l, s, c, d, h => by
    have h' : (w.2.take c).length + waits (takes l (c - w.2.length)) ≤ d := h
    show done (put s w.1 ((w.2.take c).take d)) (takes l (c - w.2.length)) (d - (w.2.take c).length) = done (put s w.1 (w.2.take c)) l (c - w.2.length)
    rw [List.take_of_length_le (by omega)]
    exact done_takes l _ _ _ (by omega)
theorem blk_len {n : Nat} {s : List UInt8} (hs : s.length = 64 * n) {i : Nat} (hi : i < n) : (blk s i).length = 64 := by
  simp [blk]; omega
theorem blk_put_ne {n : Nat} {s : List UInt8} (hs : s.length = 64 * n) {a i : Nat} {d : List UInt8} (hd : d.length ≤ 64) (ha : a < n) (hne : a ≠ i) : blk (put s a d) i = blk s i := by
  apply List.ext_getElem?
  intro j
  simp only [blk, put, List.getElem?_take, List.getElem?_drop, List.getElem?_append, List.length_take]
  by_cases hj : j < 64
  · rw [if_pos hj, if_pos hj]
    by_cases h1 : a < i
    · rw [if_neg (by omega), if_neg (by omega)]
      congr 1; omega
    · rw [if_pos (by omega), if_pos (by omega)]
  · rw [if_neg hj, if_neg hj]
theorem blk_put_eq {n : Nat} {s : List UInt8} (hs : s.length = 64 * n) {a : Nat} {d : List UInt8} (hd : d.length ≤ 64) (ha : a < n) : blk (put s a d) a = over (blk s a) d := by
  apply List.ext_getElem?
  intro j
  simp only [blk, put, over, List.getElem?_take, List.getElem?_drop, List.getElem?_append, List.length_take]
  by_cases h64 : j < 64
  · rw [if_pos h64, if_neg (by omega), show 64 * a + j - min (64 * a) s.length = j by omega]
    by_cases hj : j < d.length
    · rw [if_pos hj, if_pos hj]
    · rw [if_neg hj, if_neg hj, if_pos (by omega), show 64 * a + d.length + (j - d.length) = 64 * a + (d.length + (j - d.length)) by omega]
  · rw [if_neg h64, if_neg (by omega), if_neg (by omega)]
theorem done_blk {n : Nat} {i : Nat} : ∀ (l : List Wr) (s : List UInt8) (c : Nat), s.length = 64 * n → (∀ w ∈ l, WOk n w) → (∀ w ∈ l, w.1 ≠ i) → blk (done s l c) i = blk s i
  | [], _, _, _, _, _ => rfl
  | w :: l, s, c, hs, h, hne => by
    have hw : WOk n w := h w (by simp)
    show blk (done (put s w.1 (w.2.take c)) l (c - w.2.length)) i = _
    rw [done_blk l _ _ ((put_len (wok_fit hw hs c)).trans hs) (fun x hx => h x (by simp [hx])) (fun x hx => hne x (by simp [hx]))]
    exact blk_put_ne hs (Nat.le_trans (List.length_take_le' ..) hw.2) hw.1 (hne w (by simp))
theorem rd_done {n a : Nat} : ∀ (l : List Wr) (s : List UInt8) (c : Nat), s.length = 64 * n → (∀ w ∈ l, WOk n w) → waits l ≤ c → blk (done s l c) a = rd a (blk s a) l
  | [], _, _, _, _, _ => rfl
  | w :: l, s, c, hs, h, hc => by
    have hw : WOk n w := h w (by simp)
    have hc' : w.2.length + waits l ≤ c := hc
    show blk (done (put s w.1 (w.2.take c)) l (c - w.2.length)) a = _
    have hp := (put_len (wok_fit hw hs c)).trans hs
    rw [rd_done l _ _ hp (fun x hx => h x (by simp [hx])) (by omega), List.take_of_length_le (by omega)]
    show _ = rd a (if w.1 = a then over (blk s a) w.2 else blk s a) l
    by_cases e : w.1 = a
    · subst e; rw [if_pos rfl, blk_put_eq hs hw.2 hw.1]
    · rw [if_neg e, blk_put_ne hs hw.2 hw.1 e]
theorem rd_app (a : Nat) (l m : List Wr) : ∀ b, rd a b (l ++ m) = rd a (rd a b l) m := by
  induction l with
  | nil => intro b; rfl
  | cons w l ih => intro b; exact ih _
theorem over_len {b d : List UInt8} (h : d.length ≤ b.length) : (over b d).length = b.length := by simp [over]; omega
theorem rd_len {n a : Nat} : ∀ (l : List Wr) (b : List UInt8), b.length = 64 → (∀ w ∈ l, WOk n w) → (rd a b l).length = 64
  | [], _, hb, _ => hb
  | w :: l, b, hb, h => by
    have hw : WOk n w := h w (by simp)
    show (rd a (if w.1 = a then over b w.2 else b) l).length = 64
    refine rd_len l _ ?_ (fun x hx => h x (by simp [hx]))
    split
    · rw [over_len (by rw [hb]; exact hw.2), hb]
    · exact hb
/-! ### what stands -/
theorem new_wf (n : Nat) : Wf n (new n) := ⟨by simp [new], fun w h => by simp [new] at h, fun h => by simp [new] at h⟩
theorem code_ok {n : Nat} {st : St} {a : Int} (h : code n st a = 0) : st.on = true ∧ 0 ≤ a ∧ a < n := by
  unfold code at h
  split at h
  · omega
  · rename_i hon
    split at h
    · omega
    · exact ⟨by simpa using hon, by omega, by omega⟩
theorem wcode_ok {n : Nat} {st : St} {a : Int} {d : List UInt8} (h : wcode n st a d = 0) : code n st a = 0 ∧ d.length ≤ 64 := by
  unfold wcode at h
  split at h
  · rename_i h1; exact absurd h h1
  · rename_i h1
    split at h
    · omega
    · exact ⟨by simpa using h1, by omega⟩
theorem write_wf {n : Nat} {st : St} (h : Wf n st) (a : Int) (d : List UInt8) : Wf n (write n st a d) := by
  unfold write
  split
  · rename_i hw
    obtain ⟨h1, h2⟩ := wcode_ok hw
    obtain ⟨h3, h4, h5⟩ := code_ok h1
    refine ⟨h.len, fun w hw => ?_, fun ho => ?_⟩
    · rcases List.mem_append.1 hw with hw | hw
      · exact h.ok w hw
      · obtain rfl := List.mem_singleton.1 hw
        exact ⟨by show a.toNat < n; omega, h2⟩
    · exact absurd h3 (by simp [show st.on = false from ho])
  · exact h
theorem down_wf {n : Nat} {st : St} (h : Wf n st) (c : Nat) : Wf n (down st c) := by
  unfold down
  split
  · exact ⟨done_len _ _ h.ok h.len, fun w hw => by simp at hw, fun _ => ⟨rfl, rfl⟩⟩
  · exact h
theorem sync_wf {n : Nat} {st : St} (h : Wf n st) : Wf n (sync st) := by
  unfold sync
  split
  · exact h
  · rename_i hon
    split
    · exact down_wf h _
    · exact ⟨done_len _ _ h.ok h.len, fun w hw => by simp at hw, fun ho => absurd ho hon⟩
    · exact ⟨done_len _ _ h.ok h.len, fun w hw => by simp at hw, fun ho => absurd ho hon⟩
theorem armed_wf {n : Nat} {st : St} (h : Wf n st) (s c : Int) : Wf n (armed st s c) := by
  unfold armed
  split
  · rename_i hon
    exact ⟨h.len, h.ok, fun ho => absurd hon (by simp [show st.on = false from ho])⟩
  · exact h
theorem up_wf {n : Nat} {st : St} (h : Wf n st) : Wf n (up st) := by
  unfold up
  split
  · exact h
  · rename_i hon
    exact ⟨h.len, h.ok, fun ho => by simp at ho⟩
end Go.Proofs.Ytpdgadohfhmcnaa.Dk
