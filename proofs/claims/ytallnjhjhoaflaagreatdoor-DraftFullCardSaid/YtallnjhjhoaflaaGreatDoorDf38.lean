/-
  ROWS OF ONE DEED; a deed with a head of its own: walked.
-/
import Derived.Test.YtallnjhjhoaflaaGreatDoorDf05
import Derived.Test.YtallnjhjhoaflaaGreatDoorDf22
import Derived.Test.YtallnjhjhoaflaaGreatDoorDf29
import Derived.Test.YtallnjhjhoaflaaGreatDoorDf37
import Derived.Great.BuildSlice
import Derived.Deep.RegionLawGrows
section
namespace Go.Proofs.YtallnjhjhoaflaaGreatDoor
open Go.ChangeShapes Go.WideShapes Go.ChangeAt Go.RowKit
/-- a Put at a tick -/
def Df (t : Nat) (m : Ml) : De := { De.of 6 t with mail := m }
theorem df_V (t : Nat) (m : Ml) (B : Option Addr) (d : Nat) : deV (Df t m) none 0 B d = .agg #[.int .u8 6, .int .u64 (t : Int), .string ⟨#[]⟩, .int .u8 0, .string ⟨#[]⟩, .string ⟨#[]⟩, .int .u64 0, .int .u64 0, .string ⟨#[]⟩, .string ⟨#[]⟩, .string ⟨#[]⟩, .bool false, .string ⟨#[]⟩, .slice none 0 0, .bool false, .string ⟨#[]⟩, .int .u64 0, .int .u8 0, .int .u8 0, .int .u8 0, .int .u64 0, .int .u64 (m.id : Int), .string (ofL m.shop), .string (ofL m.key), .slice B m.head.length d, .string (ofL m.body), .int .u64 (m.due : Int), .int .u8 (m.hops : Int), .string ⟨#[]⟩] := rfl
theorem df_code (t : Nat) (m : Ml) : (Df t m).code = m.code := by
  have h : Df t m = (Df t m).told := by rw [De.told_6 (x := Df t m) rfl]; rfl
  rw [De.code_body (by show ¬ 12 < 6; omega) h, De.body_6 (x := Df t m) rfl]
  rfl
theorem infoDe : (Tryz.prog.info? 39).map (fun i => (i.zero, i.size, i.bytes)) = some (some (.agg #[.int .u8 0, .int .u64 0, .string ⟨#[]⟩, .int .u8 0, .string ⟨#[]⟩, .string ⟨#[]⟩, .int .u64 0, .int .u64 0, .string ⟨#[]⟩, .string ⟨#[]⟩, .string ⟨#[]⟩, .bool false, .string ⟨#[]⟩, .slice none 0 0, .bool false, .string ⟨#[]⟩, .int .u64 0, .int .u8 0, .int .u8 0, .int .u8 0, .int .u64 0, .int .u64 0, .string ⟨#[]⟩, .string ⟨#[]⟩, .slice none 0 0, .string ⟨#[]⟩, .int .u64 0, .int .u8 0, .string ⟨#[]⟩]), 29, 344) := by kernel_rfl
theorem fill29 (x : De) (A : Option Addr) (c : Nat) (B : Option Addr) (d : Nat) : Instr.fill (fun i => some (i * 29, 29)) ((Array.range (1 * 29)).map ((Value.agg #[.int .u8 0, .int .u64 0, .string ⟨#[]⟩, .int .u8 0, .string ⟨#[]⟩, .string ⟨#[]⟩, .int .u64 0, .int .u64 0, .string ⟨#[]⟩, .string ⟨#[]⟩, .string ⟨#[]⟩, .bool false, .string ⟨#[]⟩, .slice none 0 0, .bool false, .string ⟨#[]⟩, .int .u64 0, .int .u8 0, .int .u8 0, .int .u8 0, .int .u64 0, .int .u64 0, .string ⟨#[]⟩, .string ⟨#[]⟩, .slice none 0 0, .string ⟨#[]⟩, .int .u64 0, .int .u8 0, .string ⟨#[]⟩]).cells[· % (Value.agg #[.int .u8 0, .int .u64 0, .string ⟨#[]⟩, .int .u8 0, .string ⟨#[]⟩, .string ⟨#[]⟩, .int .u64 0, .int .u64 0, .string ⟨#[]⟩, .string ⟨#[]⟩, .string ⟨#[]⟩, .bool false, .string ⟨#[]⟩, .slice none 0 0, .bool false, .string ⟨#[]⟩, .int .u64 0, .int .u8 0, .int .u8 0, .int .u8 0, .int .u64 0, .int .u64 0, .string ⟨#[]⟩, .string ⟨#[]⟩, .slice none 0 0, .string ⟨#[]⟩, .int .u64 0, .int .u8 0, .string ⟨#[]⟩]).cells.size]!)) [(0, deV x A c B d)] = some (deL x A c B d).toArray := by kernel_rfl
theorem wp_buildDe {o : Oper} {a : Act} {w : World} {K : Act → World → Prop} {Q : Exit → Act → World → Prop} (parts : Array (Nat × Operand)) (ho : o.op = .buildSlice 22 1 parts) (x : De) (A : Option Addr) (c : Nat) (B : Option Addr) (d : Nat)
    (hp : (parts.map fun (i, y) => (i, a.eval y)).toList = [(0, deV x A c B d)]) (h : K (a.put o.dst (.slice (some ⟨w.heap.size, 0, none⟩) 1 1)) (w.alloc (.cells (deL x A c B d).toArray 39))) : o.wp Tryz.prog a w K Q := by
  obtain ⟨i, hi, hz, hs, hb⟩ := info_parts infoDe
  refine wp_buildSlice 22 39 1 parts ho (deL x A c B d).toArray i _ Tryz.underlying22 hi hz (by rw [hs]; decide) (by rw [hs]; decide) ?_ h
  rw [hs, hp]
  exact fill29 x A c B d
/-- where the head of an element lies -/
structure Hp where
  B : Option Addr
  d : Nat
def dfL (x : De) (p : Hp) : List Value := deL x none 0 p.B p.d
/-- as many of one deed -/
structure D6 (w : World) (A : Option Addr) (x : De) (l : List Hp) : Prop where
  row : Rws w A (l.flatMap (dfL x))
  ok : ∀ p ∈ l, Prs w p.B x.mail.head ∧ x.mail.head.length ≤ p.d
theorem D6.on {w w' : World} {A : Option Addr} {x : De} {l : List Hp} (h : D6 w A x l) (hb : Below w.heap.size w w') : D6 w' A x l := ⟨Rws.on h.row hb, fun p hp => ⟨(h.ok p hp).1.on hb, (h.ok p hp).2⟩⟩
theorem D6.nil (w : World) (A : Option Addr) (x : De) : D6 w A x [] := ⟨Rws.nil w A, fun _ h => by simp at h⟩
theorem d6_len (x : De) (l : List Hp) : (l.flatMap (dfL x)).length = l.length * 29 := Rw.flat_len (dfL x) 29 (fun _ => rfl) l
theorem d6_elt {w : World} {A : Option Addr} {x : De} {l : List Hp} (h : D6 w A x l) {i : Nat} (hi : i < l.length) : ∃ b off, A = some ⟨b, off, none⟩ ∧ b < w.heap.size ∧ w.rangeAt b (off + i * 29) (deL x none 0 l[i].B l[i].d) ∧ Prs w l[i].B x.mail.head ∧ x.mail.head.length ≤ l[i].d := by
  obtain ⟨b, off, e, hb, hc⟩ := Rws.elt (dfL x) 29 (fun _ => rfl) (by decide) h.row hi
  exact ⟨b, off, e, hb, fun j v hj => hc j v hj, (h.ok _ (List.getElem_mem hi)).1, (h.ok _ (List.getElem_mem hi)).2⟩
theorem ownPrs_mono {C C' : Nat} {W : World} {A : Option Addr} {c : Nat} {l : List Hd.Pr} (h : OwnPrs C W A c l) (hc : C' ≤ C) : OwnPrs C' W A c l := World.ownsRow.mono h hc
theorem ownPrs_setCells {C : Nat} {W : World} {A : Option Addr} {c : Nat} {l : List Hd.Pr} (h : OwnPrs C W A c l) {g : Nat} (hg : ∀ a, A = some a → g ≠ a.block) (vs : List Value) (j : Nat) : OwnPrs C (W.setCells g j vs) A c l := by
  induction vs generalizing j W with
  | nil => exact h
  | cons v vs ih => exact ih (h.aside hg j v) (j + 1)
def DrOwnPost (t : Nat) (m : Ml) (w : World) (e : Ending) (w' : World) : Prop := ∃ B' d', e = .returned (deV (Df t m) none 0 B' d') ∧ OwnPrs w.heap.size w' B' d' m.head ∧ Below w.heap.size w w'
set_option maxRecDepth 100000 in
set_option maxHeartbeats 8000000 in
theorem drOwn_any (t : Nat) (m : Ml) (B : Option Addr) (d : Nat) (w : World) (hl : m.head.length ≤ 100000) (hc : m.head.length ≤ d) (hp : Prs w B m.head) :
    Calls Tryz.prog 25 #[deV (Df t m) none 0 B d] w (DrOwnPost t m w) := by
  have HB2 := Lib.hid (rtTwo w (.cells #[.int .u8 6, .int .u64 (t : Int), .string ⟨#[]⟩, .int .u8 0, .string ⟨#[]⟩, .string ⟨#[]⟩, .int .u64 0, .int .u64 0, .string ⟨#[]⟩, .string ⟨#[]⟩, .string ⟨#[]⟩, .bool false, .string ⟨#[]⟩, .slice none 0 0, .bool false, .string ⟨#[]⟩, .int .u64 0, .int .u8 0, .int .u8 0, .int .u8 0, .int .u64 0, .int .u64 (m.id : Int), .string (ofL m.shop), .string (ofL m.key), .slice B m.head.length d, .string (ofL m.body), .int .u64 (m.due : Int), .int .u8 (m.hops : Int), .string ⟨#[]⟩] 39) (.cells #[.int .u8 0, .int .u64 0, .string ⟨#[]⟩, .int .u8 0, .string ⟨#[]⟩, .string ⟨#[]⟩, .int .u64 0, .int .u64 0, .string ⟨#[]⟩, .string ⟨#[]⟩, .string ⟨#[]⟩, .bool false, .string ⟨#[]⟩, .slice none 0 0, .bool false, .string ⟨#[]⟩, .int .u64 0, .int .u8 0, .int .u8 0, .int .u8 0, .int .u64 0, .int .u64 0, .string ⟨#[]⟩, .string ⟨#[]⟩, .slice none 0 0, .string ⟨#[]⟩, .int .u64 0, .int .u8 0, .string ⟨#[]⟩] 39))
  have HX2 := Lib.hid (rtNext (rtAt0 w #[.int .u8 6, .int .u64 (t : Int), .string ⟨#[]⟩, .int .u8 0, .string ⟨#[]⟩, .string ⟨#[]⟩, .int .u64 0, .int .u64 0, .string ⟨#[]⟩, .string ⟨#[]⟩, .string ⟨#[]⟩, .bool false, .string ⟨#[]⟩, .slice none 0 0, .bool false, .string ⟨#[]⟩, .int .u64 0, .int .u8 0, .int .u8 0, .int .u8 0, .int .u64 0, .int .u64 (m.id : Int), .string (ofL m.shop), .string (ofL m.key), .slice B m.head.length d, .string (ofL m.body), .int .u64 (m.due : Int), .int .u8 (m.hops : Int), .string ⟨#[]⟩] 39) (.cells #[.int .u8 0, .int .u64 0, .string ⟨#[]⟩, .int .u8 0, .string ⟨#[]⟩, .string ⟨#[]⟩, .int .u64 0, .int .u64 0, .string ⟨#[]⟩, .string ⟨#[]⟩, .string ⟨#[]⟩, .bool false, .string ⟨#[]⟩, .slice none 0 0, .bool false, .string ⟨#[]⟩, .int .u64 0, .int .u8 0, .int .u8 0, .int .u8 0, .int .u64 0, .int .u64 0, .string ⟨#[]⟩, .string ⟨#[]⟩, .slice none 0 0, .string ⟨#[]⟩, .int .u64 0, .int .u8 0, .string ⟨#[]⟩] 39))
  have HZ2 := Lib.hid (rtAt1 w (.cells #[.int .u8 6, .int .u64 (t : Int), .string ⟨#[]⟩, .int .u8 0, .string ⟨#[]⟩, .string ⟨#[]⟩, .int .u64 0, .int .u64 0, .string ⟨#[]⟩, .string ⟨#[]⟩, .string ⟨#[]⟩, .bool false, .string ⟨#[]⟩, .slice none 0 0, .bool false, .string ⟨#[]⟩, .int .u64 0, .int .u8 0, .int .u8 0, .int .u8 0, .int .u64 0, .int .u64 (m.id : Int), .string (ofL m.shop), .string (ofL m.key), .slice B m.head.length d, .string (ofL m.body), .int .u64 (m.due : Int), .int .u8 (m.hops : Int), .string ⟨#[]⟩] 39) #[.int .u8 0, .int .u64 0, .string ⟨#[]⟩, .int .u8 0, .string ⟨#[]⟩, .string ⟨#[]⟩, .int .u64 0, .int .u64 0, .string ⟨#[]⟩, .string ⟨#[]⟩, .string ⟨#[]⟩, .bool false, .string ⟨#[]⟩, .slice none 0 0, .bool false, .string ⟨#[]⟩, .int .u64 0, .int .u8 0, .int .u8 0, .int .u8 0, .int .u64 0, .int .u64 0, .string ⟨#[]⟩, .string ⟨#[]⟩, .slice none 0 0, .string ⟨#[]⟩, .int .u64 0, .int .u8 0, .string ⟨#[]⟩] 39)
  have HSZ := Lib.hid (show ((w.alloc (.cells #[.int .u8 6, .int .u64 (t : Int), .string ⟨#[]⟩, .int .u8 0, .string ⟨#[]⟩, .string ⟨#[]⟩, .int .u64 0, .int .u64 0, .string ⟨#[]⟩, .string ⟨#[]⟩, .string ⟨#[]⟩, .bool false, .string ⟨#[]⟩, .slice none 0 0, .bool false, .string ⟨#[]⟩, .int .u64 0, .int .u8 0, .int .u8 0, .int .u8 0, .int .u64 0, .int .u64 (m.id : Int), .string (ofL m.shop), .string (ofL m.key), .slice B m.head.length d, .string (ofL m.body), .int .u64 (m.due : Int), .int .u8 (m.hops : Int), .string ⟨#[]⟩] 39)).alloc (.cells #[.int .u8 0, .int .u64 0, .string ⟨#[]⟩, .int .u8 0, .string ⟨#[]⟩, .string ⟨#[]⟩, .int .u64 0, .int .u64 0, .string ⟨#[]⟩, .string ⟨#[]⟩, .string ⟨#[]⟩, .bool false, .string ⟨#[]⟩, .slice none 0 0, .bool false, .string ⟨#[]⟩, .int .u64 0, .int .u8 0, .int .u8 0, .int .u8 0, .int .u64 0, .int .u64 0, .string ⟨#[]⟩, .string ⟨#[]⟩, .slice none 0 0, .string ⟨#[]⟩, .int .u64 0, .int .u8 0, .string ⟨#[]⟩] 39)).heap.size = w.heap.size + 2 by simp)
  have hC := cloneOwn_any m.head B d _ hl hc (hp.on HB2.out)
  have HC := Lib.hid hC
  clear hC hl hc hp
  rw [df_V]
  go_enter Tryz.func25, Tryz.ntmps25
  go_upto_region 1 with fail
  generalize (w.alloc (.cells #[.int .u8 6, .int .u64 (t : Int), .string ⟨#[]⟩, .int .u8 0, .string ⟨#[]⟩, .string ⟨#[]⟩, .int .u64 0, .int .u64 0, .string ⟨#[]⟩, .string ⟨#[]⟩, .string ⟨#[]⟩, .bool false, .string ⟨#[]⟩, .slice none 0 0, .bool false, .string ⟨#[]⟩, .int .u64 0, .int .u8 0, .int .u8 0, .int .u8 0, .int .u64 0, .int .u64 (m.id : Int), .string (ofL m.shop), .string (ofL m.key), .slice B m.head.length d, .string (ofL m.body), .int .u64 (m.due : Int), .int .u8 (m.hops : Int), .string ⟨#[]⟩] 39)).alloc (.cells #[.int .u8 0, .int .u64 0, .string ⟨#[]⟩, .int .u8 0, .string ⟨#[]⟩, .string ⟨#[]⟩, .int .u64 0, .int .u64 0, .string ⟨#[]⟩, .string ⟨#[]⟩, .string ⟨#[]⟩, .bool false, .string ⟨#[]⟩, .slice none 0 0, .bool false, .string ⟨#[]⟩, .int .u64 0, .int .u8 0, .int .u8 0, .int .u8 0, .int .u64 0, .int .u64 0, .string ⟨#[]⟩, .string ⟨#[]⟩, .slice none 0 0, .string ⟨#[]⟩, .int .u64 0, .int .u8 0, .string ⟨#[]⟩] 39) = W2 at *
  have c24 := HX2.out.cs 24 _ rfl
  have cl := HX2.out.lt
  go_wp2_with fail
  refine HC.out.mono ?_
  rintro e w3 ⟨B', d', rfl, ho, b3⟩
  have HB3 := Lib.hid (bthen HB2.out b3 (Nat.le_refl _))
  have HX3 := Lib.hid (HX2.out.on b3)
  have HZ3 := Lib.hid (HZ2.out.on b3)
  have HO3 := Lib.hid ho
  have HA3 := Lib.hid (show ∀ a, B' = some a → w.heap.size + 2 ≤ a.block from fun a ha => by have h1 := (ho.row.2.2 a ha).1; have h2 := HSZ.out; omega)
  clear b3 ho c24 cl
  have c24 := HX3.out.cs 24 _ rfl
  have c13 := HX3.out.cs 13 _ rfl
  have cl := HX3.out.lt
  have xf := HX3.out.s
  unfold Soft at xf
  go_upto_region 3 with fail
  have HX4 := Lib.hid (show BoxC w w.heap.size (deL (Df t m) none 0 B' d') ((w3.setCell ⟨w.heap.size, 24, none⟩ (.slice B' m.head.length d')).setCell ⟨w.heap.size, 13, none⟩ (.slice none 0 0)) from (HX3.out.put 24 (.slice B' m.head.length d') (by show _ < 29; omega)).put 13 (.slice none 0 0) (by show _ < 29; omega))
  have HZ4 := Lib.hid ((HZ3.out.aside (g := w.heap.size) (by omega) 24 (.slice B' m.head.length d')).aside (g := w.heap.size) (by omega) 13 (.slice none 0 0))
  have HB4 := Lib.hid ((HB3.out.setCell (p := ⟨w.heap.size, 24, none⟩) (Nat.le_refl _) (.slice B' m.head.length d')).setCell (p := ⟨w.heap.size, 13, none⟩) (Nat.le_refl _) (.slice none 0 0))
  have HO4 := Lib.hid ((HO3.out.aside (g := w.heap.size) (fun a ha e => by have := HA3.out a ha; omega) 24 (.slice B' m.head.length d')).aside (g := w.heap.size) (fun a ha e => by have := HA3.out a ha; omega) 13 (.slice none 0 0))
  clear c24 c13 cl xf
  generalize (w3.setCell ⟨w.heap.size, 24, none⟩ (.slice B' m.head.length d')).setCell ⟨w.heap.size, 13, none⟩ (.slice none 0 0) = W4 at *
  go_wp2_with (first
    | (refine wpList_load_mid (by rfl) 39 _ (by rfl) w.heap.size 0 (by rfl) (deL (Df t m) none 0 B' d') _ HX4.out.cs.range Tryz.underlying39 rfl (by rw [de_size, deL_len]) ?_)
    | (refine wpList_store_mid (by rfl) 39 _ _ (by rfl) (w.heap.size + 1) 0 (deL (Df t m) none 0 B' d').toArray (by rfl) (by rfl) HZ4.out.there (by rw [de_size]; rfl) (de_all _ _ _ _ _) ?_))
  have HR := HZ4.out.over (deL (Df t m) none 0 B' d') rfl
  exact bodyPost_ret (v := deV (Df t m) none 0 B' d') (by simp [results, Tryz.results25, asAddr, Act.put]; exact de_res _ _ _ _ _ _ _ HR.cs) rfl ⟨B', d', rfl, ownPrs_setCells (ownPrs_mono HO4.out (by have := HSZ.out; omega)) (g := w.heap.size + 1) (fun a ha e => by have := HA3.out a ha; omega) _ 0, below_setCells (by omega) _ _ HB4.out⟩
theorem drLen_any (A : Option Addr) (n c : Nat) (w : World) : Calls Tryz.prog 15 #[.agg #[.slice A n c]] w fun e w' => e = .returned (.int .i64 (n : Int)) ∧ Below w.heap.size w w' := by
  have HB1 := Lib.hid (rtOne w (.cells #[.slice A n c] 27))
  go_enter Tryz.func15, Tryz.ntmps15
  go_wp2_with fail
  go_ret
  exact ⟨rfl, HB1.out⟩
theorem clipDe_any (A : Option Addr) (n c : Nat) (w : World) (hc : n ≤ c) : Calls Tryz.prog 24 #[.slice A n c] w fun e w' => e = .returned (.slice A n n) ∧ w = w' := by
  go_enter Tryz.func24, Tryz.ntmps24
  go_wp2_with fail
  go_ret
  exact ⟨rfl, rfl⟩
def fullN (n : Nat) : Nat := if 16 ≤ n then 12 else 0
set_option maxRecDepth 100000 in
set_option maxHeartbeats 8000000 in
theorem drCheck6_any (t : Nat) (m : Ml) (B : Option Addr) (d : Nat) (A : Option Addr) (n c : Nat) (w : World) (h0 : m.code = 0) (hm : MaOk w m B d) (hL : Len w) :
    Calls Tryz.prog 23 #[.agg #[.slice A n c], deV (Df t m) none 0 B d] w fun e w' => e = .returned (.int .i64 (fullN n : Int)) ∧ Below w.heap.size w w' := by
  have HB2 := Lib.hid (rtTwo w (.cells #[.slice A n c] 27) (.cells #[.int .u8 6, .int .u64 (t : Int), .string ⟨#[]⟩, .int .u8 0, .string ⟨#[]⟩, .string ⟨#[]⟩, .int .u64 0, .int .u64 0, .string ⟨#[]⟩, .string ⟨#[]⟩, .string ⟨#[]⟩, .bool false, .string ⟨#[]⟩, .slice none 0 0, .bool false, .string ⟨#[]⟩, .int .u64 0, .int .u8 0, .int .u8 0, .int .u8 0, .int .u64 0, .int .u64 (m.id : Int), .string (ofL m.shop), .string (ofL m.key), .slice B m.head.length d, .string (ofL m.body), .int .u64 (m.due : Int), .int .u8 (m.hops : Int), .string ⟨#[]⟩] 39))
  have HD2 := Lib.hid (rtNext (rtAt0 w #[.slice A n c] 27) (.cells #[.int .u8 6, .int .u64 (t : Int), .string ⟨#[]⟩, .int .u8 0, .string ⟨#[]⟩, .string ⟨#[]⟩, .int .u64 0, .int .u64 0, .string ⟨#[]⟩, .string ⟨#[]⟩, .string ⟨#[]⟩, .bool false, .string ⟨#[]⟩, .slice none 0 0, .bool false, .string ⟨#[]⟩, .int .u64 0, .int .u8 0, .int .u8 0, .int .u8 0, .int .u64 0, .int .u64 (m.id : Int), .string (ofL m.shop), .string (ofL m.key), .slice B m.head.length d, .string (ofL m.body), .int .u64 (m.due : Int), .int .u8 (m.hops : Int), .string ⟨#[]⟩] 39))
  have HX2 := Lib.hid (rtAt1 w (.cells #[.slice A n c] 27) #[.int .u8 6, .int .u64 (t : Int), .string ⟨#[]⟩, .int .u8 0, .string ⟨#[]⟩, .string ⟨#[]⟩, .int .u64 0, .int .u64 0, .string ⟨#[]⟩, .string ⟨#[]⟩, .string ⟨#[]⟩, .bool false, .string ⟨#[]⟩, .slice none 0 0, .bool false, .string ⟨#[]⟩, .int .u64 0, .int .u8 0, .int .u8 0, .int .u8 0, .int .u64 0, .int .u64 (m.id : Int), .string (ofL m.shop), .string (ofL m.key), .slice B m.head.length d, .string (ofL m.body), .int .u64 (m.due : Int), .int .u8 (m.hops : Int), .string ⟨#[]⟩] 39)
  have HK := Lib.hid (ddCheck_any (Df t m) none 0 B d _ ⟨Nat.zero_le _, Nat.zero_le _, Nat.zero_le _, Nat.zero_le _, ⟨Nat.zero_le _, Nat.zero_le _, Nat.zero_le _, Nat.zero_le _, Nat.le_refl _, lite_nil, Prs.nil _ _⟩, Nat.zero_le _, hm.on HB2.out, Nat.zero_le _⟩ (hL.on HB2.out))
  rw [df_code, h0] at HK
  have HLN := Lib.hid (fun W => drLen_any A n c W)
  have HC : Hid (fullN n = if 16 ≤ n then 12 else 0) := rfl
  clear hm hL h0
  generalize fullN n = F at *
  rw [df_V]
  go_enter Tryz.func23, Tryz.ntmps23
  go_upto_region 1 with fail
  generalize (w.alloc (.cells #[.slice A n c] 27)).alloc (.cells #[.int .u8 6, .int .u64 (t : Int), .string ⟨#[]⟩, .int .u8 0, .string ⟨#[]⟩, .string ⟨#[]⟩, .int .u64 0, .int .u64 0, .string ⟨#[]⟩, .string ⟨#[]⟩, .string ⟨#[]⟩, .bool false, .string ⟨#[]⟩, .slice none 0 0, .bool false, .string ⟨#[]⟩, .int .u64 0, .int .u8 0, .int .u8 0, .int .u8 0, .int .u64 0, .int .u64 (m.id : Int), .string (ofL m.shop), .string (ofL m.key), .slice B m.head.length d, .string (ofL m.body), .int .u64 (m.due : Int), .int .u8 (m.hops : Int), .string ⟨#[]⟩] 39) = W2 at *
  have c0 := HX2.out.cs 0 _ rfl
  have cl := HX2.out.lt
  go_wp2_with (refine wpList_load_mid (by rfl) 39 _ (by rfl) (w.heap.size + 1) 0 (by rfl) (deL (Df t m) none 0 B d) _ HX2.out.cs.range Tryz.underlying39 rfl (by rw [de_size, deL_len]) ?_)
  refine HK.out.mono ?_
  rintro e w3 ⟨rfl, b3⟩
  have HB3 := Lib.hid (bthen HB2.out b3 (Nat.le_refl _))
  have HX3 := Lib.hid (HX2.out.on b3)
  have HD3 := Lib.hid (HD2.out.on b3)
  clear b3 c0 cl
  have c0 := HX3.out.cs 0 _ rfl
  have cl := HX3.out.lt
  have d0 := HD3.out.cs 0 _ rfl
  have dl := HD3.out.lt
  go_wp2_with fail
  refine (HLN.out _).mono ?_
  rintro e w4 ⟨rfl, b4⟩
  have HB4 := Lib.hid (bthen HB3.out b4 (Nat.le_refl _))
  clear b4
  by_cases hf : 16 ≤ n
  · have HE := Lib.hid (show F = 12 by rw [HC.out, if_pos hf])
    have hd : decide ((n : Int) ≥ 16) = true := decide_eq_true (by omega)
    have hd2 : (16 : Int) ≤ (n : Int) := by omega
    go_wp2_with fail
    go_ret
    exact ⟨ret_nat (by rw [HE.out]; rfl), HB4.out⟩
  · have HE := Lib.hid (show F = 0 by rw [HC.out, if_neg hf])
    have hd : decide ((n : Int) ≥ 16) = false := decide_eq_false (by omega)
    have hd2 : ¬ (16 : Int) ≤ (n : Int) := by omega
    go_wp2_with fail
    go_ret
    exact ⟨ret_nat (by rw [HE.out]; rfl), HB4.out⟩
end Go.Proofs.YtallnjhjhoaflaaGreatDoor
end
