/-
  PLAIN over drafts: what is told at a tick may be gone through; Add to none, and to what lies in memory. WHAT IS WRITTEN OF A DEED, piece by piece: the program's, walked.
-/
import Derived.Test.YtecjngodfciokaaGreatDoorDp19
import Derived.Test.YtecjngodfciokaaGreatDoorDp21
import Derived.Test.YtecjngodfciokaaGreatDoorDp42
import Derived.Test.YtecjngodfciokaaGreatDoorDp44
import Derived.Deep.RegionHeld3
import Derived.Deep.DeepCutAuto
section
namespace Go.Proofs.YtecjngodfciokaaGreatDoor
open Go.ChangeShapes Go.WideShapes Go.ChangeAt Go.RowKit
theorem dps_of_din {w : World} {A : Option Addr} {l : List Dp} (h : Din w A l) (hl : ∀ p ∈ l, deLight p.x = true) : Dps w A l := ⟨h.row, fun p hp => de_light_Ok (hl p hp) (h.in_ p hp)⟩
theorem din_of {W : World} {A : Option Addr} {q : List Dp} (h : Dps W A q) (hf : ∀ p ∈ q, De.Fits p.x) : Din W A q := ⟨h.row, fun p hp => by
  have o := h.ok p hp
  exact ⟨o.bind.row, o.bind.cap, by have := o.bind.len; omega, o.mail.row, o.mail.cap, by have := o.mail.len; omega, hf p hp⟩⟩
theorem dsLight_yes {l : List Dp} (h : dsLight l = true) : l.length ≤ 40 ∧ ∀ p ∈ l, deLight p.x = true := by
  unfold dsLight at h
  rw [Bool.and_eq_true, List.all_eq_true, decide_eq_true_eq] at h
  exact ⟨h.2, h.1⟩
theorem lifeN_lt {t l : Nat} : lifeN t l < 18446744073709551616 := by unfold lifeN; split <;> omega
theorem own_light {x : De} (h : deLight x = true) : deLight (Dr.own x) = true := by
  have e : deLight (Dr.own x) = (decide (mx7 x ≤ 40) && (decide (max x.bind.key.length x.text.length ≤ 100) && (lightB [] && maLight x.mail))) := rfl
  obtain ⟨h1, h2, h3, h4⟩ := de_light_ok h
  rw [e, decide_eq_true h1, decide_eq_true h2, h4]
  rfl
theorem at_light {T : Nat} {x : De} (h : deLight x = true) : deLight (at1 T x) = true := by
  have e : deLight (at1 T x) = (decide (mx7 x ≤ 40) && (decide (max x.bind.key.length x.text.length ≤ 100) && (lightB [] && maLight x.mail))) := by
    unfold at1
    split <;> rfl
  obtain ⟨h1, h2, h3, h4⟩ := de_light_ok h
  rw [e, decide_eq_true h1, decide_eq_true h2, h4]
  rfl
theorem own_fits {x : De} (h : De.Fits x) : De.Fits (Dr.own x) := ⟨h.kd, h.tick, h.sort, h.most, h.life, (fun p hp => by simp [Dr.own] at hp), h.id, h.how, h.frm, h.cd, h.num, h.mail⟩
theorem at_fits {T : Nat} (hT : T < 18446744073709551616) {x : De} (h : De.Fits x) : De.Fits (at1 T x) := by
  unfold at1
  split
  · exact ⟨h.kd, hT, h.sort, h.most, h.life, (fun p hp => by simp [at6, Dr.own] at hp), h.id, h.how, h.frm, h.cd, h.num, ⟨h.mail.id, lifeN_lt, h.mail.hops, h.mail.head⟩⟩
  · exact ⟨h.kd, hT, h.sort, h.most, h.life, (fun p hp => by simp [at8, Dr.own] at hp), h.id, h.how, h.frm, h.cd, h.num, h.mail⟩
/-- light ones that fit -/
def Good (l : List De) : Prop := ∀ x ∈ l, deLight x = true ∧ De.Fits x
theorem good_own {l : List De} (h : Good l) : Good (l.map Dr.own) := fun x hx => by
  obtain ⟨y, hy, rfl⟩ := List.mem_map.1 hx
  exact ⟨own_light (h y hy).1, own_fits (h y hy).2⟩
theorem good_at {T : Nat} (hT : T < 18446744073709551616) {l : List De} (h : Good l) : Good (l.map (at1 T)) := fun x hx => by
  obtain ⟨y, hy, rfl⟩ := List.mem_map.1 hx
  exact ⟨at_light (h y hy).1, at_fits hT (h y hy).2⟩
theorem good_append {l m : List De} (h : Good l) (h2 : Good m) : Good (l ++ m) := fun x hx => by
  rcases List.mem_append.1 hx with hx | hx
  · exact h x hx
  · exact h2 x hx
theorem good_nil : Good [] := fun x hx => by simp at hx
theorem good_in {l : List Dp} {L : List De} (h : Good L) (e : l.map Dp.x = L) : ∀ p ∈ l, deLight p.x = true ∧ De.Fits p.x := fun p hp => h _ (e ▸ List.mem_map_of_mem hp)
theorem good_din {W : World} {A : Option Addr} {q : List Dp} {L : List De} (hD : Dps W A q) (h : Good L) (e : q.map Dp.x = L) : Din W A q := din_of hD fun p hp => (good_in h e p hp).2
theorem good_all {q : List Dp} {L : List De} (h : Good L) (e : q.map Dp.x = L) : lightAll q = true := List.all_eq_true.2 fun p hp => (good_in h e p hp).1
theorem good_of {w : World} {A : Option Addr} {l : List Dp} (h : Din w A l) (hl : ∀ p ∈ l, deLight p.x = true) : Good (l.map Dp.x) := fun x hx => by
  obtain ⟨p, hp, rfl⟩ := List.mem_map.1 hx
  exact ⟨hl p hp, (h.in_ p hp).fits⟩
def AddIPost (l ys : List Dp) (A : Option Addr) (c : Nat) (w : World) (e : Ending) (w' : World) : Prop :=
  (Dr.addN (l.map Dp.x) (ys.map Dp.x) ≠ 0 ∧ e = .returned (.tuple #[.agg #[.slice A l.length c], .int .i64 (Dr.addN (l.map Dp.x) (ys.map Dp.x) : Int)]) ∧ Below w.heap.size w w') ∨
  (Dr.addN (l.map Dp.x) (ys.map Dp.x) = 0 ∧ ∃ A' c' mm, e = .returned (.tuple #[.agg #[.slice A' mm.length c'], .int .i64 0]) ∧ mm.length ≤ c' ∧ mm.length ≤ 16 ∧ mm.map Dp.x = l.map Dp.x ++ (ys.map Dp.x).map Dr.own ∧ Dps w' A' mm ∧ InD w'.heap.size A' mm ∧ Below w.heap.size w w')
theorem drAddI_any (l ys : List Dp) (A : Option Addr) (c : Nat) (Y : Option Addr) (yc : Nat) (w : World) (hcap : l.length ≤ c) (hD : Dps w A l) (hI : InD w.heap.size A l) (hY : Dps w Y ys) (hl : l.length ≤ 16) (hys : ys.length ≤ 100000) (hL : Len w) :
    Calls Tryz.prog 8 #[.agg #[.slice A l.length c], .slice Y ys.length yc] w (AddIPost l ys A c w) :=
  (drAddG_any l ys A c Y yc w hcap hD hI.away hI.awayD hY hl hys hL).mono fun e w' h => by
    rcases h with h | ⟨h0, A', c', mm, h1, h2, h3, h4, h5, h6, h7, h8, h9⟩
    · exact Or.inl h
    · exact Or.inr ⟨h0, A', c', mm, h1, h2, h3, h4, h5, h9 hI, h8⟩
def Add0Post (L : List De) (w : World) (e : Ending) (w' : World) : Prop :=
  (Dr.addN [] L ≠ 0 ∧ e = .returned (.tuple #[.agg #[.slice none 0 0], .int .i64 (Dr.addN [] L : Int)]) ∧ Below w.heap.size w w') ∨
  (Dr.addN [] L = 0 ∧ ∃ A' c' mm, e = .returned (.tuple #[.agg #[.slice A' mm.length c'], .int .i64 0]) ∧ mm.length ≤ c' ∧ mm.length ≤ 16 ∧ mm.map Dp.x = L.map Dr.own ∧ Dps w' A' mm ∧ InD w'.heap.size A' mm ∧ Below w.heap.size w w')
theorem drAdd0_any (ys : List Dp) (Y : Option Addr) (yc : Nat) (w : World) (hY : Dps w Y ys) (hys : ys.length ≤ 100000) (hL : Len w) :
    Calls Tryz.prog 8 #[.agg #[.slice none 0 0], .slice Y ys.length yc] w (Add0Post (ys.map Dp.x) w) :=
  (drAddI_any [] ys none 0 Y yc w (Nat.le_refl _) (Dps.nil _ _) (InD.none _) hY (Nat.zero_le _) hys hL).mono fun e w' h => by
    rcases h with h | ⟨h0, A', c', mm, h1, h2, h3, h4, h5, h6, h8⟩
    · exact Or.inl h
    · exact Or.inr ⟨h0, A', c', mm, h1, h2, h3, h4, h5, h6, h8⟩
theorem addI_flat {l ys : List Dp} {A : Option Addr} {c : Nat} {w : World} {e : Ending} {w' : World} (h : AddIPost l ys A c w e w') (hD : Dps w A l) (hl : l.length ≤ 16) {L : List De} (hL : l.map Dp.x = L) :
    ∃ my AY cY, e = .returned (.tuple #[.agg #[.slice AY my.length cY], .int .i64 ((Dr.addN L (ys.map Dp.x) : Nat) : Int)]) ∧ my.map Dp.x = (if Dr.addN L (ys.map Dp.x) = 0 then L ++ (ys.map Dp.x).map Dr.own else L) ∧ my.length ≤ 16 ∧ Dps w' AY my ∧ Below w.heap.size w w' := by
  subst hL
  rcases h with ⟨h0, rfl, b⟩ | ⟨h0, A', c', mm, rfl, h1, h2, h3, h4, h5, b⟩
  · exact ⟨l, A, c, rfl, by rw [if_neg h0], hl, hD.on b, b⟩
  · exact ⟨mm, A', c', by rw [h0]; rfl, by rw [if_pos h0]; exact h3, h2, h4, b⟩
theorem add0_flat {L : List De} {w : World} {e : Ending} {w' : World} (h : Add0Post L w e w') :
    ∃ my AY cY, e = .returned (.tuple #[.agg #[.slice AY my.length cY], .int .i64 ((Dr.addN [] L : Nat) : Int)]) ∧ my.map Dp.x = (if Dr.addN [] L = 0 then L.map Dr.own else []) ∧ my.length ≤ 16 ∧ Dps w' AY my ∧ Below w.heap.size w w' := by
  rcases h with ⟨h0, rfl, b⟩ | ⟨h0, A', c', mm, rfl, h1, h2, h3, h4, h5, b⟩
  · exact ⟨[], none, 0, rfl, by rw [if_neg h0]; rfl, Nat.zero_le _, Dps.nil _ _, b⟩
  · exact ⟨mm, A', c', by rw [h0]; rfl, by rw [if_pos h0]; exact h3, h2, h4, b⟩
theorem good_due {l : List Dp} {L : List De} (h : Good L) (e : l.map Dp.x = L) : ∀ p ∈ l, p.x.mail.due < 18446744073709551616 := fun p hp => (good_in h e p hp).2.mail.due
end Go.Proofs.YtecjngodfciokaaGreatDoor
end
section
namespace Go.Proofs.YtecjngodfciokaaGreatDoor
open Go.ChangeShapes Go.WideShapes Go.ChangeAt Go.RowKit
set_option maxRecDepth 100000 in
theorem ddSmall_any (y : List UInt8) (n : Nat) (w : World) (hn : n < 256) (hy : y.length ≤ 900000) : Calls Tryz.prog 69 #[.agg #[.string (ofL y), .int .i64 0], .int .u8 (n : Int)] w fun e w' => e = .returned (.agg #[.string (ofL (y ++ Oct.be 1 n)), .int .i64 0]) ∧ Below w.heap.size w w' := by
  have HN := Lib.hid (fun W => num_l y n 1 1 W (by omega) (by omega) rfl (by omega))
  have hw : IntKind.u64.wrap (n : Int) = (n : Int) := by rw [IntKind.wrap_u64]; omega
  have HB2 := Lib.hid (rtTwo w (.cells #[.string (ofL y), .int .i64 0] 109) (.cells #[.string ⟨#[]⟩, .int .i64 0] 109))
  have HR2 := Lib.hid (rtAt1 w (.cells #[.string (ofL y), .int .i64 0] 109) #[.string ⟨#[]⟩, .int .i64 0] 109)
  generalize ofL (y ++ Oct.be 1 n) = Y at *
  clear hn hy
  go_enter Tryz.func69, Tryz.ntmps69
  go_wp2_with fail
  refine (HN.out _).mono ?_
  rintro e w3 ⟨rfl, b3⟩
  have HB3 := Lib.hid (bthen HB2.out b3 (Nat.le_refl _))
  have HR3 := Lib.hid (HR2.out.on b3)
  clear b3
  have x0 := HR3.out.cs 0 _ rfl
  have x1 := HR3.out.cs 1 _ rfl
  have xl := HR3.out.lt
  have xf := HR3.out.s
  unfold Soft at xf
  go_wp2_with fail
  have hB := (HB3.out.setCell (p := ⟨w.heap.size + 1, 0, none⟩) (by show w.heap.size ≤ w.heap.size + 1; omega) (.string Y)).setCell (p := ⟨w.heap.size + 1, 1, none⟩) (by show w.heap.size ≤ w.heap.size + 1; omega) (.int .i64 0)
  have hR := (HR3.out.put 0 (.string Y) (by simp)).put 1 (.int .i64 0) (by simp)
  have g0 := hR.cs 0 _ rfl
  have g1 := hR.cs 1 _ rfl
  exact bodyPost_ret (v := .agg #[.string Y, .int .i64 0]) (by simp [results, Tryz.results69, go_sem, g0, g1]) rfl ⟨rfl, hB⟩
set_option maxRecDepth 100000 in
theorem ddYes_1 (y : List UInt8) (w : World) (hy : y.length ≤ 900000) : Calls Tryz.prog 88 #[.agg #[.string (ofL y), .int .i64 0], .bool true] w fun e w' => e = .returned (.agg #[.string (ofL (y ++ Oct.be 1 1)), .int .i64 0]) ∧ Below w.heap.size w w' := by
  have HN := Lib.hid (fun W => ddSmall_any y 1 W (by omega) hy)
  have HB2 := Lib.hid (rtTwo w (.cells #[.string (ofL y), .int .i64 0] 109) (.cells #[.string ⟨#[]⟩, .int .i64 0] 109))
  have HR2 := Lib.hid (rtAt1 w (.cells #[.string (ofL y), .int .i64 0] 109) #[.string ⟨#[]⟩, .int .i64 0] 109)
  generalize ofL (y ++ Oct.be 1 1) = Y at *
  clear hy
  go_enter Tryz.func88, Tryz.ntmps88
  go_wp2_with fail
  refine (HN.out _).mono ?_
  rintro e w3 ⟨rfl, b3⟩
  have HB3 := Lib.hid (bthen HB2.out b3 (Nat.le_refl _))
  have HR3 := Lib.hid (HR2.out.on b3)
  clear b3
  have x0 := HR3.out.cs 0 _ rfl
  have x1 := HR3.out.cs 1 _ rfl
  have xl := HR3.out.lt
  have xf := HR3.out.s
  unfold Soft at xf
  go_wp2_with fail
  have hB := (HB3.out.setCell (p := ⟨w.heap.size + 1, 0, none⟩) (by show w.heap.size ≤ w.heap.size + 1; omega) (.string Y)).setCell (p := ⟨w.heap.size + 1, 1, none⟩) (by show w.heap.size ≤ w.heap.size + 1; omega) (.int .i64 0)
  have hR := (HR3.out.put 0 (.string Y) (by simp)).put 1 (.int .i64 0) (by simp)
  have g0 := hR.cs 0 _ rfl
  have g1 := hR.cs 1 _ rfl
  exact bodyPost_ret (v := .agg #[.string Y, .int .i64 0]) (by simp [results, Tryz.results88, go_sem, g0, g1]) rfl ⟨rfl, hB⟩
set_option maxRecDepth 100000 in
theorem ddYes_0 (y : List UInt8) (w : World) (hy : y.length ≤ 900000) : Calls Tryz.prog 88 #[.agg #[.string (ofL y), .int .i64 0], .bool false] w fun e w' => e = .returned (.agg #[.string (ofL (y ++ Oct.be 1 0)), .int .i64 0]) ∧ Below w.heap.size w w' := by
  have HN := Lib.hid (fun W => ddSmall_any y 0 W (by omega) hy)
  have HB2 := Lib.hid (rtTwo w (.cells #[.string (ofL y), .int .i64 0] 109) (.cells #[.string ⟨#[]⟩, .int .i64 0] 109))
  have HR2 := Lib.hid (rtAt1 w (.cells #[.string (ofL y), .int .i64 0] 109) #[.string ⟨#[]⟩, .int .i64 0] 109)
  generalize ofL (y ++ Oct.be 1 0) = Y at *
  clear hy
  go_enter Tryz.func88, Tryz.ntmps88
  go_wp2_with fail
  refine (HN.out _).mono ?_
  rintro e w3 ⟨rfl, b3⟩
  have HB3 := Lib.hid (bthen HB2.out b3 (Nat.le_refl _))
  have HR3 := Lib.hid (HR2.out.on b3)
  clear b3
  have x0 := HR3.out.cs 0 _ rfl
  have x1 := HR3.out.cs 1 _ rfl
  have xl := HR3.out.lt
  have xf := HR3.out.s
  unfold Soft at xf
  go_wp2_with fail
  have hB := (HB3.out.setCell (p := ⟨w.heap.size + 1, 0, none⟩) (by show w.heap.size ≤ w.heap.size + 1; omega) (.string Y)).setCell (p := ⟨w.heap.size + 1, 1, none⟩) (by show w.heap.size ≤ w.heap.size + 1; omega) (.int .i64 0)
  have hR := (HR3.out.put 0 (.string Y) (by simp)).put 1 (.int .i64 0) (by simp)
  have g0 := hR.cs 0 _ rfl
  have g1 := hR.cs 1 _ rfl
  exact bodyPost_ret (v := .agg #[.string Y, .int .i64 0]) (by simp [results, Tryz.results88, go_sem, g0, g1]) rfl ⟨rfl, hB⟩
def bitN (b : Bool) : Nat := if b then 1 else 0
theorem ddYes_any (y : List UInt8) (b : Bool) (w : World) (hy : y.length ≤ 900000) : Calls Tryz.prog 88 #[.agg #[.string (ofL y), .int .i64 0], .bool b] w fun e w' => e = .returned (.agg #[.string (ofL (y ++ Oct.be 1 (bitN b))), .int .i64 0]) ∧ Below w.heap.size w w' := by
  cases b
  · exact ddYes_0 y w hy
  · exact ddYes_1 y w hy
set_option maxRecDepth 100000 in
set_option maxHeartbeats 4000000 in
theorem ddwMail_any (y : List UInt8) (x : Ml) (B : Option Addr) (d : Nat) (w : World) (h : MaOk w x B d) (hf : Ml.Fits x) (hc : x.code = 0) (he : x.enc.length ≤ 100000) (hy : y.length ≤ 900000) (hL : Len w) : Calls Tryz.prog 73 #[.agg #[.string (ofL y), .int .i64 0], maV x B d] w fun e w' => e = .returned (.agg #[.string (ofL (y ++ x.enc)), .int .i64 0]) ∧ Below w.heap.size w w' := by
  have HMB := Lib.hid (fun W h1 h2 => maBytes_any x B d W h1 hf h2)
  rw [show maBytesV x = .tuple #[.string (ofL x.enc), .int .i64 0] by unfold maBytesV; rw [if_pos hc]] at HMB
  have HRA := Lib.hid (fun W => raw_l y x.enc W (by omega) (by omega))
  have HB3 := Lib.hid (rtThree w (.cells #[.string (ofL y), .int .i64 0] 109) (.cells #[.int .u64 (x.id : Int), .string (ofL x.shop), .string (ofL x.key), .slice B x.head.length d, .string (ofL x.body), .int .u64 (x.due : Int), .int .u8 (x.hops : Int)] 37) (.cells #[.string ⟨#[]⟩, .int .i64 0] 109))
  have HO3 := Lib.hid (rtNext (rtNext (rtAt0 w #[.string (ofL y), .int .i64 0] 109) (.cells #[.int .u64 (x.id : Int), .string (ofL x.shop), .string (ofL x.key), .slice B x.head.length d, .string (ofL x.body), .int .u64 (x.due : Int), .int .u8 (x.hops : Int)] 37)) (.cells #[.string ⟨#[]⟩, .int .i64 0] 109))
  have HR3 := Lib.hid (rtAt2 w (.cells #[.string (ofL y), .int .i64 0] 109) (.cells #[.int .u64 (x.id : Int), .string (ofL x.shop), .string (ofL x.key), .slice B x.head.length d, .string (ofL x.body), .int .u64 (x.due : Int), .int .u8 (x.hops : Int)] 37) #[.string ⟨#[]⟩, .int .i64 0] 109)
  have HOK := Lib.hid (h.on HB3.out)
  have HL3 := Lib.hid (hL.on HB3.out)
  clear h hL hf hc he hy
  generalize ofL (y ++ x.enc) = Y at *
  generalize ofL x.enc = E at *
  simp only [maV] at *
  go_enter Tryz.func73, Tryz.ntmps73
  go_wp2_with fail
  refine (HMB.out _ HOK.out HL3.out).mono ?_
  rintro e w4 ⟨rfl, b4⟩
  have HB4 := Lib.hid (bthen HB3.out b4 (Nat.le_refl _))
  have HO4 := Lib.hid (HO3.out.on b4)
  have HR4 := Lib.hid (HR3.out.on b4)
  clear b4
  have x0 := HO4.out.cs 0 _ rfl
  have x1 := HO4.out.cs 1 _ rfl
  have xl := HO4.out.lt
  go_wp2_with fail
  refine (HRA.out _).mono ?_
  rintro e w5 ⟨rfl, b5⟩
  have HB5 := Lib.hid (bthen HB4.out b5 (Nat.le_refl _))
  have HR5 := Lib.hid (HR4.out.on b5)
  clear b5 x0 x1 xl
  have x0 := HR5.out.cs 0 _ rfl
  have x1 := HR5.out.cs 1 _ rfl
  have xl := HR5.out.lt
  have xf := HR5.out.s
  unfold Soft at xf
  go_wp2_with fail
  have hB := (HB5.out.setCell (p := ⟨w.heap.size + 2, 0, none⟩) (by show w.heap.size ≤ w.heap.size + 2; omega) (.string Y)).setCell (p := ⟨w.heap.size + 2, 1, none⟩) (by show w.heap.size ≤ w.heap.size + 2; omega) (.int .i64 0)
  have hR := (HR5.out.put 0 (.string Y) (by simp)).put 1 (.int .i64 0) (by simp)
  have g0 := hR.cs 0 _ rfl
  have g1 := hR.cs 1 _ rfl
  exact bodyPost_ret (v := .agg #[.string Y, .int .i64 0]) (by simp [results, Tryz.results73, go_sem, g0, g1]) rfl ⟨rfl, hB⟩
end Go.Proofs.YtecjngodfciokaaGreatDoor
end
