/-
  REPLIES AS THE DOCUMENT HAS THEM: the law's All. THE LAW ON FRAMES THAT WERE WRITTEN, walked. THE LAW ON PIECES, walked. REPLIES THAT COME IN, a row; how long their bytes are; those that may be; their frames.
-/
import Derived.Test.YtnjlhafhgfpfiaaGreatDoorRb42
import Derived.Test.YtnjlhafhgfpfiaaGreatDoorRb45
import Derived.Test.YtnjlhafhgfpfiaaGreatDoorRb46
import Derived.Laws.AppendOwnNone
section
namespace Go.Proofs.YtnjlhafhgfpfiaaGreatDoor
open Go.ChangeShapes Go.WideShapes Go.ChangeAt Go.RowKit
def rcs (l : List Rp) : List Value := l.flatMap fun p => reL p.x p.A p.c
theorem reL_len (x : Re) (A : Option Addr) (c : Nat) : (reL x A c).length = 13 := rfl
theorem rcs_at : ∀ {l : List Rp} {i j : Nat} (h : i < l.length), j < 13 → (rcs l)[i * 13 + j]? = (reL l[i].x l[i].A l[i].c)[j]?
  | p :: l, 0, j, _, hj => by
    show (reL p.x p.A p.c ++ rcs l)[0 * 13 + j]? = _
    rw [Nat.zero_mul, Nat.zero_add, List.getElem?_append_left (by rw [reL_len]; exact hj)]
    rfl
  | p :: l, i + 1, j, h, hj => by
    show (reL p.x p.A p.c ++ rcs l)[(i + 1) * 13 + j]? = _
    rw [List.getElem?_append_right (by rw [reL_len]; omega), reL_len, show (i + 1) * 13 + j - 13 = i * 13 + j by omega]
    exact rcs_at (l := l) (i := i) (by simpa using h) hj
theorem infoRre : (Tryz.prog.info? 33).map (fun i => (i.zero, i.size, i.bytes)) = some (some (.agg #[.int .u8 0, .int .u8 0, .int .u64 0, .int .u64 0, .bool false, .string ⟨#[]⟩, .int .u64 0, .string ⟨#[]⟩, .string ⟨#[]⟩, .slice none 0 0, .string ⟨#[]⟩, .int .u64 0, .int .u8 0]), 13, 144) := by kernel_rfl
theorem rBytes_of : ∀ {l m : List Rp}, l.map (·.x) = m.map (·.x) → rBytes l = rBytes m := fun {l m} h => by
  have e : ∀ l : List Rp, rBytes l = (l.map (·.x)).flatMap reBy := fun l => by unfold rBytes; rw [List.flatMap_map]
  rw [e, e, h]
/-- their pairs lie elsewhere than the row -/
def Apr (m : List Rp) (v : Value) (w : World) : Prop := ∀ p ∈ m, p.x.head ≠ [] → ∀ a, p.A = some a → a.block < w.heap.size ∧ v.ownBlock ≠ some a.block
theorem prs_lt {w : World} {A : Option Addr} {l : List Hd.Pr} (h : Prs w A l) (hl : l ≠ []) {a : Addr} (ha : A = some a) : a.block < w.heap.size := by
  obtain ⟨b, off, e, hlt, -⟩ := h.at_ 0 (List.length_pos_iff.2 hl)
  rw [ha] at e
  obtain rfl := Option.some.inj e
  exact hlt
theorem ReOk.grown {w w' : World} {x : Re} {A : Option Addr} {c : Nat} {row : Option Nat} (h : ReOk w x A c) (hg : w.grownBy w' row) (hne : x.head ≠ [] → ∀ a, A = some a → some a.block ≠ row) : ReOk w' x A c :=
  ⟨h.name, h.shop, h.key, h.body, h.len, h.cap, h.lite, by
    by_cases e : x.head = []
    · rw [e]; exact ⟨fun i hi => absurd hi (by simp)⟩
    · exact h.row.grown hg (hne e)⟩
def RyaSt (w : World) (l : List Rp) (g : Nat) (v i : Value) (wr : World) : Prop :=
  ∃ (k : Nat) (m : List Rp), k + g = l.length ∧ i = .int .i64 (k : Int) ∧ m.length = k ∧ m.map (·.x) = (l.take k).map (·.x) ∧ wr.ownsRow w.heap.size 33 13 v k (rcs m) ∧
    (∀ p ∈ m, ReOk wr p.x p.A p.c ∧ Re.Fits p.x ∧ (p.x.code = 0 → p.x.enc.length ≤ 2048)) ∧ Apr m v wr ∧ Below w.heap.size w wr
set_option maxRecDepth 100000 in
set_option maxHeartbeats 8000000 in
theorem all12_any (A : Option Addr) (ca : Nat) (l : List Rp) (w : World) (hl : l.length ≤ 1000) (hA : Rpls w A l) :
    Calls Tryz.prog 10 #[.slice A l.length ca] w fun e w' => (∃ A' c' m, e = .returned (.slice A' l.length c') ∧ m.length = l.length ∧ m.map (·.x) = l.map (·.x) ∧ Rpls w' A' m) ∧ Below w.heap.size w w' := by
  have HA := Lib.hid hA
  clear hA
  obtain ⟨i1, hi1, hz0, hz1, hz2⟩ := info_parts infoRre
  go_enter Tryz.func10, Tryz.ntmps10
  go_wp2_with fail
  go_loopg [3, 8] l.length (fun g v i wr => RyaSt w l g v i wr)
  case atStart => exact ⟨0, [], by omega, rfl, rfl, rfl, World.ownsRow_nil _ _ _ _, (fun p hp => by simp at hp), (fun p hp => by simp at hp), Below.refl _ _⟩
  case round =>
    obtain ⟨k, m, hk, rfl, hml, hmx, hO, hmo, hap, hb⟩ := hrel
    have HAP := Lib.hid hap
    obtain ⟨Aq, cp, rfl, hcp, -, hcell⟩ := Rw.own_cells hO
    have HK := Lib.hid hk
    have HB := Lib.hid hb
    have HML := Lib.hid hml
    have HMX := Lib.hid hmx
    have HO := Lib.hid hO
    have HMO := Lib.hid hmo
    have HCE := Lib.hid hcell
    clear hk hb hml hmx hO hmo hcell hap
    by_cases hlt : k < l.length
    · obtain ⟨b, off, rfl, hbl, hc⟩ := HA.out.at_ k hlt
      have hok := HA.out.ok l[k] (List.getElem_mem hlt)
      have HTK := Lib.hid (show (l.take (k + 1)).map (·.x) = (l.take k).map (·.x) ++ [l[k].x] by rw [List.take_succ_eq_append_getElem hlt, List.map_append]; rfl)
      generalize l[k] = p at *
      obtain ⟨x, Ah, ch⟩ := p
      dsimp only at hc hok HTK
      have c0 := (HB.out.cell (p := ⟨b, off + k * 13 + 0, none⟩) hbl).trans (hc 0 _ rfl)
      have c1 := (HB.out.cell (p := ⟨b, off + k * 13 + 1, none⟩) hbl).trans (hc 1 _ rfl)
      have c2 := (HB.out.cell (p := ⟨b, off + k * 13 + 2, none⟩) hbl).trans (hc 2 _ rfl)
      have c3 := (HB.out.cell (p := ⟨b, off + k * 13 + 3, none⟩) hbl).trans (hc 3 _ rfl)
      have c4 := (HB.out.cell (p := ⟨b, off + k * 13 + 4, none⟩) hbl).trans (hc 4 _ rfl)
      have c5 := (HB.out.cell (p := ⟨b, off + k * 13 + 5, none⟩) hbl).trans (hc 5 _ rfl)
      have c6 := (HB.out.cell (p := ⟨b, off + k * 13 + 6, none⟩) hbl).trans (hc 6 _ rfl)
      have c7 := (HB.out.cell (p := ⟨b, off + k * 13 + 7, none⟩) hbl).trans (hc 7 _ rfl)
      have c8 := (HB.out.cell (p := ⟨b, off + k * 13 + 8, none⟩) hbl).trans (hc 8 _ rfl)
      have c9 := (HB.out.cell (p := ⟨b, off + k * 13 + 9, none⟩) hbl).trans (hc 9 _ rfl)
      have c10 := (HB.out.cell (p := ⟨b, off + k * 13 + 10, none⟩) hbl).trans (hc 10 _ rfl)
      have c11 := (HB.out.cell (p := ⟨b, off + k * 13 + 11, none⟩) hbl).trans (hc 11 _ rfl)
      have c12 := (HB.out.cell (p := ⟨b, off + k * 13 + 12, none⟩) hbl).trans (hc 12 _ rfl)
      rw [Nat.add_zero] at c0
      have HOK := Lib.hid hok
      have hX := show Below w.heap.size w (wr.alloc (.cells (reL x Ah ch).toArray 30)) from HB.out.alloc HB.out.size _
      have HX := Lib.hid hX
      have HTO := Lib.hid (re_To_far_any x Ah ch (wr.alloc (.cells (reL x Ah ch).toArray 30)) hok.1.len hok.1.cap (hok.1.on hX).row)
      have HO1 := Lib.hid (HO.out.alloc (.cells (reL x Ah ch).toArray 30))
      unfold ReToFar at HTO
      simp only [reV] at HTO
      clear hc hok hbl hX
      have hk1 : k + 1 ≤ 1000 := by omega
      go_wp2_with fail
      refine HTO.out.mono ?_
      rintro y w2 ⟨A', c', rfl, hcc, hps, hfar, b2⟩
      have HFAR := Lib.hid hfar
      have HB2 := Lib.hid (bthen HX.out b2 (Nat.le_refl _))
      have HO2 := Lib.hid (Rw.own_on HO1.out b2)
      have HB3 := Lib.hid (HB2.out.alloc HB2.out.size (.cells (reL x A' c').toArray 33))
      have HPS := Lib.hid hps
      have HCC := Lib.hid hcc
      have HLB := Lib.hid (show Below wr.heap.size wr w2 from bthen ((Below.refl _ _).alloc (Nat.le_refl _) _) b2 (Nat.le_refl _))
      clear b2 hps hcc hfar c0 c1 c2 c3 c4 c5 c6 c7 c8 c9 c10 c11 c12
      go_wp2_with (first
        | (at_builtin; refine wpList_append_lies _ rfl _ _ 37 rfl w.heap.size 33 i1 _ 13 144 Tryz.underlying37 hi1 hz0 hz1 hz2 rfl (by omega) (.slice Aq k cp) k (rcs m) (by rfl) (HO2.out.alloc _) ⟨w2.heap.size, 0, none⟩ 1 1 (reL x A' c') (by rfl) (by rfl) (World.news_of_block (heap_alloc_new w2 _)) (by simp [Value.oneCell', reL]) (by omega) (by unfold maxLen; omega) (by omega) HB3.out.size _ rfl ?_; intro gg cap w3 hown1 hgrow hat hlt'; have HW := Lib.hid hown1; have HG := Lib.hid hgrow; have HAT := Lib.hid hat; clear hown1 hgrow hat hlt'))
      have HB4 := Lib.hid (HB3.out.grown HG.out HB3.out.size (fun q hq => (HO2.out.lt q hq).1))
      have hAL : Below w2.heap.size w2 (w2.alloc (.cells (reL x A' c').toArray 33)) := (Below.refl _ _).alloc (Nat.le_refl _) _
      have hsz : (w2.alloc (.cells (reL x A' c').toArray 33)).heap.size = w2.heap.size + 1 := by simp
      have hsx : (wr.alloc (.cells (reL x Ah ch).toArray 30)).heap.size = wr.heap.size + 1 := by simp
      have hw2 := HLB.out.size
      have hgs : w2.heap.size + 1 ≤ w3.heap.size := by have := HG.out.size; rw [← hsz]; exact this
      have hnew : ∀ p ∈ m ++ [⟨x, A', c'⟩], ReOk w3 p.x p.A p.c ∧ Re.Fits p.x ∧ (p.x.code = 0 → p.x.enc.length ≤ 2048) := by
        intro p hp
        rcases List.mem_append.1 hp with h | h
        · obtain ⟨h1, h2, h3⟩ := HMO.out p h
          refine ⟨((h1.on HLB.out).on hAL).grown HG.out (fun hne a ha e => (HAP.out p h hne a ha).2 e.symm), h2, h3⟩
        · obtain rfl := List.mem_singleton.1 h
          have hk0 := HOK.out.1
          have h1 : ReOk w2 x A' c' := ⟨hk0.name, hk0.shop, hk0.key, hk0.body, hk0.len, HCC.out, hk0.lite, HPS.out⟩
          refine ⟨(h1.on hAL).grown HG.out (fun hne a ha e => ?_), HOK.out.2.1, HOK.out.2.2⟩
          have := HFAR.out a ha
          have := (HO.out.lt _ e.symm).2
          omega
      have hapn : Apr (m ++ [⟨x, A', c'⟩]) (.slice (some ⟨gg, 0, none⟩) (k + 1) cap) w3 := by
        intro p hp hne a ha
        have hgg : (Value.slice (some ⟨gg, 0, none⟩) (k + 1) cap).ownBlock = some gg := rfl
        rw [hgg]
        rcases List.mem_append.1 hp with h | h
        · obtain ⟨h1, h2⟩ := HAP.out p h hne a ha
          refine ⟨by omega, fun e => ?_⟩
          have e' := Option.some.inj e
          rcases HAT.out with h3 | h3
          · exact h2 (by rw [h3, e'])
          · have h3' : gg = w2.heap.size + 1 := h3.trans hsz
            omega
        · obtain rfl := List.mem_singleton.1 h
          have h1 := prs_lt HPS.out hne ha
          have h4 := HFAR.out a ha
          refine ⟨by omega, fun e => ?_⟩
          have e' := Option.some.inj e
          rcases HAT.out with h3 | h3
          · have := (HO.out.lt _ h3).2
            omega
          · have h3' : gg = w2.heap.size + 1 := h3.trans hsz
            omega
      have HNEW := Lib.hid hnew
      have HAPN := Lib.hid hapn
      clear hnew hapn hAL hsz hsx hw2 hgs
      go_roundg (gk - 1)
      case rel => exact ⟨k + 1, m ++ [⟨x, A', c'⟩], by have := HK.out; omega, by go_num, by rw [List.length_append, HML.out]; rfl, by rw [HTK.out, List.map_append, HMX.out]; rfl, by rw [show rcs (m ++ [⟨x, A', c'⟩]) = rcs m ++ reL x A' c' by simp [rcs]]; exact HW.out, HNEW.out, HAPN.out, HB4.out⟩
      case measure => have := HK.out; omega
    · have hkl : k = l.length := by have := HK.out; omega
      subst hkl
      go_wp2_with fail
      go_ret
      refine ⟨⟨Aq, ⟨cp, rfl⟩, m, HML.out, by rw [HMX.out, List.take_of_length_le (Nat.le_refl _)], ⟨fun i hi => ?_, HMO.out⟩⟩, HB.out⟩
      have hi' : i < l.length := by rw [← HML.out]; exact hi
      obtain ⟨g, rfl, hg, hcl⟩ := HCE.out (by omega)
      refine ⟨g, 0, rfl, hg, fun j v hv => ?_⟩
      have hj : j < 13 := by
        have := (List.getElem?_eq_some_iff.1 hv).1
        rwa [reL_len] at this
      rw [Nat.zero_add, hcl _ (by omega), rcs_at hi hj]
      exact hv
end Go.Proofs.YtnjlhafhgfpfiaaGreatDoor
end
section
namespace Go.Proofs.YtnjlhafhgfpfiaaGreatDoor
open Go.ChangeShapes Go.WideShapes Go.ChangeAt Go.RowKit
theorem Frms.far {w w' : World} {A : Option Addr} {l : List Fr.Frame} (h : Frms w A l) (hb : Below w.heap.size w w') : Frms w' A l := h.on hb
end Go.Proofs.YtnjlhafhgfpfiaaGreatDoor
end
section
namespace Go.Proofs.YtnjlhafhgfpfiaaGreatDoor
open Go.ChangeShapes Go.WideShapes Go.ChangeAt Go.RowKit
/-! ### texts in memory -/
structure Strs (w : World) (A : Option Addr) (l : List (List UInt8)) : Prop where
  at_ : ∀ i, i < l.length → ∃ b off, A = some ⟨b, off, none⟩ ∧ b < w.heap.size ∧ w.cell? ⟨b, off + i, none⟩ = some (.string (ofL (l.getD i [])))
theorem Strs.on {w w' : World} {A : Option Addr} {l : List (List UInt8)} (h : Strs w A l) (hb : Below w.heap.size w w') : Strs w' A l := ⟨fun i hi => by
  obtain ⟨b, off, hA, hlt, hc⟩ := h.at_ i hi
  exact ⟨b, off, hA, Nat.lt_of_lt_of_le hlt hb.size, (hb.cell (p := ⟨b, off + i, none⟩) hlt).trans hc⟩⟩
theorem Duo.kept {b : Nat} {x y : Value} {w w' : World} {row : Option Nat} (h : Duo b x y w) (hg : w.grownBy w' row) (hne : some b ≠ row) : Duo b x y w' :=
  ⟨hg.cell h.c0 hne, hg.cell h.c1 hne, fun j => (World.frozen?_of_block (a := ⟨b, j, none⟩) (hg.block b h.lt hne)).trans (h.fz j)⟩
/-- Take, whatever the error was -/
theorem take_any (r c : List UInt8) (e : Nat) (w : World) (hl : r.length + c.length ≤ 100000) (hT : Tab w) :
    Calls Tryz.prog 11 #[.agg #[.string (ofL r), .int .i64 (e : Int)], .string (ofL c)] w (TakePost (Fr.take r e c) w) := by
  unfold Fr.take
  by_cases he : e ≠ 0
  · rw [if_pos he]; exact take_err r e (ofL c) w he
  · have : e = 0 := by omega
    subst this
    rw [if_neg he]
    exact take_ok r c w hl hT
/-- what the loop of FeedTakes keeps -/
structure FtIn (w : World) (F : Nat) (S : List UInt8) (v4 : Value) (wr : World) : Prop where
  own : wr.ownsRow (F + 1) 50 3 v4 (Fr.feed S).1.length (fcs (Fr.feed S).1)
  duo : Duo F (.string (ofL (Fr.feed S).2.1)) (.int .i64 ((Fr.feed S).2.2 : Int)) wr
  below : Below w.heap.size w wr
  ge : w.heap.size ≤ F
theorem FtIn.on {w : World} {F : Nat} {S : List UInt8} {v4 : Value} {wr w' : World} (h : FtIn w F S v4 wr) (hb : Below wr.heap.size wr w') : FtIn w F S v4 w' :=
  ⟨Rw.own_on h.own hb, h.duo.on hb h.duo.lt, bthen h.below hb (Nat.le_refl _), h.ge⟩
end Go.Proofs.YtnjlhafhgfpfiaaGreatDoor
end
section
namespace Go.Proofs.YtnjlhafhgfpfiaaGreatDoor
open Go.ChangeShapes Go.WideShapes Go.ChangeAt Go.RowKit
theorem re_text_len (l : List UInt8) (n : Nat) (h : l.length ≤ n) : (Oct.text l).length ≤ n + 8 := by
  unfold Oct.text
  rw [List.length_append, Oct.length_be]
  omega
/-- the bytes of a reply that may be -/
theorem re_enc_le {x : Re} (h : x.code = 0) : x.enc.length ≤ 2048 := by
  obtain ⟨h7, -, hp⟩ := Re.code_ok h
  have hk : x.kd.toNat = 0 ∨ x.kd.toNat = 3 ∨ (x.kd.toNat = 2 ∨ x.kd.toNat = 5 ∨ x.kd.toNat = 7) ∨ x.kd.toNat = 6 ∨ (x.kd.toNat = 1 ∨ x.kd.toNat = 4) := by omega
  rcases hk with e | e | e | e | e
  · rw [enc_0 e]
    have h0 : Wrd.nameCode x.name = 0 := hp 3 (by rw [e]; decide)
    have := re_text_len x.name 16 (Hd.name_ok_len h0).1
    omega
  · rw [enc_3 e]
    have h4 : Wrd.nameCode x.shop = 0 := hp 4 (by rw [e]; decide)
    have h5 : Wrd.keyCode [] x.key = 0 := hp 5 (by rw [e]; decide)
    have h6 : Hd.hcode x.head = 0 := hp 6 (by rw [e]; decide)
    have h0 : (if 256 < x.body.length then 5 else 0) = 0 := hp 7 (by rw [e]; decide)
    have l4 := re_text_len x.shop 16 (Hd.name_ok_len h4).1
    have l5 := re_text_len x.key 64 (Re.key_len h5)
    have l6 : (Hd.henc x.head).length ≤ 1000 := by
      have := (hfine_of h6).pre x.head.length
      rw [hpre_all (Nat.le_refl _)] at this
      exact this
    have l7 : x.body.length ≤ 256 := by
      by_cases hh : 256 < x.body.length
      · rw [if_pos hh] at h0; omega
      · omega
    have l8 := re_text_len x.body 256 l7
    have l9 : (Pt.yesEnc x.yes).length ≤ 1 := by cases x.yes <;> decide
    simp only [List.length_append, Oct.length_be]
    omega
  · rw [enc_n e, Oct.length_be]; omega
  · rw [enc_6 e, List.length_append, Oct.length_be, Oct.length_be]; omega
  · rw [enc_z e]; exact Nat.zero_le _
/-- replies that come in -/
structure RpIn (w : World) (A : Option Addr) (l : List Rp) : Prop where
  at_ : ∀ i (h : i < l.length), ∃ b off, A = some ⟨b, off, none⟩ ∧ b < w.heap.size ∧ ∀ j v, (reL l[i].x l[i].A l[i].c)[j]? = some v → w.cell? ⟨b, off + i * 13 + j, none⟩ = some v
  in_ : ∀ p ∈ l, ReIn w p.x p.A p.c
/-- light ones are rows as the contracts have them -/
theorem RpIn.rpls {w : World} {A : Option Addr} {l : List Rp} (h : RpIn w A l) (hl : ∀ p ∈ l, reLight p.x = true) : Rpls w A l :=
  ⟨h.at_, fun p hp => by
    have hi := h.in_ p hp
    exact ⟨re_light_Ok (hl p hp) hi.cap hi.row, hi.fits, re_enc_le⟩⟩
/-- those that may be -/
def mays (l : List Rp) : List Rp := l.filter fun p => p.x.code == 0
theorem mays_mem {l : List Rp} {p : Rp} (h : p ∈ mays l) : p ∈ l ∧ p.x.code = 0 := by
  unfold mays at h
  have := List.mem_filter.1 h
  exact ⟨this.1, by simpa using this.2⟩
theorem mays_len (l : List Rp) : (mays l).length ≤ l.length := List.length_filter_le _ _
theorem mays_take {l : List Rp} {k : Nat} (h : k < l.length) : mays (l.take (k + 1)) = mays (l.take k) ++ (if l[k].x.code = 0 then [l[k]] else []) := by
  unfold mays
  rw [List.take_succ_eq_append_getElem h, List.filter_append]
  by_cases e : l[k].x.code = 0
  · rw [if_pos e]; simp [e]
  · rw [if_neg e]; simp [e]
/-- their frames -/
def refs (l : List Rp) : List Fr.Frame := (mays l).map fun p => ⟨p.x.ch, Re.up p.x.kd, p.x.enc⟩
theorem refs_len (l : List Rp) : (refs l).length = (mays l).length := List.length_map _
theorem refs_b {l : List Rp} {f : Fr.Frame} (h : f ∈ refs l) : f.b.length ≤ 2048 := by
  unfold refs at h
  obtain ⟨p, hp, rfl⟩ := List.mem_map.1 h
  exact re_enc_le (mays_mem hp).2
theorem rBytes_encs : ∀ l : List Rp, rBytes l = Fr.encs (refs l)
  | [] => rfl
  | p :: l => by
    have ih := rBytes_encs l
    unfold rBytes Fr.encs refs mays at *
    rw [List.flatMap_cons, ih]
    by_cases e : p.x.code = 0
    · have : (p.x.code == 0) = true := by simpa using e
      rw [List.filter_cons, if_pos this, List.map_cons, List.flatMap_cons]
      unfold reBy Fr.encF
      rw [if_pos e]
    · have : ¬ (p.x.code == 0) = true := by simpa using e
      rw [List.filter_cons, if_neg this]
      unfold reBy
      rw [if_neg e]; rfl
theorem rBytes_feed (l : List Rp) : Fr.feed (rBytes l) = (refs l, [], 0) := by
  rw [rBytes_encs]
  exact Fr.feed_encs _ fun f hf => refs_b hf
end Go.Proofs.YtnjlhafhgfpfiaaGreatDoor
end
