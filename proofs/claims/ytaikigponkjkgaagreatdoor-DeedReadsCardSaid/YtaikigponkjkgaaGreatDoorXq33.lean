/-
 A part of the proof.
-/
import Derived.Test.YtaikigponkjkgaaGreatDoorXq27

section
namespace Go.Proofs.YtaikigponkjkgaaGreatDoor
open Go.ChangeShapes Go.WideShapes Go.ChangeAt Go.RowKit
open Go.Lib (hid)
set_option maxRecDepth 100000
theorem rcode_ru (s : Nat) (x : Bd) : Bk.rcode s x = ruCode (bdRu s x) := rfl
def Bk.ccode (b : Bk) (x : Bd) : Nat := if bcode b x ≠ 0 then bcode b x else if 32 ≤ b.binds.length then 12 else 0
set_option maxHeartbeats 8000000 in
theorem rtcheck_any (b : Bk) (A : Option Addr) (c : Nat) (B : Option Addr) (d : Nat) (ps : List Bp) (x : Bd) (Ax : Option Addr) (cx : Nat) (w : World) (hl : b.shops.length ≤ 1000) (hlb : b.binds.length ≤ 1000) (hs : ∀ s ∈ b.shops, s.sort ≤ 255) (hI : BkAt w A c B d b ps) (hx : BdOk w x Ax cx) (hL : Len w) :
  Calls Tryz.prog 111 #[bkV A c B d b, bdV x Ax cx] w fun e w' => e = .returned (.int .i64 (Bk.ccode b x : Int)) ∧ Below w.heap.size w w' := by
 have hcc : Bk.ccode b x = if Bk.bcode b x ≠ 0 then Bk.bcode b x else if 32 ≤ b.binds.length then 12 else 0 := rfl
 obtain ⟨shops, binds⟩ := b
 dsimp only at hl hlb hs hcc
 have hbc : Bk.bcode ⟨shops, binds⟩ x = match Bk.shop ⟨shops, binds⟩ x.shop with | none => 10 | some s => if s.sort = 4 then 8 else if Wrd.nameCode x.to ≠ 0 then Wrd.nameCode x.to else Bk.rcode s.sort x := rfl
 have hf := find_idx (fun y : Sh => y.name == x.shop) shops Bk.Sh0
 have hb0 := rtTwo w (.cells #[.slice A shops.length c, .slice B binds.length d] 133) (.cells #[.string (ofL x.shop), .string (ofL x.to), .bool x.up, .string (ofL x.key), .slice Ax x.want.length cx, .bool x.all] 48)
 have HX0 := hid (rtNext (rtAt0 w #[.slice A shops.length c, .slice B binds.length d] 133) (.cells #[.string (ofL x.shop), .string (ofL x.to), .bool x.up, .string (ofL x.key), .slice Ax x.want.length cx, .bool x.all] 48))
 have HS0 := hid (rtAt1 w (.cells #[.slice A shops.length c, .slice B binds.length d] 133) #[.string (ofL x.shop), .string (ofL x.to), .bool x.up, .string (ofL x.key), .slice Ax x.want.length cx, .bool x.all] 48)
 have hC := rtShop_any ⟨shops, binds⟩ A c B d x.shop _ (by show shops.length ≤ 100000; omega) (hI.shs.on hb0)
 have HB0 := hid hb0
 have HL0 := hid (hL.on hb0)
 have HXO := hid (hx.on hb0)
 have HNM := hid (fun W => name_any x.to W (by have := hx.tol; omega))
 clear hI hx hL hb0
 obtain ⟨e1, e2⟩ | ⟨k, e1, hk, e2⟩ := hf
 ·have e2' : Bk.shop ⟨shops, binds⟩ x.shop = none := e2
  rw [e2'] at hbc
  dsimp only at hbc
  rw [e2', Option.getD_none, Option.isSome_none] at hC
  rw [hcc, hbc, if_pos (by omega)]
  generalize Bk.Sh0 = y at *
  clear e1 e2 e2' hbc hcc
  have HC := hid hC
  clear hC
  simp only [bkV, shV, bdV] at *
  go_enter Tryz.func111, Tryz.ntmps111
  go_wp2_with fail
  generalize (w.alloc (.cells #[.slice A shops.length c, .slice B binds.length d] 133)).alloc (.cells #[.string (ofL x.shop), .string (ofL x.to), .bool x.up, .string (ofL x.key), .slice Ax x.want.length cx, .bool x.all] 48) = w1 at *
  refine HC.out.mono ?_
  rintro e w2 ⟨rfl, b2⟩
  have HB2 := hid (bthen HB0.out b2 (Nat.le_refl _))
  have HX2 := hid (HX0.out.on b2)
  have HS2 := hid (HS0.out.on b2)
  have HBB := hid b2
  clear b2
  have x0 := HX2.out.cs 0 _ rfl
  have x1 := HX2.out.cs 1 _ rfl
  have xl := HX2.out.lt
  have s0 := HS2.out.cs 0 _ rfl
  have s1 := HS2.out.cs 1 _ rfl
  have s2 := HS2.out.cs 2 _ rfl
  have s3 := HS2.out.cs 3 _ rfl
  have s4 := HS2.out.cs 4 _ rfl
  have s5 := HS2.out.cs 5 _ rfl
  have sl := HS2.out.lt
  go_wp2_with fail
  go_ret
  exact ⟨rfl, HB2.out.alloc HB2.out.size _⟩
 ·have e2' : Bk.shop ⟨shops, binds⟩ x.shop = some (shops.getD k Bk.Sh0) := e2
  have hsy := hs (shops.getD k Bk.Sh0) (by rw [← sh_get hk]; exact List.getElem_mem hk)
  rw [e2'] at hbc
  rw [e2', Option.getD_some, Option.isSome_some] at hC
  dsimp only at hbc
  generalize shops.getD k Bk.Sh0 = y at *
  clear e1 e2 e2' hk hs
  by_cases h4 : y.sort = 4
  ·have hd4 : ((y.sort : Int) == 4) = true := by rw [h4]; rfl
   rw [hcc, hbc, if_pos h4, if_pos (by omega)]
   clear h4 hbc hcc
   have HC := hid hC
   clear hC
   simp only [bkV, shV, bdV] at *
   go_enter Tryz.func111, Tryz.ntmps111
   go_wp2_with fail
   generalize (w.alloc (.cells #[.slice A shops.length c, .slice B binds.length d] 133)).alloc (.cells #[.string (ofL x.shop), .string (ofL x.to), .bool x.up, .string (ofL x.key), .slice Ax x.want.length cx, .bool x.all] 48) = w1 at *
   refine HC.out.mono ?_
   rintro e w2 ⟨rfl, b2⟩
   have HB2 := hid (bthen HB0.out b2 (Nat.le_refl _))
   have HX2 := hid (HX0.out.on b2)
   have HS2 := hid (HS0.out.on b2)
   have HBB := hid b2
   clear b2
   have x0 := HX2.out.cs 0 _ rfl
   have x1 := HX2.out.cs 1 _ rfl
   have xl := HX2.out.lt
   have s0 := HS2.out.cs 0 _ rfl
   have s1 := HS2.out.cs 1 _ rfl
   have s2 := HS2.out.cs 2 _ rfl
   have s3 := HS2.out.cs 3 _ rfl
   have s4 := HS2.out.cs 4 _ rfl
   have s5 := HS2.out.cs 5 _ rfl
   have sl := HS2.out.lt
   go_wp2_with fail
   go_ret
   exact ⟨rfl, HB2.out.alloc HB2.out.size _⟩
  ·have hd4 : ((y.sort : Int) == 4) = false := beq_eq_false_iff_ne.2 (by omega)
   rw [if_neg h4, rcode_ru] at hbc
   by_cases hn : Wrd.nameCode x.to = 0
   ·have hdn : ((Wrd.nameCode x.to : Int) != 0) = false := by rw [hn]; rfl
    rw [if_neg (by omega)] at hbc
    rw [hbc] at hcc
    have HRU := hid (fun W => bdRule_any x Ax cx y.sort W)
    have HMC := hid (fun W h h' => mCheck_any (bdRu y.sort x) Ax cx W h h')
    have HOK := hid (fun W (h : Below _ _ W) => (HXO.out.on h).ru y.sort)
    generalize Wrd.nameCode x.to = K at *
    generalize ruCode (bdRu y.sort x) = R at *
    by_cases hR : R = 0
    ·have hdR : ((R : Int) != 0) = false := by rw [hR]; rfl
     rw [if_neg (by omega)] at hcc
     by_cases h32 : 32 ≤ binds.length
     ·have hd3 : decide ((binds.length : Int) ≥ 32) = true := decide_eq_true (by omega)
      rw [hcc, if_pos h32]
      clear h4 hbc hcc hn hR
      have HC := hid hC
      clear hC
      simp only [bkV, shV, bdV] at *
      go_enter Tryz.func111, Tryz.ntmps111
      go_wp2_with fail
      generalize (w.alloc (.cells #[.slice A shops.length c, .slice B binds.length d] 133)).alloc (.cells #[.string (ofL x.shop), .string (ofL x.to), .bool x.up, .string (ofL x.key), .slice Ax x.want.length cx, .bool x.all] 48) = w1 at *
      refine HC.out.mono ?_
      rintro e w2 ⟨rfl, b2⟩
      have HB2 := hid (bthen HB0.out b2 (Nat.le_refl _))
      have HX2 := hid (HX0.out.on b2)
      have HS2 := hid (HS0.out.on b2)
      have HBB := hid b2
      clear b2
      have x0 := HX2.out.cs 0 _ rfl
      have x1 := HX2.out.cs 1 _ rfl
      have xl := HX2.out.lt
      have s0 := HS2.out.cs 0 _ rfl
      have s1 := HS2.out.cs 1 _ rfl
      have s2 := HS2.out.cs 2 _ rfl
      have s3 := HS2.out.cs 3 _ rfl
      have s4 := HS2.out.cs 4 _ rfl
      have s5 := HS2.out.cs 5 _ rfl
      have sl := HS2.out.lt
      go_wp2_with fail
      refine (HNM.out _).mono ?_
      rintro e w3 ⟨rfl, rfl⟩
      have HA3 := hid (bthen HBB.out (rtOne w2 (.cells #[.string (ofL y.name), .int .u8 (y.sort : Int), .string (ofL y.to)] 43)) (Nat.le_refl _))
      have HRU2 := hid (HRU.out (w2.alloc (.cells #[.string (ofL y.name), .int .u8 (y.sort : Int), .string (ofL y.to)] 43)))
      simp only [ruV, bdRu] at HRU2
      go_wp2_with fail
      refine HRU2.out.mono ?_
      rintro e w4 ⟨rfl, b4⟩
      have hb4 := bthen HA3.out b4 (Nat.le_refl _)
      have HMC4 := hid (HMC.out w4 (HOK.out _ hb4) (HL0.out.on hb4))
      simp only [ruV, bdRu] at HMC4
      have HB4 := hid hb4
      have hX4 := HX0.out.on hb4
      have hY0 := rtCell b4 (rtAt0 w2 #[.string (ofL y.name), .int .u8 (y.sort : Int), .string (ofL y.to)] 43 |>.cs 1 _ rfl)
      clear b4 hb4 x0 x1 xl s0 s1 s2 s3 s4 s5 sl
      go_wp2_with fail
      refine HMC4.out.mono ?_
      rintro e w5 ⟨rfl, b5⟩
      have HB5 := hid (bthen HB0.out (bthen HB4.out b5 (Nat.le_refl _)) (Nat.le_refl _))
      have hX5 := hX4.on b5
      have x0 := hX5.cs 0 _ rfl
      have x1 := hX5.cs 1 _ rfl
      have xl := hX5.lt
      clear b5 hX4 hX5 hY0
      go_wp2_with fail
      go_ret
      exact ⟨rfl, HB5.out⟩
     ·have hd3 : decide ((binds.length : Int) ≥ 32) = false := decide_eq_false (by omega)
      rw [hcc, if_neg h32]
      clear h4 hbc hcc hn hR
      have HC := hid hC
      clear hC
      simp only [bkV, shV, bdV] at *
      go_enter Tryz.func111, Tryz.ntmps111
      go_wp2_with fail
      generalize (w.alloc (.cells #[.slice A shops.length c, .slice B binds.length d] 133)).alloc (.cells #[.string (ofL x.shop), .string (ofL x.to), .bool x.up, .string (ofL x.key), .slice Ax x.want.length cx, .bool x.all] 48) = w1 at *
      refine HC.out.mono ?_
      rintro e w2 ⟨rfl, b2⟩
      have HB2 := hid (bthen HB0.out b2 (Nat.le_refl _))
      have HX2 := hid (HX0.out.on b2)
      have HS2 := hid (HS0.out.on b2)
      have HBB := hid b2
      clear b2
      have x0 := HX2.out.cs 0 _ rfl
      have x1 := HX2.out.cs 1 _ rfl
      have xl := HX2.out.lt
      have s0 := HS2.out.cs 0 _ rfl
      have s1 := HS2.out.cs 1 _ rfl
      have s2 := HS2.out.cs 2 _ rfl
      have s3 := HS2.out.cs 3 _ rfl
      have s4 := HS2.out.cs 4 _ rfl
      have s5 := HS2.out.cs 5 _ rfl
      have sl := HS2.out.lt
      go_wp2_with fail
      refine (HNM.out _).mono ?_
      rintro e w3 ⟨rfl, rfl⟩
      have HA3 := hid (bthen HBB.out (rtOne w2 (.cells #[.string (ofL y.name), .int .u8 (y.sort : Int), .string (ofL y.to)] 43)) (Nat.le_refl _))
      have HRU2 := hid (HRU.out (w2.alloc (.cells #[.string (ofL y.name), .int .u8 (y.sort : Int), .string (ofL y.to)] 43)))
      simp only [ruV, bdRu] at HRU2
      go_wp2_with fail
      refine HRU2.out.mono ?_
      rintro e w4 ⟨rfl, b4⟩
      have hb4 := bthen HA3.out b4 (Nat.le_refl _)
      have HMC4 := hid (HMC.out w4 (HOK.out _ hb4) (HL0.out.on hb4))
      simp only [ruV, bdRu] at HMC4
      have HB4 := hid hb4
      have hX4 := HX0.out.on hb4
      have hY0 := rtCell b4 (rtAt0 w2 #[.string (ofL y.name), .int .u8 (y.sort : Int), .string (ofL y.to)] 43 |>.cs 1 _ rfl)
      clear b4 hb4 x0 x1 xl s0 s1 s2 s3 s4 s5 sl
      go_wp2_with fail
      refine HMC4.out.mono ?_
      rintro e w5 ⟨rfl, b5⟩
      have HB5 := hid (bthen HB0.out (bthen HB4.out b5 (Nat.le_refl _)) (Nat.le_refl _))
      have hX5 := hX4.on b5
      have x0 := hX5.cs 0 _ rfl
      have x1 := hX5.cs 1 _ rfl
      have xl := hX5.lt
      clear b5 hX4 hX5 hY0
      go_wp2_with fail
      go_ret
      exact ⟨rfl, HB5.out⟩
    ·have hdR : ((R : Int) != 0) = true := by rw [bne_iff_ne]; omega
     rw [if_pos hR] at hcc
     rw [hcc]
     clear h4 hbc hcc hn hR
     have HC := hid hC
     clear hC
     simp only [bkV, shV, bdV] at *
     go_enter Tryz.func111, Tryz.ntmps111
     go_wp2_with fail
     generalize (w.alloc (.cells #[.slice A shops.length c, .slice B binds.length d] 133)).alloc (.cells #[.string (ofL x.shop), .string (ofL x.to), .bool x.up, .string (ofL x.key), .slice Ax x.want.length cx, .bool x.all] 48) = w1 at *
     refine HC.out.mono ?_
     rintro e w2 ⟨rfl, b2⟩
     have HB2 := hid (bthen HB0.out b2 (Nat.le_refl _))
     have HX2 := hid (HX0.out.on b2)
     have HS2 := hid (HS0.out.on b2)
     have HBB := hid b2
     clear b2
     have x0 := HX2.out.cs 0 _ rfl
     have x1 := HX2.out.cs 1 _ rfl
     have xl := HX2.out.lt
     have s0 := HS2.out.cs 0 _ rfl
     have s1 := HS2.out.cs 1 _ rfl
     have s2 := HS2.out.cs 2 _ rfl
     have s3 := HS2.out.cs 3 _ rfl
     have s4 := HS2.out.cs 4 _ rfl
     have s5 := HS2.out.cs 5 _ rfl
     have sl := HS2.out.lt
     go_wp2_with fail
     refine (HNM.out _).mono ?_
     rintro e w3 ⟨rfl, rfl⟩
     have HA3 := hid (bthen HBB.out (rtOne w2 (.cells #[.string (ofL y.name), .int .u8 (y.sort : Int), .string (ofL y.to)] 43)) (Nat.le_refl _))
     have HRU2 := hid (HRU.out (w2.alloc (.cells #[.string (ofL y.name), .int .u8 (y.sort : Int), .string (ofL y.to)] 43)))
     simp only [ruV, bdRu] at HRU2
     go_wp2_with fail
     refine HRU2.out.mono ?_
     rintro e w4 ⟨rfl, b4⟩
     have hb4 := bthen HA3.out b4 (Nat.le_refl _)
     have HMC4 := hid (HMC.out w4 (HOK.out _ hb4) (HL0.out.on hb4))
     simp only [ruV, bdRu] at HMC4
     have HB4 := hid hb4
     have hX4 := HX0.out.on hb4
     have hY0 := rtCell b4 (rtAt0 w2 #[.string (ofL y.name), .int .u8 (y.sort : Int), .string (ofL y.to)] 43 |>.cs 1 _ rfl)
     clear b4 hb4 x0 x1 xl s0 s1 s2 s3 s4 s5 sl
     go_wp2_with fail
     refine HMC4.out.mono ?_
     rintro e w5 ⟨rfl, b5⟩
     have HB5 := hid (bthen HB0.out (bthen HB4.out b5 (Nat.le_refl _)) (Nat.le_refl _))
     have hX5 := hX4.on b5
     have x0 := hX5.cs 0 _ rfl
     have x1 := hX5.cs 1 _ rfl
     have xl := hX5.lt
     clear b5 hX4 hX5 hY0
     go_wp2_with fail
     go_ret
     exact ⟨rfl, HB5.out⟩
   ·have hdn : ((Wrd.nameCode x.to : Int) != 0) = true := by rw [bne_iff_ne]; omega
    rw [if_pos hn] at hbc
    rw [hbc, if_pos hn] at hcc
    rw [hcc]
    generalize Wrd.nameCode x.to = K at *
    clear h4 hbc hcc hn
    have HC := hid hC
    clear hC
    simp only [bkV, shV, bdV] at *
    go_enter Tryz.func111, Tryz.ntmps111
    go_wp2_with fail
    generalize (w.alloc (.cells #[.slice A shops.length c, .slice B binds.length d] 133)).alloc (.cells #[.string (ofL x.shop), .string (ofL x.to), .bool x.up, .string (ofL x.key), .slice Ax x.want.length cx, .bool x.all] 48) = w1 at *
    refine HC.out.mono ?_
    rintro e w2 ⟨rfl, b2⟩
    have HB2 := hid (bthen HB0.out b2 (Nat.le_refl _))
    have HX2 := hid (HX0.out.on b2)
    have HS2 := hid (HS0.out.on b2)
    have HBB := hid b2
    clear b2
    have x0 := HX2.out.cs 0 _ rfl
    have x1 := HX2.out.cs 1 _ rfl
    have xl := HX2.out.lt
    have s0 := HS2.out.cs 0 _ rfl
    have s1 := HS2.out.cs 1 _ rfl
    have s2 := HS2.out.cs 2 _ rfl
    have s3 := HS2.out.cs 3 _ rfl
    have s4 := HS2.out.cs 4 _ rfl
    have s5 := HS2.out.cs 5 _ rfl
    have sl := HS2.out.lt
    go_wp2_with fail
    refine (HNM.out _).mono ?_
    rintro e w3 ⟨rfl, rfl⟩
    go_wp2_with fail
    go_ret
    exact ⟨rfl, HB2.out.alloc HB2.out.size _⟩
set_option maxHeartbeats 8000000 in
theorem rtBind_any (b : Bk) (A : Option Addr) (c : Nat) (B : Option Addr) (d : Nat) (ps : List Bp) (x : Bd) (Ax : Option Addr) (cx : Nat) (w : World) (U : Nat → Prop) (hb : Bk.Ok b) (hI : BkAt w A c B d b ps) (hU : BkU U w A B ps) (hx : BdOk w x Ax cx) (hL : Len w) :
  Calls Tryz.prog 85 #[bkV A c B d b, bdV x Ax cx] w (BkPost U (b.bind x).1 (b.bind x).2 w) := by
 have hmk := Bk.bind_first hb x
 have hl1 := hb.len
 have hl2 := hb.blen
 have hs : ∀ s ∈ b.shops, s.sort ≤ 255 := fun s hs => by
  have h0 := hb.shops s hs
  unfold Bk.scode at h0
  by_cases h1 : 4 < s.sort
  ·split at h0
   ·omega
   ·first | omega | (rw [if_pos h1] at h0; omega)
  ·omega
 have hcc : Bk.ccode b x = if Bk.bcode b x ≠ 0 then Bk.bcode b x else if 32 ≤ b.binds.length then 12 else 0 := rfl
 obtain ⟨shops, binds⟩ := b
 dsimp only at hl1 hl2 hs hcc hmk
 have hml := hI.len
 dsimp only at hml
 have hb0 := rtThree w (.cells #[.slice A shops.length c, .slice B binds.length d] 133) (.cells #[.string (ofL x.shop), .string (ofL x.to), .bool x.up, .string (ofL x.key), .slice Ax x.want.length cx, .bool x.all] 48) (.cells #[.slice none 0 0, .slice none 0 0] 133)
 have HX0 := hid (rtNext (rtNext (rtAt0 w #[.slice A shops.length c, .slice B binds.length d] 133) (.cells #[.string (ofL x.shop), .string (ofL x.to), .bool x.up, .string (ofL x.key), .slice Ax x.want.length cx, .bool x.all] 48)) (.cells #[.slice none 0 0, .slice none 0 0] 133))
 have HS0 := hid (rtNext (rtAt1 w (.cells #[.slice A shops.length c, .slice B binds.length d] 133) #[.string (ofL x.shop), .string (ofL x.to), .bool x.up, .string (ofL x.key), .slice Ax x.want.length cx, .bool x.all] 48) (.cells #[.slice none 0 0, .slice none 0 0] 133))
 have HR0 := hid (rtAt2 w (.cells #[.slice A shops.length c, .slice B binds.length d] 133) (.cells #[.string (ofL x.shop), .string (ofL x.to), .bool x.up, .string (ofL x.key), .slice Ax x.want.length cx, .bool x.all] 48) #[.slice none 0 0, .slice none 0 0] 133)
 have HSZ := hid (show (((w.alloc (.cells #[.slice A shops.length c, .slice B binds.length d] 133)).alloc (.cells #[.string (ofL x.shop), .string (ofL x.to), .bool x.up, .string (ofL x.key), .slice Ax x.want.length cx, .bool x.all] 48)).alloc (.cells #[.slice none 0 0, .slice none 0 0] 133)).heap.size = w.heap.size + 3 by simp)
 have hH := rtHas_any ⟨shops, binds⟩ A c B d ps x Ax cx _ (by show binds.length ≤ 1000; omega) (hI.on hb0) (hx.on hb0)
 have HCK := hid (fun W h1 h2 h3 => rtcheck_any ⟨shops, binds⟩ A c B d ps x Ax cx W (by show shops.length ≤ 1000; omega) (by show binds.length ≤ 1000; omega) hs h1 h2 h3)
 dsimp only at hH
 have HB0 := hid hb0
 have HI0 := hid hI
 have HU := hid hU
 have HXO := hid hx
 have HL0 := hid hL
 clear hb hI hU hx hL hb0 hs
 by_cases hm : x ∈ binds
 ·rw [decide_eq_true hm] at hH
  rw [if_pos hm] at hmk
  rw [hmk]
  dsimp only
  clear hm hmk hcc hml
  have HH := hid hH
  clear hH
  simp only [bkV, bdV] at *
  go_enter Tryz.func85, Tryz.ntmps85
  go_wp2_with fail
  generalize ((w.alloc (.cells #[.slice A shops.length c, .slice B binds.length d] 133)).alloc (.cells #[.string (ofL x.shop), .string (ofL x.to), .bool x.up, .string (ofL x.key), .slice Ax x.want.length cx, .bool x.all] 48)).alloc (.cells #[.slice none 0 0, .slice none 0 0] 133) = w1 at *
  refine HH.out.mono ?_
  rintro e w2 ⟨rfl, b2⟩
  have HB2 := hid (bthen HB0.out b2 (Nat.le_refl _))
  have HX2 := hid (HX0.out.on b2)
  have HS2 := hid (HS0.out.on b2)
  have HR2 := hid (HR0.out.on b2)
  have HZ2 := hid (show w.heap.size + 3 ≤ w2.heap.size from by have := b2.size; have := HSZ.out; omega)
  clear b2
  have x0 := HX2.out.cs 0 _ rfl
  have x1 := HX2.out.cs 1 _ rfl
  have xl := HX2.out.lt
  have s0 := HS2.out.cs 0 _ rfl
  have s1 := HS2.out.cs 1 _ rfl
  have s2 := HS2.out.cs 2 _ rfl
  have s3 := HS2.out.cs 3 _ rfl
  have s4 := HS2.out.cs 4 _ rfl
  have s5 := HS2.out.cs 5 _ rfl
  have sl := HS2.out.lt
  have r0 := HR2.out.cs 0 _ rfl
  have r1 := HR2.out.cs 1 _ rfl
  have rl := HR2.out.lt
  have rf : ∀ j, w2.frozen? ⟨w.heap.size + 2, j, none⟩ = false := HR2.out.s
  go_wp2_with fail
  have hQ := HR2.out.fill [.slice A shops.length c, .slice B binds.length d] rfl
  have hB := below_putAll (g := w.heap.size + 2) (by omega) [.slice A shops.length c, .slice B binds.length d] 0 HB2.out
  simp only [putAll] at hQ hB
  have g0 := hQ.cs 0 _ rfl
  have g1 := hQ.cs 1 _ rfl
  exact bodyPost_ret (v := .tuple #[.agg #[.slice A shops.length c, .slice B binds.length d], .int .i64 0]) (by simp [results, Tryz.results85, go_sem, g0, g1]) rfl ⟨A, c, B, d, ps, rfl, HI0.out.on hB, (HU.out.mono (fun g h => .inl h)).on hB.size, hB⟩
 ·rw [decide_eq_false hm] at hH
  rw [if_neg hm] at hmk
  clear hm
  by_cases hc0 : Bk.ccode ⟨shops, binds⟩ x = 0
  ·have hdc : ((Bk.ccode ⟨shops, binds⟩ x : Int) != 0) = false := by rw [hc0]; rfl
   rw [hc0] at hcc
   have hz : Bk.bcode ⟨shops, binds⟩ x = 0 ∧ ¬ 32 ≤ binds.length := by
    by_cases h1 : Bk.bcode ⟨shops, binds⟩ x = 0
    ·rw [if_neg (by omega)] at hcc
     refine ⟨h1, fun h2 => ?_⟩
     rw [if_pos h2] at hcc
     omega
    ·rw [if_pos h1] at hcc; omega
   rw [if_neg (by omega), if_neg hz.2] at hmk
   rw [hmk]
   dsimp only
   generalize Bk.ccode ⟨shops, binds⟩ x = K at *
   clear hmk hcc hz hc0
   have HML := hid hml
   clear hml
   have HH := hid hH
   clear hH
   simp only [bkV, bdV] at *
   go_enter Tryz.func85, Tryz.ntmps85
   go_wp2_with fail
   generalize ((w.alloc (.cells #[.slice A shops.length c, .slice B binds.length d] 133)).alloc (.cells #[.string (ofL x.shop), .string (ofL x.to), .bool x.up, .string (ofL x.key), .slice Ax x.want.length cx, .bool x.all] 48)).alloc (.cells #[.slice none 0 0, .slice none 0 0] 133) = w1 at *
   refine HH.out.mono ?_
   rintro e w2 ⟨rfl, b2⟩
   have HB2 := hid (bthen HB0.out b2 (Nat.le_refl _))
   have HX2 := hid (HX0.out.on b2)
   have HS2 := hid (HS0.out.on b2)
   have HR2 := hid (HR0.out.on b2)
   have HZ2 := hid (show w.heap.size + 3 ≤ w2.heap.size from by have := b2.size; have := HSZ.out; omega)
   clear b2
   have x0 := HX2.out.cs 0 _ rfl
   have x1 := HX2.out.cs 1 _ rfl
   have xl := HX2.out.lt
   have s0 := HS2.out.cs 0 _ rfl
   have s1 := HS2.out.cs 1 _ rfl
   have s2 := HS2.out.cs 2 _ rfl
   have s3 := HS2.out.cs 3 _ rfl
   have s4 := HS2.out.cs 4 _ rfl
   have s5 := HS2.out.cs 5 _ rfl
   have sl := HS2.out.lt
   have HCK2 := hid (HCK.out w2 (HI0.out.on HB2.out) (HXO.out.on HB2.out) (HL0.out.on HB2.out))
   go_wp2_with fail
   refine HCK2.out.mono ?_
   rintro e w4 ⟨rfl, b4⟩
   have HB4 := hid (bthen HB2.out b4 (Nat.le_refl _))
   have HX4 := hid (HX2.out.on b4)
   have HS4 := hid (HS2.out.on b4)
   have HR4 := hid (HR2.out.on b4)
   have HZ4 := hid (show w.heap.size + 3 ≤ w4.heap.size from Nat.le_trans HZ2.out b4.size)
   clear b4 x0 x1 xl s0 s1 s2 s3 s4 s5 sl
   have x0 := HX4.out.cs 0 _ rfl
   have x1 := HX4.out.cs 1 _ rfl
   have xl := HX4.out.lt
   have s0 := HS4.out.cs 0 _ rfl
   have s1 := HS4.out.cs 1 _ rfl
   have s2 := HS4.out.cs 2 _ rfl
   have s3 := HS4.out.cs 3 _ rfl
   have s4 := HS4.out.cs 4 _ rfl
   have s5 := HS4.out.cs 5 _ rfl
   have sl := HS4.out.lt
   have HLX := hid (HXO.out.on HB4.out)
   have HOW := hid (fun W h => bdOwn_any x Ax cx W HLX.out.len HLX.out.cap h)
   have HAD := hid (fun (Aq : Option Addr) (cq : Nat) W h => addBd_any binds.length (bps ps) B d x Aq cq W (by omega) (by have := HI0.out.capB; have := HML.out; omega) HI0.out.nilB (by rw [bps_len, HML.out]) h)
   unfold BdOwnPost at HOW
   unfold AddBdPost at HAD
   simp only [bdV] at HOW HAD
   have HDR := hid (show Below w4.heap.size w4 w4.drew from (Below.refl _ _).drew)
   go_upto_region 6 with fail
   go_region_law (first
    | (go_simp; go_at_call 113; refine (HOW.out _ (HLX.out.row.on HDR.out)).mono ?_; rintro e w5 ⟨Aq, cq, rfl, ho5, b5⟩; have HO5 := hid ho5; have HD5 := hid (bthen HDR.out b5 (Nat.le_refl _)); have HAD5 := hid (HAD.out Aq cq w5 ((HI0.out.bds.on (bthen HB4.out HD5.out (Nat.le_refl _))).row)); have y0 := (HX4.out.on HD5.out).cs 0 _ rfl; have y1 := (HX4.out.on HD5.out).cs 1 _ rfl; have yl := (HX4.out.on HD5.out).lt; clear ho5 b5)
    | (go_simp; go_at_call 112; refine HAD5.out.mono ?_; rintro e w6 ⟨gg, c6, rfl, ho6, b6⟩; have HO6 := hid ho6; have HD6 := hid (bthen HD5.out b6 (Nat.le_refl _)); have HP6 := hid ((HO5.out.on b6).row); have HZ6 := hid HD5.out.size; have HX6 := hid (HX4.out.on HD6.out); have z0 := HX6.out.cs 0 _ rfl; have z1 := HX6.out.cs 1 _ rfl; have zl := HX6.out.lt; have zf := HX6.out.s 1; clear ho6 b6))
   all_goals
    have HR6 := hid (HR4.out.on HD6.out)
    have HB6 := hid (bthen HB4.out HD6.out (Nat.le_refl _))
    have r0 := HR6.out.cs 0 _ rfl
    have r1 := HR6.out.cs 1 _ rfl
    have rl := HR6.out.lt
    have rf : ∀ j, w6.frozen? ⟨w.heap.size + 2, j, none⟩ = false := HR6.out.s
    go_wp2_with fail
    have hQ := (HR6.out.aside (g := w.heap.size) (by omega) 1 (.slice (some ⟨gg, 0, none⟩) (binds.length + 1) c6)).fill [.slice A shops.length c, .slice (some ⟨gg, 0, none⟩) (binds.length + 1) c6] rfl
    have hB := below_putAll (g := w.heap.size + 2) (by omega) [.slice A shops.length c, .slice (some ⟨gg, 0, none⟩) (binds.length + 1) c6] 0 (HB6.out.setCell (p := ⟨w.heap.size, 1, none⟩) (Nat.le_refl _) (.slice (some ⟨gg, 0, none⟩) (binds.length + 1) c6))
    have hZ5 : w.heap.size + 3 ≤ w5.heap.size := by have := HZ4.out; have := HZ6.out; omega
    have hO := rtOwnPut (rtOwnPut (rtOwnPut HO6.out (g := w.heap.size) (by omega) 1 (.slice (some ⟨gg, 0, none⟩) (binds.length + 1) c6)) (g := w.heap.size + 2) (by omega) 0 (.slice A shops.length c)) (g := w.heap.size + 2) (by omega) 1 (.slice (some ⟨gg, 0, none⟩) (binds.length + 1) c6)
    have hne : ∀ g, g < w4.heap.size → x.want ≠ [] → ∀ a, Aq = some a → a.block ≠ g := fun g hg _ a ha => by
     have := (HO5.out.row.2.2 a ha).1
     simp only [World.drew] at this
     omega
    have hX9 := (((show BdOk w6 x Aq cq from ⟨HLX.out.shop, HLX.out.tol, HLX.out.key, HLX.out.len, HP6.out.2.1, HLX.out.lite, HP6.out.1⟩).put (hne w.heap.size (by have := HZ4.out; omega)) 1 (.slice (some ⟨gg, 0, none⟩) (binds.length + 1) c6)).put (hne (w.heap.size + 2) (by have := HZ4.out; omega)) 0 (.slice A shops.length c)).put (hne (w.heap.size + 2) (by have := HZ4.out; omega)) 1 (.slice (some ⟨gg, 0, none⟩) (binds.length + 1) c6)
    simp only [putAll] at hQ hB
    have g0 := hQ.cs 0 _ rfl
    have g1 := hQ.cs 1 _ rfl
    obtain ⟨A9, c9, e9, hc9, hn9, hr9, hb9⟩ := Rws.of_own hO
    obtain ⟨rfl, -, rfl⟩ := Value.slice.inj e9
    have h0 := HI0.out.on hB
    have hu := (HU.out.on hB.size).mono (V := fun g => U g ∨ w.heap.size ≤ g) (fun g h => .inl h)
    refine bodyPost_ret (v := .tuple #[.agg #[.slice A shops.length c, .slice (some ⟨gg, 0, none⟩) (binds.length + 1) c6], .int .i64 0]) (by simp [results, Tryz.results85, go_sem, g0, g1]) rfl ⟨A, c, some ⟨gg, 0, none⟩, c6, ps ++ [⟨x, Aq, cq⟩], by simp [bkV], ⟨?_, h0.capA, h0.nilA, by rw [List.length_append, HML.out]; exact hc9, hn9, h0.shs, ⟨by rw [bps_app, bps_one1]; exact hr9, fun p hp => ?_⟩⟩, ⟨hu.a, fun a ha => ⟨.inr (by have := (hb9 a ha).1; omega), (hb9 a ha).2⟩, fun q hq hw a ha => ?_⟩, hB⟩
    ·rw [List.map_append, h0.xs]; rfl
    ·rcases List.mem_append.1 hp with hp | hp
     ·exact h0.bds.ok p hp
     ·obtain rfl := List.mem_singleton.1 hp
      exact hX9
    ·rcases List.mem_append.1 hq with hq | hq
     ·exact hu.p q hq hw a ha
     ·obtain rfl := List.mem_singleton.1 hq
      have h1 := (HO5.out.row.2.2 a ha).1
      have h2 := (HP6.out.2.2 a ha).2
      simp only [World.drew] at h1
      exact ⟨.inr (by have := HZ4.out; omega), by simpa using h2⟩
  ·have hdc : ((Bk.ccode ⟨shops, binds⟩ x : Int) != 0) = true := by rw [bne_iff_ne]; omega
   have hb2 : Bk.bind ⟨shops, binds⟩ x = (⟨shops, binds⟩, Bk.ccode ⟨shops, binds⟩ x) := by
    by_cases h1 : Bk.bcode ⟨shops, binds⟩ x = 0
    ·have h2 : 32 ≤ binds.length := by
      by_cases h2 : 32 ≤ binds.length
      ·exact h2
      ·exact absurd (by rw [hcc, if_neg (fun h => h h1), if_neg h2]) hc0
     rw [hmk, if_neg (fun h => h h1), if_pos h2, hcc, if_neg (fun h => h h1), if_pos h2]
    ·rw [hmk, if_pos h1, hcc, if_pos h1]
   rw [hb2]
   dsimp only
   generalize Bk.ccode ⟨shops, binds⟩ x = K at *
   clear hmk hcc hc0 hb2 hml
   have HH := hid hH
   clear hH
   simp only [bkV, bdV] at *
   go_enter Tryz.func85, Tryz.ntmps85
   go_wp2_with fail
   generalize ((w.alloc (.cells #[.slice A shops.length c, .slice B binds.length d] 133)).alloc (.cells #[.string (ofL x.shop), .string (ofL x.to), .bool x.up, .string (ofL x.key), .slice Ax x.want.length cx, .bool x.all] 48)).alloc (.cells #[.slice none 0 0, .slice none 0 0] 133) = w1 at *
   refine HH.out.mono ?_
   rintro e w2 ⟨rfl, b2⟩
   have HB2 := hid (bthen HB0.out b2 (Nat.le_refl _))
   have HX2 := hid (HX0.out.on b2)
   have HS2 := hid (HS0.out.on b2)
   have HR2 := hid (HR0.out.on b2)
   have HZ2 := hid (show w.heap.size + 3 ≤ w2.heap.size from by have := b2.size; have := HSZ.out; omega)
   clear b2
   have x0 := HX2.out.cs 0 _ rfl
   have x1 := HX2.out.cs 1 _ rfl
   have xl := HX2.out.lt
   have s0 := HS2.out.cs 0 _ rfl
   have s1 := HS2.out.cs 1 _ rfl
   have s2 := HS2.out.cs 2 _ rfl
   have s3 := HS2.out.cs 3 _ rfl
   have s4 := HS2.out.cs 4 _ rfl
   have s5 := HS2.out.cs 5 _ rfl
   have sl := HS2.out.lt
   have HCK2 := hid (HCK.out w2 (HI0.out.on HB2.out) (HXO.out.on HB2.out) (HL0.out.on HB2.out))
   go_wp2_with fail
   refine HCK2.out.mono ?_
   rintro e w4 ⟨rfl, b4⟩
   have HB4 := hid (bthen HB2.out b4 (Nat.le_refl _))
   have HX4 := hid (HX2.out.on b4)
   have HS4 := hid (HS2.out.on b4)
   have HR4 := hid (HR2.out.on b4)
   have HZ4 := hid (show w.heap.size + 3 ≤ w4.heap.size from Nat.le_trans HZ2.out b4.size)
   clear b4 x0 x1 xl s0 s1 s2 s3 s4 s5 sl
   have x0 := HX4.out.cs 0 _ rfl
   have x1 := HX4.out.cs 1 _ rfl
   have xl := HX4.out.lt
   have s0 := HS4.out.cs 0 _ rfl
   have s1 := HS4.out.cs 1 _ rfl
   have s2 := HS4.out.cs 2 _ rfl
   have s3 := HS4.out.cs 3 _ rfl
   have s4 := HS4.out.cs 4 _ rfl
   have s5 := HS4.out.cs 5 _ rfl
   have sl := HS4.out.lt
   have r0 := HR4.out.cs 0 _ rfl
   have r1 := HR4.out.cs 1 _ rfl
   have rl := HR4.out.lt
   have rf : ∀ j, w4.frozen? ⟨w.heap.size + 2, j, none⟩ = false := HR4.out.s
   go_wp2_with fail
   have hQ := HR4.out.fill [.slice A shops.length c, .slice B binds.length d] rfl
   have hB := below_putAll (g := w.heap.size + 2) (by omega) [.slice A shops.length c, .slice B binds.length d] 0 HB4.out
   simp only [putAll] at hQ hB
   have g0 := hQ.cs 0 _ rfl
   have g1 := hQ.cs 1 _ rfl
   exact bodyPost_ret (v := .tuple #[.agg #[.slice A shops.length c, .slice B binds.length d], .int .i64 (K : Int)]) (by simp [results, Tryz.results85, go_sem, g0, g1]) rfl ⟨A, c, B, d, ps, rfl, HI0.out.on hB, (HU.out.mono (fun g h => .inl h)).on hB.size, hB⟩
end Go.Proofs.YtaikigponkjkgaaGreatDoor
end
