/-
 A part of the proof.
-/
import Derived.Test.YtaikigponkjkgaaGreatDoorXq45

section
namespace Go.Proofs.YtaikigponkjkgaaGreatDoor
open Go.ChangeShapes Go.WideShapes Go.ChangeAt Go.RowKit
open Go.Lib (hid)
set_option maxRecDepth 100000
theorem RdX.start2 {w W : World} {R : LSt → World → Prop} {b : Nat} {zs : List Value} {s : LSt} (hR : Rder b R) (hi : R s W) (hq : BoxC w w.heap.size zs W) (hG : w.grownBy W (some b)) (hbl : b < w.heap.size) (Z : Array Value) (t : TypeId) : RdX w R b W.heap.size zs Z.toList none [] s (W.alloc (.cells Z t)) :=
 ⟨hR, hR.on hi (rtOne W _), BoxC.new hG.size Z t, hq.on (rtOne W _), Prs.nil _ _, (fun a ha => by cases ha), hbl, hq.lt, grown_below hG (rtOne W _)⟩
theorem rde_res (x : De) (A : Option Addr) (c : Nat) (B : Option Addr) (d : Nat) (W : World) (g : Nat) (h : Cels W g (deL x A c B d)) : (loadVar 59 ⟨g, 0, none⟩).run Tryz.prog W = .ok (deV x A c B d) W :=
 run_loadVar_mid W g 0 59 (deL x A c B d) _ h.range Tryz.underlying59 rfl (by rw [rde_size, deL_len])
theorem w8_of {n : Nat} (h : n < 256) : IntKind.u8.wrap (n : Int) = (n : Int) := by rw [show IntKind.u8.wrap (n : Int) = (n : Int) % 256 from rfl]; omega
theorem names_no {n : Nat} (h1 : n ≠ 1) (h3 : n ≠ 3) (h7 : n ≠ 7) (h8 : n ≠ 8) : De.names n = false := by simp [De.names, h1, h3, h7, h8]
theorem names_yes {n : Nat} (h : n = 1 ∨ n = 3 ∨ n = 7 ∨ n = 8) : De.names n = true := by rcases h with rfl | rfl | rfl | rfl <;> rfl
theorem x8_yes {n : Nat} (h : n ≠ 8) : ((n : Int) != 8) = true := by rw [bne_iff_ne]; omega
theorem x8_no {n : Nat} (h : n = 8) : ((n : Int) != 8) = false := by rw [h]; rfl
theorem RdX.rdeed {w : World} {R : LSt → World → Prop} {b : Nat} {s : LSt} (hR : Rder b R) (hi : R s w) (t : TypeId) : ∃ ZS, ZS = deL (De.of 0 0) none 0 none 0 ∧ BoxC w w.heap.size ZS (w.alloc (.cells #[.int .u8 0, .int .u64 0, .string ⟨#[]⟩, .int .u8 0, .string ⟨#[]⟩, .string ⟨#[]⟩, .int .u64 0, .int .u64 0, .string ⟨#[]⟩, .string ⟨#[]⟩, .string ⟨#[]⟩, .bool false, .string ⟨#[]⟩, .slice none 0 0, .bool false, .string ⟨#[]⟩, .int .u64 0, .int .u8 0, .int .u8 0, .int .u8 0, .int .u64 0, .int .u64 0, .string ⟨#[]⟩, .string ⟨#[]⟩, .slice none 0 0, .string ⟨#[]⟩, .int .u64 0, .int .u8 0, .string ⟨#[]⟩] t)) ∧ R s (w.alloc (.cells #[.int .u8 0, .int .u64 0, .string ⟨#[]⟩, .int .u8 0, .string ⟨#[]⟩, .string ⟨#[]⟩, .int .u64 0, .int .u64 0, .string ⟨#[]⟩, .string ⟨#[]⟩, .string ⟨#[]⟩, .bool false, .string ⟨#[]⟩, .slice none 0 0, .bool false, .string ⟨#[]⟩, .int .u64 0, .int .u8 0, .int .u8 0, .int .u8 0, .int .u64 0, .int .u64 0, .string ⟨#[]⟩, .string ⟨#[]⟩, .slice none 0 0, .string ⟨#[]⟩, .int .u64 0, .int .u8 0, .string ⟨#[]⟩] t)) ∧ w.grownBy (w.alloc (.cells #[.int .u8 0, .int .u64 0, .string ⟨#[]⟩, .int .u8 0, .string ⟨#[]⟩, .string ⟨#[]⟩, .int .u64 0, .int .u64 0, .string ⟨#[]⟩, .string ⟨#[]⟩, .string ⟨#[]⟩, .bool false, .string ⟨#[]⟩, .slice none 0 0, .bool false, .string ⟨#[]⟩, .int .u64 0, .int .u8 0, .int .u8 0, .int .u8 0, .int .u64 0, .int .u64 0, .string ⟨#[]⟩, .string ⟨#[]⟩, .slice none 0 0, .string ⟨#[]⟩, .int .u64 0, .int .u8 0, .string ⟨#[]⟩] t)) (some b) :=
 ⟨_, rfl, BoxC.new (w := w) (W := w) (Nat.le_refl _) #[.int .u8 0, .int .u64 0, .string ⟨#[]⟩, .int .u8 0, .string ⟨#[]⟩, .string ⟨#[]⟩, .int .u64 0, .int .u64 0, .string ⟨#[]⟩, .string ⟨#[]⟩, .string ⟨#[]⟩, .bool false, .string ⟨#[]⟩, .slice none 0 0, .bool false, .string ⟨#[]⟩, .int .u64 0, .int .u8 0, .int .u8 0, .int .u8 0, .int .u64 0, .int .u64 0, .string ⟨#[]⟩, .string ⟨#[]⟩, .slice none 0 0, .string ⟨#[]⟩, .int .u64 0, .int .u8 0, .string ⟨#[]⟩] t, hR.on hi (rtOne w _), Rw.gb (rtOne w _) (some b)⟩
set_option maxHeartbeats 16000000 in
theorem r22bind_core (b : Nat) (R : LSt → World → Prop) (hR : Rder b R) (s s1 s2 s3 s4 s5 s6 : LSt) (N T K : List UInt8) (I J : Nat) (U Y : Bool) (hU : ((I : Int) == 1) = U) (hY : ((J : Int) == 1) = Y) (H : List Hd.Pr) (w : World)
  (h1 : RxC R b 68 #[.pointer (some ⟨b, 0, none⟩), .int .i64 16] (.string (ofL N)) s s1)
  (h2 : RxC R b 68 #[.pointer (some ⟨b, 0, none⟩), .int .i64 16] (.string (ofL T)) s1 s2)
  (h3 : RxC R b 30 #[.pointer (some ⟨b, 0, none⟩), .int .i64 1] (.int .u64 (I : Int)) s2 s3)
  (h4 : RxC R b 68 #[.pointer (some ⟨b, 0, none⟩), .int .i64 64] (.string (ofL K)) s3 s4)
  (h5 : RxR R b 98 #[.pointer (some ⟨b, 0, none⟩)] (fun A c => .slice A H.length c) H s4 s5)
  (h6 : RxC R b 30 #[.pointer (some ⟨b, 0, none⟩), .int .i64 1] (.int .u64 (J : Int)) s5 s6)
  (hi : R s w) : Calls Tryz.prog 69 #[.pointer (some ⟨b, 0, none⟩)] w (fun e w' => ∃ A c, e = .returned (.agg #[.string (ofL N), .string (ofL T), .bool U, .string (ofL K), .slice A H.length c, .bool Y]) ∧ H.length ≤ c ∧ Prs w' A H ∧ R s6 w' ∧ w.grownBy w' (some b) ∧ ∀ a, A = some a → w.heap.size ≤ a.block) := by
 have hbl := hR.lt hi
 have HQ0 := hid (BoxC.new (w := w) (W := w) (Nat.le_refl _) #[.string ⟨#[]⟩, .string ⟨#[]⟩, .bool false, .string ⟨#[]⟩, .slice none 0 0, .bool false] 57)
 have HI0 := hid (hR.on hi (rtOne w (.cells #[.string ⟨#[]⟩, .string ⟨#[]⟩, .bool false, .string ⟨#[]⟩, .slice none 0 0, .bool false] 57)))
 have HG0 := hid (Rw.gb (rtOne w (.cells #[.string ⟨#[]⟩, .string ⟨#[]⟩, .bool false, .string ⟨#[]⟩, .slice none 0 0, .bool false] 57)) (some b))
 have H1 := hid h1
 have H2 := hid h2
 have H3 := hid h3
 have H4 := hid h4
 have H5 := hid h5
 have H6 := hid h6
 have HRR := hid hR
 clear h1 h2 h3 h4 h5 h6 hR hi
 go_enter Tryz.func69, Tryz.ntmps69
 go_wp2_with fail
 generalize w.alloc (.cells #[.string ⟨#[]⟩, .string ⟨#[]⟩, .bool false, .string ⟨#[]⟩, .slice none 0 0, .bool false] 57) = v0 at *
 refine (H1.out _ HI0.out).mono ?_
 rintro e u1 ⟨rfl, hi, hg⟩
 have HI1 := hid hi
 have HQ1 := hid (HQ0.out.grown hg (by omega))
 have HG1 := hid (HG0.out.trans hg)
 clear hi hg
 go_wp2_with fail
 refine (H2.out _ HI1.out).mono ?_
 rintro e u2 ⟨rfl, hi, hg⟩
 have HI2 := hid hi
 have HQ2 := hid (HQ1.out.grown hg (by omega))
 have HG2 := hid (HG1.out.trans hg)
 clear hi hg
 go_wp2_with fail
 refine (H3.out _ HI2.out).mono ?_
 rintro e u3 ⟨rfl, hi, hg⟩
 have HI3 := hid hi
 have HQ3 := hid (HQ2.out.grown hg (by omega))
 have HG3 := hid (HG2.out.trans hg)
 clear hi hg
 go_wp2_with fail
 refine (H4.out _ HI3.out).mono ?_
 rintro e u4 ⟨rfl, hi, hg⟩
 have HI4 := hid hi
 have HQ4 := hid (HQ3.out.grown hg (by omega))
 have HG4 := hid (HG3.out.trans hg)
 clear hi hg
 go_wp2_with fail
 refine (H5.out _ HI4.out).mono ?_
 rintro e u5 ⟨A, c, rfl, hc, hp, hi, hg, hA⟩
 have hsz := HG4.out.size
 have hql := HQ4.out.lt
 have HI5 := hid hi
 have HQ5 := hid (HQ4.out.grown hg (by omega))
 have HP5 := hid hp
 have HA5 := hid hA
 have HC := hid hc
 have HG5 := hid (HG4.out.trans hg)
 clear hi hg hc hp hA
 go_wp2_with fail
 refine (H6.out _ HI5.out).mono ?_
 rintro e u6 ⟨rfl, hi, hg⟩
 have HI6 := hid hi
 have HQ6 := hid (HQ5.out.grown hg (by omega))
 have HG6 := hid (HG5.out.trans hg)
 have HP6 := hid (HP5.out.grown hg (fun a ha e => by have := HA5.out a ha; have := Option.some.inj e; omega))
 clear hi hg
 have z0 := HQ6.out.cs 0 _ rfl
 have z1 := HQ6.out.cs 1 _ rfl
 have z2 := HQ6.out.cs 2 _ rfl
 have z3 := HQ6.out.cs 3 _ rfl
 have z4 := HQ6.out.cs 4 _ rfl
 have z5 := HQ6.out.cs 5 _ rfl
 have zl := HQ6.out.lt
 have zf := HQ6.out.s
 unfold Soft at zf
 go_wp2_with fail
 have hF := HQ6.out.fill [.string (ofL N), .string (ofL T), .bool U, .string (ofL K), .slice A H.length c, .bool Y] rfl
 have hI := rdr_putAll HRR.out (g := w.heap.size) (by omega) [.string (ofL N), .string (ofL T), .bool U, .string (ofL K), .slice A H.length c, .bool Y] 0 HI6.out
 have hG := grown_putAll (g := w.heap.size) (Nat.le_refl _) [.string (ofL N), .string (ofL T), .bool U, .string (ofL K), .slice A H.length c, .bool Y] 0 HG6.out
 have hP := Prs.putAll (g := w.heap.size) (fun a ha e => by have := HA5.out a ha; omega) [.string (ofL N), .string (ofL T), .bool U, .string (ofL K), .slice A H.length c, .bool Y] 0 HP6.out
 simp only [putAll] at hF hI hG hP
 have g0 := hF.cs 0 _ rfl
 have g1 := hF.cs 1 _ rfl
 have g2 := hF.cs 2 _ rfl
 have g3 := hF.cs 3 _ rfl
 have g4 := hF.cs 4 _ rfl
 have g5 := hF.cs 5 _ rfl
 exact bodyPost_ret (v := .agg #[.string (ofL N), .string (ofL T), .bool U, .string (ofL K), .slice A H.length c, .bool Y]) (by simp [results, Tryz.results69, go_sem, g0, g1, g2, g3, g4, g5]) rfl ⟨A, c, rfl, HC.out, hP, hI, hG, fun a ha => by have := HA5.out a ha; omega⟩
theorem r22bind_any (b : Nat) (S : ByteArray) (hS : S.size ≤ 1000000) (s : LSt) (w : World) (h : RefL b S s w) (hok : lOk s) : Calls Tryz.prog 69 #[.pointer (some ⟨b, 0, none⟩)] w (fun e w' => ∃ A c, e = .returned (.agg #[.string (ofL (De.bdA s).shop), .string (ofL (De.bdA s).to), .bool (De.bdA s).up, .string (ofL (De.bdA s).key), .slice A (De.bdA s).want.length c, .bool (De.bdA s).all]) ∧ (De.bdA s).want.length ≤ c ∧ Prs w' A (De.bdA s).want ∧ RefL b S (De.bdR s) w' ∧ w.grownBy w' (some b) ∧ ∀ a, A = some a → w.heap.size ≤ a.block) := by
 have o2 := lOk_text (lOk_text hok 16) 16
 have g := r22bind_core b (RefL b S) (rdr_ref b S) s (lText s 16) (lText (lText s 16) 16) (De.r1 (lText (lText s 16) 16)) (lText (De.r1 (lText (lText s 16) 16)) 64) (Hd.hread (lText (De.r1 (lText (lText s 16) 16)) 64)).2 (De.r1 (Hd.hread (lText (De.r1 (lText (lText s 16) 16)) 64)).2) (lTextOut s 16) (lTextOut (lText s 16) 16) (lTextOut (De.r1 (lText (lText s 16) 16)) 64) (De.n1 (lText (lText s 16) 16)) (De.n1 (Hd.hread (lText (De.r1 (lText (lText s 16) 16)) 64)).2) _ _ (one_dec _) (one_dec _) (Hd.hread (lText (De.r1 (lText (lText s 16) 16)) 64)).1 w
  (fun W h => ritext_l b S s 16 W h hS) (fun W h => ritext_l b S (lText s 16) 16 W h hS) (fun W h => rinum_l b S (lText (lText s 16) 16) 1 1 W (by omega) rfl h hS) (fun W h => ritext_l b S (De.r1 (lText (lText s 16) 16)) 64 W h hS) (fun W h => rread9_any b S (lText (De.r1 (lText (lText s 16) 16)) 64) W h (lOk_text (De.ok_r1 o2) _) hS) (fun W h => rinum_l b S (Hd.hread (lText (De.r1 (lText (lText s 16) 16)) 64)).2 1 1 W (by omega) rfl h hS) h
 unfold De.bdA De.bdR De.b5 De.b4 De.b2
 dsimp only
 exact g
def NmC (n : Nat) (v : Bool) : Prop := ∀ W, Calls Tryz.prog 51 #[.int .u8 (n : Int)] W fun e w' => e = .returned (.bool v) ∧ W = w'
theorem nm_of {n : Nat} {v : Bool} (h : De.names n = v) : NmC n v := fun W => h ▸ r22names_any n W
section
variable {w W : World} {R : LSt → World → Prop} {b g : Nat} {zs : List Value} {A' : Option Addr} {l : List Hd.Pr} {s : LSt} {D : De} {A : Option Addr} {c : Nat} {B : Option Addr} {d : Nat} {os : Array Oper} {rs : List Oper} {o : Oper} {a : Act} {Q : Exit → Act → World → Prop}
theorem RdX.ldR (h : RdX w R b g zs (deL D A c B d) A' l s W) (hg : o.guard = none) (x : Operand) (ho : o.op = .load 59 x) (hx : a.eval x = .pointer (some ⟨g, 0, none⟩)) (k : wpList Tryz.prog os Q rs (a.put o.dst (deV D A c B d)) W) : wpList Tryz.prog os Q (o :: rs) a W :=
 wpList_load_mid hg 59 x ho g 0 hx (deL D A c B d) _ h.m.cs.range Tryz.underlying59 rfl (by rw [rde_size, deL_len]) k
theorem RdX.stR (h : RdX w R b g (deL (De.of 0 0) none 0 none 0) (deL D A c B d) A' l s W) (hg : o.guard = none) (x y : Operand) (ho : o.op = .store 59 x y) (hx : a.eval x = .pointer (some ⟨w.heap.size, 0, none⟩)) (hy : a.eval y = deV D A c B d) (k : wpList Tryz.prog os Q rs (a.put o.dst undef) (W.setCells w.heap.size 0 (deL D A c B d))) : wpList Tryz.prog os Q (o :: rs) a W :=
 wpList_store_mid hg 59 x y ho w.heap.size 0 (deL D A c B d).toArray hx hy h.q.there (by rw [rde_size]; rfl) (de_all _ _ _ _ _) k
end
set_option maxHeartbeats 16000000 in
theorem r22read_core (b : Nat) (R : LSt → World → Prop) (hR : Rder b R) (s s1 s2 sf : LSt) (t n : Nat) (hn : IntKind.u8.wrap (n : Int) = (n : Int)) (D : De) (w : World) (h1 : RxC R b 30 #[.pointer (some ⟨b, 0, none⟩), .int .i64 1] (.int .u64 (n : Int)) s s1) (h2 : RxC R b 30 #[.pointer (some ⟨b, 0, none⟩), .int .i64 8] (.int .u64 (t : Int)) s1 s2)
  (hc : (∃ (N T : List UInt8) (K : Nat) (s3 s4 : LSt), IntKind.u8.wrap (K : Int) = (K : Int) ∧ ((n : Int) == 0) = true ∧ NmC n false ∧ RxC R b 68 #[.pointer (some ⟨b, 0, none⟩), .int .i64 16] (.string (ofL N)) s2 s3 ∧ RxC R b 30 #[.pointer (some ⟨b, 0, none⟩), .int .i64 1] (.int .u64 (K : Int)) s3 s4 ∧ RxC R b 68 #[.pointer (some ⟨b, 0, none⟩), .int .i64 16] (.string (ofL T)) s4 sf ∧ D = ({ De.of n t with shop := ⟨N, K, T⟩ } : De)) ∨
   (∃ (N : List UInt8), ((n : Int) == 0) = false ∧ ((n : Int) == 2) = false ∧ ((n : Int) == 4) = false ∧ ((n : Int) == 5) = false ∧ ((n : Int) == 6) = false ∧ ((n : Int) == 8) = false ∧ ((n : Int) == 10) = false ∧ ((n : Int) == 12) = false ∧ ((n : Int) != 8) = true ∧ NmC n true ∧ RxC R b 68 #[.pointer (some ⟨b, 0, none⟩), .int .i64 16] (.string (ofL N)) s2 sf ∧ D = ({ De.of n t with name := N } : De)) ∨
   (∃ (N T : List UInt8) (K L : Nat) (s3 s4 s5 : LSt), ((n : Int) == 0) = false ∧ ((n : Int) == 2) = true ∧ NmC n false ∧ RxC R b 68 #[.pointer (some ⟨b, 0, none⟩), .int .i64 16] (.string (ofL N)) s2 s3 ∧ RxC R b 30 #[.pointer (some ⟨b, 0, none⟩), .int .i64 8] (.int .u64 (K : Int)) s3 s4 ∧ RxC R b 30 #[.pointer (some ⟨b, 0, none⟩), .int .i64 8] (.int .u64 (L : Int)) s4 s5 ∧ RxC R b 68 #[.pointer (some ⟨b, 0, none⟩), .int .i64 16] (.string (ofL T)) s5 sf ∧ D = ({ De.of n t with q := ⟨N, K, L, T⟩ } : De)) ∨
   (∃ (X : Bd), ((n : Int) == 0) = false ∧ ((n : Int) == 2) = false ∧ (((n : Int) == 4) = true ∨ ((n : Int) == 4) = false ∧ ((n : Int) == 5) = true) ∧ NmC n false ∧ RxR R b 69 #[.pointer (some ⟨b, 0, none⟩)] (fun A c => .agg #[.string (ofL X.shop), .string (ofL X.to), .bool X.up, .string (ofL X.key), .slice A X.want.length c, .bool X.all]) X.want s2 sf ∧ D = ({ De.of n t with bind := X } : De)) ∨
   (∃ (M : Ml), ((n : Int) == 0) = false ∧ ((n : Int) == 2) = false ∧ ((n : Int) == 4) = false ∧ ((n : Int) == 5) = false ∧ ((n : Int) == 6) = true ∧ NmC n false ∧ RxR R b 70 #[.pointer (some ⟨b, 0, none⟩)] (fun A c => .agg #[.int .u64 (M.id : Int), .string (ofL M.shop), .string (ofL M.key), .slice A M.head.length c, .string (ofL M.body), .int .u64 (M.due : Int), .int .u8 (M.hops : Int)]) M.head s2 sf ∧ D = ({ De.of n t with mail := M } : De)) ∨
   (∃ (N : List UInt8) (I O : Nat) (s3 s4 : LSt), IntKind.u8.wrap (O : Int) = (O : Int) ∧ ((n : Int) == 0) = false ∧ ((n : Int) == 2) = false ∧ ((n : Int) == 4) = false ∧ ((n : Int) == 5) = false ∧ ((n : Int) == 6) = false ∧ ((n : Int) == 8) = true ∧ ((n : Int) != 8) = false ∧ NmC n true ∧ RxC R b 68 #[.pointer (some ⟨b, 0, none⟩), .int .i64 16] (.string (ofL N)) s2 s3 ∧ RxC R b 30 #[.pointer (some ⟨b, 0, none⟩), .int .i64 8] (.int .u64 (I : Int)) s3 s4 ∧ RxC R b 30 #[.pointer (some ⟨b, 0, none⟩), .int .i64 1] (.int .u64 (O : Int)) s4 sf ∧ D = ({ De.of n t with name := N, id := I, how := O } : De)) ∨
   (∃ (F I : Nat) (M : Ml) (s3 s4 : LSt), IntKind.u8.wrap (F : Int) = (F : Int) ∧ ((n : Int) == 0) = false ∧ ((n : Int) == 2) = false ∧ ((n : Int) == 4) = false ∧ ((n : Int) == 5) = false ∧ ((n : Int) == 6) = false ∧ ((n : Int) == 8) = false ∧ ((n : Int) == 10) = true ∧ NmC n false ∧ RxC R b 30 #[.pointer (some ⟨b, 0, none⟩), .int .i64 1] (.int .u64 (F : Int)) s2 s3 ∧ RxC R b 30 #[.pointer (some ⟨b, 0, none⟩), .int .i64 8] (.int .u64 (I : Int)) s3 s4 ∧ RxR R b 70 #[.pointer (some ⟨b, 0, none⟩)] (fun A c => .agg #[.int .u64 (M.id : Int), .string (ofL M.shop), .string (ofL M.key), .slice A M.head.length c, .string (ofL M.body), .int .u64 (M.due : Int), .int .u8 (M.hops : Int)]) M.head s4 sf ∧ D = ({ De.of n t with frm := F, num := I, mail := M } : De)) ∨
   (∃ (F : Nat) (N : List UInt8) (s3 : LSt), IntKind.u8.wrap (F : Int) = (F : Int) ∧ ((n : Int) == 0) = false ∧ ((n : Int) == 2) = false ∧ ((n : Int) == 4) = false ∧ ((n : Int) == 5) = false ∧ ((n : Int) == 6) = false ∧ ((n : Int) == 8) = false ∧ ((n : Int) == 10) = false ∧ ((n : Int) == 12) = true ∧ NmC n false ∧ RxC R b 30 #[.pointer (some ⟨b, 0, none⟩), .int .i64 1] (.int .u64 (F : Int)) s2 s3 ∧ RxC R b 68 #[.pointer (some ⟨b, 0, none⟩), .int .i64 64] (.string (ofL N)) s3 sf ∧ D = ({ De.of n t with cd := F, text := N } : De)) ∨
   (((n : Int) == 0) = false ∧ ((n : Int) == 2) = false ∧ ((n : Int) == 4) = false ∧ ((n : Int) == 5) = false ∧ ((n : Int) == 6) = false ∧ ((n : Int) == 8) = false ∧ ((n : Int) == 10) = false ∧ ((n : Int) == 12) = false ∧ NmC n false ∧ D = (De.of n t) ∧ sf = s2))
  (hi : R s w) : Calls Tryz.prog 31 #[.pointer (some ⟨b, 0, none⟩)] w (DeRd R b w D sf) := by
 unfold DeRd
 have H1 := hid h1
 have H2 := hid h2
 have HCL := hid hc
 clear h1 h2 hc
 have hbl := hR.lt hi
 obtain ⟨ZS, hZS, hq, hi0, hg0⟩ := RdX.rdeed hR hi 59
 have HQ0 := hid hq
 have HI0 := hid hi0
 have HG0 := hid hg0
 have HRR := hid hR
 have HZS := hid hZS
 clear hR hi hZS hq hi0 hg0
 go_enter Tryz.func31, Tryz.ntmps31
 go_wp2_with fail
 refine (H1.out _ HI0.out).mono ?_
 rintro e u1 ⟨rfl, hi, hg⟩
 have HI1 := hid hi
 have HQ1 := hid (HQ0.out.grown hg (by omega))
 have HG1 := hid (HG0.out.trans hg)
 clear hi hg
 go_wp2_with fail
 refine (H2.out _ HI1.out).mono ?_
 rintro e u2 ⟨rfl, hi, hg⟩
 have HI2 := hid hi
 have HQ2 := hid (HQ1.out.grown hg (by omega))
 have HG2 := hid (HG1.out.trans hg)
 clear hi hg
 go_upto_region 3 with (first
  | (refine wpList_buildTo (by rfl) 59 _ (by rfl) _ (by rfl) (deL (De.of n t) none 0 none 0).toArray (by kernel_rfl) ?_)
  | (refine wpList_store_new2 (by rfl) 59 _ _ (by rfl) _ (deL (De.of n t) none 0 none 0).toArray (by rfl) (by rfl) (by rw [rde_size]; rfl) (by rfl) (de_all _ _ _ _ _) ?_))
 have HS2 := hid (show RdX w R b u2.heap.size ZS (deL (De.of n t) none 0 none 0) none [] s2 (u2.alloc (.cells (deL (De.of n t) none 0 none 0).toArray 59)) from RdX.start2 HRR.out HI2.out HQ2.out HG2.out hbl (deL (De.of n t) none 0 none 0).toArray 59)
 generalize u2.alloc (.cells (deL (De.of n t) none 0 none 0).toArray 59) = v2 at *
 generalize u2.heap.size = g at *
 clear HI0 HI1 HI2 HQ0 HQ1 HQ2 HG0 HG1 HG2
 have c0 : v2.cell? ⟨g, 0, none⟩ = some (.int .u8 (n : Int)) := HS2.out.m.cs 0 _ rfl
 have cl := HS2.out.m.lt
 have cf : ∀ j, v2.frozen? ⟨g, j, none⟩ = false := HS2.out.m.s
 rcases HCL.out with ⟨N, T, K, s3, s4, hX, e0, hnm, h3, h4, h5, rfl⟩ | ⟨N, e0, e2, e4, e5, e6, e8, e10, e12, x8, hnm, h3, rfl⟩ | ⟨N, T, K, L, s3, s4, s5, e0, e2, hnm, h3, h4, h5, h6, rfl⟩ | ⟨X, e0, e2, hg, hnm, h3, rfl⟩ | ⟨M, e0, e2, e4, e5, e6, hnm, h3, rfl⟩ | ⟨N, I, O, s3, s4, hO, e0, e2, e4, e5, e6, e8, x8, hnm, h3, h4, h5, rfl⟩ | ⟨F, I, M, s3, s4, hF, e0, e2, e4, e5, e6, e8, e10, hnm, h3, h4, h5, rfl⟩ | ⟨F, N, s3, hF, e0, e2, e4, e5, e6, e8, e10, e12, hnm, h3, h4, rfl⟩ | ⟨e0, e2, e4, e5, e6, e8, e10, e12, hnm, rfl, rfl⟩
 ·have H3 := hid h3
  have H4 := hid h4
  have H5 := hid h5
  have HNM := hid hnm
  clear h3 h4 h5 hnm
  clear HCL
  go_wp2_with fail
  clear c0 cl cf
  refine (H3.out _ HS2.out.ri).mono ?_
  rintro e u3 ⟨rfl, hi, hg⟩
  have HM3 := hid (HS2.out.moved hi hg)
  clear hi hg
  have HS3 := hid (show RdX w R b (g) ZS (deL ({ De.of n t with shop := ⟨N, 0, []⟩ } : De) none 0 none 0) none ([]) s3 (u3.setCell ⟨g, 2, none⟩ (.string (ofL N))) from (HM3.out.put 2 (.string (ofL N)) (by show _ < 29; omega)))
  have c2 := HM3.out.m.cs 2 _ rfl
  have cl := HM3.out.m.lt
  have cf : ∀ j, u3.frozen? ⟨g, j, none⟩ = false := HM3.out.m.s
  go_wp2_with fail
  generalize (u3.setCell ⟨g, 2, none⟩ (.string (ofL N))) = v3 at *
  clear c2 cl cf HM3 HS2
  refine (H4.out _ HS3.out.ri).mono ?_
  rintro e u4 ⟨rfl, hi, hg⟩
  have HM4 := hid (HS3.out.moved hi hg)
  clear hi hg
  have HS4 := hid (show RdX w R b (g) ZS (deL ({ De.of n t with shop := ⟨N, K, []⟩ } : De) none 0 none 0) none ([]) s4 (u4.setCell ⟨g, 3, none⟩ (.int .u8 (K : Int))) from (HM4.out.put 3 (.int .u8 (K : Int)) (by show _ < 29; omega)))
  have c3 := HM4.out.m.cs 3 _ rfl
  have cl := HM4.out.m.lt
  have cf : ∀ j, u4.frozen? ⟨g, j, none⟩ = false := HM4.out.m.s
  go_wp2_with fail
  generalize (u4.setCell ⟨g, 3, none⟩ (.int .u8 (K : Int))) = v4 at *
  clear c3 cl cf HM4 HS3
  refine (H5.out _ HS4.out.ri).mono ?_
  rintro e u5 ⟨rfl, hi, hg⟩
  have HM5 := hid (HS4.out.moved hi hg)
  clear hi hg
  have HS5 := hid (show RdX w R b (g) ZS (deL ({ De.of n t with shop := ⟨N, K, T⟩ } : De) none 0 none 0) none ([]) sf (u5.setCell ⟨g, 4, none⟩ (.string (ofL T))) from (HM5.out.put 4 (.string (ofL T)) (by show _ < 29; omega)))
  have c4 := HM5.out.m.cs 4 _ rfl
  have c0 : u5.cell? ⟨g, 0, none⟩ = some (.int .u8 (n : Int)) := HM5.out.m.cs 0 _ rfl
  have cl := HM5.out.m.lt
  have cf : ∀ j, u5.frozen? ⟨g, j, none⟩ = false := HM5.out.m.s
  go_wp2_with fail
  generalize (u5.setCell ⟨g, 4, none⟩ (.string (ofL T))) = v5 at *
  clear c0 c4 cl cf HM5 HS4
  have c0 : v5.cell? ⟨g, 0, none⟩ = some (.int .u8 (n : Int)) := HS5.out.m.cs 0 _ rfl
  refine (HNM.out _).mono ?_
  rintro e w9 ⟨rfl, rfl⟩
  go_upto_region 31 with fail
  clear c0
  rw [HZS.out] at HS5
  go_wp2_with (first | (refine HS5.out.ldR (by rfl) _ (by rfl) (by rfl) ?_) | (refine HS5.out.stR (by rfl) _ _ (by rfl) (by rfl) (by rfl) ?_))
  obtain ⟨hF, hI, hG, hP⟩ := HS5.out.ends (deL ({ De.of n t with shop := ⟨N, K, T⟩ } : De) none 0 none 0) rfl
  generalize v5.setCells w.heap.size 0 (deL ({ De.of n t with shop := ⟨N, K, T⟩ } : De) none 0 none 0) = WW at *
  exact bodyPost_ret (by simp [results, Tryz.results31, asAddr]; exact rde_res _ _ _ _ _ _ _ hF.cs) rfl ⟨none, 0, none, 0, rfl, Nat.le_refl _, Nat.le_refl _, Prs.nil _ _, Prs.nil _ _, hI, hG, (fun a ha => by cases ha), (fun a ha => by cases ha)⟩
 ·have H3 := hid h3
  have HNM := hid hnm
  clear h3 hnm
  clear HCL
  go_wp2_with fail
  refine (HNM.out _).mono ?_
  rintro e w9 ⟨rfl, rfl⟩
  go_wp2_with fail
  clear c0 cl cf
  refine (H3.out _ HS2.out.ri).mono ?_
  rintro e u3 ⟨rfl, hi, hg⟩
  have HM3 := hid (HS2.out.moved hi hg)
  clear hi hg
  have HS3 := hid (show RdX w R b (g) ZS (deL ({ De.of n t with name := N } : De) none 0 none 0) none ([]) sf (u3.setCell ⟨g, 15, none⟩ (.string (ofL N))) from (HM3.out.put 15 (.string (ofL N)) (by show _ < 29; omega)))
  have c15 := HM3.out.m.cs 15 _ rfl
  have cl := HM3.out.m.lt
  have cf : ∀ j, u3.frozen? ⟨g, j, none⟩ = false := HM3.out.m.s
  go_upto_region 31 with fail
  generalize (u3.setCell ⟨g, 15, none⟩ (.string (ofL N))) = v3 at *
  clear c15 cl cf HM3 HS2
  rw [HZS.out] at HS3
  go_wp2_with (first | (refine HS3.out.ldR (by rfl) _ (by rfl) (by rfl) ?_) | (refine HS3.out.stR (by rfl) _ _ (by rfl) (by rfl) (by rfl) ?_))
  obtain ⟨hF, hI, hG, hP⟩ := HS3.out.ends (deL ({ De.of n t with name := N } : De) none 0 none 0) rfl
  generalize v3.setCells w.heap.size 0 (deL ({ De.of n t with name := N } : De) none 0 none 0) = WW at *
  exact bodyPost_ret (by simp [results, Tryz.results31, asAddr]; exact rde_res _ _ _ _ _ _ _ hF.cs) rfl ⟨none, 0, none, 0, rfl, Nat.le_refl _, Nat.le_refl _, Prs.nil _ _, Prs.nil _ _, hI, hG, (fun a ha => by cases ha), (fun a ha => by cases ha)⟩
 ·have H3 := hid h3
  have H4 := hid h4
  have H5 := hid h5
  have H6 := hid h6
  have HNM := hid hnm
  clear h3 h4 h5 h6 hnm
  clear HCL
  go_wp2_with fail
  clear c0 cl cf
  refine (H3.out _ HS2.out.ri).mono ?_
  rintro e u3 ⟨rfl, hi, hg⟩
  have HM3 := hid (HS2.out.moved hi hg)
  clear hi hg
  have HS3 := hid (show RdX w R b (g) ZS (deL ({ De.of n t with q := ⟨N, 0, 0, []⟩ } : De) none 0 none 0) none ([]) s3 (u3.setCell ⟨g, 5, none⟩ (.string (ofL N))) from (HM3.out.put 5 (.string (ofL N)) (by show _ < 29; omega)))
  have c5 := HM3.out.m.cs 5 _ rfl
  have cl := HM3.out.m.lt
  have cf : ∀ j, u3.frozen? ⟨g, j, none⟩ = false := HM3.out.m.s
  go_wp2_with fail
  generalize (u3.setCell ⟨g, 5, none⟩ (.string (ofL N))) = v3 at *
  clear c5 cl cf HM3 HS2
  refine (H4.out _ HS3.out.ri).mono ?_
  rintro e u4 ⟨rfl, hi, hg⟩
  have HM4 := hid (HS3.out.moved hi hg)
  clear hi hg
  have HS4 := hid (show RdX w R b (g) ZS (deL ({ De.of n t with q := ⟨N, K, 0, []⟩ } : De) none 0 none 0) none ([]) s4 (u4.setCell ⟨g, 6, none⟩ (.int .u64 (K : Int))) from (HM4.out.put 6 (.int .u64 (K : Int)) (by show _ < 29; omega)))
  have c6 := HM4.out.m.cs 6 _ rfl
  have cl := HM4.out.m.lt
  have cf : ∀ j, u4.frozen? ⟨g, j, none⟩ = false := HM4.out.m.s
  go_wp2_with fail
  generalize (u4.setCell ⟨g, 6, none⟩ (.int .u64 (K : Int))) = v4 at *
  clear c6 cl cf HM4 HS3
  refine (H5.out _ HS4.out.ri).mono ?_
  rintro e u5 ⟨rfl, hi, hg⟩
  have HM5 := hid (HS4.out.moved hi hg)
  clear hi hg
  have HS5 := hid (show RdX w R b (g) ZS (deL ({ De.of n t with q := ⟨N, K, L, []⟩ } : De) none 0 none 0) none ([]) s5 (u5.setCell ⟨g, 7, none⟩ (.int .u64 (L : Int))) from (HM5.out.put 7 (.int .u64 (L : Int)) (by show _ < 29; omega)))
  have c7 := HM5.out.m.cs 7 _ rfl
  have cl := HM5.out.m.lt
  have cf : ∀ j, u5.frozen? ⟨g, j, none⟩ = false := HM5.out.m.s
  go_wp2_with fail
  generalize (u5.setCell ⟨g, 7, none⟩ (.int .u64 (L : Int))) = v5 at *
  clear c7 cl cf HM5 HS4
  refine (H6.out _ HS5.out.ri).mono ?_
  rintro e u6 ⟨rfl, hi, hg⟩
  have HM6 := hid (HS5.out.moved hi hg)
  clear hi hg
  have HS6 := hid (show RdX w R b (g) ZS (deL ({ De.of n t with q := ⟨N, K, L, T⟩ } : De) none 0 none 0) none ([]) sf (u6.setCell ⟨g, 8, none⟩ (.string (ofL T))) from (HM6.out.put 8 (.string (ofL T)) (by show _ < 29; omega)))
  have c8 := HM6.out.m.cs 8 _ rfl
  have c0 : u6.cell? ⟨g, 0, none⟩ = some (.int .u8 (n : Int)) := HM6.out.m.cs 0 _ rfl
  have cl := HM6.out.m.lt
  have cf : ∀ j, u6.frozen? ⟨g, j, none⟩ = false := HM6.out.m.s
  go_wp2_with fail
  generalize (u6.setCell ⟨g, 8, none⟩ (.string (ofL T))) = v6 at *
  clear c0 c8 cl cf HM6 HS5
  have c0 : v6.cell? ⟨g, 0, none⟩ = some (.int .u8 (n : Int)) := HS6.out.m.cs 0 _ rfl
  refine (HNM.out _).mono ?_
  rintro e w9 ⟨rfl, rfl⟩
  go_upto_region 31 with fail
  clear c0
  rw [HZS.out] at HS6
  go_wp2_with (first | (refine HS6.out.ldR (by rfl) _ (by rfl) (by rfl) ?_) | (refine HS6.out.stR (by rfl) _ _ (by rfl) (by rfl) (by rfl) ?_))
  obtain ⟨hF, hI, hG, hP⟩ := HS6.out.ends (deL ({ De.of n t with q := ⟨N, K, L, T⟩ } : De) none 0 none 0) rfl
  generalize v6.setCells w.heap.size 0 (deL ({ De.of n t with q := ⟨N, K, L, T⟩ } : De) none 0 none 0) = WW at *
  exact bodyPost_ret (by simp [results, Tryz.results31, asAddr]; exact rde_res _ _ _ _ _ _ _ hF.cs) rfl ⟨none, 0, none, 0, rfl, Nat.le_refl _, Nat.le_refl _, Prs.nil _ _, Prs.nil _ _, hI, hG, (fun a ha => by cases ha), (fun a ha => by cases ha)⟩
 ·have H3 := hid h3
  have HNM := hid hnm
  clear h3 hnm
  clear HCL
  rcases hg with e4 | ⟨e4, e5⟩
  all_goals
   go_wp2_with fail
   clear c0 cl cf
   refine (H3.out _ HS2.out.ri).mono ?_
   rintro e u3 ⟨A, c, rfl, hc, hp, hi, hg, hA⟩
   have HM3 := hid (HS2.out.moved hi hg)
   have HR := hid (HS2.out.rowOk hg hp hA)
   have HC := hid hc
   clear hi hg hc hp hA
   have HS3 := hid (show RdX w R b (g) ZS (deL ({ De.of n t with bind := X } : De) A c none 0) A (X.want) sf ((((((u3.setCell ⟨g, 9, none⟩ (.string (ofL X.shop))).setCell ⟨g, 10, none⟩ (.string (ofL X.to))).setCell ⟨g, 11, none⟩ (.bool X.up)).setCell ⟨g, 12, none⟩ (.string (ofL X.key))).setCell ⟨g, 13, none⟩ (.slice A X.want.length c)).setCell ⟨g, 14, none⟩ (.bool X.all)) from (((((((HM3.out.take HR.out.1 HR.out.2).put 9 (.string (ofL X.shop)) (by show _ < 29; omega)).put 10 (.string (ofL X.to)) (by show _ < 29; omega)).put 11 (.bool X.up) (by show _ < 29; omega)).put 12 (.string (ofL X.key)) (by show _ < 29; omega)).put 13 (.slice A X.want.length c) (by show _ < 29; omega)).put 14 (.bool X.all) (by show _ < 29; omega)))
   have c9 := HM3.out.m.cs 9 _ rfl
   have c10 := HM3.out.m.cs 10 _ rfl
   have c11 := HM3.out.m.cs 11 _ rfl
   have c12 := HM3.out.m.cs 12 _ rfl
   have c13 := HM3.out.m.cs 13 _ rfl
   have c14 := HM3.out.m.cs 14 _ rfl
   have c0 : u3.cell? ⟨g, 0, none⟩ = some (.int .u8 (n : Int)) := HM3.out.m.cs 0 _ rfl
   have cl := HM3.out.m.lt
   have cf : ∀ j, u3.frozen? ⟨g, j, none⟩ = false := HM3.out.m.s
   go_wp2_with fail
   generalize ((((((u3.setCell ⟨g, 9, none⟩ (.string (ofL X.shop))).setCell ⟨g, 10, none⟩ (.string (ofL X.to))).setCell ⟨g, 11, none⟩ (.bool X.up)).setCell ⟨g, 12, none⟩ (.string (ofL X.key))).setCell ⟨g, 13, none⟩ (.slice A X.want.length c)).setCell ⟨g, 14, none⟩ (.bool X.all)) = v3 at *
   clear c0 c9 c10 c11 c12 c13 c14 cl cf HM3 HS2
   have c0 : v3.cell? ⟨g, 0, none⟩ = some (.int .u8 (n : Int)) := HS3.out.m.cs 0 _ rfl
   refine (HNM.out _).mono ?_
   rintro e w9 ⟨rfl, rfl⟩
   go_upto_region 31 with fail
   clear c0
   rw [HZS.out] at HS3
   go_wp2_with (first | (refine HS3.out.ldR (by rfl) _ (by rfl) (by rfl) ?_) | (refine HS3.out.stR (by rfl) _ _ (by rfl) (by rfl) (by rfl) ?_))
   obtain ⟨hF, hI, hG, hP⟩ := HS3.out.ends (deL ({ De.of n t with bind := X } : De) A c none 0) rfl
   generalize v3.setCells w.heap.size 0 (deL ({ De.of n t with bind := X } : De) A c none 0) = WW at *
   exact bodyPost_ret (by simp [results, Tryz.results31, asAddr]; exact rde_res _ _ _ _ _ _ _ hF.cs) rfl ⟨A, c, none, 0, rfl, HC.out, Nat.le_refl _, hP.1, Prs.nil _ _, hI, hG, hP.2, (fun a ha => by cases ha)⟩
 ·have H3 := hid h3
  have HNM := hid hnm
  clear h3 hnm
  clear HCL
  go_wp2_with fail
  clear c0 cl cf
  refine (H3.out _ HS2.out.ri).mono ?_
  rintro e u3 ⟨A, c, rfl, hc, hp, hi, hg, hA⟩
  have HM3 := hid (HS2.out.moved hi hg)
  have HR := hid (HS2.out.rowOk hg hp hA)
  have HC := hid hc
  clear hi hg hc hp hA
  have HS3 := hid (show RdX w R b (g) ZS (deL ({ De.of n t with mail := M } : De) none 0 A c) A (M.head) sf (((((((u3.setCell ⟨g, 21, none⟩ (.int .u64 (M.id : Int))).setCell ⟨g, 22, none⟩ (.string (ofL M.shop))).setCell ⟨g, 23, none⟩ (.string (ofL M.key))).setCell ⟨g, 24, none⟩ (.slice A M.head.length c)).setCell ⟨g, 25, none⟩ (.string (ofL M.body))).setCell ⟨g, 26, none⟩ (.int .u64 (M.due : Int))).setCell ⟨g, 27, none⟩ (.int .u8 (M.hops : Int))) from ((((((((HM3.out.take HR.out.1 HR.out.2).put 21 (.int .u64 (M.id : Int)) (by show _ < 29; omega)).put 22 (.string (ofL M.shop)) (by show _ < 29; omega)).put 23 (.string (ofL M.key)) (by show _ < 29; omega)).put 24 (.slice A M.head.length c) (by show _ < 29; omega)).put 25 (.string (ofL M.body)) (by show _ < 29; omega)).put 26 (.int .u64 (M.due : Int)) (by show _ < 29; omega)).put 27 (.int .u8 (M.hops : Int)) (by show _ < 29; omega)))
  have c21 := HM3.out.m.cs 21 _ rfl
  have c22 := HM3.out.m.cs 22 _ rfl
  have c23 := HM3.out.m.cs 23 _ rfl
  have c24 := HM3.out.m.cs 24 _ rfl
  have c25 := HM3.out.m.cs 25 _ rfl
  have c26 := HM3.out.m.cs 26 _ rfl
  have c27 := HM3.out.m.cs 27 _ rfl
  have c0 : u3.cell? ⟨g, 0, none⟩ = some (.int .u8 (n : Int)) := HM3.out.m.cs 0 _ rfl
  have cl := HM3.out.m.lt
  have cf : ∀ j, u3.frozen? ⟨g, j, none⟩ = false := HM3.out.m.s
  go_wp2_with fail
  generalize (((((((u3.setCell ⟨g, 21, none⟩ (.int .u64 (M.id : Int))).setCell ⟨g, 22, none⟩ (.string (ofL M.shop))).setCell ⟨g, 23, none⟩ (.string (ofL M.key))).setCell ⟨g, 24, none⟩ (.slice A M.head.length c)).setCell ⟨g, 25, none⟩ (.string (ofL M.body))).setCell ⟨g, 26, none⟩ (.int .u64 (M.due : Int))).setCell ⟨g, 27, none⟩ (.int .u8 (M.hops : Int))) = v3 at *
  clear c0 c21 c22 c23 c24 c25 c26 c27 cl cf HM3 HS2
  have c0 : v3.cell? ⟨g, 0, none⟩ = some (.int .u8 (n : Int)) := HS3.out.m.cs 0 _ rfl
  refine (HNM.out _).mono ?_
  rintro e w9 ⟨rfl, rfl⟩
  go_upto_region 31 with fail
  clear c0
  rw [HZS.out] at HS3
  go_wp2_with (first | (refine HS3.out.ldR (by rfl) _ (by rfl) (by rfl) ?_) | (refine HS3.out.stR (by rfl) _ _ (by rfl) (by rfl) (by rfl) ?_))
  obtain ⟨hF, hI, hG, hP⟩ := HS3.out.ends (deL ({ De.of n t with mail := M } : De) none 0 A c) rfl
  generalize v3.setCells w.heap.size 0 (deL ({ De.of n t with mail := M } : De) none 0 A c) = WW at *
  exact bodyPost_ret (by simp [results, Tryz.results31, asAddr]; exact rde_res _ _ _ _ _ _ _ hF.cs) rfl ⟨none, 0, A, c, rfl, Nat.le_refl _, HC.out, Prs.nil _ _, hP.1, hI, hG, (fun a ha => by cases ha), hP.2⟩
 ·have H3 := hid h3
  have H4 := hid h4
  have H5 := hid h5
  have HNM := hid hnm
  clear h3 h4 h5 hnm
  clear HCL
  go_wp2_with fail
  clear c0 cl cf
  refine (H3.out _ HS2.out.ri).mono ?_
  rintro e u3 ⟨rfl, hi, hg⟩
  have HM3 := hid (HS2.out.moved hi hg)
  clear hi hg
  have HS3 := hid (show RdX w R b (g) ZS (deL ({ De.of n t with name := N } : De) none 0 none 0) none ([]) s3 (u3.setCell ⟨g, 15, none⟩ (.string (ofL N))) from (HM3.out.put 15 (.string (ofL N)) (by show _ < 29; omega)))
  have c15 := HM3.out.m.cs 15 _ rfl
  have cl := HM3.out.m.lt
  have cf : ∀ j, u3.frozen? ⟨g, j, none⟩ = false := HM3.out.m.s
  go_wp2_with fail
  generalize (u3.setCell ⟨g, 15, none⟩ (.string (ofL N))) = v3 at *
  clear c15 cl cf HM3 HS2
  refine (H4.out _ HS3.out.ri).mono ?_
  rintro e u4 ⟨rfl, hi, hg⟩
  have HM4 := hid (HS3.out.moved hi hg)
  clear hi hg
  have HS4 := hid (show RdX w R b (g) ZS (deL ({ De.of n t with name := N, id := I } : De) none 0 none 0) none ([]) s4 (u4.setCell ⟨g, 16, none⟩ (.int .u64 (I : Int))) from (HM4.out.put 16 (.int .u64 (I : Int)) (by show _ < 29; omega)))
  have c16 := HM4.out.m.cs 16 _ rfl
  have cl := HM4.out.m.lt
  have cf : ∀ j, u4.frozen? ⟨g, j, none⟩ = false := HM4.out.m.s
  go_wp2_with fail
  generalize (u4.setCell ⟨g, 16, none⟩ (.int .u64 (I : Int))) = v4 at *
  clear c16 cl cf HM4 HS3
  refine (H5.out _ HS4.out.ri).mono ?_
  rintro e u5 ⟨rfl, hi, hg⟩
  have HM5 := hid (HS4.out.moved hi hg)
  clear hi hg
  have HS5 := hid (show RdX w R b (g) ZS (deL ({ De.of n t with name := N, id := I, how := O } : De) none 0 none 0) none ([]) sf (u5.setCell ⟨g, 17, none⟩ (.int .u8 (O : Int))) from (HM5.out.put 17 (.int .u8 (O : Int)) (by show _ < 29; omega)))
  have c17 := HM5.out.m.cs 17 _ rfl
  have c0 : u5.cell? ⟨g, 0, none⟩ = some (.int .u8 (n : Int)) := HM5.out.m.cs 0 _ rfl
  have cl := HM5.out.m.lt
  have cf : ∀ j, u5.frozen? ⟨g, j, none⟩ = false := HM5.out.m.s
  go_wp2_with fail
  generalize (u5.setCell ⟨g, 17, none⟩ (.int .u8 (O : Int))) = v5 at *
  clear c0 c17 cl cf HM5 HS4
  have c0 : v5.cell? ⟨g, 0, none⟩ = some (.int .u8 (n : Int)) := HS5.out.m.cs 0 _ rfl
  refine (HNM.out _).mono ?_
  rintro e w9 ⟨rfl, rfl⟩
  go_upto_region 31 with fail
  clear c0
  rw [HZS.out] at HS5
  go_wp2_with (first | (refine HS5.out.ldR (by rfl) _ (by rfl) (by rfl) ?_) | (refine HS5.out.stR (by rfl) _ _ (by rfl) (by rfl) (by rfl) ?_))
  obtain ⟨hF, hI, hG, hP⟩ := HS5.out.ends (deL ({ De.of n t with name := N, id := I, how := O } : De) none 0 none 0) rfl
  generalize v5.setCells w.heap.size 0 (deL ({ De.of n t with name := N, id := I, how := O } : De) none 0 none 0) = WW at *
  exact bodyPost_ret (by simp [results, Tryz.results31, asAddr]; exact rde_res _ _ _ _ _ _ _ hF.cs) rfl ⟨none, 0, none, 0, rfl, Nat.le_refl _, Nat.le_refl _, Prs.nil _ _, Prs.nil _ _, hI, hG, (fun a ha => by cases ha), (fun a ha => by cases ha)⟩
 ·have H3 := hid h3
  have H4 := hid h4
  have H5 := hid h5
  have HNM := hid hnm
  clear h3 h4 h5 hnm
  clear HCL
  go_wp2_with fail
  clear c0 cl cf
  refine (H3.out _ HS2.out.ri).mono ?_
  rintro e u3 ⟨rfl, hi, hg⟩
  have HM3 := hid (HS2.out.moved hi hg)
  clear hi hg
  have HS3 := hid (show RdX w R b (g) ZS (deL ({ De.of n t with frm := F } : De) none 0 none 0) none ([]) s3 (u3.setCell ⟨g, 18, none⟩ (.int .u8 (F : Int))) from (HM3.out.put 18 (.int .u8 (F : Int)) (by show _ < 29; omega)))
  have c18 := HM3.out.m.cs 18 _ rfl
  have cl := HM3.out.m.lt
  have cf : ∀ j, u3.frozen? ⟨g, j, none⟩ = false := HM3.out.m.s
  go_wp2_with fail
  generalize (u3.setCell ⟨g, 18, none⟩ (.int .u8 (F : Int))) = v3 at *
  clear c18 cl cf HM3 HS2
  refine (H4.out _ HS3.out.ri).mono ?_
  rintro e u4 ⟨rfl, hi, hg⟩
  have HM4 := hid (HS3.out.moved hi hg)
  clear hi hg
  have HS4 := hid (show RdX w R b (g) ZS (deL ({ De.of n t with frm := F, num := I } : De) none 0 none 0) none ([]) s4 (u4.setCell ⟨g, 20, none⟩ (.int .u64 (I : Int))) from (HM4.out.put 20 (.int .u64 (I : Int)) (by show _ < 29; omega)))
  have c20 := HM4.out.m.cs 20 _ rfl
  have cl := HM4.out.m.lt
  have cf : ∀ j, u4.frozen? ⟨g, j, none⟩ = false := HM4.out.m.s
  go_wp2_with fail
  generalize (u4.setCell ⟨g, 20, none⟩ (.int .u64 (I : Int))) = v4 at *
  clear c20 cl cf HM4 HS3
  refine (H5.out _ HS4.out.ri).mono ?_
  rintro e u5 ⟨A, c, rfl, hc, hp, hi, hg, hA⟩
  have HM5 := hid (HS4.out.moved hi hg)
  have HR := hid (HS4.out.rowOk hg hp hA)
  have HC := hid hc
  clear hi hg hc hp hA
  have HS5 := hid (show RdX w R b (g) ZS (deL ({ De.of n t with frm := F, num := I, mail := M } : De) none 0 A c) A (M.head) sf (((((((u5.setCell ⟨g, 21, none⟩ (.int .u64 (M.id : Int))).setCell ⟨g, 22, none⟩ (.string (ofL M.shop))).setCell ⟨g, 23, none⟩ (.string (ofL M.key))).setCell ⟨g, 24, none⟩ (.slice A M.head.length c)).setCell ⟨g, 25, none⟩ (.string (ofL M.body))).setCell ⟨g, 26, none⟩ (.int .u64 (M.due : Int))).setCell ⟨g, 27, none⟩ (.int .u8 (M.hops : Int))) from ((((((((HM5.out.take HR.out.1 HR.out.2).put 21 (.int .u64 (M.id : Int)) (by show _ < 29; omega)).put 22 (.string (ofL M.shop)) (by show _ < 29; omega)).put 23 (.string (ofL M.key)) (by show _ < 29; omega)).put 24 (.slice A M.head.length c) (by show _ < 29; omega)).put 25 (.string (ofL M.body)) (by show _ < 29; omega)).put 26 (.int .u64 (M.due : Int)) (by show _ < 29; omega)).put 27 (.int .u8 (M.hops : Int)) (by show _ < 29; omega)))
  have c21 := HM5.out.m.cs 21 _ rfl
  have c22 := HM5.out.m.cs 22 _ rfl
  have c23 := HM5.out.m.cs 23 _ rfl
  have c24 := HM5.out.m.cs 24 _ rfl
  have c25 := HM5.out.m.cs 25 _ rfl
  have c26 := HM5.out.m.cs 26 _ rfl
  have c27 := HM5.out.m.cs 27 _ rfl
  have c0 : u5.cell? ⟨g, 0, none⟩ = some (.int .u8 (n : Int)) := HM5.out.m.cs 0 _ rfl
  have cl := HM5.out.m.lt
  have cf : ∀ j, u5.frozen? ⟨g, j, none⟩ = false := HM5.out.m.s
  go_wp2_with fail
  generalize (((((((u5.setCell ⟨g, 21, none⟩ (.int .u64 (M.id : Int))).setCell ⟨g, 22, none⟩ (.string (ofL M.shop))).setCell ⟨g, 23, none⟩ (.string (ofL M.key))).setCell ⟨g, 24, none⟩ (.slice A M.head.length c)).setCell ⟨g, 25, none⟩ (.string (ofL M.body))).setCell ⟨g, 26, none⟩ (.int .u64 (M.due : Int))).setCell ⟨g, 27, none⟩ (.int .u8 (M.hops : Int))) = v5 at *
  clear c0 c21 c22 c23 c24 c25 c26 c27 cl cf HM5 HS4
  have c0 : v5.cell? ⟨g, 0, none⟩ = some (.int .u8 (n : Int)) := HS5.out.m.cs 0 _ rfl
  refine (HNM.out _).mono ?_
  rintro e w9 ⟨rfl, rfl⟩
  go_upto_region 31 with fail
  clear c0
  rw [HZS.out] at HS5
  go_wp2_with (first | (refine HS5.out.ldR (by rfl) _ (by rfl) (by rfl) ?_) | (refine HS5.out.stR (by rfl) _ _ (by rfl) (by rfl) (by rfl) ?_))
  obtain ⟨hF, hI, hG, hP⟩ := HS5.out.ends (deL ({ De.of n t with frm := F, num := I, mail := M } : De) none 0 A c) rfl
  generalize v5.setCells w.heap.size 0 (deL ({ De.of n t with frm := F, num := I, mail := M } : De) none 0 A c) = WW at *
  exact bodyPost_ret (by simp [results, Tryz.results31, asAddr]; exact rde_res _ _ _ _ _ _ _ hF.cs) rfl ⟨none, 0, A, c, rfl, Nat.le_refl _, HC.out, Prs.nil _ _, hP.1, hI, hG, (fun a ha => by cases ha), hP.2⟩
 ·have H3 := hid h3
  have H4 := hid h4
  have HNM := hid hnm
  clear h3 h4 hnm
  clear HCL
  go_wp2_with fail
  clear c0 cl cf
  refine (H3.out _ HS2.out.ri).mono ?_
  rintro e u3 ⟨rfl, hi, hg⟩
  have HM3 := hid (HS2.out.moved hi hg)
  clear hi hg
  have HS3 := hid (show RdX w R b (g) ZS (deL ({ De.of n t with cd := F } : De) none 0 none 0) none ([]) s3 (u3.setCell ⟨g, 19, none⟩ (.int .u8 (F : Int))) from (HM3.out.put 19 (.int .u8 (F : Int)) (by show _ < 29; omega)))
  have c19 := HM3.out.m.cs 19 _ rfl
  have cl := HM3.out.m.lt
  have cf : ∀ j, u3.frozen? ⟨g, j, none⟩ = false := HM3.out.m.s
  go_wp2_with fail
  generalize (u3.setCell ⟨g, 19, none⟩ (.int .u8 (F : Int))) = v3 at *
  clear c19 cl cf HM3 HS2
  refine (H4.out _ HS3.out.ri).mono ?_
  rintro e u4 ⟨rfl, hi, hg⟩
  have HM4 := hid (HS3.out.moved hi hg)
  clear hi hg
  have HS4 := hid (show RdX w R b (g) ZS (deL ({ De.of n t with cd := F, text := N } : De) none 0 none 0) none ([]) sf (u4.setCell ⟨g, 28, none⟩ (.string (ofL N))) from (HM4.out.put 28 (.string (ofL N)) (by show _ < 29; omega)))
  have c28 := HM4.out.m.cs 28 _ rfl
  have c0 : u4.cell? ⟨g, 0, none⟩ = some (.int .u8 (n : Int)) := HM4.out.m.cs 0 _ rfl
  have cl := HM4.out.m.lt
  have cf : ∀ j, u4.frozen? ⟨g, j, none⟩ = false := HM4.out.m.s
  go_wp2_with fail
  generalize (u4.setCell ⟨g, 28, none⟩ (.string (ofL N))) = v4 at *
  clear c0 c28 cl cf HM4 HS3
  have c0 : v4.cell? ⟨g, 0, none⟩ = some (.int .u8 (n : Int)) := HS4.out.m.cs 0 _ rfl
  refine (HNM.out _).mono ?_
  rintro e w9 ⟨rfl, rfl⟩
  go_upto_region 31 with fail
  clear c0
  rw [HZS.out] at HS4
  go_wp2_with (first | (refine HS4.out.ldR (by rfl) _ (by rfl) (by rfl) ?_) | (refine HS4.out.stR (by rfl) _ _ (by rfl) (by rfl) (by rfl) ?_))
  obtain ⟨hF, hI, hG, hP⟩ := HS4.out.ends (deL ({ De.of n t with cd := F, text := N } : De) none 0 none 0) rfl
  generalize v4.setCells w.heap.size 0 (deL ({ De.of n t with cd := F, text := N } : De) none 0 none 0) = WW at *
  exact bodyPost_ret (by simp [results, Tryz.results31, asAddr]; exact rde_res _ _ _ _ _ _ _ hF.cs) rfl ⟨none, 0, none, 0, rfl, Nat.le_refl _, Nat.le_refl _, Prs.nil _ _, Prs.nil _ _, hI, hG, (fun a ha => by cases ha), (fun a ha => by cases ha)⟩
 ·have HNM := hid hnm
  clear hnm
  clear HCL
  go_wp2_with fail
  refine (HNM.out _).mono ?_
  rintro e w9 ⟨rfl, rfl⟩
  go_upto_region 31 with fail
  clear c0 cl cf
  rw [HZS.out] at HS2
  go_wp2_with (first | (refine HS2.out.ldR (by rfl) _ (by rfl) (by rfl) ?_) | (refine HS2.out.stR (by rfl) _ _ (by rfl) (by rfl) (by rfl) ?_))
  obtain ⟨hF, hI, hG, hP⟩ := HS2.out.ends (deL (De.of n t) none 0 none 0) rfl
  generalize v2.setCells w.heap.size 0 (deL (De.of n t) none 0 none 0) = WW at *
  exact bodyPost_ret (by simp [results, Tryz.results31, asAddr]; exact rde_res _ _ _ _ _ _ _ hF.cs) rfl ⟨none, 0, none, 0, rfl, Nat.le_refl _, Nat.le_refl _, Prs.nil _ _, Prs.nil _ _, hI, hG, (fun a ha => by cases ha), (fun a ha => by cases ha)⟩
theorem r22read_any (b : Nat) (S : ByteArray) (hS : S.size ≤ 1000000) (s : LSt) (w : World) (h : RefL b S s w) (hok : lOk s) : Calls Tryz.prog 31 #[.pointer (some ⟨b, 0, none⟩)] w (DeRd (RefL b S) b w (De.rd s).1 (De.rd s).2) := by
 have o0 := De.ok_r0 hok
 have g := fun sf D hc => r22read_core b (RefL b S) (rdr_ref b S) s (De.r1 s) (De.r0 s) sf (De.rt s) (De.rk s) (w8_of (De.n1_lt _)) D w (fun W h => rinum_l b S s 1 1 W (by omega) rfl h hS) (fun W h => rinum_l b S _ 8 8 W (by omega) rfl h hS) hc h
 by_cases hk : De.rk s = 0
 ·have e : De.rd s = (({ De.of (De.rk s) (De.rt s) with shop := ⟨lTextOut (De.r0 s) 16, De.n1 (lText (De.r0 s) 16), lTextOut (De.r1 (lText (De.r0 s) 16)) 16⟩ } : De), lText (De.r1 (lText (De.r0 s) 16)) 16) := De.rdK_0 hk
  rw [e]
  dsimp only
  exact g _ _ (.inl ⟨lTextOut (De.r0 s) 16, lTextOut (De.r1 (lText (De.r0 s) 16)) 16, De.n1 (lText (De.r0 s) 16), lText (De.r0 s) 16, De.r1 (lText (De.r0 s) 16), (w8_of (De.n1_lt _)), eq_dec hk, nm_of (names_no (by omega) (by omega) (by omega) (by omega)), (fun W h => ritext_l b S _ 16 W h hS), (fun W h => rinum_l b S _ 1 1 W (by omega) rfl h hS), (fun W h => ritext_l b S _ 16 W h hS), rfl⟩)
 have k0 := hk
 clear hk
 by_cases hk : De.rk s = 1 ∨ De.rk s = 3 ∨ De.rk s = 7
 ·have e : De.rd s = (({ De.of (De.rk s) (De.rt s) with name := lTextOut (De.r0 s) 16 } : De), lText (De.r0 s) 16) := De.rdK_3 (by omega) (by omega) (by omega) hk
  rw [e]
  dsimp only
  exact g _ _ (.inr (.inl ⟨lTextOut (De.r0 s) 16, ne_dec (m := 0) (by omega), ne_dec (m := 2) (by omega), ne_dec (m := 4) (by omega), ne_dec (m := 5) (by omega), ne_dec (m := 6) (by omega), ne_dec (m := 8) (by omega), ne_dec (m := 10) (by omega), ne_dec (m := 12) (by omega), x8_yes (by omega), nm_of (names_yes (by omega)), (fun W h => ritext_l b S _ 16 W h hS), rfl⟩))
 have k1 := hk
 clear hk
 by_cases hk : De.rk s = 2
 ·have e : De.rd s = (({ De.of (De.rk s) (De.rt s) with q := ⟨lTextOut (De.r0 s) 16, De.n8 (lText (De.r0 s) 16), De.n8 (De.r8 (lText (De.r0 s) 16)), lTextOut (De.r8 (De.r8 (lText (De.r0 s) 16))) 16⟩ } : De), lText (De.r8 (De.r8 (lText (De.r0 s) 16))) 16) := De.rdK_1 (by omega) hk
  rw [e]
  dsimp only
  exact g _ _ (.inr (.inr (.inl ⟨lTextOut (De.r0 s) 16, lTextOut (De.r8 (De.r8 (lText (De.r0 s) 16))) 16, De.n8 (lText (De.r0 s) 16), De.n8 (De.r8 (lText (De.r0 s) 16)), lText (De.r0 s) 16, De.r8 (lText (De.r0 s) 16), De.r8 (De.r8 (lText (De.r0 s) 16)), ne_dec (m := 0) (by omega), eq_dec hk, nm_of (names_no (by omega) (by omega) (by omega) (by omega)), (fun W h => ritext_l b S _ 16 W h hS), (fun W h => rinum_l b S _ 8 8 W (by omega) rfl h hS), (fun W h => rinum_l b S _ 8 8 W (by omega) rfl h hS), (fun W h => ritext_l b S _ 16 W h hS), rfl⟩)))
 have k2 := hk
 clear hk
 by_cases hk : De.rk s = 4 ∨ De.rk s = 5
 ·have e : De.rd s = (({ De.of (De.rk s) (De.rt s) with bind := De.bdA (De.r0 s) } : De), De.bdR (De.r0 s)) := De.rdK_2 (by omega) (by omega) hk
  rw [e]
  dsimp only
  exact g _ _ (.inr (.inr (.inr (.inl ⟨De.bdA (De.r0 s), ne_dec (m := 0) (by omega), ne_dec (m := 2) (by omega), by rcases hk with h | h; exact .inl (eq_dec h); exact .inr ⟨ne_dec (m := 4) (by omega), eq_dec h⟩, nm_of (names_no (by omega) (by omega) (by omega) (by omega)), (fun W h => r22bind_any b S hS _ W h o0), rfl⟩))))
 have k4 := hk
 clear hk
 by_cases hk : De.rk s = 6
 ·have e : De.rd s = (({ De.of (De.rk s) (De.rt s) with mail := (Ml.rd (De.r0 s)).1 } : De), (Ml.rd (De.r0 s)).2) := De.rdK_4 (by omega) (by omega) (by omega) (by omega) hk
  rw [e]
  dsimp only
  exact g _ _ (.inr (.inr (.inr (.inr (.inl ⟨(Ml.rd (De.r0 s)).1, ne_dec (m := 0) (by omega), ne_dec (m := 2) (by omega), ne_dec (m := 4) (by omega), ne_dec (m := 5) (by omega), eq_dec hk, nm_of (names_no (by omega) (by omega) (by omega) (by omega)), (fun W h => r13Read_any b S _ W o0 hS h), rfl⟩)))))
 have k6 := hk
 clear hk
 by_cases hk : De.rk s = 8
 ·have e : De.rd s = (({ De.of (De.rk s) (De.rt s) with name := lTextOut (De.r0 s) 16, id := De.n8 (lText (De.r0 s) 16), how := De.n1 (De.r8 (lText (De.r0 s) 16)) } : De), De.r1 (De.r8 (lText (De.r0 s) 16))) := De.rdK_5 (by omega) (by omega) (by omega) (by omega) (by omega) hk
  rw [e]
  dsimp only
  exact g _ _ (.inr (.inr (.inr (.inr (.inr (.inl ⟨lTextOut (De.r0 s) 16, De.n8 (lText (De.r0 s) 16), De.n1 (De.r8 (lText (De.r0 s) 16)), lText (De.r0 s) 16, De.r8 (lText (De.r0 s) 16), (w8_of (De.n1_lt _)), ne_dec (m := 0) (by omega), ne_dec (m := 2) (by omega), ne_dec (m := 4) (by omega), ne_dec (m := 5) (by omega), ne_dec (m := 6) (by omega), eq_dec hk, x8_no hk, nm_of (names_yes (by omega)), (fun W h => ritext_l b S _ 16 W h hS), (fun W h => rinum_l b S _ 8 8 W (by omega) rfl h hS), (fun W h => rinum_l b S _ 1 1 W (by omega) rfl h hS), rfl⟩))))))
 have k8 := hk
 clear hk
 by_cases hk : De.rk s = 10
 ·have e : De.rd s = (({ De.of (De.rk s) (De.rt s) with frm := De.n1 (De.r0 s), num := De.n8 (De.r1 (De.r0 s)), mail := (Ml.rd (De.r8 (De.r1 (De.r0 s)))).1 } : De), (Ml.rd (De.r8 (De.r1 (De.r0 s)))).2) := De.rdK_6 (by omega) (by omega) (by omega) (by omega) (by omega) (by omega) hk
  rw [e]
  dsimp only
  exact g _ _ (.inr (.inr (.inr (.inr (.inr (.inr (.inl ⟨De.n1 (De.r0 s), De.n8 (De.r1 (De.r0 s)), (Ml.rd (De.r8 (De.r1 (De.r0 s)))).1, De.r1 (De.r0 s), De.r8 (De.r1 (De.r0 s)), (w8_of (De.n1_lt _)), ne_dec (m := 0) (by omega), ne_dec (m := 2) (by omega), ne_dec (m := 4) (by omega), ne_dec (m := 5) (by omega), ne_dec (m := 6) (by omega), ne_dec (m := 8) (by omega), eq_dec hk, nm_of (names_no (by omega) (by omega) (by omega) (by omega)), (fun W h => rinum_l b S _ 1 1 W (by omega) rfl h hS), (fun W h => rinum_l b S _ 8 8 W (by omega) rfl h hS), (fun W h => r13Read_any b S _ W (De.ok_r8 (De.ok_r1 o0)) hS h), rfl⟩)))))))
 have k10 := hk
 clear hk
 by_cases hk : De.rk s = 12
 ·have e : De.rd s = (({ De.of (De.rk s) (De.rt s) with cd := De.n1 (De.r0 s), text := lTextOut (De.r1 (De.r0 s)) 64 } : De), lText (De.r1 (De.r0 s)) 64) := De.rdK_7 (by omega) (by omega) (by omega) (by omega) (by omega) (by omega) (by omega) hk
  rw [e]
  dsimp only
  exact g _ _ (.inr (.inr (.inr (.inr (.inr (.inr (.inr (.inl ⟨De.n1 (De.r0 s), lTextOut (De.r1 (De.r0 s)) 64, De.r1 (De.r0 s), (w8_of (De.n1_lt _)), ne_dec (m := 0) (by omega), ne_dec (m := 2) (by omega), ne_dec (m := 4) (by omega), ne_dec (m := 5) (by omega), ne_dec (m := 6) (by omega), ne_dec (m := 8) (by omega), ne_dec (m := 10) (by omega), eq_dec hk, nm_of (names_no (by omega) (by omega) (by omega) (by omega)), (fun W h => rinum_l b S _ 1 1 W (by omega) rfl h hS), (fun W h => ritext_l b S _ 64 W h hS), rfl⟩))))))))
 have k12 := hk
 clear hk
 have e : De.rd s = ((De.of (De.rk s) (De.rt s)), (De.r0 s)) := De.rdK_8 (by omega) (by omega) (by omega) (by omega) (by omega) (by omega) (by omega) (by omega)
 rw [e]
 dsimp only
 exact g _ _ (.inr (.inr (.inr (.inr (.inr (.inr (.inr (.inr ⟨ne_dec (m := 0) (by omega), ne_dec (m := 2) (by omega), ne_dec (m := 4) (by omega), ne_dec (m := 5) (by omega), ne_dec (m := 6) (by omega), ne_dec (m := 8) (by omega), ne_dec (m := 10) (by omega), ne_dec (m := 12) (by omega), nm_of (names_no (by omega) (by omega) (by omega) (by omega)), rfl, rfl⟩))))))))
end Go.Proofs.YtaikigponkjkgaaGreatDoor
end
