/-
  WHEN WHAT LIVES SO LONG IS GONE: walked, the program's and the document's. WHAT IS WRITTEN OF A DEED, piece by piece: the program's, walked. A BINDING WRITTEN, the program's: walked. WHAT A DEED TELLS BY ITS KIND: walked. SOME OF A BOOK's BINDINGS KEPT, by a closure: walked. AN EXCHANGE TAKEN OUT OF ITS LIST: slices.DeleteFunc, walked. BINDINGS THAT ARE THERE; an exchange dropped, a binding taken out, a queue forgotten: walked.
-/
import Derived.Test.YtgaggelpjaiabaaGreatDoorSp02
import Derived.Test.YtgaggelpjaiabaaGreatDoorSp05
import Derived.Test.YtgaggelpjaiabaaGreatDoorSp14
import Derived.Test.YtgaggelpjaiabaaGreatDoorSp17
import Derived.Test.YtgaggelpjaiabaaGreatDoorSp18
import Derived.Test.YtgaggelpjaiabaaGreatDoorSp32
import Derived.Deep.RegionHeld3
import Derived.Deep.DeepCutAuto
import Derived.Great.BuildSlice
section
namespace Go.Proofs.YtgaggelpjaiabaaGreatDoor
open Go.ChangeShapes Go.WideShapes Go.ChangeAt Go.RowKit
def lifeN (t l : Nat) : Nat := if l = 0 ∨ 18446744073709551616 ≤ t + l then 0 else t + l
theorem life_0 (t : Nat) : lifeN t 0 = 0 := by unfold lifeN; rw [if_pos (Or.inl rfl)]
theorem life_big {t l : Nat} (h : 18446744073709551616 ≤ t + l) : lifeN t l = 0 := by unfold lifeN; rw [if_pos (Or.inr h)]
theorem life_some {t l : Nat} (h : l ≠ 0) (h2 : t + l < 18446744073709551616) : lifeN t l = t + l := by unfold lifeN; rw [if_neg (by omega)]
set_option maxRecDepth 100000 in
theorem drLife_any (t l : Nat) (w : World) (ht : t < 18446744073709551616) (hl : l < 18446744073709551616) : Calls Tryz.prog 78 #[.int .u64 (t : Int), .int .u64 (l : Int)] w fun e w' => e = .returned (.int .u64 (lifeN t l : Int)) ∧ w = w' := by
  by_cases h0 : l = 0
  · subst h0
    rw [life_0]
    have hw : IntKind.u64.wrap ((t : Int) + 0) = (t : Int) := by rw [IntKind.wrap_u64]; omega
    have hw2 : IntKind.u64.wrap (t : Int) = (t : Int) := by rw [IntKind.wrap_u64]; omega
    go_enter Tryz.func78, Tryz.ntmps78
    go_wp2_with fail
    go_ret
    exact ⟨rfl, rfl⟩
  · have hz : ((l : Int) == 0) = false := beq_eq_false_iff_ne.2 (by omega)
    by_cases hb : 18446744073709551616 ≤ t + l
    · have HE := Lib.hid (life_big hb)
      have hw : IntKind.u64.wrap ((t : Int) + (l : Int)) = ((t + l - 18446744073709551616 : Nat) : Int) := by rw [IntKind.wrap_u64]; omega
      have hlt : t + l - 18446744073709551616 < t := by omega
      generalize t + l - 18446744073709551616 = v at *
      have hd : decide ((v : Int) < (t : Int)) = true := decide_eq_true (by omega)
      clear hb ht hl h0
      go_enter Tryz.func78, Tryz.ntmps78
      go_wp2_with fail
      go_ret
      exact ⟨by rw [HE.out]; rfl, rfl⟩
    · have HE := Lib.hid (life_some h0 (Nat.lt_of_not_le hb))
      have hw : IntKind.u64.wrap ((t : Int) + (l : Int)) = ((t + l : Nat) : Int) := by rw [IntKind.wrap_u64]; omega
      have hlt : ¬ t + l < t := by omega
      generalize t + l = v at *
      have hd : decide ((v : Int) < (t : Int)) = false := decide_eq_false (by omega)
      clear hb ht hl h0
      go_enter Tryz.func78, Tryz.ntmps78
      go_wp2_with fail
      go_ret
      exact ⟨by rw [HE.out]; rfl, rfl⟩
end Go.Proofs.YtgaggelpjaiabaaGreatDoor
end
section
namespace Go.Proofs.YtgaggelpjaiabaaGreatDoor
open Go.ChangeShapes Go.WideShapes Go.ChangeAt Go.RowKit
set_option maxRecDepth 100000 in
theorem ddSmall_any (y : List UInt8) (n : Nat) (w : World) (hn : n < 256) (hy : y.length ≤ 900000) : Calls Tryz.prog 188 #[.agg #[.string (ofL y), .int .i64 0], .int .u8 (n : Int)] w fun e w' => e = .returned (.agg #[.string (ofL (y ++ Oct.be 1 n)), .int .i64 0]) ∧ Below w.heap.size w w' := by
  have HN := Lib.hid (fun W => num_l y n 1 1 W (by omega) (by omega) rfl (by omega))
  have hw : IntKind.u64.wrap (n : Int) = (n : Int) := by rw [IntKind.wrap_u64]; omega
  have HB2 := Lib.hid (rtTwo w (.cells #[.string (ofL y), .int .i64 0] 168) (.cells #[.string ⟨#[]⟩, .int .i64 0] 168))
  have HR2 := Lib.hid (rtAt1 w (.cells #[.string (ofL y), .int .i64 0] 168) #[.string ⟨#[]⟩, .int .i64 0] 168)
  generalize ofL (y ++ Oct.be 1 n) = Y at *
  clear hn hy
  go_enter Tryz.func188, Tryz.ntmps188
  go_wp2_with fail
  refine (HN.out _).mono ?_
  rintro e w3 ⟨rfl, b3⟩
  have HB3 := Lib.hid (bthen HB2.out b3 (Nat.le_refl _))
  have HR3 := Lib.hid (HR2.out.on b3)
  clear b3
  have x0 := HR3.out.cs 0 _ rfl
  have x1 := HR3.out.cs 1 _ rfl
  have xl := HR3.out.lt
  have xf := HR3.out.s
  unfold Soft at xf
  go_wp2_with fail
  have hB := (HB3.out.setCell (p := ⟨w.heap.size + 1, 0, none⟩) (by show w.heap.size ≤ w.heap.size + 1; omega) (.string Y)).setCell (p := ⟨w.heap.size + 1, 1, none⟩) (by show w.heap.size ≤ w.heap.size + 1; omega) (.int .i64 0)
  have hR := (HR3.out.put 0 (.string Y) (by simp)).put 1 (.int .i64 0) (by simp)
  have g0 := hR.cs 0 _ rfl
  have g1 := hR.cs 1 _ rfl
  exact bodyPost_ret (v := .agg #[.string Y, .int .i64 0]) (by simp [results, Tryz.results188, go_sem, g0, g1]) rfl ⟨rfl, hB⟩
def bitN (b : Bool) : Nat := if b then 1 else 0
end Go.Proofs.YtgaggelpjaiabaaGreatDoor
end
section
namespace Go.Proofs.YtgaggelpjaiabaaGreatDoor
open Go.ChangeShapes Go.WideShapes Go.ChangeAt Go.RowKit
/-- its boxes: what is written so far, the binding, what is told -/
structure WbS (w : World) (x : Bd) (A : Option Addr) (c : Nat) (s t : ByteArray) (W : World) : Prop where
  o : BoxC w w.heap.size [.string s, .int .i64 0] W
  p : BoxC w (w.heap.size + 1) [.string (ofL x.shop), .string (ofL x.to), .bool x.up, .string (ofL x.key), .slice A x.want.length c, .bool x.all] W
  r : BoxC w (w.heap.size + 2) [.string t, .int .i64 0] W
  B : Below w.heap.size w W
theorem WbS.on {w : World} {x : Bd} {A : Option Addr} {c : Nat} {s t : ByteArray} {W W' : World} (h : WbS w x A c s t W) (hb : Below W.heap.size W W') : WbS w x A c s t W' := ⟨h.o.on hb, h.p.on hb, h.r.on hb, bthen h.B hb (Nat.le_refl _)⟩
def WbE (w : World) (x : Bd) (A : Option Addr) (c : Nat) (W : World) : Prop := ∃ s t, WbS w x A c s t W
theorem WbE.on {w : World} {x : Bd} {A : Option Addr} {c : Nat} {W W' : World} (h : WbE w x A c W) (hb : Below W.heap.size W W') : WbE w x A c W' := by
  obtain ⟨s, t, h⟩ := h
  exact ⟨s, t, h.on hb⟩
theorem WbS.puto {w : World} {x : Bd} {A : Option Addr} {c : Nat} {s t : ByteArray} {W : World} (h : WbS w x A c s t W) (y : ByteArray) : WbS w x A c y t ((W.setCell ⟨w.heap.size, 0, none⟩ (.string y)).setCell ⟨w.heap.size, 1, none⟩ (.int .i64 0)) :=
  ⟨(h.o.put 0 (.string y) (by simp)).put 1 (.int .i64 0) (by simp), (h.p.aside (by omega) 0 _).aside (by omega) 1 _, (h.r.aside (by omega) 0 _).aside (by omega) 1 _, (h.B.setCell (p := ⟨w.heap.size, 0, none⟩) (Nat.le_refl _) _).setCell (p := ⟨w.heap.size, 1, none⟩) (Nat.le_refl _) _⟩
def bdE (x : Bd) (y : List UInt8) : List UInt8 := y ++ (Oct.be 2 x.shop.length ++ x.shop) ++ (Oct.be 2 x.to.length ++ x.to) ++ Oct.be 1 (bitN x.up) ++ (Oct.be 2 x.key.length ++ x.key) ++ Hd.henc x.want ++ Oct.be 1 (bitN x.all)
end Go.Proofs.YtgaggelpjaiabaaGreatDoor
end
section
namespace Go.Proofs.YtgaggelpjaiabaaGreatDoor
open Go.ChangeShapes Go.WideShapes Go.ChangeAt Go.RowKit
theorem De.told_11 {x : De} (hk : x.kd = 11) : x.told = De.of 11 x.tick := by unfold De.told; simp [hk]
set_option maxRecDepth 100000 in
set_option maxHeartbeats 8000000 in
theorem ddTold_11 (x : De) (A : Option Addr) (c : Nat) (B : Option Addr) (d : Nat) (w : World) (hk : x.kd = 11) : Calls Tryz.prog 194 #[deV x A c B d] w fun e w' => e = .returned (deV x.told none 0 none 0) ∧ Below w.heap.size w w' := by
  rw [De.told_11 hk]
  obtain ⟨kd, tick, shop, q, bind, name, id, how, frm, cd, num, mail, text⟩ := x
  simp only at hk
  subst hk
  have HB2 := Lib.hid (rtTwo w (.cells #[.int .u8 11, .int .u64 (tick : Int), .string (ofL shop.name), .int .u8 (shop.sort : Int), .string (ofL shop.to), .string (ofL q.name), .int .u64 (q.most : Int), .int .u64 (q.life : Int), .string (ofL q.dead), .string (ofL bind.shop), .string (ofL bind.to), .bool bind.up, .string (ofL bind.key), .slice A bind.want.length c, .bool bind.all, .string (ofL name), .int .u64 (id : Int), .int .u8 (how : Int), .int .u8 (frm : Int), .int .u8 (cd : Int), .int .u64 (num : Int), .int .u64 (mail.id : Int), .string (ofL mail.shop), .string (ofL mail.key), .slice B mail.head.length d, .string (ofL mail.body), .int .u64 (mail.due : Int), .int .u8 (mail.hops : Int), .string (ofL text)] 111) (.cells #[.int .u8 0, .int .u64 0, .string ⟨#[]⟩, .int .u8 0, .string ⟨#[]⟩, .string ⟨#[]⟩, .int .u64 0, .int .u64 0, .string ⟨#[]⟩, .string ⟨#[]⟩, .string ⟨#[]⟩, .bool false, .string ⟨#[]⟩, .slice none 0 0, .bool false, .string ⟨#[]⟩, .int .u64 0, .int .u8 0, .int .u8 0, .int .u8 0, .int .u64 0, .int .u64 0, .string ⟨#[]⟩, .string ⟨#[]⟩, .slice none 0 0, .string ⟨#[]⟩, .int .u64 0, .int .u8 0, .string ⟨#[]⟩] 111))
  have HX2 := Lib.hid (rtNext (rtAt0 w #[.int .u8 11, .int .u64 (tick : Int), .string (ofL shop.name), .int .u8 (shop.sort : Int), .string (ofL shop.to), .string (ofL q.name), .int .u64 (q.most : Int), .int .u64 (q.life : Int), .string (ofL q.dead), .string (ofL bind.shop), .string (ofL bind.to), .bool bind.up, .string (ofL bind.key), .slice A bind.want.length c, .bool bind.all, .string (ofL name), .int .u64 (id : Int), .int .u8 (how : Int), .int .u8 (frm : Int), .int .u8 (cd : Int), .int .u64 (num : Int), .int .u64 (mail.id : Int), .string (ofL mail.shop), .string (ofL mail.key), .slice B mail.head.length d, .string (ofL mail.body), .int .u64 (mail.due : Int), .int .u8 (mail.hops : Int), .string (ofL text)] 111) (.cells #[.int .u8 0, .int .u64 0, .string ⟨#[]⟩, .int .u8 0, .string ⟨#[]⟩, .string ⟨#[]⟩, .int .u64 0, .int .u64 0, .string ⟨#[]⟩, .string ⟨#[]⟩, .string ⟨#[]⟩, .bool false, .string ⟨#[]⟩, .slice none 0 0, .bool false, .string ⟨#[]⟩, .int .u64 0, .int .u8 0, .int .u8 0, .int .u8 0, .int .u64 0, .int .u64 0, .string ⟨#[]⟩, .string ⟨#[]⟩, .slice none 0 0, .string ⟨#[]⟩, .int .u64 0, .int .u8 0, .string ⟨#[]⟩] 111))
  have HZ2 := Lib.hid (rtAt1 w (.cells #[.int .u8 11, .int .u64 (tick : Int), .string (ofL shop.name), .int .u8 (shop.sort : Int), .string (ofL shop.to), .string (ofL q.name), .int .u64 (q.most : Int), .int .u64 (q.life : Int), .string (ofL q.dead), .string (ofL bind.shop), .string (ofL bind.to), .bool bind.up, .string (ofL bind.key), .slice A bind.want.length c, .bool bind.all, .string (ofL name), .int .u64 (id : Int), .int .u8 (how : Int), .int .u8 (frm : Int), .int .u8 (cd : Int), .int .u64 (num : Int), .int .u64 (mail.id : Int), .string (ofL mail.shop), .string (ofL mail.key), .slice B mail.head.length d, .string (ofL mail.body), .int .u64 (mail.due : Int), .int .u8 (mail.hops : Int), .string (ofL text)] 111) #[.int .u8 0, .int .u64 0, .string ⟨#[]⟩, .int .u8 0, .string ⟨#[]⟩, .string ⟨#[]⟩, .int .u64 0, .int .u64 0, .string ⟨#[]⟩, .string ⟨#[]⟩, .string ⟨#[]⟩, .bool false, .string ⟨#[]⟩, .slice none 0 0, .bool false, .string ⟨#[]⟩, .int .u64 0, .int .u8 0, .int .u8 0, .int .u8 0, .int .u64 0, .int .u64 0, .string ⟨#[]⟩, .string ⟨#[]⟩, .slice none 0 0, .string ⟨#[]⟩, .int .u64 0, .int .u8 0, .string ⟨#[]⟩] 111)
  have HSZ := Lib.hid (show ((w.alloc (.cells #[.int .u8 11, .int .u64 (tick : Int), .string (ofL shop.name), .int .u8 (shop.sort : Int), .string (ofL shop.to), .string (ofL q.name), .int .u64 (q.most : Int), .int .u64 (q.life : Int), .string (ofL q.dead), .string (ofL bind.shop), .string (ofL bind.to), .bool bind.up, .string (ofL bind.key), .slice A bind.want.length c, .bool bind.all, .string (ofL name), .int .u64 (id : Int), .int .u8 (how : Int), .int .u8 (frm : Int), .int .u8 (cd : Int), .int .u64 (num : Int), .int .u64 (mail.id : Int), .string (ofL mail.shop), .string (ofL mail.key), .slice B mail.head.length d, .string (ofL mail.body), .int .u64 (mail.due : Int), .int .u8 (mail.hops : Int), .string (ofL text)] 111)).alloc (.cells #[.int .u8 0, .int .u64 0, .string ⟨#[]⟩, .int .u8 0, .string ⟨#[]⟩, .string ⟨#[]⟩, .int .u64 0, .int .u64 0, .string ⟨#[]⟩, .string ⟨#[]⟩, .string ⟨#[]⟩, .bool false, .string ⟨#[]⟩, .slice none 0 0, .bool false, .string ⟨#[]⟩, .int .u64 0, .int .u8 0, .int .u8 0, .int .u8 0, .int .u64 0, .int .u64 0, .string ⟨#[]⟩, .string ⟨#[]⟩, .slice none 0 0, .string ⟨#[]⟩, .int .u64 0, .int .u8 0, .string ⟨#[]⟩] 111)).heap.size = w.heap.size + 2 by simp)
  simp only [deV]
  go_enter Tryz.func194, Tryz.ntmps194
  go_upto_region 1 with fail
  generalize (w.alloc (.cells #[.int .u8 11, .int .u64 (tick : Int), .string (ofL shop.name), .int .u8 (shop.sort : Int), .string (ofL shop.to), .string (ofL q.name), .int .u64 (q.most : Int), .int .u64 (q.life : Int), .string (ofL q.dead), .string (ofL bind.shop), .string (ofL bind.to), .bool bind.up, .string (ofL bind.key), .slice A bind.want.length c, .bool bind.all, .string (ofL name), .int .u64 (id : Int), .int .u8 (how : Int), .int .u8 (frm : Int), .int .u8 (cd : Int), .int .u64 (num : Int), .int .u64 (mail.id : Int), .string (ofL mail.shop), .string (ofL mail.key), .slice B mail.head.length d, .string (ofL mail.body), .int .u64 (mail.due : Int), .int .u8 (mail.hops : Int), .string (ofL text)] 111)).alloc (.cells #[.int .u8 0, .int .u64 0, .string ⟨#[]⟩, .int .u8 0, .string ⟨#[]⟩, .string ⟨#[]⟩, .int .u64 0, .int .u64 0, .string ⟨#[]⟩, .string ⟨#[]⟩, .string ⟨#[]⟩, .bool false, .string ⟨#[]⟩, .slice none 0 0, .bool false, .string ⟨#[]⟩, .int .u64 0, .int .u8 0, .int .u8 0, .int .u8 0, .int .u64 0, .int .u64 0, .string ⟨#[]⟩, .string ⟨#[]⟩, .slice none 0 0, .string ⟨#[]⟩, .int .u64 0, .int .u8 0, .string ⟨#[]⟩] 111) = W2 at *
  have c0 := HX2.out.cs 0 _ rfl
  have c1 := HX2.out.cs 1 _ rfl
  have cl := HX2.out.lt
  go_upto_region 2 with (first
    | (refine wpList_buildTo (by rfl) 111 _ (by rfl) _ (by rfl) (deL (De.of 11 tick) none 0 none 0).toArray (by kernel_rfl) ?_)
    | (refine wpList_store_new2 (by rfl) 111 _ _ (by rfl) _ (deL (De.of 11 tick) none 0 none 0).toArray (by rfl) (by rfl) (by rw [de_size]; rfl) (by rfl) (de_all _ _ _ _ _) ?_))
  have hz := HSZ.out
  have HX3 := Lib.hid (rtNext HX2.out (.cells (deL (De.of 11 tick) none 0 none 0).toArray 111))
  have HZ3 := Lib.hid (rtNext HZ2.out (.cells (deL (De.of 11 tick) none 0 none 0).toArray 111))
  have HO3 := Lib.hid (BoxC.new (w := w) (W := W2) (by omega) (deL (De.of 11 tick) none 0 none 0).toArray 111)
  have HB3 := Lib.hid (bthen HB2.out (rtOne W2 (.cells (deL (De.of 11 tick) none 0 none 0).toArray 111)) (Nat.le_refl _))
  rw [hz] at HO3
  rw [hz]
  clear hz c0 c1 cl
  generalize W2.alloc (.cells (deL (De.of 11 tick) none 0 none 0).toArray 111) = W3 at *
  have c0 := HX3.out.cs 0 _ rfl
  have c1 := HX3.out.cs 1 _ rfl
  have cl := HX3.out.lt
  go_upto_region 22 with fail
  have HO4 := Lib.hid (show BoxC w (w.heap.size + 2) (deL (De.of 11 tick : De) none 0 none 0) W3 from HO3.out)
  have HZ4 := Lib.hid HZ3.out
  have HB4 := Lib.hid HB3.out
  clear c0 c1 cl 
  generalize W3 = W4 at *
  go_wp2_with (first
    | (refine wpList_load_mid (by rfl) 111 _ (by rfl) (w.heap.size + 2) 0 (by rfl) (deL (De.of 11 tick : De) none 0 none 0) _ HO4.out.cs.range Tryz.underlying111 rfl (by rw [de_size, deL_len]) ?_)
    | (refine wpList_store_mid (by rfl) 111 _ _ (by rfl) (w.heap.size + 1) 0 (deL (De.of 11 tick : De) none 0 none 0).toArray (by rfl) (by rfl) HZ4.out.there (by rw [de_size]; rfl) (de_all _ _ _ _ _) ?_))
  have HR := HZ4.out.over (deL (De.of 11 tick : De) none 0 none 0) rfl
  exact bodyPost_ret (v := deV (De.of 11 tick : De) none 0 none 0) (by simp [results, Tryz.results194, asAddr]; exact de_res _ _ _ _ _ _ _ HR.cs) rfl ⟨rfl, below_setCells (by omega) _ _ HB4.out⟩
end Go.Proofs.YtgaggelpjaiabaaGreatDoor
end
section
namespace Go.Proofs.YtgaggelpjaiabaaGreatDoor
open Go.ChangeShapes Go.WideShapes Go.ChangeAt Go.RowKit
theorem rtOwnPut {w : World} {B e sz n : Nat} {v : Value} {xs : List Value} (h : w.ownsRow B e sz v n xs) {g : Nat} (hg : g < B) (j : Nat) (u : Value) : (w.setCell ⟨g, j, none⟩ u).ownsRow B e sz v n xs := h.kept (only_setCell (p := ⟨g, j, none⟩) (World.grownBy.refl w (some g)) rfl u) (.inr (Rw.own_row h hg))
end Go.Proofs.YtgaggelpjaiabaaGreatDoor
end
section
namespace Go.Proofs.YtgaggelpjaiabaaGreatDoor
open Go.ChangeShapes Go.WideShapes Go.ChangeAt Go.RowKit
theorem TellsSh.later {f : Nat} {c : Array Value} {q : Sh → Bool} {w w' : World} (h : TellsSh f c q w) (hb : Below w.heap.size w w') : TellsSh f c q w' := fun W x hW => h W x (bthen hb hW (Nat.le_refl _))
namespace Bk
end Bk
end Go.Proofs.YtgaggelpjaiabaaGreatDoor
end
section
namespace Go.Proofs.YtgaggelpjaiabaaGreatDoor
open Go.ChangeShapes Go.WideShapes Go.ChangeAt Go.RowKit
theorem bd_get {l : List Bp} {i : Nat} (hi : i < l.length) : l[i] = l.getD i ⟨Bk.Bd0, none, 0⟩ := by rw [List.getD_eq_getElem?_getD, List.getElem?_eq_getElem hi]; rfl
def IdxBd (x : Bd) (ps : List Bp) (w : World) (g : Nat) (i : Value) (wr : World) : Prop :=
  ∃ k : Nat, k + g = ps.length ∧ i = .int .i64 (k : Int) ∧ (∀ j, j < k → bdEq x (ps.getD j ⟨Bk.Bd0, none, 0⟩).x = false) ∧ Below w.heap.size w wr
set_option maxHeartbeats 4000000 in
theorem indexBd_any (x : Bd) (Ax : Option Addr) (cx : Nat) (ps : List Bp) (B : Option Addr) (d : Nat) (w : World) (hl : ps.length ≤ 100000) (hx : BdOk w x Ax cx) (hp : Bds w B ps) :
    Calls Tryz.prog 238 #[.slice B ps.length d, .func (.func 230) #[bdV x Ax cx] #[]] w fun e w' => e = .returned (.int .i64 (idx (fun p : Bp => bdEq x p.x) ps)) ∧ Below w.heap.size w w' := by
  have HP := Lib.hid hp
  have HXO := Lib.hid hx
  have HT := Lib.hid (fun (y : Bd) (Ay : Option Addr) (cy : Nat) (W : World) (h1 : BdOk W x Ax cx) (h2 : BdOk W y Ay cy) => bdSame_any x y Ax cx Ay cy W h1.len h2.len h1.row h2.row)
  have HNONE := Lib.hid (fun h => idx_none (q := fun p : Bp => bdEq x p.x) (l := ps) ⟨Bk.Bd0, none, 0⟩ h)
  have HSOME := Lib.hid (fun k (hk : k < ps.length) h hq => idx_some (q := fun p : Bp => bdEq x p.x) (l := ps) ⟨Bk.Bd0, none, 0⟩ hk h hq)
  clear hp hx
  generalize idx (fun p : Bp => bdEq x p.x) ps = M at *
  obtain ⟨n, hn⟩ : ∃ n, n = ps.length := ⟨_, rfl⟩
  rw [← hn]
  have HN := Lib.hid hn
  have hnl : n ≤ 100000 := by omega
  clear hn
  simp only [bdV] at HT ⊢
  go_enter Tryz.func238, Tryz.ntmps238
  go_wp2_with fail
  go_loopg [8] n (fun g i wr => IdxBd x ps w g i wr)
  case atStart => exact ⟨0, by have := HN.out; omega, rfl, fun j hj => absurd hj (by omega), Below.refl _ _⟩
  case round =>
    obtain ⟨k, hk, rfl, hno, hB⟩ := hrel
    have HB := Lib.hid hB
    have HNO := Lib.hid hno
    have HK := Lib.hid hk
    clear hB hno hk
    by_cases hlt : k < n
    · have hkl : k < ps.length := by have := HN.out; omega
      have hbd := HP.out.on HB.out
      obtain ⟨bb, off, rfl, hbl, hat⟩ := bps_get hbd.row hkl
      have hok := hbd.ok ps[k] (List.getElem_mem hkl)
      rw [bd_get hkl] at hat hok
      have HQ : Hid (∀ h, bdEq x (ps.getD k ⟨Bk.Bd0, none, 0⟩).x = true → M = (k : Int)) := fun h hq => HSOME.out k (by have := HN.out; omega) h hq
      have HNX : Hid (bdEq x (ps.getD k ⟨Bk.Bd0, none, 0⟩).x = false → ∀ j, j < k + 1 → bdEq x (ps.getD j ⟨Bk.Bd0, none, 0⟩).x = false) := fun hq j hj => by
        by_cases e : j = k
        · rw [e]; exact hq
        · exact HNO.out j (by omega)
      generalize ps.getD k ⟨Bk.Bd0, none, 0⟩ = p at *
      obtain ⟨y, Ay, cy⟩ := p
      unfold bpL bdL at hat
      dsimp only at hat hok HQ HNX
      have HC := Lib.hid (HT.out y Ay cy wr (HXO.out.on HB.out) hok)
      have c0 := hat 0 _ rfl
      have c1 := hat 1 _ rfl
      have c2 := hat 2 _ rfl
      have c3 := hat 3 _ rfl
      have c4 := hat 4 _ rfl
      have c5 := hat 5 _ rfl
      rw [Nat.add_zero] at c0
      clear hat hok hbd
      cases hq : bdEq x y with
      | true =>
        have HM := Lib.hid (HQ.out HNO.out hq)
        rw [hq] at HC
        clear hq
        go_wp2_with fail
        refine HC.out.mono ?_
        rintro e w' ⟨rfl, hB1⟩
        have HB1 := Lib.hid (HB.out.trans (hB1.mono HB.out.size))
        clear hB1
        go_wp2_with fail
        go_ret
        exact ⟨ret_nat HM.out.symm, HB1.out⟩
      | false =>
        have HNEXT := Lib.hid (HNX.out hq)
        rw [hq] at HC
        clear hq
        go_wp2_with fail
        refine HC.out.mono ?_
        rintro e w' ⟨rfl, hB1⟩
        have HB1 := Lib.hid (HB.out.trans (hB1.mono HB.out.size))
        clear hB1
        go_wp2_with fail
        go_roundg (gk - 1)
        case rel => exact ⟨k + 1, by have := HK.out; have := HN.out; omega, by go_num, HNEXT.out, HB1.out⟩
        case measure => have := HK.out; have := HN.out; omega
    · have HM := Lib.hid (HNONE.out (fun i hi => HNO.out i (by have := HN.out; omega)))
      go_wp2_with fail
      go_ret
      exact ⟨ret_nat HM.out.symm, HB.out⟩
theorem contBd_any (x : Bd) (Ax : Option Addr) (cx : Nat) (ps : List Bp) (B : Option Addr) (d : Nat) (w : World) (hl : ps.length ≤ 100000) (hx : BdOk w x Ax cx) (hp : Bds w B ps) :
    Calls Tryz.prog 229 #[.slice B ps.length d, .func (.func 230) #[bdV x Ax cx] #[]] w fun e w' => e = .returned (.bool (ps.any fun p => bdEq x p.x)) ∧ Below w.heap.size w w' := by
  have HC := Lib.hid (indexBd_any x Ax cx ps B d w hl hx hp)
  have HA := Lib.hid (idx_any (fun p : Bp => bdEq x p.x) ps)
  clear hx hp
  obtain ⟨M, hM⟩ : ∃ M, M = idx (fun p : Bp => bdEq x p.x) ps := ⟨_, rfl⟩
  rw [← hM] at HC HA
  clear hM
  simp only [bdV] at *
  go_enter Tryz.func229, Tryz.ntmps229
  go_wp2_with fail
  refine HC.out.mono ?_
  rintro e w' ⟨rfl, hB1⟩
  have HB1 := Lib.hid hB1
  clear hB1
  go_wp2_with fail
  go_ret
  exact ⟨ret_bool (by rw [← HA.out]), HB1.out⟩
theorem any_mem {x : Bd} {ps : List Bp} {l : List Bd} (h : ps.map Bp.x = l) : (ps.any fun p => bdEq x p.x) = decide (x ∈ l) := by
  subst h
  rw [Bool.eq_iff_iff, List.any_eq_true, decide_eq_true_eq, List.mem_map]
  constructor
  · rintro ⟨p, hp, he⟩
    rw [bdEq_dec] at he
    exact ⟨p, hp, (of_decide_eq_true he).symm⟩
  · rintro ⟨p, hp, he⟩
    exact ⟨p, hp, by rw [bdEq_dec, he]; exact decide_eq_true rfl⟩
theorem rtHas_any (b : Bk) (A : Option Addr) (c : Nat) (B : Option Addr) (d : Nat) (ps : List Bp) (x : Bd) (Ax : Option Addr) (cx : Nat) (w : World) (hl : b.binds.length ≤ 1000) (hI : BkAt w A c B d b ps) (hx : BdOk w x Ax cx) :
    Calls Tryz.prog 217 #[bkV A c B d b, bdV x Ax cx] w fun e w' => e = .returned (.bool (decide (x ∈ b.binds))) ∧ Below w.heap.size w w' := by
  obtain ⟨shops, binds⟩ := b
  dsimp only at hl ⊢
  have hml := hI.len
  dsimp only at hml
  have hb0 := rtTwo w (.cells #[.slice A shops.length c, .slice B binds.length d] 245) (.cells #[.string (ofL x.shop), .string (ofL x.to), .bool x.up, .string (ofL x.key), .slice Ax x.want.length cx, .bool x.all] 109)
  have hc := contBd_any x Ax cx ps B d _ (by omega) (hx.on hb0) (hI.bds.on hb0)
  rw [any_mem hI.xs, hml] at hc
  dsimp only at hc
  have HC := Lib.hid hc
  have HB0 := Lib.hid hb0
  generalize decide (x ∈ binds) = M at *
  simp only [bkV, bdV] at *
  clear hI hx hb0 hc hml
  go_enter Tryz.func217, Tryz.ntmps217
  go_wp2_with fail
  refine HC.out.mono ?_
  rintro e w' ⟨rfl, hB1⟩
  have HB1 := Lib.hid (bthen HB0.out hB1 (Nat.le_refl _))
  clear hB1
  go_wp2_with fail
  go_ret
  exact ⟨rfl, HB1.out⟩
end Go.Proofs.YtgaggelpjaiabaaGreatDoor
end
