/-
 A part of the proof.
-/
import Derived.Test.YtaikigponkjkgaaGreatDoorXr17
import Derived.Test.YtaikigponkjkgaaGreatDoorXr20
import Derived.Deep.RegionHeld3
import Derived.Deep.DeepCutAuto
section
namespace Go.Proofs.YtaikigponkjkgaaGreatDoor
open Go.ChangeShapes Go.WideShapes Go.ChangeAt Go.RowKit
open Go.Lib (hid)
theorem maEq_decD (x y : Ml) : maEq x y = decide (x = y) := by
 unfold maEq
 cases x; cases y
 rw [Bool.eq_iff_iff]
 simp only [Bool.and_eq_true, beq_iff_eq, decide_eq_true_eq, Ml.mk.injEq]
 constructor
 ·rintro ⟨⟨⟨⟨⟨⟨h1, h2⟩, h3⟩, h4⟩, h5⟩, h6⟩, h7⟩
  exact ⟨h1, h2, h3, h4, h5, h6, h7⟩
 ·rintro ⟨h1, h2, h3, h4, h5, h6, h7⟩
  exact ⟨⟨⟨⟨⟨⟨h1, h2⟩, h3⟩, h4⟩, h5⟩, h6⟩, h7⟩
def deL (x : De) (A : Option Addr) (c : Nat) (B : Option Addr) (d : Nat) : List Value := [.int .u8 (x.kd : Int), .int .u64 (x.tick : Int), .string (ofL x.shop.name), .int .u8 (x.shop.sort : Int), .string (ofL x.shop.to), .string (ofL x.q.name), .int .u64 (x.q.most : Int), .int .u64 (x.q.life : Int), .string (ofL x.q.dead), .string (ofL x.bind.shop), .string (ofL x.bind.to), .bool x.bind.up, .string (ofL x.bind.key), .slice A x.bind.want.length c, .bool x.bind.all, .string (ofL x.name), .int .u64 (x.id : Int), .int .u8 (x.how : Int), .int .u8 (x.frm : Int), .int .u8 (x.cd : Int), .int .u64 (x.num : Int), .int .u64 (x.mail.id : Int), .string (ofL x.mail.shop), .string (ofL x.mail.key), .slice B x.mail.head.length d, .string (ofL x.mail.body), .int .u64 (x.mail.due : Int), .int .u8 (x.mail.hops : Int), .string (ofL x.text)]
def deV (x : De) (A : Option Addr) (c : Nat) (B : Option Addr) (d : Nat) : Value := .agg #[.int .u8 (x.kd : Int), .int .u64 (x.tick : Int), .string (ofL x.shop.name), .int .u8 (x.shop.sort : Int), .string (ofL x.shop.to), .string (ofL x.q.name), .int .u64 (x.q.most : Int), .int .u64 (x.q.life : Int), .string (ofL x.q.dead), .string (ofL x.bind.shop), .string (ofL x.bind.to), .bool x.bind.up, .string (ofL x.bind.key), .slice A x.bind.want.length c, .bool x.bind.all, .string (ofL x.name), .int .u64 (x.id : Int), .int .u8 (x.how : Int), .int .u8 (x.frm : Int), .int .u8 (x.cd : Int), .int .u64 (x.num : Int), .int .u64 (x.mail.id : Int), .string (ofL x.mail.shop), .string (ofL x.mail.key), .slice B x.mail.head.length d, .string (ofL x.mail.body), .int .u64 (x.mail.due : Int), .int .u8 (x.mail.hops : Int), .string (ofL x.text)]
structure DeOk (w : World) (x : De) (A : Option Addr) (c : Nat) (B : Option Addr) (d : Nat) : Prop where
 sn : x.shop.name.length ≤ 90000
 st : x.shop.to.length ≤ 90000
 qn : x.q.name.length ≤ 90000
 qd : x.q.dead.length ≤ 90000
 bind : BdOk w x.bind A c
 name : x.name.length ≤ 90000
 mail : MaOk w x.mail B d
 text : x.text.length ≤ 90000
theorem DeOk.on {w w' : World} {x : De} {A : Option Addr} {c : Nat} {B : Option Addr} {d : Nat} (h : DeOk w x A c B d) (hb : Below w.heap.size w w') : DeOk w' x A c B d := ⟨h.sn, h.st, h.qn, h.qd, h.bind.on hb, h.name, h.mail.on hb, h.text⟩
structure DeX (w : World) (x : De) (A : Option Addr) (c : Nat) (B : Option Addr) (d q : Nat) (W : World) : Prop where
 p : BoxC w q (deL x A c B d) W
 ra : Prs W A x.bind.want
 rb : Prs W B x.mail.head
theorem DeX.on {w : World} {x : De} {A : Option Addr} {c : Nat} {B : Option Addr} {d q : Nat} {W W' : World} (h : DeX w x A c B d q W) (hb : Below W.heap.size W W') : DeX w x A c B d q W' := ⟨h.p.on hb, h.ra.on hb, h.rb.on hb⟩
theorem DeX.start (w : World) (x : De) (A : Option Addr) (c : Nat) (B : Option Addr) (d : Nat) (hA : Prs w A x.bind.want) (hB : Prs w B x.mail.head) (t : TypeId) : DeX w x A c B d w.heap.size (w.alloc (.cells #[.int .u8 (x.kd : Int), .int .u64 (x.tick : Int), .string (ofL x.shop.name), .int .u8 (x.shop.sort : Int), .string (ofL x.shop.to), .string (ofL x.q.name), .int .u64 (x.q.most : Int), .int .u64 (x.q.life : Int), .string (ofL x.q.dead), .string (ofL x.bind.shop), .string (ofL x.bind.to), .bool x.bind.up, .string (ofL x.bind.key), .slice A x.bind.want.length c, .bool x.bind.all, .string (ofL x.name), .int .u64 (x.id : Int), .int .u8 (x.how : Int), .int .u8 (x.frm : Int), .int .u8 (x.cd : Int), .int .u64 (x.num : Int), .int .u64 (x.mail.id : Int), .string (ofL x.mail.shop), .string (ofL x.mail.key), .slice B x.mail.head.length d, .string (ofL x.mail.body), .int .u64 (x.mail.due : Int), .int .u8 (x.mail.hops : Int), .string (ofL x.text)] t)) := by
 have hb : Below w.heap.size w (w.alloc (.cells #[.int .u8 (x.kd : Int), .int .u64 (x.tick : Int), .string (ofL x.shop.name), .int .u8 (x.shop.sort : Int), .string (ofL x.shop.to), .string (ofL x.q.name), .int .u64 (x.q.most : Int), .int .u64 (x.q.life : Int), .string (ofL x.q.dead), .string (ofL x.bind.shop), .string (ofL x.bind.to), .bool x.bind.up, .string (ofL x.bind.key), .slice A x.bind.want.length c, .bool x.bind.all, .string (ofL x.name), .int .u64 (x.id : Int), .int .u8 (x.how : Int), .int .u8 (x.frm : Int), .int .u8 (x.cd : Int), .int .u64 (x.num : Int), .int .u64 (x.mail.id : Int), .string (ofL x.mail.shop), .string (ofL x.mail.key), .slice B x.mail.head.length d, .string (ofL x.mail.body), .int .u64 (x.mail.due : Int), .int .u8 (x.mail.hops : Int), .string (ofL x.text)] t)) := (Below.refl _ _).alloc (Nat.le_refl _) _
 exact ⟨BoxC.new (Nat.le_refl _) #[.int .u8 (x.kd : Int), .int .u64 (x.tick : Int), .string (ofL x.shop.name), .int .u8 (x.shop.sort : Int), .string (ofL x.shop.to), .string (ofL x.q.name), .int .u64 (x.q.most : Int), .int .u64 (x.q.life : Int), .string (ofL x.q.dead), .string (ofL x.bind.shop), .string (ofL x.bind.to), .bool x.bind.up, .string (ofL x.bind.key), .slice A x.bind.want.length c, .bool x.bind.all, .string (ofL x.name), .int .u64 (x.id : Int), .int .u8 (x.how : Int), .int .u8 (x.frm : Int), .int .u8 (x.cd : Int), .int .u64 (x.num : Int), .int .u64 (x.mail.id : Int), .string (ofL x.mail.shop), .string (ofL x.mail.key), .slice B x.mail.head.length d, .string (ofL x.mail.body), .int .u64 (x.mail.due : Int), .int .u8 (x.mail.hops : Int), .string (ofL x.text)] t, hA.on hb, hB.on hb⟩
theorem DeX.next {w : World} (o : Obj) (x : De) (A : Option Addr) (c : Nat) (B : Option Addr) (d : Nat) (hA : Prs w A x.bind.want) (hB : Prs w B x.mail.head) (t : TypeId) : DeX w x A c B d (w.heap.size + 1) ((w.alloc o).alloc (.cells #[.int .u8 (x.kd : Int), .int .u64 (x.tick : Int), .string (ofL x.shop.name), .int .u8 (x.shop.sort : Int), .string (ofL x.shop.to), .string (ofL x.q.name), .int .u64 (x.q.most : Int), .int .u64 (x.q.life : Int), .string (ofL x.q.dead), .string (ofL x.bind.shop), .string (ofL x.bind.to), .bool x.bind.up, .string (ofL x.bind.key), .slice A x.bind.want.length c, .bool x.bind.all, .string (ofL x.name), .int .u64 (x.id : Int), .int .u8 (x.how : Int), .int .u8 (x.frm : Int), .int .u8 (x.cd : Int), .int .u64 (x.num : Int), .int .u64 (x.mail.id : Int), .string (ofL x.mail.shop), .string (ofL x.mail.key), .slice B x.mail.head.length d, .string (ofL x.mail.body), .int .u64 (x.mail.due : Int), .int .u8 (x.mail.hops : Int), .string (ofL x.text)] t)) := by
 have hb := rtTwo w o (.cells #[.int .u8 (x.kd : Int), .int .u64 (x.tick : Int), .string (ofL x.shop.name), .int .u8 (x.shop.sort : Int), .string (ofL x.shop.to), .string (ofL x.q.name), .int .u64 (x.q.most : Int), .int .u64 (x.q.life : Int), .string (ofL x.q.dead), .string (ofL x.bind.shop), .string (ofL x.bind.to), .bool x.bind.up, .string (ofL x.bind.key), .slice A x.bind.want.length c, .bool x.bind.all, .string (ofL x.name), .int .u64 (x.id : Int), .int .u8 (x.how : Int), .int .u8 (x.frm : Int), .int .u8 (x.cd : Int), .int .u64 (x.num : Int), .int .u64 (x.mail.id : Int), .string (ofL x.mail.shop), .string (ofL x.mail.key), .slice B x.mail.head.length d, .string (ofL x.mail.body), .int .u64 (x.mail.due : Int), .int .u8 (x.mail.hops : Int), .string (ofL x.text)] t)
 exact ⟨rtAt1 w o #[.int .u8 (x.kd : Int), .int .u64 (x.tick : Int), .string (ofL x.shop.name), .int .u8 (x.shop.sort : Int), .string (ofL x.shop.to), .string (ofL x.q.name), .int .u64 (x.q.most : Int), .int .u64 (x.q.life : Int), .string (ofL x.q.dead), .string (ofL x.bind.shop), .string (ofL x.bind.to), .bool x.bind.up, .string (ofL x.bind.key), .slice A x.bind.want.length c, .bool x.bind.all, .string (ofL x.name), .int .u64 (x.id : Int), .int .u8 (x.how : Int), .int .u8 (x.frm : Int), .int .u8 (x.cd : Int), .int .u64 (x.num : Int), .int .u64 (x.mail.id : Int), .string (ofL x.mail.shop), .string (ofL x.mail.key), .slice B x.mail.head.length d, .string (ofL x.mail.body), .int .u64 (x.mail.due : Int), .int .u8 (x.mail.hops : Int), .string (ofL x.text)] t, hA.on hb, hB.on hb⟩
def quEq (x y : Qu) : Bool := (x.name == y.name) && (x.most == y.most) && (x.life == y.life) && (x.dead == y.dead)
theorem quEq_dec (x y : Qu) : quEq x y = decide (x = y) := by
 obtain ⟨a, b, c, d⟩ := x
 obtain ⟨a', b', c', d'⟩ := y
 rw [Bool.eq_iff_iff]
 simp [quEq, and_assoc]
def deEq (x y : De) : Bool := (x.kd == y.kd) && ((x.tick == y.tick) && (decide (x.shop = y.shop) && (decide (x.q = y.q) && (decide (x.bind = y.bind) && ((x.name == y.name) && ((x.id == y.id) && ((x.how == y.how) && ((x.frm == y.frm) && ((x.cd == y.cd) && ((x.num == y.num) && (decide (x.mail = y.mail) && (x.text == y.text))))))))))))
theorem deEq_dec (x y : De) : deEq x y = decide (x = y) := by
 cases x; cases y
 rw [Bool.eq_iff_iff]
 simp [deEq, De.mk.injEq]
def deEqR (x y : De) : Bool := (x.kd == y.kd) && ((x.tick == y.tick) && (decide (x.shop = y.shop) && (decide (x.q = y.q) && ((x.name == y.name) && ((x.id == y.id) && ((x.how == y.how) && ((x.frm == y.frm) && ((x.cd == y.cd) && ((x.num == y.num) && ((x.text == y.text) && (decide (x.bind = y.bind) && decide (x.mail = y.mail))))))))))))
theorem deEqR_dec (x y : De) : deEqR x y = decide (x = y) := by
 cases x; cases y
 rw [Bool.eq_iff_iff]
 simp only [deEqR, De.mk.injEq, Bool.and_eq_true, beq_iff_eq, decide_eq_true_eq]
 constructor
 ·rintro ⟨h1, h2, h3, h4, h6, h7, h8, h9, h10, h11, h13, h5, h12⟩
  exact ⟨h1, h2, h3, h4, h5, h6, h7, h8, h9, h10, h11, h12, h13⟩
 ·rintro ⟨h1, h2, h3, h4, h5, h6, h7, h8, h9, h10, h11, h12, h13⟩
  exact ⟨h1, h2, h3, h4, h6, h7, h8, h9, h10, h11, h13, h5, h12⟩
set_option maxRecDepth 100000 in
theorem ddSmall_any (y : List UInt8) (n : Nat) (w : World) (hn : n < 256) (hy : y.length ≤ 900000) : Calls Tryz.prog 34 #[.agg #[.string (ofL y), .int .i64 0], .int .u8 (n : Int)] w fun e w' => e = .returned (.agg #[.string (ofL (y ++ Oct.be 1 n)), .int .i64 0]) ∧ Below w.heap.size w w' := by
 have HN := hid (fun W => num_l y n 1 1 W (by omega) (by omega) rfl (by omega))
 have hw : IntKind.u64.wrap (n : Int) = (n : Int) := by rw [IntKind.wrap_u64]; omega
 have HB2 := hid (rtTwo w (.cells #[.string (ofL y), .int .i64 0] 70) (.cells #[.string ⟨#[]⟩, .int .i64 0] 70))
 have HR2 := hid (rtAt1 w (.cells #[.string (ofL y), .int .i64 0] 70) #[.string ⟨#[]⟩, .int .i64 0] 70)
 generalize ofL (y ++ Oct.be 1 n) = Y at *
 clear hn hy
 go_enter Tryz.func34, Tryz.ntmps34
 go_wp2_with fail
 refine (HN.out _).mono ?_
 rintro e w3 ⟨rfl, b3⟩
 have HB3 := hid (bthen HB2.out b3 (Nat.le_refl _))
 have HR3 := hid (HR2.out.on b3)
 clear b3
 have x0 := HR3.out.cs 0 _ rfl
 have x1 := HR3.out.cs 1 _ rfl
 have xl := HR3.out.lt
 have xf := HR3.out.s
 unfold Soft at xf
 go_wp2_with fail
 have hB := (HB3.out.setCell (p := ⟨w.heap.size + 1, 0, none⟩) (by show w.heap.size ≤ w.heap.size + 1; omega) (.string Y)).setCell (p := ⟨w.heap.size + 1, 1, none⟩) (by show w.heap.size ≤ w.heap.size + 1; omega) (.int .i64 0)
 have hR := (HR3.out.put 0 (.string Y) (by simp)).put 1 (.int .i64 0) (by simp)
 have g0 := hR.cs 0 _ rfl
 have g1 := hR.cs 1 _ rfl
 exact bodyPost_ret (v := .agg #[.string Y, .int .i64 0]) (by simp [results, Tryz.results34, go_sem, g0, g1]) rfl ⟨rfl, hB⟩
set_option maxRecDepth 100000 in
theorem ddYes_1 (y : List UInt8) (w : World) (hy : y.length ≤ 900000) : Calls Tryz.prog 81 #[.agg #[.string (ofL y), .int .i64 0], .bool true] w fun e w' => e = .returned (.agg #[.string (ofL (y ++ Oct.be 1 1)), .int .i64 0]) ∧ Below w.heap.size w w' := by
 have HN := hid (fun W => ddSmall_any y 1 W (by omega) hy)
 have HB2 := hid (rtTwo w (.cells #[.string (ofL y), .int .i64 0] 70) (.cells #[.string ⟨#[]⟩, .int .i64 0] 70))
 have HR2 := hid (rtAt1 w (.cells #[.string (ofL y), .int .i64 0] 70) #[.string ⟨#[]⟩, .int .i64 0] 70)
 generalize ofL (y ++ Oct.be 1 1) = Y at *
 clear hy
 go_enter Tryz.func81, Tryz.ntmps81
 go_wp2_with fail
 refine (HN.out _).mono ?_
 rintro e w3 ⟨rfl, b3⟩
 have HB3 := hid (bthen HB2.out b3 (Nat.le_refl _))
 have HR3 := hid (HR2.out.on b3)
 clear b3
 have x0 := HR3.out.cs 0 _ rfl
 have x1 := HR3.out.cs 1 _ rfl
 have xl := HR3.out.lt
 have xf := HR3.out.s
 unfold Soft at xf
 go_wp2_with fail
 have hB := (HB3.out.setCell (p := ⟨w.heap.size + 1, 0, none⟩) (by show w.heap.size ≤ w.heap.size + 1; omega) (.string Y)).setCell (p := ⟨w.heap.size + 1, 1, none⟩) (by show w.heap.size ≤ w.heap.size + 1; omega) (.int .i64 0)
 have hR := (HR3.out.put 0 (.string Y) (by simp)).put 1 (.int .i64 0) (by simp)
 have g0 := hR.cs 0 _ rfl
 have g1 := hR.cs 1 _ rfl
 exact bodyPost_ret (v := .agg #[.string Y, .int .i64 0]) (by simp [results, Tryz.results81, go_sem, g0, g1]) rfl ⟨rfl, hB⟩
set_option maxRecDepth 100000 in
theorem ddYes_0 (y : List UInt8) (w : World) (hy : y.length ≤ 900000) : Calls Tryz.prog 81 #[.agg #[.string (ofL y), .int .i64 0], .bool false] w fun e w' => e = .returned (.agg #[.string (ofL (y ++ Oct.be 1 0)), .int .i64 0]) ∧ Below w.heap.size w w' := by
 have HN := hid (fun W => ddSmall_any y 0 W (by omega) hy)
 have HB2 := hid (rtTwo w (.cells #[.string (ofL y), .int .i64 0] 70) (.cells #[.string ⟨#[]⟩, .int .i64 0] 70))
 have HR2 := hid (rtAt1 w (.cells #[.string (ofL y), .int .i64 0] 70) #[.string ⟨#[]⟩, .int .i64 0] 70)
 generalize ofL (y ++ Oct.be 1 0) = Y at *
 clear hy
 go_enter Tryz.func81, Tryz.ntmps81
 go_wp2_with fail
 refine (HN.out _).mono ?_
 rintro e w3 ⟨rfl, b3⟩
 have HB3 := hid (bthen HB2.out b3 (Nat.le_refl _))
 have HR3 := hid (HR2.out.on b3)
 clear b3
 have x0 := HR3.out.cs 0 _ rfl
 have x1 := HR3.out.cs 1 _ rfl
 have xl := HR3.out.lt
 have xf := HR3.out.s
 unfold Soft at xf
 go_wp2_with fail
 have hB := (HB3.out.setCell (p := ⟨w.heap.size + 1, 0, none⟩) (by show w.heap.size ≤ w.heap.size + 1; omega) (.string Y)).setCell (p := ⟨w.heap.size + 1, 1, none⟩) (by show w.heap.size ≤ w.heap.size + 1; omega) (.int .i64 0)
 have hR := (HR3.out.put 0 (.string Y) (by simp)).put 1 (.int .i64 0) (by simp)
 have g0 := hR.cs 0 _ rfl
 have g1 := hR.cs 1 _ rfl
 exact bodyPost_ret (v := .agg #[.string Y, .int .i64 0]) (by simp [results, Tryz.results81, go_sem, g0, g1]) rfl ⟨rfl, hB⟩
def bitN (b : Bool) : Nat := if b then 1 else 0
theorem ddYes_any (y : List UInt8) (b : Bool) (w : World) (hy : y.length ≤ 900000) : Calls Tryz.prog 81 #[.agg #[.string (ofL y), .int .i64 0], .bool b] w fun e w' => e = .returned (.agg #[.string (ofL (y ++ Oct.be 1 (bitN b))), .int .i64 0]) ∧ Below w.heap.size w w' := by
 cases b
 ·exact ddYes_0 y w hy
 ·exact ddYes_1 y w hy
set_option maxRecDepth 100000 in
set_option maxHeartbeats 4000000 in
theorem ddwMail_any (y : List UInt8) (x : Ml) (B : Option Addr) (d : Nat) (w : World) (h : MaOk w x B d) (hf : Ml.Fits x) (hc : x.code = 0) (he : x.enc.length ≤ 100000) (hy : y.length ≤ 900000) (hL : Len w) : Calls Tryz.prog 37 #[.agg #[.string (ofL y), .int .i64 0], maV x B d] w fun e w' => e = .returned (.agg #[.string (ofL (y ++ x.enc)), .int .i64 0]) ∧ Below w.heap.size w w' := by
 have HMB := hid (fun W h1 h2 => maBytes_any x B d W h1 hf h2)
 rw [show maBytesV x = .tuple #[.string (ofL x.enc), .int .i64 0] by unfold maBytesV; rw [if_pos hc]] at HMB
 have HRA := hid (fun W => raw_l y x.enc W (by omega) (by omega))
 have HB3 := hid (rtThree w (.cells #[.string (ofL y), .int .i64 0] 70) (.cells #[.int .u64 (x.id : Int), .string (ofL x.shop), .string (ofL x.key), .slice B x.head.length d, .string (ofL x.body), .int .u64 (x.due : Int), .int .u8 (x.hops : Int)] 50) (.cells #[.string ⟨#[]⟩, .int .i64 0] 70))
 have HO3 := hid (rtNext (rtNext (rtAt0 w #[.string (ofL y), .int .i64 0] 70) (.cells #[.int .u64 (x.id : Int), .string (ofL x.shop), .string (ofL x.key), .slice B x.head.length d, .string (ofL x.body), .int .u64 (x.due : Int), .int .u8 (x.hops : Int)] 50)) (.cells #[.string ⟨#[]⟩, .int .i64 0] 70))
 have HR3 := hid (rtAt2 w (.cells #[.string (ofL y), .int .i64 0] 70) (.cells #[.int .u64 (x.id : Int), .string (ofL x.shop), .string (ofL x.key), .slice B x.head.length d, .string (ofL x.body), .int .u64 (x.due : Int), .int .u8 (x.hops : Int)] 50) #[.string ⟨#[]⟩, .int .i64 0] 70)
 have HOK := hid (h.on HB3.out)
 have HL3 := hid (hL.on HB3.out)
 clear h hL hf hc he hy
 generalize ofL (y ++ x.enc) = Y at *
 generalize ofL x.enc = E at *
 simp only [maV] at *
 go_enter Tryz.func37, Tryz.ntmps37
 go_wp2_with fail
 refine (HMB.out _ HOK.out HL3.out).mono ?_
 rintro e w4 ⟨rfl, b4⟩
 have HB4 := hid (bthen HB3.out b4 (Nat.le_refl _))
 have HO4 := hid (HO3.out.on b4)
 have HR4 := hid (HR3.out.on b4)
 clear b4
 have x0 := HO4.out.cs 0 _ rfl
 have x1 := HO4.out.cs 1 _ rfl
 have xl := HO4.out.lt
 go_wp2_with fail
 refine (HRA.out _).mono ?_
 rintro e w5 ⟨rfl, b5⟩
 have HB5 := hid (bthen HB4.out b5 (Nat.le_refl _))
 have HR5 := hid (HR4.out.on b5)
 clear b5 x0 x1 xl
 have x0 := HR5.out.cs 0 _ rfl
 have x1 := HR5.out.cs 1 _ rfl
 have xl := HR5.out.lt
 have xf := HR5.out.s
 unfold Soft at xf
 go_wp2_with fail
 have hB := (HB5.out.setCell (p := ⟨w.heap.size + 2, 0, none⟩) (by show w.heap.size ≤ w.heap.size + 2; omega) (.string Y)).setCell (p := ⟨w.heap.size + 2, 1, none⟩) (by show w.heap.size ≤ w.heap.size + 2; omega) (.int .i64 0)
 have hR := (HR5.out.put 0 (.string Y) (by simp)).put 1 (.int .i64 0) (by simp)
 have g0 := hR.cs 0 _ rfl
 have g1 := hR.cs 1 _ rfl
 exact bodyPost_ret (v := .agg #[.string Y, .int .i64 0]) (by simp [results, Tryz.results37, go_sem, g0, g1]) rfl ⟨rfl, hB⟩
end Go.Proofs.YtaikigponkjkgaaGreatDoor
end
