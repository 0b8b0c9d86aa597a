/-
  A DEED WITH A HEAD OF ITS OWN; what may stand behind a draft's others, the program's: walked. A PUT MORE IN A DRAFT OF THE SAME PUTS: walked.
-/
import Derived.Test.YtecjngodfciokaaGreatDoorDl15
import Derived.Test.YtecjngodfciokaaGreatDoorDl16
import Derived.Test.YtecjngodfciokaaGreatDoorDl29
import Derived.BigFrame
import Derived.Deep.RegionHeld3
import Derived.Deep.DeepCutAuto
section
namespace Go.Proofs.YtecjngodfciokaaGreatDoor
open Go.ChangeShapes Go.WideShapes Go.ChangeAt Go.RowKit
def OwnGPost (x : De) (w : World) (e : Ending) (w' : World) : Prop := ∃ B' d', e = .returned (deV (Dr.own x) none 0 B' d') ∧ OwnPrs w.heap.size w' B' d' x.mail.head ∧ Below w.heap.size w w'
set_option maxRecDepth 100000 in
set_option maxHeartbeats 8000000 in
theorem drOwnG_any (x : De) (A : Option Addr) (c : Nat) (B : Option Addr) (d : Nat) (w : World) (hl : x.mail.head.length ≤ 100000) (hc : x.mail.head.length ≤ d) (hp : Prs w B x.mail.head) :
    Calls Tryz.prog 29 #[deV x A c B d] w (OwnGPost x w) := by
  have HB2 := Lib.hid (rtTwo w (.cells #[.int .u8 (x.kd : Int), .int .u64 (x.tick : Int), .string (ofL x.shop.name), .int .u8 (x.shop.sort : Int), .string (ofL x.shop.to), .string (ofL x.q.name), .int .u64 (x.q.most : Int), .int .u64 (x.q.life : Int), .string (ofL x.q.dead), .string (ofL x.bind.shop), .string (ofL x.bind.to), .bool x.bind.up, .string (ofL x.bind.key), .slice A x.bind.want.length c, .bool x.bind.all, .string (ofL x.name), .int .u64 (x.id : Int), .int .u8 (x.how : Int), .int .u8 (x.frm : Int), .int .u8 (x.cd : Int), .int .u64 (x.num : Int), .int .u64 (x.mail.id : Int), .string (ofL x.mail.shop), .string (ofL x.mail.key), .slice B x.mail.head.length d, .string (ofL x.mail.body), .int .u64 (x.mail.due : Int), .int .u8 (x.mail.hops : Int), .string (ofL x.text)] 39) (.cells #[.int .u8 0, .int .u64 0, .string ⟨#[]⟩, .int .u8 0, .string ⟨#[]⟩, .string ⟨#[]⟩, .int .u64 0, .int .u64 0, .string ⟨#[]⟩, .string ⟨#[]⟩, .string ⟨#[]⟩, .bool false, .string ⟨#[]⟩, .slice none 0 0, .bool false, .string ⟨#[]⟩, .int .u64 0, .int .u8 0, .int .u8 0, .int .u8 0, .int .u64 0, .int .u64 0, .string ⟨#[]⟩, .string ⟨#[]⟩, .slice none 0 0, .string ⟨#[]⟩, .int .u64 0, .int .u8 0, .string ⟨#[]⟩] 39))
  have HX2 := Lib.hid (rtNext (rtAt0 w #[.int .u8 (x.kd : Int), .int .u64 (x.tick : Int), .string (ofL x.shop.name), .int .u8 (x.shop.sort : Int), .string (ofL x.shop.to), .string (ofL x.q.name), .int .u64 (x.q.most : Int), .int .u64 (x.q.life : Int), .string (ofL x.q.dead), .string (ofL x.bind.shop), .string (ofL x.bind.to), .bool x.bind.up, .string (ofL x.bind.key), .slice A x.bind.want.length c, .bool x.bind.all, .string (ofL x.name), .int .u64 (x.id : Int), .int .u8 (x.how : Int), .int .u8 (x.frm : Int), .int .u8 (x.cd : Int), .int .u64 (x.num : Int), .int .u64 (x.mail.id : Int), .string (ofL x.mail.shop), .string (ofL x.mail.key), .slice B x.mail.head.length d, .string (ofL x.mail.body), .int .u64 (x.mail.due : Int), .int .u8 (x.mail.hops : Int), .string (ofL x.text)] 39) (.cells #[.int .u8 0, .int .u64 0, .string ⟨#[]⟩, .int .u8 0, .string ⟨#[]⟩, .string ⟨#[]⟩, .int .u64 0, .int .u64 0, .string ⟨#[]⟩, .string ⟨#[]⟩, .string ⟨#[]⟩, .bool false, .string ⟨#[]⟩, .slice none 0 0, .bool false, .string ⟨#[]⟩, .int .u64 0, .int .u8 0, .int .u8 0, .int .u8 0, .int .u64 0, .int .u64 0, .string ⟨#[]⟩, .string ⟨#[]⟩, .slice none 0 0, .string ⟨#[]⟩, .int .u64 0, .int .u8 0, .string ⟨#[]⟩] 39))
  have HZ2 := Lib.hid (rtAt1 w (.cells #[.int .u8 (x.kd : Int), .int .u64 (x.tick : Int), .string (ofL x.shop.name), .int .u8 (x.shop.sort : Int), .string (ofL x.shop.to), .string (ofL x.q.name), .int .u64 (x.q.most : Int), .int .u64 (x.q.life : Int), .string (ofL x.q.dead), .string (ofL x.bind.shop), .string (ofL x.bind.to), .bool x.bind.up, .string (ofL x.bind.key), .slice A x.bind.want.length c, .bool x.bind.all, .string (ofL x.name), .int .u64 (x.id : Int), .int .u8 (x.how : Int), .int .u8 (x.frm : Int), .int .u8 (x.cd : Int), .int .u64 (x.num : Int), .int .u64 (x.mail.id : Int), .string (ofL x.mail.shop), .string (ofL x.mail.key), .slice B x.mail.head.length d, .string (ofL x.mail.body), .int .u64 (x.mail.due : Int), .int .u8 (x.mail.hops : Int), .string (ofL x.text)] 39) #[.int .u8 0, .int .u64 0, .string ⟨#[]⟩, .int .u8 0, .string ⟨#[]⟩, .string ⟨#[]⟩, .int .u64 0, .int .u64 0, .string ⟨#[]⟩, .string ⟨#[]⟩, .string ⟨#[]⟩, .bool false, .string ⟨#[]⟩, .slice none 0 0, .bool false, .string ⟨#[]⟩, .int .u64 0, .int .u8 0, .int .u8 0, .int .u8 0, .int .u64 0, .int .u64 0, .string ⟨#[]⟩, .string ⟨#[]⟩, .slice none 0 0, .string ⟨#[]⟩, .int .u64 0, .int .u8 0, .string ⟨#[]⟩] 39)
  have HSZ := Lib.hid (show ((w.alloc (.cells #[.int .u8 (x.kd : Int), .int .u64 (x.tick : Int), .string (ofL x.shop.name), .int .u8 (x.shop.sort : Int), .string (ofL x.shop.to), .string (ofL x.q.name), .int .u64 (x.q.most : Int), .int .u64 (x.q.life : Int), .string (ofL x.q.dead), .string (ofL x.bind.shop), .string (ofL x.bind.to), .bool x.bind.up, .string (ofL x.bind.key), .slice A x.bind.want.length c, .bool x.bind.all, .string (ofL x.name), .int .u64 (x.id : Int), .int .u8 (x.how : Int), .int .u8 (x.frm : Int), .int .u8 (x.cd : Int), .int .u64 (x.num : Int), .int .u64 (x.mail.id : Int), .string (ofL x.mail.shop), .string (ofL x.mail.key), .slice B x.mail.head.length d, .string (ofL x.mail.body), .int .u64 (x.mail.due : Int), .int .u8 (x.mail.hops : Int), .string (ofL x.text)] 39)).alloc (.cells #[.int .u8 0, .int .u64 0, .string ⟨#[]⟩, .int .u8 0, .string ⟨#[]⟩, .string ⟨#[]⟩, .int .u64 0, .int .u64 0, .string ⟨#[]⟩, .string ⟨#[]⟩, .string ⟨#[]⟩, .bool false, .string ⟨#[]⟩, .slice none 0 0, .bool false, .string ⟨#[]⟩, .int .u64 0, .int .u8 0, .int .u8 0, .int .u8 0, .int .u64 0, .int .u64 0, .string ⟨#[]⟩, .string ⟨#[]⟩, .slice none 0 0, .string ⟨#[]⟩, .int .u64 0, .int .u8 0, .string ⟨#[]⟩] 39)).heap.size = w.heap.size + 2 by simp)
  have hC := cloneOwn_any x.mail.head B d _ hl hc (hp.on HB2.out)
  have HC := Lib.hid hC
  clear hC hl hc hp
  simp only [deV]
  go_enter Tryz.func29, Tryz.ntmps29
  go_upto_region 1 with fail
  generalize (w.alloc (.cells #[.int .u8 (x.kd : Int), .int .u64 (x.tick : Int), .string (ofL x.shop.name), .int .u8 (x.shop.sort : Int), .string (ofL x.shop.to), .string (ofL x.q.name), .int .u64 (x.q.most : Int), .int .u64 (x.q.life : Int), .string (ofL x.q.dead), .string (ofL x.bind.shop), .string (ofL x.bind.to), .bool x.bind.up, .string (ofL x.bind.key), .slice A x.bind.want.length c, .bool x.bind.all, .string (ofL x.name), .int .u64 (x.id : Int), .int .u8 (x.how : Int), .int .u8 (x.frm : Int), .int .u8 (x.cd : Int), .int .u64 (x.num : Int), .int .u64 (x.mail.id : Int), .string (ofL x.mail.shop), .string (ofL x.mail.key), .slice B x.mail.head.length d, .string (ofL x.mail.body), .int .u64 (x.mail.due : Int), .int .u8 (x.mail.hops : Int), .string (ofL x.text)] 39)).alloc (.cells #[.int .u8 0, .int .u64 0, .string ⟨#[]⟩, .int .u8 0, .string ⟨#[]⟩, .string ⟨#[]⟩, .int .u64 0, .int .u64 0, .string ⟨#[]⟩, .string ⟨#[]⟩, .string ⟨#[]⟩, .bool false, .string ⟨#[]⟩, .slice none 0 0, .bool false, .string ⟨#[]⟩, .int .u64 0, .int .u8 0, .int .u8 0, .int .u8 0, .int .u64 0, .int .u64 0, .string ⟨#[]⟩, .string ⟨#[]⟩, .slice none 0 0, .string ⟨#[]⟩, .int .u64 0, .int .u8 0, .string ⟨#[]⟩] 39) = W2 at *
  have c24 := HX2.out.cs 24 _ rfl
  have cl := HX2.out.lt
  go_wp2_with fail
  refine HC.out.mono ?_
  rintro e w3 ⟨B', d', rfl, ho, b3⟩
  have HB3 := Lib.hid (bthen HB2.out b3 (Nat.le_refl _))
  have HX3 := Lib.hid (HX2.out.on b3)
  have HZ3 := Lib.hid (HZ2.out.on b3)
  have HO3 := Lib.hid ho
  have HA3 := Lib.hid (show ∀ a, B' = some a → w.heap.size + 2 ≤ a.block from fun a ha => by have h1 := (ho.row.2.2 a ha).1; have h2 := HSZ.out; omega)
  clear b3 ho c24 cl
  have c24 := HX3.out.cs 24 _ rfl
  have c13 := HX3.out.cs 13 _ rfl
  have cl := HX3.out.lt
  have xf := HX3.out.s
  unfold Soft at xf
  go_upto_region 3 with fail
  have HX4 := Lib.hid (show BoxC w w.heap.size (deL (Dr.own x) none 0 B' d') ((w3.setCell ⟨w.heap.size, 24, none⟩ (.slice B' x.mail.head.length d')).setCell ⟨w.heap.size, 13, none⟩ (.slice none 0 0)) from (HX3.out.put 24 (.slice B' x.mail.head.length d') (by show _ < 29; omega)).put 13 (.slice none 0 0) (by show _ < 29; omega))
  have HZ4 := Lib.hid ((HZ3.out.aside (g := w.heap.size) (by omega) 24 (.slice B' x.mail.head.length d')).aside (g := w.heap.size) (by omega) 13 (.slice none 0 0))
  have HB4 := Lib.hid ((HB3.out.setCell (p := ⟨w.heap.size, 24, none⟩) (Nat.le_refl _) (.slice B' x.mail.head.length d')).setCell (p := ⟨w.heap.size, 13, none⟩) (Nat.le_refl _) (.slice none 0 0))
  have HO4 := Lib.hid ((HO3.out.aside (g := w.heap.size) (fun a ha e => by have := HA3.out a ha; omega) 24 (.slice B' x.mail.head.length d')).aside (g := w.heap.size) (fun a ha e => by have := HA3.out a ha; omega) 13 (.slice none 0 0))
  clear c24 c13 cl xf
  generalize (w3.setCell ⟨w.heap.size, 24, none⟩ (.slice B' x.mail.head.length d')).setCell ⟨w.heap.size, 13, none⟩ (.slice none 0 0) = W4 at *
  go_wp2_with (first
    | (refine wpList_load_mid (by rfl) 39 _ (by rfl) w.heap.size 0 (by rfl) (deL (Dr.own x) none 0 B' d') _ HX4.out.cs.range Tryz.underlying39 rfl (by rw [de_size, deL_len]) ?_)
    | (refine wpList_store_mid (by rfl) 39 _ _ (by rfl) (w.heap.size + 1) 0 (deL (Dr.own x) none 0 B' d').toArray (by rfl) (by rfl) HZ4.out.there (by rw [de_size]; rfl) (de_all _ _ _ _ _) ?_))
  have HR := HZ4.out.over (deL (Dr.own x) none 0 B' d') rfl
  exact bodyPost_ret (v := deV (Dr.own x) none 0 B' d') (by simp [results, Tryz.results29, asAddr, Act.put]; exact de_res _ _ _ _ _ _ _ HR.cs) rfl ⟨B', d', rfl, ownPrs_setCells (ownPrs_mono HO4.out (by have := HSZ.out; omega)) (g := w.heap.size + 1) (fun a ha e => by have := HA3.out a ha; omega) _ 0, below_setCells (by omega) _ _ HB4.out⟩
theorem setl_eq (l : List Dp) (n : List UInt8) (i : Nat) : (l.any fun p => setl n i p.x) = Dr.settles (l.map Dp.x) n i := by
  unfold Dr.settles setl
  rw [List.any_map]
  congr 1
  funext p
  simp [Function.comp, Bool.and_assoc]
set_option maxRecDepth 100000 in
set_option maxHeartbeats 16000000 in
theorem drCheckG_any (x : De) (XA : Option Addr) (xc : Nat) (XB : Option Addr) (xd : Nat) (l : List Dp) (A : Option Addr) (c : Nat) (w : World) (hl : l.length ≤ 100000) (hm : DeOk w x XA xc XB xd) (hp : Dps w A l) (hL : Len w) :
    Calls Tryz.prog 27 #[.agg #[.slice A l.length c], deV x XA xc XB xd] w fun e w' => e = .returned (.int .i64 (Dr.chk (l.map Dp.x) x : Int)) ∧ Below w.heap.size w w' := by
  have HB2 := Lib.hid (rtTwo w (.cells #[.slice A l.length c] 27) (.cells #[.int .u8 (x.kd : Int), .int .u64 (x.tick : Int), .string (ofL x.shop.name), .int .u8 (x.shop.sort : Int), .string (ofL x.shop.to), .string (ofL x.q.name), .int .u64 (x.q.most : Int), .int .u64 (x.q.life : Int), .string (ofL x.q.dead), .string (ofL x.bind.shop), .string (ofL x.bind.to), .bool x.bind.up, .string (ofL x.bind.key), .slice XA x.bind.want.length xc, .bool x.bind.all, .string (ofL x.name), .int .u64 (x.id : Int), .int .u8 (x.how : Int), .int .u8 (x.frm : Int), .int .u8 (x.cd : Int), .int .u64 (x.num : Int), .int .u64 (x.mail.id : Int), .string (ofL x.mail.shop), .string (ofL x.mail.key), .slice XB x.mail.head.length xd, .string (ofL x.mail.body), .int .u64 (x.mail.due : Int), .int .u8 (x.mail.hops : Int), .string (ofL x.text)] 39))
  have HD2 := Lib.hid (rtNext (rtAt0 w #[.slice A l.length c] 27) (.cells #[.int .u8 (x.kd : Int), .int .u64 (x.tick : Int), .string (ofL x.shop.name), .int .u8 (x.shop.sort : Int), .string (ofL x.shop.to), .string (ofL x.q.name), .int .u64 (x.q.most : Int), .int .u64 (x.q.life : Int), .string (ofL x.q.dead), .string (ofL x.bind.shop), .string (ofL x.bind.to), .bool x.bind.up, .string (ofL x.bind.key), .slice XA x.bind.want.length xc, .bool x.bind.all, .string (ofL x.name), .int .u64 (x.id : Int), .int .u8 (x.how : Int), .int .u8 (x.frm : Int), .int .u8 (x.cd : Int), .int .u64 (x.num : Int), .int .u64 (x.mail.id : Int), .string (ofL x.mail.shop), .string (ofL x.mail.key), .slice XB x.mail.head.length xd, .string (ofL x.mail.body), .int .u64 (x.mail.due : Int), .int .u8 (x.mail.hops : Int), .string (ofL x.text)] 39))
  have HX2 := Lib.hid (rtAt1 w (.cells #[.slice A l.length c] 27) #[.int .u8 (x.kd : Int), .int .u64 (x.tick : Int), .string (ofL x.shop.name), .int .u8 (x.shop.sort : Int), .string (ofL x.shop.to), .string (ofL x.q.name), .int .u64 (x.q.most : Int), .int .u64 (x.q.life : Int), .string (ofL x.q.dead), .string (ofL x.bind.shop), .string (ofL x.bind.to), .bool x.bind.up, .string (ofL x.bind.key), .slice XA x.bind.want.length xc, .bool x.bind.all, .string (ofL x.name), .int .u64 (x.id : Int), .int .u8 (x.how : Int), .int .u8 (x.frm : Int), .int .u8 (x.cd : Int), .int .u64 (x.num : Int), .int .u64 (x.mail.id : Int), .string (ofL x.mail.shop), .string (ofL x.mail.key), .slice XB x.mail.head.length xd, .string (ofL x.mail.body), .int .u64 (x.mail.due : Int), .int .u8 (x.mail.hops : Int), .string (ofL x.text)] 39)
  have HK := Lib.hid (ddCheck_any x XA xc XB xd _ (hm.on HB2.out) (hL.on HB2.out))
  have HLN := Lib.hid (fun W => drLen_any A l.length c W)
  have HSE := Lib.hid (fun W (g : Dps W A l) => setl_eq l x.name x.id ▸ drSettles_any x.name x.id l A c W hl g)
  have HP2 := Lib.hid (hp.on HB2.out)
  have HC0 : Hid (Dr.chk (l.map Dp.x) x = if x.kd ≠ 6 ∧ x.kd ≠ 8 then 8 else if x.code ≠ 0 then x.code else if x.kd = 8 ∧ Dr.settles (l.map Dp.x) x.name x.id = true then 9 else if 16 ≤ l.length then 12 else 0) := by
    unfold Dr.chk Hid
    rw [List.length_map]
  clear hm hL hp
  generalize Dr.chk (l.map Dp.x) x = F at *
  generalize Dr.settles (l.map Dp.x) x.name x.id = S at *
  simp only [deV]
  by_cases h68 : x.kd ≠ 6 ∧ x.kd ≠ 8
  · have HE := Lib.hid (show F = 8 by rw [HC0.out, if_pos h68])
    have n6 : ((x.kd : Int) != 6) = true := by have := h68.1; simp; omega
    have n8 : ((x.kd : Int) != 8) = true := by have := h68.2; simp; omega
    clear h68
    go_enter Tryz.func27, Tryz.ntmps27
    go_upto_region 1 with fail
    generalize (w.alloc (.cells #[.slice A l.length c] 27)).alloc (.cells #[.int .u8 (x.kd : Int), .int .u64 (x.tick : Int), .string (ofL x.shop.name), .int .u8 (x.shop.sort : Int), .string (ofL x.shop.to), .string (ofL x.q.name), .int .u64 (x.q.most : Int), .int .u64 (x.q.life : Int), .string (ofL x.q.dead), .string (ofL x.bind.shop), .string (ofL x.bind.to), .bool x.bind.up, .string (ofL x.bind.key), .slice XA x.bind.want.length xc, .bool x.bind.all, .string (ofL x.name), .int .u64 (x.id : Int), .int .u8 (x.how : Int), .int .u8 (x.frm : Int), .int .u8 (x.cd : Int), .int .u64 (x.num : Int), .int .u64 (x.mail.id : Int), .string (ofL x.mail.shop), .string (ofL x.mail.key), .slice XB x.mail.head.length xd, .string (ofL x.mail.body), .int .u64 (x.mail.due : Int), .int .u8 (x.mail.hops : Int), .string (ofL x.text)] 39) = W2 at *
    have c0 := HX2.out.cs 0 _ rfl
    have cl := HX2.out.lt
    go_wp2_with fail
    go_ret
    exact ⟨ret_nat (by rw [HE.out]; rfl), HB2.out⟩
  · rw [if_neg h68] at HC0
    by_cases hz : x.code = 0
    · rw [if_neg (by simpa using hz)] at HC0
      by_cases h8 : x.kd = 8
      · have n6 : ((x.kd : Int) != 6) = true := by rw [h8]; rfl
        have n8 : ((x.kd : Int) != 8) = false := by rw [h8]; rfl
        have e8 : ((x.kd : Int) == 8) = true := by rw [h8]; rfl
        have nz : ((x.code : Int) != 0) = false := by rw [hz]; rfl
        have HC1 : Hid (F = if S = true then 9 else if 16 ≤ l.length then 12 else 0) := by unfold Hid; rw [HC0.out]; simp [h8]
        clear h68 h8 hz HC0
        go_enter Tryz.func27, Tryz.ntmps27
        go_upto_region 1 with fail
        generalize (w.alloc (.cells #[.slice A l.length c] 27)).alloc (.cells #[.int .u8 (x.kd : Int), .int .u64 (x.tick : Int), .string (ofL x.shop.name), .int .u8 (x.shop.sort : Int), .string (ofL x.shop.to), .string (ofL x.q.name), .int .u64 (x.q.most : Int), .int .u64 (x.q.life : Int), .string (ofL x.q.dead), .string (ofL x.bind.shop), .string (ofL x.bind.to), .bool x.bind.up, .string (ofL x.bind.key), .slice XA x.bind.want.length xc, .bool x.bind.all, .string (ofL x.name), .int .u64 (x.id : Int), .int .u8 (x.how : Int), .int .u8 (x.frm : Int), .int .u8 (x.cd : Int), .int .u64 (x.num : Int), .int .u64 (x.mail.id : Int), .string (ofL x.mail.shop), .string (ofL x.mail.key), .slice XB x.mail.head.length xd, .string (ofL x.mail.body), .int .u64 (x.mail.due : Int), .int .u8 (x.mail.hops : Int), .string (ofL x.text)] 39) = W2 at *
        have c0 := HX2.out.cs 0 _ rfl
        have cl := HX2.out.lt
        go_wp2_with (refine wpList_load_mid (by rfl) 39 _ (by rfl) (w.heap.size + 1) 0 (by rfl) (deL x XA xc XB xd) _ HX2.out.cs.range Tryz.underlying39 rfl (by rw [de_size, deL_len]) ?_)
        refine HK.out.mono ?_
        rintro e w3 ⟨rfl, b3⟩
        have HB3 := Lib.hid (bthen HB2.out b3 (Nat.le_refl _))
        have HX3 := Lib.hid (HX2.out.on b3)
        have HD3 := Lib.hid (HD2.out.on b3)
        have HP3 := Lib.hid (HP2.out.on b3)
        clear b3 c0 cl
        have c0 := HX3.out.cs 0 _ rfl
        have cl := HX3.out.lt
        have d0 := HD3.out.cs 0 _ rfl
        have dl := HD3.out.lt
        have c15 := HX3.out.cs 15 _ rfl
        have c16 := HX3.out.cs 16 _ rfl
        go_wp2_with fail
        refine (HSE.out _ HP3.out).mono ?_
        rintro e w4 ⟨rfl, b4⟩
        have HBX := Lib.hid (bthen HB3.out b4 (Nat.le_refl _))
        have HD4 := Lib.hid (HD3.out.on b4)
        clear b4 c0 cl d0 dl c15 c16
        have d0 := HD4.out.cs 0 _ rfl
        have dl := HD4.out.lt
        cases S with
        | true =>
          have HE := Lib.hid (show F = 9 by rw [HC1.out]; rfl)
          go_wp2_with fail
          go_ret
          exact ⟨ret_nat (by rw [HE.out]; rfl), HBX.out⟩
        | false =>
          have HC2 : Hid (F = if 16 ≤ l.length then 12 else 0) := by unfold Hid; rw [HC1.out]; rfl
          go_wp2_with fail
          refine (HLN.out _).mono ?_
          rintro e w5 ⟨rfl, b5⟩
          have HB5 := Lib.hid (bthen HBX.out b5 (Nat.le_refl _))
          clear b5
          by_cases hf : 16 ≤ l.length
          · have HE := Lib.hid (show F = 12 by rw [HC2.out, if_pos hf])
            have hd : decide ((l.length : Int) ≥ 16) = true := decide_eq_true (by omega)
            have hd2 : (16 : Int) ≤ (l.length : Int) := by omega
            go_wp2_with fail
            go_ret
            exact ⟨ret_nat (by rw [HE.out]; rfl), HB5.out⟩
          · have HE := Lib.hid (show F = 0 by rw [HC2.out, if_neg hf])
            have hd : decide ((l.length : Int) ≥ 16) = false := decide_eq_false (by omega)
            have hd2 : ¬ (16 : Int) ≤ (l.length : Int) := by omega
            go_wp2_with fail
            go_ret
            exact ⟨ret_nat (by rw [HE.out]; rfl), HB5.out⟩
      · have h6 : x.kd = 6 := by omega
        have n6 : ((x.kd : Int) != 6) = false := by rw [h6]; rfl
        have e8 : ((x.kd : Int) == 8) = false := by rw [h6]; rfl
        have nz : ((x.code : Int) != 0) = false := by rw [hz]; rfl
        have HC2 : Hid (F = if 16 ≤ l.length then 12 else 0) := by unfold Hid; rw [HC0.out]; simp [h6]
        clear h68 h8 h6 hz HC0
        go_enter Tryz.func27, Tryz.ntmps27
        go_upto_region 1 with fail
        generalize (w.alloc (.cells #[.slice A l.length c] 27)).alloc (.cells #[.int .u8 (x.kd : Int), .int .u64 (x.tick : Int), .string (ofL x.shop.name), .int .u8 (x.shop.sort : Int), .string (ofL x.shop.to), .string (ofL x.q.name), .int .u64 (x.q.most : Int), .int .u64 (x.q.life : Int), .string (ofL x.q.dead), .string (ofL x.bind.shop), .string (ofL x.bind.to), .bool x.bind.up, .string (ofL x.bind.key), .slice XA x.bind.want.length xc, .bool x.bind.all, .string (ofL x.name), .int .u64 (x.id : Int), .int .u8 (x.how : Int), .int .u8 (x.frm : Int), .int .u8 (x.cd : Int), .int .u64 (x.num : Int), .int .u64 (x.mail.id : Int), .string (ofL x.mail.shop), .string (ofL x.mail.key), .slice XB x.mail.head.length xd, .string (ofL x.mail.body), .int .u64 (x.mail.due : Int), .int .u8 (x.mail.hops : Int), .string (ofL x.text)] 39) = W2 at *
        have c0 := HX2.out.cs 0 _ rfl
        have cl := HX2.out.lt
        go_wp2_with (refine wpList_load_mid (by rfl) 39 _ (by rfl) (w.heap.size + 1) 0 (by rfl) (deL x XA xc XB xd) _ HX2.out.cs.range Tryz.underlying39 rfl (by rw [de_size, deL_len]) ?_)
        refine HK.out.mono ?_
        rintro e w3 ⟨rfl, b3⟩
        have HB3 := Lib.hid (bthen HB2.out b3 (Nat.le_refl _))
        have HX3 := Lib.hid (HX2.out.on b3)
        have HD3 := Lib.hid (HD2.out.on b3)
        have HP3 := Lib.hid (HP2.out.on b3)
        clear b3 c0 cl
        have c0 := HX3.out.cs 0 _ rfl
        have cl := HX3.out.lt
        have d0 := HD3.out.cs 0 _ rfl
        have dl := HD3.out.lt
        have HBX := HB3
        go_wp2_with fail
        refine (HLN.out _).mono ?_
        rintro e w5 ⟨rfl, b5⟩
        have HB5 := Lib.hid (bthen HBX.out b5 (Nat.le_refl _))
        clear b5
        by_cases hf : 16 ≤ l.length
        · have HE := Lib.hid (show F = 12 by rw [HC2.out, if_pos hf])
          have hd : decide ((l.length : Int) ≥ 16) = true := decide_eq_true (by omega)
          have hd2 : (16 : Int) ≤ (l.length : Int) := by omega
          go_wp2_with fail
          go_ret
          exact ⟨ret_nat (by rw [HE.out]; rfl), HB5.out⟩
        · have HE := Lib.hid (show F = 0 by rw [HC2.out, if_neg hf])
          have hd : decide ((l.length : Int) ≥ 16) = false := decide_eq_false (by omega)
          have hd2 : ¬ (16 : Int) ≤ (l.length : Int) := by omega
          go_wp2_with fail
          go_ret
          exact ⟨ret_nat (by rw [HE.out]; rfl), HB5.out⟩
    · have HE := Lib.hid (show F = x.code by rw [HC0.out, if_pos hz])
      have nz : ((x.code : Int) != 0) = true := by simp; omega
      clear hz HC0
      by_cases h6 : x.kd = 6
      · have n6 : ((x.kd : Int) != 6) = false := by rw [h6]; rfl
        clear h6 h68
        go_enter Tryz.func27, Tryz.ntmps27
        go_upto_region 1 with fail
        generalize (w.alloc (.cells #[.slice A l.length c] 27)).alloc (.cells #[.int .u8 (x.kd : Int), .int .u64 (x.tick : Int), .string (ofL x.shop.name), .int .u8 (x.shop.sort : Int), .string (ofL x.shop.to), .string (ofL x.q.name), .int .u64 (x.q.most : Int), .int .u64 (x.q.life : Int), .string (ofL x.q.dead), .string (ofL x.bind.shop), .string (ofL x.bind.to), .bool x.bind.up, .string (ofL x.bind.key), .slice XA x.bind.want.length xc, .bool x.bind.all, .string (ofL x.name), .int .u64 (x.id : Int), .int .u8 (x.how : Int), .int .u8 (x.frm : Int), .int .u8 (x.cd : Int), .int .u64 (x.num : Int), .int .u64 (x.mail.id : Int), .string (ofL x.mail.shop), .string (ofL x.mail.key), .slice XB x.mail.head.length xd, .string (ofL x.mail.body), .int .u64 (x.mail.due : Int), .int .u8 (x.mail.hops : Int), .string (ofL x.text)] 39) = W2 at *
        have c0 := HX2.out.cs 0 _ rfl
        have cl := HX2.out.lt
        go_wp2_with (refine wpList_load_mid (by rfl) 39 _ (by rfl) (w.heap.size + 1) 0 (by rfl) (deL x XA xc XB xd) _ HX2.out.cs.range Tryz.underlying39 rfl (by rw [de_size, deL_len]) ?_)
        refine HK.out.mono ?_
        rintro e w3 ⟨rfl, b3⟩
        have HB3 := Lib.hid (bthen HB2.out b3 (Nat.le_refl _))
        have HX3 := Lib.hid (HX2.out.on b3)
        have HD3 := Lib.hid (HD2.out.on b3)
        have HP3 := Lib.hid (HP2.out.on b3)
        clear b3 c0 cl
        have c0 := HX3.out.cs 0 _ rfl
        have cl := HX3.out.lt
        have d0 := HD3.out.cs 0 _ rfl
        have dl := HD3.out.lt
        go_wp2_with fail
        go_ret
        exact ⟨ret_nat (by rw [HE.out]), HB3.out⟩
      · have n6 : ((x.kd : Int) != 6) = true := by simp; omega
        have n8 : ((x.kd : Int) != 8) = false := by have : x.kd = 8 := by omega
                                                    rw [this]; rfl
        clear h6 h68
        go_enter Tryz.func27, Tryz.ntmps27
        go_upto_region 1 with fail
        generalize (w.alloc (.cells #[.slice A l.length c] 27)).alloc (.cells #[.int .u8 (x.kd : Int), .int .u64 (x.tick : Int), .string (ofL x.shop.name), .int .u8 (x.shop.sort : Int), .string (ofL x.shop.to), .string (ofL x.q.name), .int .u64 (x.q.most : Int), .int .u64 (x.q.life : Int), .string (ofL x.q.dead), .string (ofL x.bind.shop), .string (ofL x.bind.to), .bool x.bind.up, .string (ofL x.bind.key), .slice XA x.bind.want.length xc, .bool x.bind.all, .string (ofL x.name), .int .u64 (x.id : Int), .int .u8 (x.how : Int), .int .u8 (x.frm : Int), .int .u8 (x.cd : Int), .int .u64 (x.num : Int), .int .u64 (x.mail.id : Int), .string (ofL x.mail.shop), .string (ofL x.mail.key), .slice XB x.mail.head.length xd, .string (ofL x.mail.body), .int .u64 (x.mail.due : Int), .int .u8 (x.mail.hops : Int), .string (ofL x.text)] 39) = W2 at *
        have c0 := HX2.out.cs 0 _ rfl
        have cl := HX2.out.lt
        go_wp2_with (refine wpList_load_mid (by rfl) 39 _ (by rfl) (w.heap.size + 1) 0 (by rfl) (deL x XA xc XB xd) _ HX2.out.cs.range Tryz.underlying39 rfl (by rw [de_size, deL_len]) ?_)
        refine HK.out.mono ?_
        rintro e w3 ⟨rfl, b3⟩
        have HB3 := Lib.hid (bthen HB2.out b3 (Nat.le_refl _))
        have HX3 := Lib.hid (HX2.out.on b3)
        have HD3 := Lib.hid (HD2.out.on b3)
        have HP3 := Lib.hid (HP2.out.on b3)
        clear b3 c0 cl
        have c0 := HX3.out.cs 0 _ rfl
        have cl := HX3.out.lt
        have d0 := HD3.out.cs 0 _ rfl
        have dl := HD3.out.lt
        go_wp2_with fail
        go_ret
        exact ⟨ret_nat (by rw [HE.out]), HB3.out⟩
end Go.Proofs.YtecjngodfciokaaGreatDoor
end
section
namespace Go.Proofs.YtecjngodfciokaaGreatDoor
open Go.ChangeShapes Go.WideShapes Go.ChangeAt Go.RowKit
theorem prs_grown {w w' : World} {A : Option Addr} {l : List Hd.Pr} (h : Prs w A l) (hg : w.grownBy w' none) : Prs w' A l := h.grown hg (fun a _ e => by cases e)
/-- the boxes: the deed's, what is more, what is told -/
structure AdW (w : World) (t : Nat) (m : Ml) (B : Option Addr) (d : Nat) (A : Option Addr) (n c g8 : Nat) (W : World) : Prop where
  e : BoxC w g8 (deL (Df t m) none 0 B d) W
  mo : BoxC w (w.heap.size + 2) [.slice A n c] W
  r : BoxC w (w.heap.size + 1) [.slice none 0 0] W
  x : BoxC w w.heap.size [.slice A n c] W
  B : Below w.heap.size w W
  gg : w.heap.size + 2 < g8
theorem AdW.on {w : World} {t : Nat} {m : Ml} {B : Option Addr} {d : Nat} {A : Option Addr} {n c g8 : Nat} {W W' : World} (h : AdW w t m B d A n c g8 W) (hb : Below W.heap.size W W') : AdW w t m B d A n c g8 W' := ⟨h.e.on hb, h.mo.on hb, h.r.on hb, h.x.on hb, bthen h.B hb (Nat.le_refl _), h.gg⟩
theorem AdW.grown {w : World} {t : Nat} {m : Ml} {B : Option Addr} {d : Nat} {A : Option Addr} {n c g8 : Nat} {W W' : World} (h : AdW w t m B d A n c g8 W) (hg : W.grownBy W' none) : AdW w t m B d A n c g8 W' := ⟨rtKept h.e hg (by simp), rtKept h.mo hg (by simp), rtKept h.r hg (by simp), rtKept h.x hg (by simp), h.B.grown hg h.B.size (fun k hk => by cases hk), h.gg⟩
end Go.Proofs.YtecjngodfciokaaGreatDoor
end
