/-
  A REPLY's PARTS WRITTEN: walked.
-/
import Derived.Test.YtnjlhafhgfpfiaaGreatDoorRb17
import Derived.Test.YtnjlhafhgfpfiaaGreatDoorRb25

section
namespace Go.Proofs.YtnjlhafhgfpfiaaGreatDoor
open Go.ChangeShapes Go.WideShapes Go.ChangeAt Go.RowKit
set_option maxHeartbeats 1000000 in
theorem re_wyes_any (y : List UInt8) (b : Bool) (w : World) (hy : y.length ≤ 100000) : Calls Tryz.prog 62 #[.agg #[.string (ofL y), .int .i64 0], .bool b] w fun e w' => e = .returned (.agg #[.string (ofL (y ++ Pt.yesEnc b)), .int .i64 0]) ∧ Below w.heap.size w w' := by
  have HB0 := Lib.hid (show Below w.heap.size w (w.alloc (.cells #[.string (ofL y), .int .i64 0] 83)) from (Below.refl _ _).alloc (Nat.le_refl _) _)
  have HO := Lib.hid (OutB.zero HB0.out (w.heap.size + 1) (by simp) 83)
  have H1 := Lib.hid (fun W => num_l y 1 1 1 W (by omega) (by omega) rfl (by omega))
  have H0 := Lib.hid (fun W => num_l y 0 1 1 W (by omega) (by omega) rfl (by omega))
  rw [show Oct.be 1 1 = [1] from rfl, show ((1 : Nat) : Int) = 1 from rfl] at H1
  rw [show Oct.be 1 0 = [0] from rfl, show ((0 : Nat) : Int) = 0 from rfl] at H0
  cases b with
  | true =>
    rw [show Pt.yesEnc true = [1] from rfl]
    generalize y ++ [1] = z at *
    go_enter Tryz.func62, Tryz.ntmps62
    go_wp2_with fail
    refine (H1.out _).mono ?_
    rintro e w4 ⟨rfl, b4⟩
    have hO := HO.out.on b4
    have HO4 := Lib.hid hO
    obtain ⟨d0, d1, df, dl, -, -⟩ := hO
    clear b4
    go_wp2_with fail
    have HP := HO4.out.put z
    exact bodyPost_ret (v := .agg #[.string (ofL z), .int .i64 0]) (by simp [results, Tryz.results62, go_sem, HP.c0, HP.c1]) rfl ⟨rfl, HP.B⟩
  | false =>
    rw [show Pt.yesEnc false = [0] from rfl]
    generalize y ++ [0] = z at *
    go_enter Tryz.func62, Tryz.ntmps62
    go_wp2_with fail
    refine (H0.out _).mono ?_
    rintro e w4 ⟨rfl, b4⟩
    have hO := HO.out.on b4
    have HO4 := Lib.hid hO
    obtain ⟨d0, d1, df, dl, -, -⟩ := hO
    clear b4
    go_wp2_with fail
    have HP := HO4.out.put z
    exact bodyPost_ret (v := .agg #[.string (ofL z), .int .i64 0]) (by simp [results, Tryz.results62, go_sem, HP.c0, HP.c1]) rfl ⟨rfl, HP.B⟩
set_option maxHeartbeats 1000000 in
theorem re_write_0 (x : Re) (A : Option Addr) (c : Nat) (y : List UInt8) (w : World) (hy : y.length ≤ 100000) (h : ReOk w x A c) (hf : Re.Fits x) (hp : x.pcode 0 = 0) :
    Calls Tryz.prog 37 #[reV x A c, .agg #[.string (ofL y), .int .i64 0], .int .i64 0] w fun e w' => e = .returned (.agg #[.string (ofL (y ++ x.enc1 0)), .int .i64 0]) ∧ Below w.heap.size w w' := by
  have HB2 := Lib.hid (show Below w.heap.size w ((w.alloc (.cells #[.int .u8 (x.ch.toNat : Int), .int .u8 (x.kd.toNat : Int), .int .u64 (x.n : Int), .int .u64 (x.m : Int), .bool x.yes, .string (ofL x.name), .int .u64 (x.id : Int), .string (ofL x.shop), .string (ofL x.key), .slice A x.head.length c, .string (ofL x.body), .int .u64 (x.due : Int), .int .u8 (x.hops : Int)] 30)).alloc (.cells #[.string (ofL y), .int .i64 0] 83)) from ((Below.refl _ _).alloc (Nat.le_refl _) _).alloc (by simp) _)
  have HO := Lib.hid (OutB.zero HB2.out (w.heap.size + 1 + 1) (by simp) 83)
  have H1 := Lib.hid (fun W => num_l y x.n 8 8 W hf.n (by omega) rfl (by omega))
  rw [show y ++ x.enc1 0 = y ++ Oct.be 8 x.n from rfl]
  generalize y ++ Oct.be 8 x.n = z at *
  have _ := And.intro h (And.intro hf hp)
  clear h hf hp hy
  simp only [reV]
  go_enter Tryz.func37, Tryz.ntmps37
  go_wp2_with fail
  refine (H1.out _).mono ?_
  rintro e w5 ⟨rfl, b5⟩
  have hO := HO.out.on b5
  have HO5 := Lib.hid hO
  obtain ⟨d0, d1, df, dl, -, -⟩ := hO
  clear b5
  go_wp2_with fail
  have HP := HO5.out.put z
  exact bodyPost_ret (v := .agg #[.string (ofL z), .int .i64 0]) (by simp [results, Tryz.results37, go_sem, HP.c0, HP.c1]) rfl ⟨rfl, HP.B⟩
set_option maxHeartbeats 1000000 in
theorem re_write_1 (x : Re) (A : Option Addr) (c : Nat) (y : List UInt8) (w : World) (hy : y.length ≤ 100000) (h : ReOk w x A c) (hf : Re.Fits x) (hp : x.pcode 1 = 0) :
    Calls Tryz.prog 37 #[reV x A c, .agg #[.string (ofL y), .int .i64 0], .int .i64 1] w fun e w' => e = .returned (.agg #[.string (ofL (y ++ x.enc1 1)), .int .i64 0]) ∧ Below w.heap.size w w' := by
  have HB2 := Lib.hid (show Below w.heap.size w ((w.alloc (.cells #[.int .u8 (x.ch.toNat : Int), .int .u8 (x.kd.toNat : Int), .int .u64 (x.n : Int), .int .u64 (x.m : Int), .bool x.yes, .string (ofL x.name), .int .u64 (x.id : Int), .string (ofL x.shop), .string (ofL x.key), .slice A x.head.length c, .string (ofL x.body), .int .u64 (x.due : Int), .int .u8 (x.hops : Int)] 30)).alloc (.cells #[.string (ofL y), .int .i64 0] 83)) from ((Below.refl _ _).alloc (Nat.le_refl _) _).alloc (by simp) _)
  have HO := Lib.hid (OutB.zero HB2.out (w.heap.size + 1 + 1) (by simp) 83)
  have H1 := Lib.hid (fun W => num_l y x.m 8 8 W hf.m (by omega) rfl (by omega))
  rw [show y ++ x.enc1 1 = y ++ Oct.be 8 x.m from rfl]
  generalize y ++ Oct.be 8 x.m = z at *
  have _ := And.intro h (And.intro hf hp)
  clear h hf hp hy
  simp only [reV]
  go_enter Tryz.func37, Tryz.ntmps37
  go_wp2_with fail
  refine (H1.out _).mono ?_
  rintro e w5 ⟨rfl, b5⟩
  have hO := HO.out.on b5
  have HO5 := Lib.hid hO
  obtain ⟨d0, d1, df, dl, -, -⟩ := hO
  clear b5
  go_wp2_with fail
  have HP := HO5.out.put z
  exact bodyPost_ret (v := .agg #[.string (ofL z), .int .i64 0]) (by simp [results, Tryz.results37, go_sem, HP.c0, HP.c1]) rfl ⟨rfl, HP.B⟩
set_option maxHeartbeats 1000000 in
theorem re_write_2 (x : Re) (A : Option Addr) (c : Nat) (y : List UInt8) (w : World) (hy : y.length ≤ 100000) (h : ReOk w x A c) (hf : Re.Fits x) (hp : x.pcode 2 = 0) :
    Calls Tryz.prog 37 #[reV x A c, .agg #[.string (ofL y), .int .i64 0], .int .i64 2] w fun e w' => e = .returned (.agg #[.string (ofL (y ++ x.enc1 2)), .int .i64 0]) ∧ Below w.heap.size w w' := by
  have HB2 := Lib.hid (show Below w.heap.size w ((w.alloc (.cells #[.int .u8 (x.ch.toNat : Int), .int .u8 (x.kd.toNat : Int), .int .u64 (x.n : Int), .int .u64 (x.m : Int), .bool x.yes, .string (ofL x.name), .int .u64 (x.id : Int), .string (ofL x.shop), .string (ofL x.key), .slice A x.head.length c, .string (ofL x.body), .int .u64 (x.due : Int), .int .u8 (x.hops : Int)] 30)).alloc (.cells #[.string (ofL y), .int .i64 0] 83)) from ((Below.refl _ _).alloc (Nat.le_refl _) _).alloc (by simp) _)
  have HO := Lib.hid (OutB.zero HB2.out (w.heap.size + 1 + 1) (by simp) 83)
  have H1 := Lib.hid (fun W => re_wyes_any y x.yes W hy)
  rw [show y ++ x.enc1 2 = y ++ Pt.yesEnc x.yes from rfl]
  generalize y ++ Pt.yesEnc x.yes = z at *
  have _ := And.intro h (And.intro hf hp)
  clear h hf hp hy
  simp only [reV]
  go_enter Tryz.func37, Tryz.ntmps37
  go_wp2_with fail
  refine (H1.out _).mono ?_
  rintro e w5 ⟨rfl, b5⟩
  have hO := HO.out.on b5
  have HO5 := Lib.hid hO
  obtain ⟨d0, d1, df, dl, -, -⟩ := hO
  clear b5
  go_wp2_with fail
  have HP := HO5.out.put z
  exact bodyPost_ret (v := .agg #[.string (ofL z), .int .i64 0]) (by simp [results, Tryz.results37, go_sem, HP.c0, HP.c1]) rfl ⟨rfl, HP.B⟩
set_option maxHeartbeats 1000000 in
theorem re_write_3 (x : Re) (A : Option Addr) (c : Nat) (y : List UInt8) (w : World) (hy : y.length ≤ 100000) (h : ReOk w x A c) (hf : Re.Fits x) (hp : x.pcode 3 = 0) :
    Calls Tryz.prog 37 #[reV x A c, .agg #[.string (ofL y), .int .i64 0], .int .i64 3] w fun e w' => e = .returned (.agg #[.string (ofL (y ++ x.enc1 3)), .int .i64 0]) ∧ Below w.heap.size w w' := by
  have HB2 := Lib.hid (show Below w.heap.size w ((w.alloc (.cells #[.int .u8 (x.ch.toNat : Int), .int .u8 (x.kd.toNat : Int), .int .u64 (x.n : Int), .int .u64 (x.m : Int), .bool x.yes, .string (ofL x.name), .int .u64 (x.id : Int), .string (ofL x.shop), .string (ofL x.key), .slice A x.head.length c, .string (ofL x.body), .int .u64 (x.due : Int), .int .u8 (x.hops : Int)] 30)).alloc (.cells #[.string (ofL y), .int .i64 0] 83)) from ((Below.refl _ _).alloc (Nat.le_refl _) _).alloc (by simp) _)
  have HO := Lib.hid (OutB.zero HB2.out (w.heap.size + 1 + 1) (by simp) 83)
  have hl : x.name.length ≤ 65535 := by
    have := (Hd.name_ok_len (show Wrd.nameCode x.name = 0 from hp)).1
    omega
  have H1 := Lib.hid (fun W => text_l y x.name W (by omega) hl)
  rw [show y ++ x.enc1 3 = y ++ (Oct.be 2 x.name.length ++ x.name) from rfl]
  generalize y ++ (Oct.be 2 x.name.length ++ x.name) = z at *
  have _ := And.intro h (And.intro hf hp)
  clear h hf hp hy
  simp only [reV]
  go_enter Tryz.func37, Tryz.ntmps37
  go_wp2_with fail
  refine (H1.out _).mono ?_
  rintro e w5 ⟨rfl, b5⟩
  have hO := HO.out.on b5
  have HO5 := Lib.hid hO
  obtain ⟨d0, d1, df, dl, -, -⟩ := hO
  clear b5
  go_wp2_with fail
  have HP := HO5.out.put z
  exact bodyPost_ret (v := .agg #[.string (ofL z), .int .i64 0]) (by simp [results, Tryz.results37, go_sem, HP.c0, HP.c1]) rfl ⟨rfl, HP.B⟩
set_option maxHeartbeats 1000000 in
theorem re_write_4 (x : Re) (A : Option Addr) (c : Nat) (y : List UInt8) (w : World) (hy : y.length ≤ 100000) (h : ReOk w x A c) (hf : Re.Fits x) (hp : x.pcode 4 = 0) :
    Calls Tryz.prog 37 #[reV x A c, .agg #[.string (ofL y), .int .i64 0], .int .i64 4] w fun e w' => e = .returned (.agg #[.string (ofL (y ++ x.enc1 4)), .int .i64 0]) ∧ Below w.heap.size w w' := by
  have HB2 := Lib.hid (show Below w.heap.size w ((w.alloc (.cells #[.int .u8 (x.ch.toNat : Int), .int .u8 (x.kd.toNat : Int), .int .u64 (x.n : Int), .int .u64 (x.m : Int), .bool x.yes, .string (ofL x.name), .int .u64 (x.id : Int), .string (ofL x.shop), .string (ofL x.key), .slice A x.head.length c, .string (ofL x.body), .int .u64 (x.due : Int), .int .u8 (x.hops : Int)] 30)).alloc (.cells #[.string (ofL y), .int .i64 0] 83)) from ((Below.refl _ _).alloc (Nat.le_refl _) _).alloc (by simp) _)
  have HO := Lib.hid (OutB.zero HB2.out (w.heap.size + 1 + 1) (by simp) 83)
  have hl : x.shop.length ≤ 65535 := by
    have := (Hd.name_ok_len (show Wrd.nameCode x.shop = 0 from hp)).1
    omega
  have H1 := Lib.hid (fun W => text_l y x.shop W (by omega) hl)
  rw [show y ++ x.enc1 4 = y ++ (Oct.be 2 x.shop.length ++ x.shop) from rfl]
  generalize y ++ (Oct.be 2 x.shop.length ++ x.shop) = z at *
  have _ := And.intro h (And.intro hf hp)
  clear h hf hp hy
  simp only [reV]
  go_enter Tryz.func37, Tryz.ntmps37
  go_wp2_with fail
  refine (H1.out _).mono ?_
  rintro e w5 ⟨rfl, b5⟩
  have hO := HO.out.on b5
  have HO5 := Lib.hid hO
  obtain ⟨d0, d1, df, dl, -, -⟩ := hO
  clear b5
  go_wp2_with fail
  have HP := HO5.out.put z
  exact bodyPost_ret (v := .agg #[.string (ofL z), .int .i64 0]) (by simp [results, Tryz.results37, go_sem, HP.c0, HP.c1]) rfl ⟨rfl, HP.B⟩
set_option maxHeartbeats 1000000 in
theorem re_write_5 (x : Re) (A : Option Addr) (c : Nat) (y : List UInt8) (w : World) (hy : y.length ≤ 100000) (h : ReOk w x A c) (hf : Re.Fits x) (hp : x.pcode 5 = 0) :
    Calls Tryz.prog 37 #[reV x A c, .agg #[.string (ofL y), .int .i64 0], .int .i64 5] w fun e w' => e = .returned (.agg #[.string (ofL (y ++ x.enc1 5)), .int .i64 0]) ∧ Below w.heap.size w w' := by
  have HB2 := Lib.hid (show Below w.heap.size w ((w.alloc (.cells #[.int .u8 (x.ch.toNat : Int), .int .u8 (x.kd.toNat : Int), .int .u64 (x.n : Int), .int .u64 (x.m : Int), .bool x.yes, .string (ofL x.name), .int .u64 (x.id : Int), .string (ofL x.shop), .string (ofL x.key), .slice A x.head.length c, .string (ofL x.body), .int .u64 (x.due : Int), .int .u8 (x.hops : Int)] 30)).alloc (.cells #[.string (ofL y), .int .i64 0] 83)) from ((Below.refl _ _).alloc (Nat.le_refl _) _).alloc (by simp) _)
  have HO := Lib.hid (OutB.zero HB2.out (w.heap.size + 1 + 1) (by simp) 83)
  have hl : x.key.length ≤ 65535 := by
    have := Re.key_len (show Wrd.keyCode [] x.key = 0 from hp)
    omega
  have H1 := Lib.hid (fun W => text_l y x.key W (by omega) hl)
  rw [show y ++ x.enc1 5 = y ++ (Oct.be 2 x.key.length ++ x.key) from rfl]
  generalize y ++ (Oct.be 2 x.key.length ++ x.key) = z at *
  have _ := And.intro h (And.intro hf hp)
  clear h hf hp hy
  simp only [reV]
  go_enter Tryz.func37, Tryz.ntmps37
  go_wp2_with fail
  refine (H1.out _).mono ?_
  rintro e w5 ⟨rfl, b5⟩
  have hO := HO.out.on b5
  have HO5 := Lib.hid hO
  obtain ⟨d0, d1, df, dl, -, -⟩ := hO
  clear b5
  go_wp2_with fail
  have HP := HO5.out.put z
  exact bodyPost_ret (v := .agg #[.string (ofL z), .int .i64 0]) (by simp [results, Tryz.results37, go_sem, HP.c0, HP.c1]) rfl ⟨rfl, HP.B⟩
set_option maxHeartbeats 1000000 in
theorem re_write_6 (x : Re) (A : Option Addr) (c : Nat) (y : List UInt8) (w : World) (hy : y.length ≤ 100000) (h : ReOk w x A c) (hf : Re.Fits x) (hp : x.pcode 6 = 0) :
    Calls Tryz.prog 37 #[reV x A c, .agg #[.string (ofL y), .int .i64 0], .int .i64 6] w fun e w' => e = .returned (.agg #[.string (ofL (y ++ x.enc1 6)), .int .i64 0]) ∧ Below w.heap.size w w' := by
  have HB2 := Lib.hid (show Below w.heap.size w ((w.alloc (.cells #[.int .u8 (x.ch.toNat : Int), .int .u8 (x.kd.toNat : Int), .int .u64 (x.n : Int), .int .u64 (x.m : Int), .bool x.yes, .string (ofL x.name), .int .u64 (x.id : Int), .string (ofL x.shop), .string (ofL x.key), .slice A x.head.length c, .string (ofL x.body), .int .u64 (x.due : Int), .int .u8 (x.hops : Int)] 30)).alloc (.cells #[.string (ofL y), .int .i64 0] 83)) from ((Below.refl _ _).alloc (Nat.le_refl _) _).alloc (by simp) _)
  have HO := Lib.hid (OutB.zero HB2.out (w.heap.size + 1 + 1) (by simp) 83)
  have h0 : Hd.hcode x.head = 0 := hp
  have HR := Lib.hid (h.row.on (HB2.out.alloc HB2.out.size (.cells #[.string ⟨#[]⟩, .int .i64 0] 83)))
  have H0 := Lib.hid (fun W g => hbytes_any x.head A c W h.len h.cap h.lite g)
  rw [show hbytesV x.head = .tuple #[.string (ofL (Hd.henc x.head)), .int .i64 0] by unfold hbytesV; rw [if_pos h0]] at H0
  have hl : (Hd.henc x.head).length ≤ 1000 := by
    have := (hfine_of h0).pre x.head.length
    rw [hpre_all (Nat.le_refl _)] at this
    exact this
  have H1 := Lib.hid (fun W => raw_l y (Hd.henc x.head) W (by omega) (by omega))
  have HOX := Lib.hid (show OutB w (w.heap.size + 1) y (((w.alloc (.cells #[.int .u8 (x.ch.toNat : Int), .int .u8 (x.kd.toNat : Int), .int .u64 (x.n : Int), .int .u64 (x.m : Int), .bool x.yes, .string (ofL x.name), .int .u64 (x.id : Int), .string (ofL x.shop), .string (ofL x.key), .slice A x.head.length c, .string (ofL x.body), .int .u64 (x.due : Int), .int .u8 (x.hops : Int)] 30)).alloc (.cells #[.string (ofL y), .int .i64 0] 83)).alloc (.cells #[.string ⟨#[]⟩, .int .i64 0] 83)) from (show OutB w (w.heap.size + 1) y ((w.alloc (.cells #[.int .u8 (x.ch.toNat : Int), .int .u8 (x.kd.toNat : Int), .int .u64 (x.n : Int), .int .u64 (x.m : Int), .bool x.yes, .string (ofL x.name), .int .u64 (x.id : Int), .string (ofL x.shop), .string (ofL x.key), .slice A x.head.length c, .string (ofL x.body), .int .u64 (x.due : Int), .int .u8 (x.hops : Int)] 30)).alloc (.cells #[.string (ofL y), .int .i64 0] 83)) from by
    have := OutB.new (show Below w.heap.size w (w.alloc (.cells #[.int .u8 (x.ch.toNat : Int), .int .u8 (x.kd.toNat : Int), .int .u64 (x.n : Int), .int .u64 (x.m : Int), .bool x.yes, .string (ofL x.name), .int .u64 (x.id : Int), .string (ofL x.shop), .string (ofL x.key), .slice A x.head.length c, .string (ofL x.body), .int .u64 (x.due : Int), .int .u8 (x.hops : Int)] 30)) from (Below.refl _ _).alloc (Nat.le_refl _) _) y 83
    simpa using this).on ((Below.refl _ _).alloc (Nat.le_refl _) _))
  rw [show y ++ x.enc1 6 = y ++ Hd.henc x.head from rfl]
  generalize y ++ Hd.henc x.head = z at *
  generalize Hd.henc x.head = hx at *
  have _ := And.intro h (And.intro hf hp)
  clear h hf hp hy
  simp only [reV]
  go_enter Tryz.func37, Tryz.ntmps37
  go_wp2_with fail
  refine (H0.out _ HR.out).mono ?_
  rintro e w4 ⟨rfl, b4⟩
  have HO := Lib.hid (HO.out.on b4)
  have hX := HOX.out.on b4
  obtain ⟨q0, q1, -, ql, -, -⟩ := hX
  clear b4 HOX
  go_wp2_with fail
  refine (H1.out _).mono ?_
  rintro e w5 ⟨rfl, b5⟩
  have hO := HO.out.on b5
  have HO5 := Lib.hid hO
  obtain ⟨d0, d1, df, dl, -, -⟩ := hO
  clear b5 q0 q1 ql
  go_wp2_with fail
  have HP := HO5.out.put z
  exact bodyPost_ret (v := .agg #[.string (ofL z), .int .i64 0]) (by simp [results, Tryz.results37, go_sem, HP.c0, HP.c1]) rfl ⟨rfl, HP.B⟩
set_option maxHeartbeats 1000000 in
theorem re_write_7 (x : Re) (A : Option Addr) (c : Nat) (y : List UInt8) (w : World) (hy : y.length ≤ 100000) (h : ReOk w x A c) (hf : Re.Fits x) (hp : x.pcode 7 = 0) :
    Calls Tryz.prog 37 #[reV x A c, .agg #[.string (ofL y), .int .i64 0], .int .i64 7] w fun e w' => e = .returned (.agg #[.string (ofL (y ++ x.enc1 7)), .int .i64 0]) ∧ Below w.heap.size w w' := by
  have HB2 := Lib.hid (show Below w.heap.size w ((w.alloc (.cells #[.int .u8 (x.ch.toNat : Int), .int .u8 (x.kd.toNat : Int), .int .u64 (x.n : Int), .int .u64 (x.m : Int), .bool x.yes, .string (ofL x.name), .int .u64 (x.id : Int), .string (ofL x.shop), .string (ofL x.key), .slice A x.head.length c, .string (ofL x.body), .int .u64 (x.due : Int), .int .u8 (x.hops : Int)] 30)).alloc (.cells #[.string (ofL y), .int .i64 0] 83)) from ((Below.refl _ _).alloc (Nat.le_refl _) _).alloc (by simp) _)
  have HO := Lib.hid (OutB.zero HB2.out (w.heap.size + 1 + 1) (by simp) 83)
  have hl : x.body.length ≤ 65535 := by
    have h0 : (if 256 < x.body.length then 5 else 0) = 0 := hp
    by_cases hh : 256 < x.body.length
    · rw [if_pos hh] at h0; omega
    · omega
  have H1 := Lib.hid (fun W => text_l y x.body W (by omega) hl)
  rw [show y ++ x.enc1 7 = y ++ (Oct.be 2 x.body.length ++ x.body) from rfl]
  generalize y ++ (Oct.be 2 x.body.length ++ x.body) = z at *
  have _ := And.intro h (And.intro hf hp)
  clear h hf hp hy
  simp only [reV]
  go_enter Tryz.func37, Tryz.ntmps37
  go_wp2_with fail
  refine (H1.out _).mono ?_
  rintro e w5 ⟨rfl, b5⟩
  have hO := HO.out.on b5
  have HO5 := Lib.hid hO
  obtain ⟨d0, d1, df, dl, -, -⟩ := hO
  clear b5
  go_wp2_with fail
  have HP := HO5.out.put z
  exact bodyPost_ret (v := .agg #[.string (ofL z), .int .i64 0]) (by simp [results, Tryz.results37, go_sem, HP.c0, HP.c1]) rfl ⟨rfl, HP.B⟩
theorem re_write_any (x : Re) (A : Option Addr) (c p : Nat) (hp8 : p < 8) (y : List UInt8) (w : World) (hy : y.length ≤ 100000) (h : ReOk w x A c) (hf : Re.Fits x) (hp : x.pcode p = 0) :
    Calls Tryz.prog 37 #[reV x A c, .agg #[.string (ofL y), .int .i64 0], .int .i64 (p : Int)] w fun e w' => e = .returned (.agg #[.string (ofL (y ++ x.enc1 p)), .int .i64 0]) ∧ Below w.heap.size w w' := by
  rcases Re.lt8 hp8 with rfl | rfl | rfl | rfl | rfl | rfl | rfl | rfl
  · exact re_write_0 x A c y w hy h hf hp
  · exact re_write_1 x A c y w hy h hf hp
  · exact re_write_2 x A c y w hy h hf hp
  · exact re_write_3 x A c y w hy h hf hp
  · exact re_write_4 x A c y w hy h hf hp
  · exact re_write_5 x A c y w hy h hf hp
  · exact re_write_6 x A c y w hy h hf hp
  · exact re_write_7 x A c y w hy h hf hp
end Go.Proofs.YtnjlhafhgfpfiaaGreatDoor
end
