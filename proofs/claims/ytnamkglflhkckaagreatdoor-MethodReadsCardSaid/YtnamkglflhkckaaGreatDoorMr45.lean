/-
  A METHOD READ OF A FRAME, as the document has it: walked.
-/
import Derived.Test.YtnamkglflhkckaaGreatDoorMr19
import Derived.Test.YtnamkglflhkckaaGreatDoorMr20
import Derived.Test.YtnamkglflhkckaaGreatDoorMr21
import Derived.Test.YtnamkglflhkckaaGreatDoorMr22
import Derived.Test.YtnamkglflhkckaaGreatDoorMr23
import Derived.Test.YtnamkglflhkckaaGreatDoorMr24
import Derived.Test.YtnamkglflhkckaaGreatDoorMr25
import Derived.Test.YtnamkglflhkckaaGreatDoorMr26
import Derived.Test.YtnamkglflhkckaaGreatDoorMr27
import Derived.Test.YtnamkglflhkckaaGreatDoorMr44

section
namespace Go.Proofs.YtnamkglflhkckaaGreatDoor
open Go.ChangeShapes Go.WideShapes Go.ChangeAt Go.RowKit
theorem mp_box (c k : UInt8) (body : List UInt8) (w : World) : BoxC w w.heap.size [.int .u8 (c.toNat : Int), .int .u8 (k.toNat : Int), .string (ofL body)] ((w.alloc (.cells #[.int .u8 (c.toNat : Int), .int .u8 (k.toNat : Int), .string (ofL body)] 40)).alloc (.cells #[.int .u8 0, .int .u8 0, .string ⟨#[]⟩, .string ⟨#[]⟩, .string ⟨#[]⟩, .slice none 0 0, .string ⟨#[]⟩, .int .u64 0, .int .u64 0, .bool false] 29)) := by
  have a1 : Below (w.alloc (.cells #[.int .u8 (c.toNat : Int), .int .u8 (k.toNat : Int), .string (ofL body)] 40)).heap.size (w.alloc (.cells #[.int .u8 (c.toNat : Int), .int .u8 (k.toNat : Int), .string (ofL body)] 40)) ((w.alloc (.cells #[.int .u8 (c.toNat : Int), .int .u8 (k.toNat : Int), .string (ofL body)] 40)).alloc (.cells #[.int .u8 0, .int .u8 0, .string ⟨#[]⟩, .string ⟨#[]⟩, .string ⟨#[]⟩, .slice none 0 0, .string ⟨#[]⟩, .int .u64 0, .int .u64 0, .bool false] 29)) := (Below.refl _ _).alloc (Nat.le_refl _) _
  exact (BoxC.new (Nat.le_refl _) #[.int .u8 (c.toNat : Int), .int .u8 (k.toNat : Int), .string (ofL body)] 40).on a1
theorem me_rd1_0 (y : Me) (s : LSt) : Me.rd1 y s 0 = ({y with name := lTextOut s 16}, lText s 16) := by unfold Me.rd1; simp
theorem me_rd1_1 (y : Me) (s : LSt) : Me.rd1 y s 1 = ({y with other := lTextOut s 16}, lText s 16) := by unfold Me.rd1; simp
theorem me_rd1_2 (y : Me) (s : LSt) : Me.rd1 y s 2 = ({y with key := lTextOut s 64}, lText s 64) := by unfold Me.rd1; simp
theorem me_rd1_3 (y : Me) (s : LSt) : Me.rd1 y s 3 = ({y with head := (Hd.hread s).1}, (Hd.hread s).2) := by unfold Me.rd1; simp
theorem me_rd1_4 (y : Me) (s : LSt) : Me.rd1 y s 4 = ({y with body := lTextOut s 256}, lText s 256) := by unfold Me.rd1; simp
theorem me_rd1_5 (y : Me) (s : LSt) : Me.rd1 y s 5 = ({y with n := Oct.val (lOut s.1 8)}, lRaw s 8) := by unfold Me.rd1; simp
theorem me_rd1_6 (y : Me) (s : LSt) : Me.rd1 y s 6 = ({y with m := Oct.val (lOut s.1 8)}, lRaw s 8) := by unfold Me.rd1; simp
theorem me_rd1_7 (y : Me) (s : LSt) : Me.rd1 y s 7 = ({y with yes := Pt.yesOut s}, Pt.yesIn s) := by unfold Me.rd1; simp
theorem r11_rd_n (c k : UInt8) (body : List UInt8) (hk : Me.tells k.toNat = [5]) (s1 : LSt) (e1 : lRaw (body, 0) 8 = s1) :
    Me.rd c k body = (⟨c, k, [], [], [], [], [], Oct.val (lOut (body, 0).1 8), 0, false⟩, s1) := by
  unfold Me.rd
  rw [hk]
  unfold Me.rdl
  simp only [List.foldl_cons, List.foldl_nil]
  rw [me_rd1_5]
  (try dsimp only)
  rw [e1]
  rfl
set_option maxRecDepth 100000 in
theorem r11Parse_n (c k : UInt8) (body : List UInt8) (w : World) (hS : (ofL body).size ≤ 1000000) (hk : k.toNat = 0 ∨ k.toNat = 12 ∨ k.toNat = 14) : Calls Tryz.prog 19 #[.agg #[.int .u8 (c.toNat : Int), .int .u8 (k.toNat : Int), .string (ofL body)]] w (MeOfPost (Me.got c k body) (Me.rcode c k body) w) := by
  have hz : decide ((20 : Int) < (k.toNat : Int)) = false := decide_eq_false (by omega)
  have hO := r11Of_any k.toNat (by omega) ((w.alloc (.cells #[.int .u8 (c.toNat : Int), .int .u8 (k.toNat : Int), .string (ofL body)] 40)).alloc (.cells #[.int .u8 0, .int .u8 0, .string ⟨#[]⟩, .string ⟨#[]⟩, .string ⟨#[]⟩, .slice none 0 0, .string ⟨#[]⟩, .int .u64 0, .int .u64 0, .bool false] 29))
  rw [show Me.has k.toNat = ⟨false, false, false, false, false, false, false, true, false, false⟩ by rcases hk with hk | hk | hk <;> (rw [hk]; rfl)] at hO
  have ht : Me.tells k.toNat = [5] := by rcases hk with hk | hk | hk <;> (rw [hk]; rfl)
  have hC : Me.rcode c k body = Me.tail c k body := by unfold Me.rcode; rw [if_neg (by omega)]
  have hG : Me.got c k body = if Me.rcode c k body = 0 then (Me.rd c k body).1 else Me.zero 0 0 := by unfold Me.got; rfl
  have hT : Me.tail c k body = if lEnd (Me.rd c k body).2 ≠ 0 then lEnd (Me.rd c k body).2 else ((Me.rd c k body).1.code : Int) := by unfold Me.tail; rfl
  rw [← hC] at hT
  clear hC hk
  generalize Me.rcode c k body = RC at *
  generalize Me.got c k body = GT at *
  have ok0 := lOk_new body
  have n0 := fun b W h => rinum_l b (ofL body) (body, 0) 8 8 W (by omega) rfl h hS
  obtain ⟨s1, e1⟩ : ∃ z, lRaw (body, 0) 8 = z := ⟨_, rfl⟩
  have ok1 : lOk s1 := by rw [← e1]; exact lOk_raw ok0 _
  rw [e1] at n0
  have nE := fun b W h => riend_l b (ofL body) s1 W h
  unfold Quiet at nE
  have hRD := r11_rd_n c k body ht s1 e1
  have HLOW := me_rdl_low (Me.tells k.toNat) (Me.zero c k, (body, 0)) (me_zero_low c k)
  rw [show Me.rdl (Me.tells k.toNat) (Me.zero c k, (body, 0)) = Me.rd c k body by unfold Me.rd; rfl] at HLOW
  rw [hRD] at hG hT HLOW
  dsimp only at hG hT HLOW
  obtain ⟨y, hy⟩ : ∃ y : Me, ⟨c, k, [], [], [], [], [], Oct.val (lOut (body, 0).1 8), 0, false⟩ = y := ⟨_, rfl⟩
  rw [hy] at hG hT HLOW
  have nC := fun A q W (h1 : y.head.length ≤ q) (h2 : Prs W A y.head) => r11Check_any y A q W (HLOW.ok h1 h2)
  unfold RPostL at n0
  (try dsimp only at n0 hy)
  generalize Oct.val (lOut body 8) = N at *
  generalize lEnd s1 = EC at *
  have hf := mp_box c k body w
  have hst := fun w1 hb => MpC.start c k body w w1 hb #[.bool false, .bool false, .bool false, .bool false, .bool false, .bool false, .bool false, .bool true, .bool false, .bool false] 108
  exact r11Parse_n_core c k body w (fun b => RefL b (ofL body)) (fun b => rdr_ref b _) (body, 0) s1 N EC _ RC GT y hy hz n0 nE nC hT hG hO (fun w1 hb => ⟨(hf.on hb).cs 0 _ rfl, (hf.on hb).cs 1 _ rfl, (hf.on hb).cs 2 _ rfl⟩) hst
theorem r11_rd_nno (c k : UInt8) (body : List UInt8) (hk : Me.tells k.toNat = [0, 5, 1]) (s1 s2 s3 : LSt) (e1 : lText (body, 0) 16 = s1) (e2 : lRaw s1 8 = s2) (e3 : lText s2 16 = s3) :
    Me.rd c k body = (⟨c, k, lTextOut (body, 0) 16, lTextOut s2 16, [], [], [], Oct.val (lOut s1.1 8), 0, false⟩, s3) := by
  unfold Me.rd
  rw [hk]
  unfold Me.rdl
  simp only [List.foldl_cons, List.foldl_nil]
  rw [me_rd1_0]
  (try dsimp only)
  rw [e1]
  rw [me_rd1_5]
  (try dsimp only)
  rw [e2]
  rw [me_rd1_1]
  (try dsimp only)
  rw [e3]
  rfl
set_option maxRecDepth 100000 in
theorem r11Parse_nno (c k : UInt8) (body : List UInt8) (w : World) (hS : (ofL body).size ≤ 1000000) (hk : k.toNat = 3) : Calls Tryz.prog 19 #[.agg #[.int .u8 (c.toNat : Int), .int .u8 (k.toNat : Int), .string (ofL body)]] w (MeOfPost (Me.got c k body) (Me.rcode c k body) w) := by
  have hz : decide ((20 : Int) < (k.toNat : Int)) = false := decide_eq_false (by omega)
  have hO := r11Of_any k.toNat (by omega) ((w.alloc (.cells #[.int .u8 (c.toNat : Int), .int .u8 (k.toNat : Int), .string (ofL body)] 40)).alloc (.cells #[.int .u8 0, .int .u8 0, .string ⟨#[]⟩, .string ⟨#[]⟩, .string ⟨#[]⟩, .slice none 0 0, .string ⟨#[]⟩, .int .u64 0, .int .u64 0, .bool false] 29))
  rw [show Me.has k.toNat = ⟨true, true, true, false, false, false, false, true, false, false⟩ by (rw [hk]; rfl)] at hO
  have ht : Me.tells k.toNat = [0, 5, 1] := by (rw [hk]; rfl)
  have hC : Me.rcode c k body = Me.tail c k body := by unfold Me.rcode; rw [if_neg (by omega)]
  have hG : Me.got c k body = if Me.rcode c k body = 0 then (Me.rd c k body).1 else Me.zero 0 0 := by unfold Me.got; rfl
  have hT : Me.tail c k body = if lEnd (Me.rd c k body).2 ≠ 0 then lEnd (Me.rd c k body).2 else ((Me.rd c k body).1.code : Int) := by unfold Me.tail; rfl
  rw [← hC] at hT
  clear hC hk
  generalize Me.rcode c k body = RC at *
  generalize Me.got c k body = GT at *
  have ok0 := lOk_new body
  have n0 := fun b W h => ritext_l b (ofL body) (body, 0) 16 W h hS
  obtain ⟨s1, e1⟩ : ∃ z, lText (body, 0) 16 = z := ⟨_, rfl⟩
  have ok1 : lOk s1 := by rw [← e1]; exact lOk_text ok0 _
  rw [e1] at n0
  have n1 := fun b W h => rinum_l b (ofL body) s1 8 8 W (by omega) rfl h hS
  obtain ⟨s2, e2⟩ : ∃ z, lRaw s1 8 = z := ⟨_, rfl⟩
  have ok2 : lOk s2 := by rw [← e2]; exact lOk_raw ok1 _
  rw [e2] at n1
  have n2 := fun b W h => ritext_l b (ofL body) s2 16 W h hS
  obtain ⟨s3, e3⟩ : ∃ z, lText s2 16 = z := ⟨_, rfl⟩
  have ok3 : lOk s3 := by rw [← e3]; exact lOk_text ok2 _
  rw [e3] at n2
  have nE := fun b W h => riend_l b (ofL body) s3 W h
  unfold Quiet at nE
  have hRD := r11_rd_nno c k body ht s1 s2 s3 e1 e2 e3
  have HLOW := me_rdl_low (Me.tells k.toNat) (Me.zero c k, (body, 0)) (me_zero_low c k)
  rw [show Me.rdl (Me.tells k.toNat) (Me.zero c k, (body, 0)) = Me.rd c k body by unfold Me.rd; rfl] at HLOW
  rw [hRD] at hG hT HLOW
  dsimp only at hG hT HLOW
  obtain ⟨y, hy⟩ : ∃ y : Me, ⟨c, k, lTextOut (body, 0) 16, lTextOut s2 16, [], [], [], Oct.val (lOut s1.1 8), 0, false⟩ = y := ⟨_, rfl⟩
  rw [hy] at hG hT HLOW
  have nC := fun A q W (h1 : y.head.length ≤ q) (h2 : Prs W A y.head) => r11Check_any y A q W (HLOW.ok h1 h2)
  unfold RPostL at n0 n1 n2
  generalize lTextOut (body, 0) 16 = NM at *
  generalize Oct.val (lOut s1.1 8) = N at *
  generalize lTextOut s2 16 = OT at *
  generalize lEnd s3 = EC at *
  have hf := mp_box c k body w
  have hst := fun w1 hb => MpC.start c k body w w1 hb #[.bool true, .bool true, .bool true, .bool false, .bool false, .bool false, .bool false, .bool true, .bool false, .bool false] 108
  exact r11Parse_nno_core c k body w (fun b => RefL b (ofL body)) (fun b => rdr_ref b _) (body, 0) s1 s2 s3 NM N OT EC _ RC GT y hy hz n0 n1 n2 nE nC hT hG hO (fun w1 hb => ⟨(hf.on hb).cs 0 _ rfl, (hf.on hb).cs 1 _ rfl, (hf.on hb).cs 2 _ rfl⟩) hst
theorem r11_rd_a (c k : UInt8) (body : List UInt8) (hk : Me.tells k.toNat = [0]) (s1 : LSt) (e1 : lText (body, 0) 16 = s1) :
    Me.rd c k body = (⟨c, k, lTextOut (body, 0) 16, [], [], [], [], 0, 0, false⟩, s1) := by
  unfold Me.rd
  rw [hk]
  unfold Me.rdl
  simp only [List.foldl_cons, List.foldl_nil]
  rw [me_rd1_0]
  (try dsimp only)
  rw [e1]
  rfl
set_option maxRecDepth 100000 in
theorem r11Parse_a (c k : UInt8) (body : List UInt8) (w : World) (hS : (ofL body).size ≤ 1000000) (hk : k.toNat = 4 ∨ k.toNat = 6 ∨ k.toNat = 15) : Calls Tryz.prog 19 #[.agg #[.int .u8 (c.toNat : Int), .int .u8 (k.toNat : Int), .string (ofL body)]] w (MeOfPost (Me.got c k body) (Me.rcode c k body) w) := by
  have hz : decide ((20 : Int) < (k.toNat : Int)) = false := decide_eq_false (by omega)
  have hO := r11Of_any k.toNat (by omega) ((w.alloc (.cells #[.int .u8 (c.toNat : Int), .int .u8 (k.toNat : Int), .string (ofL body)] 40)).alloc (.cells #[.int .u8 0, .int .u8 0, .string ⟨#[]⟩, .string ⟨#[]⟩, .string ⟨#[]⟩, .slice none 0 0, .string ⟨#[]⟩, .int .u64 0, .int .u64 0, .bool false] 29))
  rw [show Me.has k.toNat = ⟨true, false, false, false, false, false, false, false, false, false⟩ by rcases hk with hk | hk | hk <;> (rw [hk]; rfl)] at hO
  have ht : Me.tells k.toNat = [0] := by rcases hk with hk | hk | hk <;> (rw [hk]; rfl)
  have hC : Me.rcode c k body = Me.tail c k body := by unfold Me.rcode; rw [if_neg (by omega)]
  have hG : Me.got c k body = if Me.rcode c k body = 0 then (Me.rd c k body).1 else Me.zero 0 0 := by unfold Me.got; rfl
  have hT : Me.tail c k body = if lEnd (Me.rd c k body).2 ≠ 0 then lEnd (Me.rd c k body).2 else ((Me.rd c k body).1.code : Int) := by unfold Me.tail; rfl
  rw [← hC] at hT
  clear hC hk
  generalize Me.rcode c k body = RC at *
  generalize Me.got c k body = GT at *
  have ok0 := lOk_new body
  have n0 := fun b W h => ritext_l b (ofL body) (body, 0) 16 W h hS
  obtain ⟨s1, e1⟩ : ∃ z, lText (body, 0) 16 = z := ⟨_, rfl⟩
  have ok1 : lOk s1 := by rw [← e1]; exact lOk_text ok0 _
  rw [e1] at n0
  have nE := fun b W h => riend_l b (ofL body) s1 W h
  unfold Quiet at nE
  have hRD := r11_rd_a c k body ht s1 e1
  have HLOW := me_rdl_low (Me.tells k.toNat) (Me.zero c k, (body, 0)) (me_zero_low c k)
  rw [show Me.rdl (Me.tells k.toNat) (Me.zero c k, (body, 0)) = Me.rd c k body by unfold Me.rd; rfl] at HLOW
  rw [hRD] at hG hT HLOW
  dsimp only at hG hT HLOW
  obtain ⟨y, hy⟩ : ∃ y : Me, ⟨c, k, lTextOut (body, 0) 16, [], [], [], [], 0, 0, false⟩ = y := ⟨_, rfl⟩
  rw [hy] at hG hT HLOW
  have nC := fun A q W (h1 : y.head.length ≤ q) (h2 : Prs W A y.head) => r11Check_any y A q W (HLOW.ok h1 h2)
  unfold RPostL at n0
  generalize lTextOut (body, 0) 16 = NM at *
  generalize lEnd s1 = EC at *
  have hf := mp_box c k body w
  have hst := fun w1 hb => MpC.start c k body w w1 hb #[.bool true, .bool false, .bool false, .bool false, .bool false, .bool false, .bool false, .bool false, .bool false, .bool false] 108
  exact r11Parse_a_core c k body w (fun b => RefL b (ofL body)) (fun b => rdr_ref b _) (body, 0) s1 NM EC _ RC GT y hy hz n0 nE nC hT hG hO (fun w1 hb => ⟨(hf.on hb).cs 0 _ rfl, (hf.on hb).cs 1 _ rfl, (hf.on hb).cs 2 _ rfl⟩) hst
theorem r11_rd_nnmo (c k : UInt8) (body : List UInt8) (hk : Me.tells k.toNat = [0, 5, 6, 1]) (s1 s2 s3 s4 : LSt) (e1 : lText (body, 0) 16 = s1) (e2 : lRaw s1 8 = s2) (e3 : lRaw s2 8 = s3) (e4 : lText s3 16 = s4) :
    Me.rd c k body = (⟨c, k, lTextOut (body, 0) 16, lTextOut s3 16, [], [], [], Oct.val (lOut s1.1 8), Oct.val (lOut s2.1 8), false⟩, s4) := by
  unfold Me.rd
  rw [hk]
  unfold Me.rdl
  simp only [List.foldl_cons, List.foldl_nil]
  rw [me_rd1_0]
  (try dsimp only)
  rw [e1]
  rw [me_rd1_5]
  (try dsimp only)
  rw [e2]
  rw [me_rd1_6]
  (try dsimp only)
  rw [e3]
  rw [me_rd1_1]
  (try dsimp only)
  rw [e4]
  rfl
set_option maxRecDepth 100000 in
theorem r11Parse_nnmo (c k : UInt8) (body : List UInt8) (w : World) (hS : (ofL body).size ≤ 1000000) (hk : k.toNat = 5) : Calls Tryz.prog 19 #[.agg #[.int .u8 (c.toNat : Int), .int .u8 (k.toNat : Int), .string (ofL body)]] w (MeOfPost (Me.got c k body) (Me.rcode c k body) w) := by
  have hz : decide ((20 : Int) < (k.toNat : Int)) = false := decide_eq_false (by omega)
  have hO := r11Of_any k.toNat (by omega) ((w.alloc (.cells #[.int .u8 (c.toNat : Int), .int .u8 (k.toNat : Int), .string (ofL body)] 40)).alloc (.cells #[.int .u8 0, .int .u8 0, .string ⟨#[]⟩, .string ⟨#[]⟩, .string ⟨#[]⟩, .slice none 0 0, .string ⟨#[]⟩, .int .u64 0, .int .u64 0, .bool false] 29))
  rw [show Me.has k.toNat = ⟨true, true, true, false, false, false, false, true, true, false⟩ by (rw [hk]; rfl)] at hO
  have ht : Me.tells k.toNat = [0, 5, 6, 1] := by (rw [hk]; rfl)
  have hC : Me.rcode c k body = Me.tail c k body := by unfold Me.rcode; rw [if_neg (by omega)]
  have hG : Me.got c k body = if Me.rcode c k body = 0 then (Me.rd c k body).1 else Me.zero 0 0 := by unfold Me.got; rfl
  have hT : Me.tail c k body = if lEnd (Me.rd c k body).2 ≠ 0 then lEnd (Me.rd c k body).2 else ((Me.rd c k body).1.code : Int) := by unfold Me.tail; rfl
  rw [← hC] at hT
  clear hC hk
  generalize Me.rcode c k body = RC at *
  generalize Me.got c k body = GT at *
  have ok0 := lOk_new body
  have n0 := fun b W h => ritext_l b (ofL body) (body, 0) 16 W h hS
  obtain ⟨s1, e1⟩ : ∃ z, lText (body, 0) 16 = z := ⟨_, rfl⟩
  have ok1 : lOk s1 := by rw [← e1]; exact lOk_text ok0 _
  rw [e1] at n0
  have n1 := fun b W h => rinum_l b (ofL body) s1 8 8 W (by omega) rfl h hS
  obtain ⟨s2, e2⟩ : ∃ z, lRaw s1 8 = z := ⟨_, rfl⟩
  have ok2 : lOk s2 := by rw [← e2]; exact lOk_raw ok1 _
  rw [e2] at n1
  have n2 := fun b W h => rinum_l b (ofL body) s2 8 8 W (by omega) rfl h hS
  obtain ⟨s3, e3⟩ : ∃ z, lRaw s2 8 = z := ⟨_, rfl⟩
  have ok3 : lOk s3 := by rw [← e3]; exact lOk_raw ok2 _
  rw [e3] at n2
  have n3 := fun b W h => ritext_l b (ofL body) s3 16 W h hS
  obtain ⟨s4, e4⟩ : ∃ z, lText s3 16 = z := ⟨_, rfl⟩
  have ok4 : lOk s4 := by rw [← e4]; exact lOk_text ok3 _
  rw [e4] at n3
  have nE := fun b W h => riend_l b (ofL body) s4 W h
  unfold Quiet at nE
  have hRD := r11_rd_nnmo c k body ht s1 s2 s3 s4 e1 e2 e3 e4
  have HLOW := me_rdl_low (Me.tells k.toNat) (Me.zero c k, (body, 0)) (me_zero_low c k)
  rw [show Me.rdl (Me.tells k.toNat) (Me.zero c k, (body, 0)) = Me.rd c k body by unfold Me.rd; rfl] at HLOW
  rw [hRD] at hG hT HLOW
  dsimp only at hG hT HLOW
  obtain ⟨y, hy⟩ : ∃ y : Me, ⟨c, k, lTextOut (body, 0) 16, lTextOut s3 16, [], [], [], Oct.val (lOut s1.1 8), Oct.val (lOut s2.1 8), false⟩ = y := ⟨_, rfl⟩
  rw [hy] at hG hT HLOW
  have nC := fun A q W (h1 : y.head.length ≤ q) (h2 : Prs W A y.head) => r11Check_any y A q W (HLOW.ok h1 h2)
  unfold RPostL at n0 n1 n2 n3
  generalize lTextOut (body, 0) 16 = NM at *
  generalize Oct.val (lOut s1.1 8) = N at *
  generalize Oct.val (lOut s2.1 8) = M at *
  generalize lTextOut s3 16 = OT at *
  generalize lEnd s4 = EC at *
  have hf := mp_box c k body w
  have hst := fun w1 hb => MpC.start c k body w w1 hb #[.bool true, .bool true, .bool true, .bool false, .bool false, .bool false, .bool false, .bool true, .bool true, .bool false] 108
  exact r11Parse_nnmo_core c k body w (fun b => RefL b (ofL body)) (fun b => rdr_ref b _) (body, 0) s1 s2 s3 s4 NM N M OT EC _ RC GT y hy hz n0 n1 n2 n3 nE nC hT hG hO (fun w1 hb => ⟨(hf.on hb).cs 0 _ rfl, (hf.on hb).cs 1 _ rfl, (hf.on hb).cs 2 _ rfl⟩) hst
theorem r11_rd_b (c k : UInt8) (body : List UInt8) (hk : Me.tells k.toNat = [0, 1, 2, 3, 7]) (s1 s2 s3 s4 s5 : LSt) (e1 : lText (body, 0) 16 = s1) (e2 : lText s1 16 = s2) (e3 : lText s2 64 = s3) (e4 : (Hd.hread s3).2 = s4) (e5 : Pt.yesIn s4 = s5) :
    Me.rd c k body = (⟨c, k, lTextOut (body, 0) 16, lTextOut s1 16, lTextOut s2 64, (Hd.hread s3).1, [], 0, 0, Pt.yesOut s4⟩, s5) := by
  unfold Me.rd
  rw [hk]
  unfold Me.rdl
  simp only [List.foldl_cons, List.foldl_nil]
  rw [me_rd1_0]
  (try dsimp only)
  rw [e1]
  rw [me_rd1_1]
  (try dsimp only)
  rw [e2]
  rw [me_rd1_2]
  (try dsimp only)
  rw [e3]
  rw [me_rd1_3]
  (try dsimp only)
  rw [e4]
  rw [me_rd1_7]
  (try dsimp only)
  rw [e5]
  rfl
set_option maxRecDepth 100000 in
theorem r11Parse_b (c k : UInt8) (body : List UInt8) (w : World) (hS : (ofL body).size ≤ 1000000) (hk : k.toNat = 7 ∨ k.toNat = 8 ∨ k.toNat = 9 ∨ k.toNat = 10) : Calls Tryz.prog 19 #[.agg #[.int .u8 (c.toNat : Int), .int .u8 (k.toNat : Int), .string (ofL body)]] w (MeOfPost (Me.got c k body) (Me.rcode c k body) w) := by
  have hz : decide ((20 : Int) < (k.toNat : Int)) = false := decide_eq_false (by omega)
  have hO := r11Of_any k.toNat (by omega) ((w.alloc (.cells #[.int .u8 (c.toNat : Int), .int .u8 (k.toNat : Int), .string (ofL body)] 40)).alloc (.cells #[.int .u8 0, .int .u8 0, .string ⟨#[]⟩, .string ⟨#[]⟩, .string ⟨#[]⟩, .slice none 0 0, .string ⟨#[]⟩, .int .u64 0, .int .u64 0, .bool false] 29))
  rw [show Me.has k.toNat = ⟨true, true, false, true, true, true, false, false, false, true⟩ by rcases hk with hk | hk | hk | hk <;> (rw [hk]; rfl)] at hO
  have ht : Me.tells k.toNat = [0, 1, 2, 3, 7] := by rcases hk with hk | hk | hk | hk <;> (rw [hk]; rfl)
  have hC : Me.rcode c k body = Me.tail c k body := by unfold Me.rcode; rw [if_neg (by omega)]
  have hG : Me.got c k body = if Me.rcode c k body = 0 then (Me.rd c k body).1 else Me.zero 0 0 := by unfold Me.got; rfl
  have hT : Me.tail c k body = if lEnd (Me.rd c k body).2 ≠ 0 then lEnd (Me.rd c k body).2 else ((Me.rd c k body).1.code : Int) := by unfold Me.tail; rfl
  rw [← hC] at hT
  clear hC hk
  generalize Me.rcode c k body = RC at *
  generalize Me.got c k body = GT at *
  have ok0 := lOk_new body
  have n0 := fun b W h => ritext_l b (ofL body) (body, 0) 16 W h hS
  obtain ⟨s1, e1⟩ : ∃ z, lText (body, 0) 16 = z := ⟨_, rfl⟩
  have ok1 : lOk s1 := by rw [← e1]; exact lOk_text ok0 _
  rw [e1] at n0
  have n1 := fun b W h => ritext_l b (ofL body) s1 16 W h hS
  obtain ⟨s2, e2⟩ : ∃ z, lText s1 16 = z := ⟨_, rfl⟩
  have ok2 : lOk s2 := by rw [← e2]; exact lOk_text ok1 _
  rw [e2] at n1
  have n2 := fun b W h => ritext_l b (ofL body) s2 64 W h hS
  obtain ⟨s3, e3⟩ : ∃ z, lText s2 64 = z := ⟨_, rfl⟩
  have ok3 : lOk s3 := by rw [← e3]; exact lOk_text ok2 _
  rw [e3] at n2
  have n3 := fun b W h => rread9_any b (ofL body) s3 W h ok3 hS
  obtain ⟨s4, e4⟩ : ∃ z, (Hd.hread s3).2 = z := ⟨_, rfl⟩
  have ok4 : lOk s4 := by rw [← e4]; exact Hd.lOk_hread ok3
  unfold HReadPost at n3
  rw [e4] at n3
  have n4 := fun b W h => rinum_l b (ofL body) s4 1 1 W (by omega) rfl h hS
  obtain ⟨sv, ev⟩ : ∃ z, lRaw s4 1 = z := ⟨_, rfl⟩
  rw [ev] at n4
  obtain ⟨v, hv⟩ : ∃ v, Oct.val (lOut s4.1 1) = v := ⟨_, rfl⟩
  rw [hv] at n4
  have nF := fun b W h => rifail_l b (ofL body) sv 4 W h
  have hyi : Pt.yesIn s4 = if 1 < v then lFail sv 4 else sv := by rw [← ev, ← hv]; unfold Pt.yesIn; rfl
  have hyo : Pt.yesOut s4 = (v == 1) := by rw [← hv]; unfold Pt.yesOut; rfl
  obtain ⟨s5, e5⟩ : ∃ z, Pt.yesIn s4 = z := ⟨_, rfl⟩
  rw [e5] at hyi
  have nE := fun b W h => riend_l b (ofL body) s5 W h
  unfold Quiet at nE
  have hRD := r11_rd_b c k body ht s1 s2 s3 s4 s5 e1 e2 e3 e4 e5
  have HLOW := me_rdl_low (Me.tells k.toNat) (Me.zero c k, (body, 0)) (me_zero_low c k)
  rw [show Me.rdl (Me.tells k.toNat) (Me.zero c k, (body, 0)) = Me.rd c k body by unfold Me.rd; rfl] at HLOW
  rw [hRD] at hG hT HLOW
  dsimp only at hG hT HLOW
  rw [hyo] at hG hT HLOW
  obtain ⟨y, hy⟩ : ∃ y : Me, ⟨c, k, lTextOut (body, 0) 16, lTextOut s1 16, lTextOut s2 64, (Hd.hread s3).1, [], 0, 0, (v == 1)⟩ = y := ⟨_, rfl⟩
  rw [hy] at hG hT HLOW
  have nC := fun A q W (h1 : y.head.length ≤ q) (h2 : Prs W A y.head) => r11Check_any y A q W (HLOW.ok h1 h2)
  unfold RPostL at n0 n1 n2 n4 nF
  generalize lTextOut (body, 0) 16 = NM at *
  generalize lTextOut s1 16 = OT at *
  generalize lTextOut s2 64 = K at *
  generalize (Hd.hread s3).1 = H at *
  generalize lEnd s5 = EC at *
  have hb34 : decide (1 < v) = false → s5 = sv := fun h => by rw [hyi, if_neg (of_decide_eq_false h)]
  have nF4 : decide (1 < v) = true → lFail sv 4 = s5 := fun h => by rw [hyi, if_pos (of_decide_eq_true h)]
  have q2 : decide ((1 : Int) < (v : Int)) = decide (1 < v) := decide_eq_decide.2 (by omega)
  clear hyi
  have hf := mp_box c k body w
  have hst := fun w1 hb => MpC.start c k body w w1 hb #[.bool true, .bool true, .bool false, .bool true, .bool true, .bool true, .bool false, .bool false, .bool false, .bool true] 108
  exact r11Parse_b_core c k body w (fun b => RefL b (ofL body)) (fun b => rdr_ref b _) (body, 0) s1 s2 s3 s4 s5 sv NM OT K H (v == 1) v (decide (1 < v)) EC _ RC GT y hy hz (cast_beq v 1) q2 n0 n1 n2 n3 n4 (fun h b W hW => by have := nF b W hW; rw [nF4 h] at this; exact this) hb34 nE nC hT hG hO (fun w1 hb => ⟨(hf.on hb).cs 0 _ rfl, (hf.on hb).cs 1 _ rfl, (hf.on hb).cs 2 _ rfl⟩) hst
theorem r11_rd_p (c k : UInt8) (body : List UInt8) (hk : Me.tells k.toNat = [0, 2, 3, 6, 4]) (s1 s2 s3 s4 s5 : LSt) (e1 : lText (body, 0) 16 = s1) (e2 : lText s1 64 = s2) (e3 : (Hd.hread s2).2 = s3) (e4 : lRaw s3 8 = s4) (e5 : lText s4 256 = s5) :
    Me.rd c k body = (⟨c, k, lTextOut (body, 0) 16, [], lTextOut s1 64, (Hd.hread s2).1, lTextOut s4 256, 0, Oct.val (lOut s3.1 8), false⟩, s5) := by
  unfold Me.rd
  rw [hk]
  unfold Me.rdl
  simp only [List.foldl_cons, List.foldl_nil]
  rw [me_rd1_0]
  (try dsimp only)
  rw [e1]
  rw [me_rd1_2]
  (try dsimp only)
  rw [e2]
  rw [me_rd1_3]
  (try dsimp only)
  rw [e3]
  rw [me_rd1_6]
  (try dsimp only)
  rw [e4]
  rw [me_rd1_4]
  (try dsimp only)
  rw [e5]
  rfl
set_option maxRecDepth 100000 in
theorem r11Parse_p (c k : UInt8) (body : List UInt8) (w : World) (hS : (ofL body).size ≤ 1000000) (hk : k.toNat = 11) : Calls Tryz.prog 19 #[.agg #[.int .u8 (c.toNat : Int), .int .u8 (k.toNat : Int), .string (ofL body)]] w (MeOfPost (Me.got c k body) (Me.rcode c k body) w) := by
  have hz : decide ((20 : Int) < (k.toNat : Int)) = false := decide_eq_false (by omega)
  have hO := r11Of_any k.toNat (by omega) ((w.alloc (.cells #[.int .u8 (c.toNat : Int), .int .u8 (k.toNat : Int), .string (ofL body)] 40)).alloc (.cells #[.int .u8 0, .int .u8 0, .string ⟨#[]⟩, .string ⟨#[]⟩, .string ⟨#[]⟩, .slice none 0 0, .string ⟨#[]⟩, .int .u64 0, .int .u64 0, .bool false] 29))
  rw [show Me.has k.toNat = ⟨true, false, false, true, false, true, true, false, true, false⟩ by (rw [hk]; rfl)] at hO
  have ht : Me.tells k.toNat = [0, 2, 3, 6, 4] := by (rw [hk]; rfl)
  have hC : Me.rcode c k body = Me.tail c k body := by unfold Me.rcode; rw [if_neg (by omega)]
  have hG : Me.got c k body = if Me.rcode c k body = 0 then (Me.rd c k body).1 else Me.zero 0 0 := by unfold Me.got; rfl
  have hT : Me.tail c k body = if lEnd (Me.rd c k body).2 ≠ 0 then lEnd (Me.rd c k body).2 else ((Me.rd c k body).1.code : Int) := by unfold Me.tail; rfl
  rw [← hC] at hT
  clear hC hk
  generalize Me.rcode c k body = RC at *
  generalize Me.got c k body = GT at *
  have ok0 := lOk_new body
  have n0 := fun b W h => ritext_l b (ofL body) (body, 0) 16 W h hS
  obtain ⟨s1, e1⟩ : ∃ z, lText (body, 0) 16 = z := ⟨_, rfl⟩
  have ok1 : lOk s1 := by rw [← e1]; exact lOk_text ok0 _
  rw [e1] at n0
  have n1 := fun b W h => ritext_l b (ofL body) s1 64 W h hS
  obtain ⟨s2, e2⟩ : ∃ z, lText s1 64 = z := ⟨_, rfl⟩
  have ok2 : lOk s2 := by rw [← e2]; exact lOk_text ok1 _
  rw [e2] at n1
  have n2 := fun b W h => rread9_any b (ofL body) s2 W h ok2 hS
  obtain ⟨s3, e3⟩ : ∃ z, (Hd.hread s2).2 = z := ⟨_, rfl⟩
  have ok3 : lOk s3 := by rw [← e3]; exact Hd.lOk_hread ok2
  unfold HReadPost at n2
  rw [e3] at n2
  have n3 := fun b W h => rinum_l b (ofL body) s3 8 8 W (by omega) rfl h hS
  obtain ⟨s4, e4⟩ : ∃ z, lRaw s3 8 = z := ⟨_, rfl⟩
  have ok4 : lOk s4 := by rw [← e4]; exact lOk_raw ok3 _
  rw [e4] at n3
  have n4 := fun b W h => ritext_l b (ofL body) s4 256 W h hS
  obtain ⟨s5, e5⟩ : ∃ z, lText s4 256 = z := ⟨_, rfl⟩
  have ok5 : lOk s5 := by rw [← e5]; exact lOk_text ok4 _
  rw [e5] at n4
  have nE := fun b W h => riend_l b (ofL body) s5 W h
  unfold Quiet at nE
  have hRD := r11_rd_p c k body ht s1 s2 s3 s4 s5 e1 e2 e3 e4 e5
  have HLOW := me_rdl_low (Me.tells k.toNat) (Me.zero c k, (body, 0)) (me_zero_low c k)
  rw [show Me.rdl (Me.tells k.toNat) (Me.zero c k, (body, 0)) = Me.rd c k body by unfold Me.rd; rfl] at HLOW
  rw [hRD] at hG hT HLOW
  dsimp only at hG hT HLOW
  obtain ⟨y, hy⟩ : ∃ y : Me, ⟨c, k, lTextOut (body, 0) 16, [], lTextOut s1 64, (Hd.hread s2).1, lTextOut s4 256, 0, Oct.val (lOut s3.1 8), false⟩ = y := ⟨_, rfl⟩
  rw [hy] at hG hT HLOW
  have nC := fun A q W (h1 : y.head.length ≤ q) (h2 : Prs W A y.head) => r11Check_any y A q W (HLOW.ok h1 h2)
  unfold RPostL at n0 n1 n3 n4
  generalize lTextOut (body, 0) 16 = NM at *
  generalize lTextOut s1 64 = K at *
  generalize (Hd.hread s2).1 = H at *
  generalize Oct.val (lOut s3.1 8) = M at *
  generalize lTextOut s4 256 = T at *
  generalize lEnd s5 = EC at *
  have hf := mp_box c k body w
  have hst := fun w1 hb => MpC.start c k body w w1 hb #[.bool true, .bool false, .bool false, .bool true, .bool false, .bool true, .bool true, .bool false, .bool true, .bool false] 108
  exact r11Parse_p_core c k body w (fun b => RefL b (ofL body)) (fun b => rdr_ref b _) (body, 0) s1 s2 s3 s4 s5 NM K H M T EC _ RC GT y hy hz n0 n1 n2 n3 n4 nE nC hT hG hO (fun w1 hb => ⟨(hf.on hb).cs 0 _ rfl, (hf.on hb).cs 1 _ rfl, (hf.on hb).cs 2 _ rfl⟩) hst
theorem r11_rd_an (c k : UInt8) (body : List UInt8) (hk : Me.tells k.toNat = [0, 5]) (s1 s2 : LSt) (e1 : lText (body, 0) 16 = s1) (e2 : lRaw s1 8 = s2) :
    Me.rd c k body = (⟨c, k, lTextOut (body, 0) 16, [], [], [], [], Oct.val (lOut s1.1 8), 0, false⟩, s2) := by
  unfold Me.rd
  rw [hk]
  unfold Me.rdl
  simp only [List.foldl_cons, List.foldl_nil]
  rw [me_rd1_0]
  (try dsimp only)
  rw [e1]
  rw [me_rd1_5]
  (try dsimp only)
  rw [e2]
  rfl
set_option maxRecDepth 100000 in
theorem r11Parse_an (c k : UInt8) (body : List UInt8) (w : World) (hS : (ofL body).size ≤ 1000000) (hk : k.toNat = 13) : Calls Tryz.prog 19 #[.agg #[.int .u8 (c.toNat : Int), .int .u8 (k.toNat : Int), .string (ofL body)]] w (MeOfPost (Me.got c k body) (Me.rcode c k body) w) := by
  have hz : decide ((20 : Int) < (k.toNat : Int)) = false := decide_eq_false (by omega)
  have hO := r11Of_any k.toNat (by omega) ((w.alloc (.cells #[.int .u8 (c.toNat : Int), .int .u8 (k.toNat : Int), .string (ofL body)] 40)).alloc (.cells #[.int .u8 0, .int .u8 0, .string ⟨#[]⟩, .string ⟨#[]⟩, .string ⟨#[]⟩, .slice none 0 0, .string ⟨#[]⟩, .int .u64 0, .int .u64 0, .bool false] 29))
  rw [show Me.has k.toNat = ⟨true, false, false, false, false, false, false, true, false, false⟩ by (rw [hk]; rfl)] at hO
  have ht : Me.tells k.toNat = [0, 5] := by (rw [hk]; rfl)
  have hC : Me.rcode c k body = Me.tail c k body := by unfold Me.rcode; rw [if_neg (by omega)]
  have hG : Me.got c k body = if Me.rcode c k body = 0 then (Me.rd c k body).1 else Me.zero 0 0 := by unfold Me.got; rfl
  have hT : Me.tail c k body = if lEnd (Me.rd c k body).2 ≠ 0 then lEnd (Me.rd c k body).2 else ((Me.rd c k body).1.code : Int) := by unfold Me.tail; rfl
  rw [← hC] at hT
  clear hC hk
  generalize Me.rcode c k body = RC at *
  generalize Me.got c k body = GT at *
  have ok0 := lOk_new body
  have n0 := fun b W h => ritext_l b (ofL body) (body, 0) 16 W h hS
  obtain ⟨s1, e1⟩ : ∃ z, lText (body, 0) 16 = z := ⟨_, rfl⟩
  have ok1 : lOk s1 := by rw [← e1]; exact lOk_text ok0 _
  rw [e1] at n0
  have n1 := fun b W h => rinum_l b (ofL body) s1 8 8 W (by omega) rfl h hS
  obtain ⟨s2, e2⟩ : ∃ z, lRaw s1 8 = z := ⟨_, rfl⟩
  have ok2 : lOk s2 := by rw [← e2]; exact lOk_raw ok1 _
  rw [e2] at n1
  have nE := fun b W h => riend_l b (ofL body) s2 W h
  unfold Quiet at nE
  have hRD := r11_rd_an c k body ht s1 s2 e1 e2
  have HLOW := me_rdl_low (Me.tells k.toNat) (Me.zero c k, (body, 0)) (me_zero_low c k)
  rw [show Me.rdl (Me.tells k.toNat) (Me.zero c k, (body, 0)) = Me.rd c k body by unfold Me.rd; rfl] at HLOW
  rw [hRD] at hG hT HLOW
  dsimp only at hG hT HLOW
  obtain ⟨y, hy⟩ : ∃ y : Me, ⟨c, k, lTextOut (body, 0) 16, [], [], [], [], Oct.val (lOut s1.1 8), 0, false⟩ = y := ⟨_, rfl⟩
  rw [hy] at hG hT HLOW
  have nC := fun A q W (h1 : y.head.length ≤ q) (h2 : Prs W A y.head) => r11Check_any y A q W (HLOW.ok h1 h2)
  unfold RPostL at n0 n1
  generalize lTextOut (body, 0) 16 = NM at *
  generalize Oct.val (lOut s1.1 8) = N at *
  generalize lEnd s2 = EC at *
  have hf := mp_box c k body w
  have hst := fun w1 hb => MpC.start c k body w w1 hb #[.bool true, .bool false, .bool false, .bool false, .bool false, .bool false, .bool false, .bool true, .bool false, .bool false] 108
  exact r11Parse_an_core c k body w (fun b => RefL b (ofL body)) (fun b => rdr_ref b _) (body, 0) s1 s2 NM N EC _ RC GT y hy hz n0 n1 nE nC hT hG hO (fun w1 hb => ⟨(hf.on hb).cs 0 _ rfl, (hf.on hb).cs 1 _ rfl, (hf.on hb).cs 2 _ rfl⟩) hst
theorem r11_rd_nmy (c k : UInt8) (body : List UInt8) (hk : Me.tells k.toNat = [5, 6, 7]) (s1 s2 s3 : LSt) (e1 : lRaw (body, 0) 8 = s1) (e2 : lRaw s1 8 = s2) (e3 : Pt.yesIn s2 = s3) :
    Me.rd c k body = (⟨c, k, [], [], [], [], [], Oct.val (lOut (body, 0).1 8), Oct.val (lOut s1.1 8), Pt.yesOut s2⟩, s3) := by
  unfold Me.rd
  rw [hk]
  unfold Me.rdl
  simp only [List.foldl_cons, List.foldl_nil]
  rw [me_rd1_5]
  (try dsimp only)
  rw [e1]
  rw [me_rd1_6]
  (try dsimp only)
  rw [e2]
  rw [me_rd1_7]
  (try dsimp only)
  rw [e3]
  rfl
set_option maxRecDepth 100000 in
theorem r11Parse_nmy (c k : UInt8) (body : List UInt8) (w : World) (hS : (ofL body).size ≤ 1000000) (hk : k.toNat = 16) : Calls Tryz.prog 19 #[.agg #[.int .u8 (c.toNat : Int), .int .u8 (k.toNat : Int), .string (ofL body)]] w (MeOfPost (Me.got c k body) (Me.rcode c k body) w) := by
  have hz : decide ((20 : Int) < (k.toNat : Int)) = false := decide_eq_false (by omega)
  have hO := r11Of_any k.toNat (by omega) ((w.alloc (.cells #[.int .u8 (c.toNat : Int), .int .u8 (k.toNat : Int), .string (ofL body)] 40)).alloc (.cells #[.int .u8 0, .int .u8 0, .string ⟨#[]⟩, .string ⟨#[]⟩, .string ⟨#[]⟩, .slice none 0 0, .string ⟨#[]⟩, .int .u64 0, .int .u64 0, .bool false] 29))
  rw [show Me.has k.toNat = ⟨false, false, false, false, false, false, false, true, true, true⟩ by (rw [hk]; rfl)] at hO
  have ht : Me.tells k.toNat = [5, 6, 7] := by (rw [hk]; rfl)
  have hC : Me.rcode c k body = Me.tail c k body := by unfold Me.rcode; rw [if_neg (by omega)]
  have hG : Me.got c k body = if Me.rcode c k body = 0 then (Me.rd c k body).1 else Me.zero 0 0 := by unfold Me.got; rfl
  have hT : Me.tail c k body = if lEnd (Me.rd c k body).2 ≠ 0 then lEnd (Me.rd c k body).2 else ((Me.rd c k body).1.code : Int) := by unfold Me.tail; rfl
  rw [← hC] at hT
  clear hC hk
  generalize Me.rcode c k body = RC at *
  generalize Me.got c k body = GT at *
  have ok0 := lOk_new body
  have n0 := fun b W h => rinum_l b (ofL body) (body, 0) 8 8 W (by omega) rfl h hS
  obtain ⟨s1, e1⟩ : ∃ z, lRaw (body, 0) 8 = z := ⟨_, rfl⟩
  have ok1 : lOk s1 := by rw [← e1]; exact lOk_raw ok0 _
  rw [e1] at n0
  have n1 := fun b W h => rinum_l b (ofL body) s1 8 8 W (by omega) rfl h hS
  obtain ⟨s2, e2⟩ : ∃ z, lRaw s1 8 = z := ⟨_, rfl⟩
  have ok2 : lOk s2 := by rw [← e2]; exact lOk_raw ok1 _
  rw [e2] at n1
  have n2 := fun b W h => rinum_l b (ofL body) s2 1 1 W (by omega) rfl h hS
  obtain ⟨sv, ev⟩ : ∃ z, lRaw s2 1 = z := ⟨_, rfl⟩
  rw [ev] at n2
  obtain ⟨v, hv⟩ : ∃ v, Oct.val (lOut s2.1 1) = v := ⟨_, rfl⟩
  rw [hv] at n2
  have nF := fun b W h => rifail_l b (ofL body) sv 4 W h
  have hyi : Pt.yesIn s2 = if 1 < v then lFail sv 4 else sv := by rw [← ev, ← hv]; unfold Pt.yesIn; rfl
  have hyo : Pt.yesOut s2 = (v == 1) := by rw [← hv]; unfold Pt.yesOut; rfl
  obtain ⟨s3, e3⟩ : ∃ z, Pt.yesIn s2 = z := ⟨_, rfl⟩
  rw [e3] at hyi
  have nE := fun b W h => riend_l b (ofL body) s3 W h
  unfold Quiet at nE
  have hRD := r11_rd_nmy c k body ht s1 s2 s3 e1 e2 e3
  have HLOW := me_rdl_low (Me.tells k.toNat) (Me.zero c k, (body, 0)) (me_zero_low c k)
  rw [show Me.rdl (Me.tells k.toNat) (Me.zero c k, (body, 0)) = Me.rd c k body by unfold Me.rd; rfl] at HLOW
  rw [hRD] at hG hT HLOW
  dsimp only at hG hT HLOW
  rw [hyo] at hG hT HLOW
  obtain ⟨y, hy⟩ : ∃ y : Me, ⟨c, k, [], [], [], [], [], Oct.val (lOut (body, 0).1 8), Oct.val (lOut s1.1 8), (v == 1)⟩ = y := ⟨_, rfl⟩
  rw [hy] at hG hT HLOW
  have nC := fun A q W (h1 : y.head.length ≤ q) (h2 : Prs W A y.head) => r11Check_any y A q W (HLOW.ok h1 h2)
  unfold RPostL at n0 n1 n2 nF
  (try dsimp only at n0 hy)
  generalize Oct.val (lOut body 8) = N at *
  generalize Oct.val (lOut s1.1 8) = M at *
  generalize lEnd s3 = EC at *
  have hb34 : decide (1 < v) = false → s3 = sv := fun h => by rw [hyi, if_neg (of_decide_eq_false h)]
  have nF4 : decide (1 < v) = true → lFail sv 4 = s3 := fun h => by rw [hyi, if_pos (of_decide_eq_true h)]
  have q2 : decide ((1 : Int) < (v : Int)) = decide (1 < v) := decide_eq_decide.2 (by omega)
  clear hyi
  have hf := mp_box c k body w
  have hst := fun w1 hb => MpC.start c k body w w1 hb #[.bool false, .bool false, .bool false, .bool false, .bool false, .bool false, .bool false, .bool true, .bool true, .bool true] 108
  exact r11Parse_nmy_core c k body w (fun b => RefL b (ofL body)) (fun b => rdr_ref b _) (body, 0) s1 s2 s3 sv N M (v == 1) v (decide (1 < v)) EC _ RC GT y hy hz (cast_beq v 1) q2 n0 n1 n2 (fun h b W hW => by have := nF b W hW; rw [nF4 h] at this; exact this) hb34 nE nC hT hG hO (fun w1 hb => ⟨(hf.on hb).cs 0 _ rfl, (hf.on hb).cs 1 _ rfl, (hf.on hb).cs 2 _ rfl⟩) hst
theorem r11_rd_z (c k : UInt8) (body : List UInt8) (hk : Me.tells k.toNat = [])  :
    Me.rd c k body = (⟨c, k, [], [], [], [], [], 0, 0, false⟩, (body, 0)) := by
  unfold Me.rd
  rw [hk]
  unfold Me.rdl
  rfl
set_option maxRecDepth 100000 in
theorem r11Parse_z (c k : UInt8) (body : List UInt8) (w : World) (_hS : (ofL body).size ≤ 1000000) (hk : k.toNat = 1 ∨ k.toNat = 2 ∨ k.toNat = 17 ∨ k.toNat = 18 ∨ k.toNat = 19 ∨ k.toNat = 20) : Calls Tryz.prog 19 #[.agg #[.int .u8 (c.toNat : Int), .int .u8 (k.toNat : Int), .string (ofL body)]] w (MeOfPost (Me.got c k body) (Me.rcode c k body) w) := by
  have hz : decide ((20 : Int) < (k.toNat : Int)) = false := decide_eq_false (by omega)
  have hO := r11Of_any k.toNat (by omega) ((w.alloc (.cells #[.int .u8 (c.toNat : Int), .int .u8 (k.toNat : Int), .string (ofL body)] 40)).alloc (.cells #[.int .u8 0, .int .u8 0, .string ⟨#[]⟩, .string ⟨#[]⟩, .string ⟨#[]⟩, .slice none 0 0, .string ⟨#[]⟩, .int .u64 0, .int .u64 0, .bool false] 29))
  rw [show Me.has k.toNat = ⟨false, false, false, false, false, false, false, false, false, false⟩ by rcases hk with hk | hk | hk | hk | hk | hk <;> (rw [hk]; rfl)] at hO
  have ht : Me.tells k.toNat = [] := by rcases hk with hk | hk | hk | hk | hk | hk <;> (rw [hk]; rfl)
  have hC : Me.rcode c k body = Me.tail c k body := by unfold Me.rcode; rw [if_neg (by omega)]
  have hG : Me.got c k body = if Me.rcode c k body = 0 then (Me.rd c k body).1 else Me.zero 0 0 := by unfold Me.got; rfl
  have hT : Me.tail c k body = if lEnd (Me.rd c k body).2 ≠ 0 then lEnd (Me.rd c k body).2 else ((Me.rd c k body).1.code : Int) := by unfold Me.tail; rfl
  rw [← hC] at hT
  clear hC hk
  generalize Me.rcode c k body = RC at *
  generalize Me.got c k body = GT at *
  have ok0 := lOk_new body
  have nE := fun b W h => riend_l b (ofL body) (body, 0) W h
  unfold Quiet at nE
  have hRD := r11_rd_z c k body ht  
  have HLOW := me_rdl_low (Me.tells k.toNat) (Me.zero c k, (body, 0)) (me_zero_low c k)
  rw [show Me.rdl (Me.tells k.toNat) (Me.zero c k, (body, 0)) = Me.rd c k body by unfold Me.rd; rfl] at HLOW
  rw [hRD] at hG hT HLOW
  dsimp only at hG hT HLOW
  obtain ⟨y, hy⟩ : ∃ y : Me, ⟨c, k, [], [], [], [], [], 0, 0, false⟩ = y := ⟨_, rfl⟩
  rw [hy] at hG hT HLOW
  have nC := fun A q W (h1 : y.head.length ≤ q) (h2 : Prs W A y.head) => r11Check_any y A q W (HLOW.ok h1 h2)
  generalize lEnd (body, 0) = EC at *
  have hf := mp_box c k body w
  have hst := fun w1 hb => MpC.start c k body w w1 hb #[.bool false, .bool false, .bool false, .bool false, .bool false, .bool false, .bool false, .bool false, .bool false, .bool false] 108
  exact r11Parse_z_core c k body w (fun b => RefL b (ofL body)) (fun b => rdr_ref b _) (body, 0)  EC _ RC GT y hy hz  nE nC hT hG hO (fun w1 hb => ⟨(hf.on hb).cs 0 _ rfl, (hf.on hb).cs 1 _ rfl, (hf.on hb).cs 2 _ rfl⟩) hst
theorem r11Parse_any (c k : UInt8) (body : List UInt8) (w : World) (hS : (ofL body).size ≤ 1000000) : Calls Tryz.prog 19 #[.agg #[.int .u8 (c.toNat : Int), .int .u8 (k.toNat : Int), .string (ofL body)]] w (MeOfPost (Me.got c k body) (Me.rcode c k body) w) := by
  by_cases h20 : 20 < k.toNat
  · have HC := Lib.hid (show Me.rcode c k body = 8 by unfold Me.rcode; rw [if_pos h20])
    have HG := Lib.hid (show Me.got c k body = Me.zero 0 0 by unfold Me.got; rw [HC.out]; exact if_neg (by decide))
    have HB0 := Lib.hid (show Below w.heap.size w ((w.alloc (.cells #[.int .u8 (c.toNat : Int), .int .u8 (k.toNat : Int), .string (ofL body)] 40)).alloc (.cells #[.int .u8 0, .int .u8 0, .string ⟨#[]⟩, .string ⟨#[]⟩, .string ⟨#[]⟩, .slice none 0 0, .string ⟨#[]⟩, .int .u64 0, .int .u64 0, .bool false] 29)) from ((Below.refl _ _).alloc (Nat.le_refl _) _).alloc (by simp) _)
    have hz : decide ((20 : Int) < (k.toNat : Int)) = true := decide_eq_true (by omega)
    rw [HC.out, HG.out]
    clear h20 hS
    go_enter Tryz.func19, Tryz.ntmps19
    go_wp2_with fail
    refine bodyPost_ret (v := .tuple #[.agg #[.int .u8 0, .int .u8 0, .string ⟨#[]⟩, .string ⟨#[]⟩, .string ⟨#[]⟩, .slice none 0 0, .string ⟨#[]⟩, .int .u64 0, .int .u64 0, .bool false], .int .i64 8]) (by simp [results, Tryz.results19, go_sem]) rfl ?_
    exact me_zero_post HB0.out
  · rcases Me.le20 (Nat.le_of_not_lt h20) with hk | hk | hk | hk | hk | hk | hk | hk | hk | hk | hk | hk | hk | hk | hk | hk | hk | hk | hk | hk | hk
    · exact r11Parse_n c k body w hS (Or.inl hk)
    · exact r11Parse_z c k body w hS (Or.inl hk)
    · exact r11Parse_z c k body w hS (Or.inr (Or.inl hk))
    · exact r11Parse_nno c k body w hS hk
    · exact r11Parse_a c k body w hS (Or.inl hk)
    · exact r11Parse_nnmo c k body w hS hk
    · exact r11Parse_a c k body w hS (Or.inr (Or.inl hk))
    · exact r11Parse_b c k body w hS (Or.inl hk)
    · exact r11Parse_b c k body w hS (Or.inr (Or.inl hk))
    · exact r11Parse_b c k body w hS (Or.inr (Or.inr (Or.inl hk)))
    · exact r11Parse_b c k body w hS (Or.inr (Or.inr (Or.inr hk)))
    · exact r11Parse_p c k body w hS hk
    · exact r11Parse_n c k body w hS (Or.inr (Or.inl hk))
    · exact r11Parse_an c k body w hS hk
    · exact r11Parse_n c k body w hS (Or.inr (Or.inr hk))
    · exact r11Parse_a c k body w hS (Or.inr (Or.inr hk))
    · exact r11Parse_nmy c k body w hS hk
    · exact r11Parse_z c k body w hS (Or.inr (Or.inr (Or.inl hk)))
    · exact r11Parse_z c k body w hS (Or.inr (Or.inr (Or.inr (Or.inl hk))))
    · exact r11Parse_z c k body w hS (Or.inr (Or.inr (Or.inr (Or.inr (Or.inl hk)))))
    · exact r11Parse_z c k body w hS (Or.inr (Or.inr (Or.inr (Or.inr (Or.inr hk)))))
end Go.Proofs.YtnamkglflhkckaaGreatDoor
end
