/-
  THE LAW SegLong: a record of just the greatest length stands; one byte more is too long.
-/
import Derived.Test.YtpdgadohfhmcnaaDoorSgH
import Derived.Laws.IdiomStrings
namespace Go.Proofs.YtpdgadohfhmcnaaDoor
open Go.ChangeShapes Go.WideShapes Go.ChangeAt Go.RowKit

theorem szne_off {a i j : Nat} (h : i ≠ j) : (⟨a, i, none⟩ : Addr) ≠ ⟨a, j, none⟩ := fun e => h (by injection e)
/-- bytes that lie in block B -/
structure BzSt (B : Nat) (l : List UInt8) (wr : World) : Prop where
  cells : ∀ j, j < l.length → wr.cell? ⟨B, j, none⟩ = some (.int .u8 ((l.getD j 0).toNat : Int))
  free : ∀ j, j < l.length → wr.frozen? ⟨B, j, none⟩ = false
theorem BzSt.start (l : List UInt8) (w1 : World) (cap : Nat) : BzSt w1.heap.size l (w1.alloc (.cells (bytesRow (ofL l) cap) 5 ((bytesRow (ofL l) cap).size, (bytesRow (ofL l) cap).size + 1))) := by
  refine ⟨fun j hj => ?_, fun j hj => ?_⟩
  · have hj' : j < (ofL l).data.size := by show j < l.toArray.size; simpa using hj
    rw [World.cell?_alloc_mark, bytesRow_at _ _ _ hj']
    congr 3
    rw [List.getD_eq_getElem?_getD, List.getElem?_eq_getElem hj]
    rfl
  · rw [World.frozen?_alloc_mark]
    have hj' : j < (ofL l).data.size := by show j < l.toArray.size; simpa using hj
    have : (ofL l).data.size ≤ (bytesRow (ofL l) cap).size := by simp [bytesRow]
    simp only [Bool.and_eq_false_imp, decide_eq_true_eq, decide_eq_false_iff_not]
    omega
theorem BzSt.drew {B : Nat} {l : List UInt8} {w : World} (h : BzSt B l w) : BzSt B l w.drew := ⟨h.cells, h.free⟩
theorem BzSt.put {B : Nat} {l : List UInt8} {w : World} (h : BzSt B l w) {K : Nat} (hK : K < l.length) (z : UInt8) : BzSt B (l.set K z) (w.setCell ⟨B, K, none⟩ (.int .u8 (z.toNat : Int))) := by
  refine ⟨fun j hj => ?_, fun j hj => ?_⟩
  · rw [List.length_set] at hj
    by_cases e : j = K
    · subst e
      rw [World.cell?_setCell_same _ _ _ (h.cells _ hj), List.getD_eq_getElem?_getD, List.getElem?_set_self hj]; rfl
    · rw [World.cell?_setCell_other _ _ _ _ (szne_off (fun h => e h.symm)), h.cells j hj, List.getD_eq_getElem?_getD, List.getD_eq_getElem?_getD, List.getElem?_set_ne (fun h => e h.symm)]
  · rw [World.frozen?_setCell]
    exact h.free j (by rw [List.length_set] at hj; exact hj)
theorem BzSt.back {B : Nat} {l : List UInt8} {w : World} (h : BzSt B l w) (n cap : Nat) (hn : n = l.length) : (convert 43 9 (.slice (some ⟨B, 0, none⟩) n cap)).run Tryd.prog w = .ok (.string (ofL l)) w := by
  subst hn
  exact run_convert_bytes_back (P := Tryd.prog) w 43 9 5 ⟨B, 0, none⟩ cap l Tryd.underlying43 Tryd.underlying5 Tryd.underlying9 (fun j hj => by
    have ea : (⟨B, 0, none⟩ : Addr).add j = ⟨B, j, none⟩ := by unfold Addr.add; split <;> simp_all
    rw [ea, h.cells j hj, List.getD_eq_getElem?_getD, List.getElem?_eq_getElem hj]
    rfl)
theorem sts_one (w : World) (q : ByteArray) (r : List UInt8) (h : q = ofL r) : Sts (w.alloc (.cells #[.string q] 9)) (some ⟨w.heap.size, 0, none⟩) [r] := ⟨fun i hi => ⟨w.heap.size, 0, rfl, by simp, by
  have : i = 0 := by simpa using hi
  subst this
  subst h
  rw [cell_new _ _ _ _ _ rfl]; rfl⟩⟩
theorem bytes_one (r : List UInt8) (W : World) (b : Nat) (hr : r.length ≤ 200000) (h : Sts W (some ⟨b, 0, none⟩) [r]) (hT : Tab W) :
    Calls Tryd.prog 10 #[.slice (some ⟨b, 0, none⟩) 1 1] W fun e w' => e = .returned (sbytesV [r]) ∧ Below W.heap.size W w' :=
  sgBytes_any (some ⟨b, 0, none⟩) 1 [r] W (by simp) (fun x hx => by rw [List.mem_singleton.1 hx]; exact hr) h hT
theorem bcode_one (r : List UInt8) : bcode [r] = Sg.rcode r := by
  show (if Sg.rcode r ≠ 0 then Sg.rcode r else 0) = _
  split
  · rfl
  · omega
set_option maxRecDepth 100000 in
set_option maxHeartbeats 8000000 in
theorem segLong_walk (b : UInt8) (m : Bool) (w : World) (hT : Tab w) :
    Calls Tryd.prog 6 #[.int .u8 ((b.toNat : Nat) : Int), .bool m] w (FaPost w) := by
  have HAW := Lib.hid (awake16_any w hT)
  have HT := Lib.hid hT
  clear hT
  have HNO := Lib.hid (fun W => sgNoughts_any 131072 W (by decide))
  have hzl : (List.replicate 131072 (0 : UInt8)).length = 131072 := List.length_replicate ..
  rw [show ((131072 : Nat) : Int) = 131072 from rfl] at HNO
  generalize List.replicate 131072 (0 : UInt8) = z at *
  obtain ⟨N, hNN⟩ : ∃ N : Nat, N = 131072 := ⟨_, rfl⟩
  rw [← hNN] at hzl
  have HNN := Lib.hid hNN
  have hn1 : N ≤ 200000 := by omega
  clear hNN
  have hz : (ofL z).size = N := by rw [ofL_size]; exact hzl
  have hc9 := fun W : World => run_bytes_of_string (P := Tryd.prog) W 9 43 5 (ofL z) Tryd.underlying9 Tryd.underlying43 Tryd.underlying5
  rw [hz] at hc9
  have HST := Lib.hid (fun W cap => BzSt.start z W cap)
  have hb := b.toNat_lt
  obtain ⟨K, hK⟩ : ∃ K, K = b.toNat * 7 := ⟨_, rfl⟩
  have hKz : K < z.length := by have := HNN.out; omega
  have hKN : K < N := by omega
  have hKI : ((b.toNat : Nat) : Int) * 7 = (K : Int) := by omega
  have HRL := Lib.hid (show (z.set K b).length = N by rw [List.length_set, hzl])
  have HPUT := Lib.hid (fun B W (h : BzSt B z W) => h.put hKz b)
  generalize z.set K b = R at *
  generalize hbt : b.toNat = bt at *
  clear hK hbt
  go_enter Tryd.func6, Tryd.ntmps6
  go_wp2_with fail
  refine HAW.out.mono ?_
  rintro x w1 ⟨rfl, b1⟩
  have B1 := Lib.hid b1
  clear b1
  go_wp2_with fail
  refine (HNO.out _).mono ?_
  rintro x w2 ⟨rfl, b2⟩
  have B2 := Lib.hid (bthen B1.out b2 (Nat.le_refl _))
  clear b2
  go_upto_region 4 with fail
  clear hc9
  generalize grownCap w2 N 0 5 = cap at *
  have S3 := Lib.hid ((HST.out w2 cap).drew)
  have hb2 : Below w2.heap.size w2 (w2.alloc (.cells (bytesRow (ofL z) cap) 5 ((bytesRow (ofL z) cap).size, (bytesRow (ofL z) cap).size + 1))).drew := ((Below.refl _ _).alloc (Nat.le_refl _) _).drew
  generalize (w2.alloc (.cells (bytesRow (ofL z) cap) 5 ((bytesRow (ofL z) cap).size, (bytesRow (ofL z) cap).size + 1))).drew = w3 at *
  have B3 := Lib.hid (bthen B2.out hb2 (Nat.le_refl _))
  have hB2 := B2.out.size
  clear hb2
  have p0 := S3.out.cells K (by omega)
  have p1 := S3.out.free K (by omega)
  generalize (z.getD K 0).toNat = old at *
  have S4 := Lib.hid (HPUT.out w2.heap.size w3 S3.out)
  have B4 := Lib.hid (B3.out.setCell (p := ⟨w2.heap.size, K, none⟩) hB2 (.int .u8 (bt : Int)))
  have hbk := S4.out.back N cap HRL.out.symm
  have hq1 : (ofL R).size = N := by rw [ofL_size]; exact HRL.out
  have hxo : ofL R ++ (⟨#[120]⟩ : ByteArray) = ofL (R ++ [120]) := by rw [show (⟨#[120]⟩ : ByteArray) = ofL [120] from rfl, ofL_app]
  have hw4 : (w3.setCell ⟨w2.heap.size, K, none⟩ (.int .u8 (bt : Int))).heap.size = w3.heap.size := by simp
  have HSO := Lib.hid (fun (q : ByteArray) (r : List UInt8) (h : q = ofL r) => sts_one (w3.setCell ⟨w2.heap.size, K, none⟩ (.int .u8 (bt : Int))) q r h)
  rw [hw4] at HSO
  have HW4 := Lib.hid hw4
  clear HRL HPUT HNO HST hw4
  cases m with
  | true =>
    have HC := Lib.hid (fun W g hb hT => bytes_one (R ++ [120]) W g (by rw [List.length_append, ← ofL_size R, hq1, HNN.out]; simp) hb hT)
    have hv : sbytesV [R ++ [120]] = .tuple #[.string ⟨#[]⟩, .int .i64 5] := by
      have h5 : bcode [R ++ [120]] = 5 := by
        rw [bcode_one]
        unfold Sg.rcode
        rw [List.length_append, ← ofL_size R, hq1, HNN.out, if_neg (by simp), if_pos (by simp)]
      unfold sbytesV
      rw [h5]
      rfl
    rw [hv] at HC
    have HXO := Lib.hid hxo
    clear hv hxo
    go_wp2_with fail
    generalize w3.setCell ⟨w2.heap.size, K, none⟩ (.int .u8 (bt : Int)) = w4 at *
    refine (HC.out _ w3.heap.size (HSO.out _ _ HXO.out) ((HT.out.below B4.out HT.out.pos).alloc _)).mono ?_
    rintro y w5 ⟨rfl, b5⟩
    have B5 := Lib.hid (bthen (B4.out.alloc B4.out.size (.cells #[.string (ofL R ++ ⟨#[120]⟩)] 9)) b5 (Nat.le_refl _))
    clear b5
    go_wp2_with fail
    go_ret
    exact ⟨rfl, B5.out⟩
  | false =>
    have hgd : Sg.Good R := by unfold Sg.Good; rw [← ofL_size R, hq1, HNN.out]; decide
    have HC := Lib.hid (fun W g hb hT => bytes_one R W g (by rw [← ofL_size R, hq1, HNN.out]; decide) hb hT)
    have hv : sbytesV [R] = .tuple #[.string (ofL (Sg.enc R)), .int .i64 0] := by
      have h0 : bcode [R] = 0 := by rw [bcode_one]; exact Sg.rcode_good.2 hgd
      unfold sbytesV
      rw [if_pos h0, show Sg.encs [R] = Sg.enc R by simp [Sg.encs]]
    rw [hv] at HC
    have HN := Lib.hid (fun W h => sgNext_any (Sg.enc R ++ [120]) W (by rw [List.length_append, Sg.enc_len, ← ofL_size R, hq1, HNN.out]; decide) h)
    have hv2 : snextV (Sg.enc R ++ [120]) = .tuple #[.string (ofL R), .int .i64 131081, .int .i64 0] := by
      unfold snextV
      rw [if_pos (Sg.code_enc _ hgd), Sg.rc_enc _ hgd, Sg.len4_enc _ hgd.2, ← ofL_size R, hq1, HNN.out]
      rfl
    rw [hv2, show ofL (Sg.enc R ++ [120]) = ofL (Sg.enc R) ++ (⟨#[120]⟩ : ByteArray) by rw [show (⟨#[120]⟩ : ByteArray) = ofL [120] from rfl, ofL_app]] at HN
    have HZ := Lib.hid (fun W => sgSize_any R W (by rw [← ofL_size R, hq1, HNN.out]; decide))
    rw [← ofL_size R, hq1, HNN.out, show (((131072 + 9 : Nat)) : Int) = 131081 from rfl] at HZ
    have hq2 : (ofL (Sg.enc R)).size = N + 9 := by rw [ofL_size, Sg.enc_len, ← ofL_size R, hq1]
    have HS1 := Lib.hid (HSO.out (ofL R) R rfl)
    clear HSO
    clear hv hv2 hgd hxo
    generalize ofL (Sg.enc R) = q2 at *
    generalize ofL R = q1 at *
    go_wp2_with fail
    generalize w3.setCell ⟨w2.heap.size, K, none⟩ (.int .u8 (bt : Int)) = w4 at *
    refine (HC.out _ w3.heap.size HS1.out ((HT.out.below B4.out HT.out.pos).alloc _)).mono ?_
    rintro y w5 ⟨rfl, b5⟩
    have B5 := Lib.hid (bthen (B4.out.alloc B4.out.size (.cells #[.string q1] 9)) b5 (Nat.le_refl _))
    clear b5
    go_wp2_with fail
    refine (HN.out _ (HT.out.below B5.out HT.out.pos)).mono ?_
    rintro y w6 ⟨rfl, b6⟩
    have B6 := Lib.hid (bthen B5.out b6 (Nat.le_refl _))
    clear b6
    go_wp2_with fail
    refine (HZ.out _).mono ?_
    rintro y w7 ⟨rfl, rfl⟩
    go_wp2_with fail
    go_ret
    exact ⟨rfl, B6.out⟩
end Go.Proofs.YtpdgadohfhmcnaaDoor
