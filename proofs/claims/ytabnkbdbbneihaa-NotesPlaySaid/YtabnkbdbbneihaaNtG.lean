/-
  THE LAW NotesLast, walked.
-/
import Derived.Test.YtabnkbdbbneihaaNtF
import Derived.Deep.QuietTactic
import Derived.BigQuiet
namespace Go.Proofs.Ytabnkbdbbneihaa
open Go.ChangeShapes Go.WideShapes Go.ChangeAt Go.RowKit

theorem good_take {L : List Nt} {k : Nat} (hk : k < L.length) : Nt.good (L.take (k + 1)) = if 64 < (L.getD k Nt.zero).b.length then Nt.good (L.take k) else Nt.good (L.take k) ++ [L.getD k Nt.zero] := by
  have e : L.getD k Nt.zero = L[k] := by rw [List.getD_eq_getElem?_getD, List.getElem?_eq_getElem hk]; rfl
  rw [List.take_succ_eq_append_getElem hk, Nt.good_snoc, e]
theorem Rws.kept {w w' : World} {A : Option Addr} {cs : List Value} {row : Option Nat} (h : Rws w A cs) (hg : w.grownBy w' row) (hne : ∀ a, A = some a → some a.block ≠ row) : Rws w' A cs := ⟨fun j v hv => by
  obtain ⟨b, off, rfl, hlt, hc⟩ := h.at_ j v hv
  exact ⟨b, off, rfl, Nat.lt_of_lt_of_le hlt hg.size, hg.cell hc (show some b ≠ row from hne _ rfl)⟩⟩
theorem Du2.kept {b : Nat} {x y : Value} {w w' : World} {row : Option Nat} (h : Du2 b x y w) (hg : w.grownBy w' row) (hne : some b ≠ row) : Du2 b x y w' :=
  ⟨hg.cell h.c0 hne, hg.cell h.c1 hne, fun j => (World.frozen?_of_block (a := ⟨b, j, none⟩) (hg.block b h.lt hne)).trans (h.fz j)⟩
theorem gb_then {a w w' : World} {b : Nat} {row : Option Nat} (h : a.grownBy w (some b)) (h2 : w.grownBy w' row) (hr : ∀ k, row = some k → k = b ∨ a.heap.size ≤ k) : a.grownBy w' (some b) :=
  ⟨h2.os.trans h.os, h2.tape.trans h.tape, h2.output.trans h.output, Nat.le_trans h.size h2.size, fun k hk hne => (h2.block k (Nat.lt_of_lt_of_le hk h.size) (fun e => (hr k e.symm).elim (fun h3 => hne (congrArg some h3)) (fun h3 => by omega))).trans (h.block k hk hne)⟩
/-- one more of the row that is gone through -/
theorem nl_add {L : List Nt} {k : Nat} (hk : k < L.length) (hL : L.length ≤ 160) : Nt.addT (Nt.good (L.take k)).length (L.getD k Nt.zero) = (Nt.good (L.take (k + 1))).length ∧ Nt.addK (Nt.good (L.take k)).length (lastN 32 (Nt.good (L.take k))) (L.getD k Nt.zero) = lastN 32 (Nt.good (L.take (k + 1))) ∧ Nt.addC (Nt.good (L.take k)).length (L.getD k Nt.zero) = if 64 < (L.getD k Nt.zero).b.length then 5 else 0 := by
  have e : L.getD k Nt.zero = L[k] := by rw [List.getD_eq_getElem?_getD, List.getElem?_eq_getElem hk]; rfl
  have h := Nt.add_good (L.take k) (L.getD k Nt.zero) (by rw [List.length_take]; omega)
  rw [e, ← List.take_succ_eq_append_getElem hk, ← e] at h
  exact h
/-- what the loop of NotesLast keeps -/
structure NlIn (w6 : World) (b : Nat) (G : List Nt) (v : Value) (wr : World) (A : Option Addr) (c : Nat) : Prop where
  du : Du2 b (.int .u64 (G.length : Int)) (.slice A (lastN 32 G).length c) wr
  le : (lastN 32 G).length ≤ c
  no : A = none → c = 0
  row : Nts wr A (lastN 32 G)
  old : ∀ a, A = some a → a.block ≠ b ∧ a.block < wr.heap.size
  own : wr.ownsRow w6.heap.size 32 3 v G.length (ncs G)
  apart : ∀ a, A = some a → v.ownBlock ≠ some a.block
  grow : w6.grownBy wr (some b)
  lt : b < w6.heap.size
/-- within a round -/
structure NlMid (w6 : World) (b : Nat) (G : List Nt) (v : Value) (W : World) (A : Option Addr) (K : List Nt) : Prop where
  du : ∃ x y, Du2 b x y W
  row : Nts W A K
  old : ∀ a, A = some a → a.block ≠ b ∧ a.block < W.heap.size
  own : W.ownsRow w6.heap.size 32 3 v G.length (ncs G)
  apart : ∀ a, A = some a → v.ownBlock ≠ some a.block
  grow : w6.grownBy W (some b)
  lt : b < w6.heap.size
theorem NlMid.of {w6 wr w1 : World} {b c : Nat} {G K : List Nt} {v : Value} {A A' : Option Addr} (h : NlIn w6 b G v wr A c) (hb : Below wr.heap.size wr w1) (hN : Nts w1 A' K) (hne : ∀ a, A' = some a → A = some a ∨ wr.heap.size ≤ a.block ∧ a.block < w1.heap.size) : NlMid w6 b G v w1 A' K :=
  ⟨⟨_, _, h.du.on hb⟩, hN, fun a ha => (hne a ha).elim (fun e => ⟨(h.old a e).1, Nat.lt_of_lt_of_le (h.old a e).2 hb.size⟩) (fun e => ⟨by have := h.du.lt; omega, e.2⟩), Rw.own_on h.own hb,
   fun a ha e => (hne a ha).elim (fun e2 => h.apart a e2 e) (fun e2 => by have := (h.own.lt _ e).2; omega), gb_then h.grow (Rw.gb hb none) (fun k hk => by cases hk), h.lt⟩
theorem NlMid.on {w6 W W' : World} {b : Nat} {G K : List Nt} {v : Value} {A : Option Addr} (h : NlMid w6 b G v W A K) (hb : Below W.heap.size W W') : NlMid w6 b G v W' A K := by
  obtain ⟨x, y, hd⟩ := h.du
  exact ⟨⟨x, y, hd.on hb⟩, h.row.on hb, fun a ha => ⟨(h.old a ha).1, Nat.lt_of_lt_of_le (h.old a ha).2 hb.size⟩, Rw.own_on h.own hb, h.apart, gb_then h.grow (Rw.gb hb none) (fun k hk => by cases hk), h.lt⟩
theorem NlMid.grown {w6 W W' : World} {b g cap : Nat} {G G' K : List Nt} {v : Value} {A : Option Addr} (h : NlMid w6 b G v W A K) (hg : W.grownBy W' v.ownBlock) (ho : W'.ownsRow w6.heap.size 32 3 (.slice (some ⟨g, 0, none⟩) G'.length cap) G'.length (ncs G')) (hat : v.ownBlock = some g ∨ g = W.heap.size) : NlMid w6 b G' (.slice (some ⟨g, 0, none⟩) G'.length cap) W' A K := by
  obtain ⟨x, y, hd⟩ := h.du
  have hlt := h.lt
  refine ⟨⟨x, y, hd.kept hg (fun e => by have := (h.own.lt _ e.symm).1; omega)⟩, Rws.kept h.row hg (fun a ha e => h.apart a ha e.symm), fun a ha => ⟨(h.old a ha).1, Nat.lt_of_lt_of_le (h.old a ha).2 hg.size⟩, ho, fun a ha e => ?_, gb_then h.grow hg (fun k hk => .inr (h.own.lt k hk).1), h.lt⟩
  have e2 : g = a.block := Option.some.inj e
  rcases hat with e3 | e3
  · exact h.apart a ha (by rw [e3, e2])
  · have := (h.old a ha).2; omega
theorem NlMid.store {w6 W : World} {b c : Nat} {G : List Nt} {v : Value} {A : Option Addr} (h : NlMid w6 b G v W A (lastN 32 G)) (hc : (lastN 32 G).length ≤ c) (hn : A = none → c = 0) (n : Int) (hnG : n = (G.length : Int)) : NlIn w6 b G v ((W.setCell ⟨b, 0, none⟩ (.int .u64 n)).setCell ⟨b, 1, none⟩ (.slice A (lastN 32 G).length c)) A c := by
  subst hnG
  obtain ⟨x, y, hd⟩ := h.du
  have hg := only_setCell (p := ⟨b, 1, none⟩) (only_setCell (p := ⟨b, 0, none⟩) (World.grownBy.refl W (some b)) rfl (.int .u64 (G.length : Int))) rfl (.slice A (lastN 32 G).length c)
  exact ⟨hd.set _ _, hc, hn, h.row.put2 (fun a ha => (h.old a ha).1) _ _, fun a ha => ⟨(h.old a ha).1, by simpa using (h.old a ha).2⟩, h.own.kept hg (.inr (Rw.own_row h.own h.lt)), h.apart, gb_then h.grow hg (fun k hk => .inl (Option.some.inj hk).symm), h.lt⟩
theorem NlIn.on {w6 W W' : World} {b c : Nat} {G : List Nt} {v : Value} {A : Option Addr} (h : NlIn w6 b G v W A c) (hb : Below W.heap.size W W') : NlIn w6 b G v W' A c :=
  ⟨h.du.on hb, h.le, h.no, h.row.on hb, fun a ha => ⟨(h.old a ha).1, Nat.lt_of_lt_of_le (h.old a ha).2 hb.size⟩, Rw.own_on h.own hb, h.apart, gb_then h.grow (Rw.gb hb none) (fun k hk => by cases hk), h.lt⟩
def NlSt (w : World) (b : Nat) (L : List Nt) (g : Nat) (v i : Value) (wr : World) : Prop := ∃ k : Nat, k + g = L.length ∧ i = .int .i64 (k : Int) ∧ ∃ A c, NlIn w b (Nt.good (L.take k)) v wr A c
def NkSt (w : World) (n g : Nat) (i : Value) (wr : World) : Prop := ∃ k : Nat, k + g = n ∧ i = .int .i64 (k : Int) ∧ Below w.heap.size w wr
attribute [local go_sem ↓] nt_eq
attribute [local go_sem] guardNt
set_option maxRecDepth 100000 in
set_option maxHeartbeats 8000000 in
theorem notesLast_walk (A0 A1 : Option Addr) (c0 c1 : Nat) (l more : List Nt) (w : World) (hl : l.length ≤ 9223372036854775807) (hm : more.length ≤ 9223372036854775807) (hf : ∀ x ∈ l, x.Fits) (hg : ∀ x ∈ more, x.Fits) (hn0 : A0 = none → c0 = 0) (hn1 : A1 = none → c1 = 0) (hA : Nts w A0 l) (hB : Nts w A1 more) :
    Calls Try.prog 5 #[.slice A0 l.length c0, .slice A1 more.length c1] w fun e w' => e = .returned (.bool true) ∧ Below w.heap.size w w' := by
  have HA := Lib.hid hA
  have HM := Lib.hid hB
  have N0 := Lib.hid hn0
  have N1 := Lib.hid hn1
  have HLi := Lib.hid (fun W h => light19_any A0 c0 l W hl hf h)
  have HLm := Lib.hid (fun W h => light19_any A1 c1 more W hm hg h)
  have HAW := Lib.hid (awake19_any w)
  obtain ⟨iN, hiN, hzN0, hzN1, hzN2⟩ := info_parts infoNt
  have HFI := Lib.hid hf
  have HFM := Lib.hid hg
  clear hA hB hn0 hn1 hf hg
  go_enter Try.func5, Try.ntmps5
  go_wp2_with fail
  refine HAW.out.mono ?_
  rintro e w1 ⟨rfl, b1⟩
  have HB1 := Lib.hid b1
  have HA1 := Lib.hid (HA.out.on b1)
  clear b1
  go_wp2_with fail
  refine (HLi.out _ HA1.out).mono ?_
  rintro e w2 ⟨⟨rfl, hfew⟩ | rfl, b2⟩
  · have HB2 := Lib.hid (bthen HB1.out b2 (Nat.le_refl _))
    have HM2 := Lib.hid (HM.out.on HB2.out)
    clear b2
    go_wp2_with fail
    refine (HLm.out _ HM2.out).mono ?_
    rintro e w3 ⟨⟨rfl, hfew2⟩ | rfl, b3⟩
    · have HB3 := Lib.hid (bthen HB2.out b3 (Nat.le_refl _))
      have HFew := Lib.hid hfew
      have HFew2 := Lib.hid hfew2
      have hle1 := hfew.1
      have hle2 := hfew2.1
      clear b3 hfew hfew2
      have HB4 := Lib.hid ((HB3.out.alloc HB3.out.size (.cells #[.int .u64 0, .slice none 0 0] 27)).alloc (by have := HB3.out.size; simp; omega) (.cells #[] 32))
      have HO0 := Lib.hid (show ((w3.alloc (.cells #[.int .u64 0, .slice none 0 0] 27)).alloc (.cells #[] 32)).ownsRow (w3.heap.size + 1) 32 3 (.slice (some ⟨w3.heap.size + 1, 0, none⟩) 0 0) 0 [] from by
        have h := World.ownsRow_made (e := 32) (size := 3) (w3.alloc (.cells #[.int .u64 0, .slice none 0 0] 27)) #[] 0 (Nat.le_refl _) (by unfold maxLen; omega) rfl
        simpa using h)
      have HA4 := Lib.hid (HA.out.on HB4.out)
      go_wp2_with (first
        | (at_builtin; refine wpList_append_rws _ rfl _ _ 22 rfl (w3.heap.size + 1) 32 iN _ 3 32 Try.underlying22 hiN hzN0 hzN1 hzN2 rfl (by decide) (by decide) (by rfl) HO0.out (by rfl) HA4.out (ncs_len l) (ncs_one l) (by omega) N0.out (by simp) ?_; intro v' w5 hown hgrow; rw [Nat.zero_add, List.nil_append] at hown; have HB5 := Lib.hid (HB4.out.grown hgrow (by have := HB3.out.size; simp; omega) (fun k hk => by have := (HO0.out.lt k hk).1; have := HB3.out.size; omega)); have HD5 := Lib.hid (((Du2.new w3 (.int .u64 0) (.slice none 0 0) 27).on (alloc1B _ (.cells #[] 32))).kept hgrow (fun e => by have := (HO0.out.lt _ e.symm).1; omega)); obtain ⟨A5, c5, rfl, -, -⟩ := Rw.own_cells hown; have HO5 := Lib.hid hown; have HM5 := Lib.hid (HM.out.on HB5.out); have HS5 := Lib.hid (Nat.le_trans (show w3.heap.size + 1 ≤ _ from by simp) hgrow.size); clear hown hgrow)
        | (at_builtin; refine wpList_append_rws _ rfl _ _ 22 rfl (w3.heap.size + 1) 32 iN _ 3 32 Try.underlying22 hiN hzN0 hzN1 hzN2 rfl (by decide) (by decide) (by rfl) HO5.out (by rfl) HM5.out (ncs_len more) (ncs_one more) (by omega) N1.out HS5.out ?_; intro v' w6 hown hgrow; rw [← ncs_app, ← List.length_append] at hown; have HB6 := Lib.hid (HB5.out.grown hgrow (Nat.le_trans HB3.out.size (Nat.le_trans (Nat.le_succ _) HS5.out)) (fun k hk => by have := (HO5.out.lt k hk).1; have := HB3.out.size; omega)); have HD6 := Lib.hid (HD5.out.kept hgrow (fun e => by have := (HO5.out.lt _ e.symm).1; omega)); obtain ⟨A6, c6, e6, -, -, hr6, hbe6⟩ := Rws.of_own hown; subst e6; have HR6 := Lib.hid hr6; have HE6 := Lib.hid hbe6; have HF6 := Lib.hid (show ∀ x ∈ l ++ more, x.Fits from fun x hx => (List.mem_append.1 hx).elim (HFI.out x) (HFM.out x)); clear hown hgrow hr6 hbe6))
      have hLL : (l ++ more).length = l.length + more.length := List.length_append
      have hLl : (l ++ more).length ≤ 160 := by rw [hLL]; omega
      generalize l ++ more = L at *
      go_loopg [6, 30] L.length (fun g v i wr => NlSt w6 w3.heap.size L g v i wr)
      case atStart => exact ⟨0, by omega, rfl, none, 0, HD6.out, Nat.le_refl _, fun _ => rfl, Nts.nil _ _, (fun a h => by cases h), World.ownsRow_nil _ _ _ _, (fun a h => by cases h), World.grownBy.refl _ _, HD6.out.lt⟩
      case round =>
        obtain ⟨k, hk, rfl, A, c, hI⟩ := hrel
        have HK := Lib.hid hk
        have HI := Lib.hid hI
        obtain ⟨Av, cv, rfl, -, -⟩ := Rw.own_cells hI.own
        clear hk hI
        by_cases hlt : k < L.length
        · obtain ⟨b, off, rfl, hb, x0, x1, x2⟩ := (show Nts wr A6 L from HR6.out.kept HI.out.grow (fun a ha e => by have := (HE6.out a ha).1; have := Option.some.inj e; omega)).get hlt
          have hfit : (L.getD k Nt.zero).Fits := HF6.out _ (by rw [List.getD_eq_getElem?_getD, List.getElem?_eq_getElem hlt]; exact List.getElem_mem hlt)
          have hTl : (Nt.good (L.take k)).length ≤ 160 := Nat.le_trans (Nt.good_le _) (by rw [List.length_take]; omega)
          obtain ⟨hT, hK, hCd⟩ := nl_add hlt hLl
          have HC := Lib.hid (fun W h => ntAdd_any (Nt.good (L.take k)).length c A (lastN 32 (Nt.good (L.take k))) (L.getD k Nt.zero) W (lastN_le _ _) HI.out.le HI.out.no (by omega) hfit.2.2 h)
          unfold NtAddPost at HC
          rw [hT, hK, hCd] at HC
          have hGT := good_take hlt
          have hz : (ofL (L.getD k Nt.zero).b).size = (L.getD k Nt.zero).b.length := ofL_size _
          have hx63 := hfit.2.2
          clear hT hK hCd hfit
          have e0 := HI.out.du.c0
          have e1 := HI.out.du.c1
          have el := HI.out.du.lt
          by_cases h64 : 64 < (L.getD k Nt.zero).b.length
          · rw [if_pos h64] at HC hGT
            rw [hGT] at HC
            have HGT := Lib.hid hGT
            clear hGT
            generalize L.getD k Nt.zero = x at *
            generalize Nt.good (L.take k) = G0 at *
            have HA1 := Lib.hid (alloc1B wr (.cells #[.int .u64 (x.t : Int), .int .u8 (x.k : Int), .string (ofL x.b)] 32))
            have HQ := Lib.hid (show (wr.alloc (.cells #[.int .u64 (x.t : Int), .int .u8 (x.k : Int), .string (ofL x.b)] 32)).cell? ⟨wr.heap.size, 0, none⟩ = some (.int .u64 (x.t : Int)) ∧ (wr.alloc (.cells #[.int .u64 (x.t : Int), .int .u8 (x.k : Int), .string (ofL x.b)] 32)).cell? ⟨wr.heap.size, 1, none⟩ = some (.int .u8 (x.k : Int)) ∧ (wr.alloc (.cells #[.int .u64 (x.t : Int), .int .u8 (x.k : Int), .string (ofL x.b)] 32)).cell? ⟨wr.heap.size, 2, none⟩ = some (.string (ofL x.b)) from ⟨cell_new _ _ _ _ _ rfl, cell_new _ _ _ _ _ rfl, cell_new _ _ _ _ _ rfl⟩)
            go_wp2_with fail
            refine (HC.out _ (HI.out.row.on HA1.out)).mono ?_
            rintro e w1 ⟨A', c', rfl, hc', hn', hN', hne', b1⟩
            have HB1' := Lib.hid (bthen HA1.out b1 (Nat.le_refl _))
            have q0 := (b1.cell (p := ⟨wr.heap.size, 0, none⟩) (by simp)).trans (show _ = some (.int .u64 (x.t : Int)) from HQ.out.1)
            have q1 := (b1.cell (p := ⟨wr.heap.size, 1, none⟩) (by simp)).trans (show _ = some (.int .u8 (x.k : Int)) from HQ.out.2.1)
            have q2 := (b1.cell (p := ⟨wr.heap.size, 2, none⟩) (by simp)).trans (show _ = some (.string (ofL x.b)) from HQ.out.2.2)
            have ql : wr.heap.size < w1.heap.size := Nat.lt_of_lt_of_le (by simp) b1.size
            have hd1 := HI.out.du.on HB1'.out
            clear e0 e1
            have e0 := hd1.c0
            have e1 := hd1.c1
            have ef0 := hd1.fz 0
            have ef1 := hd1.fz 1
            have el1 := hd1.lt
            have HM := Lib.hid (NlMid.of HI.out HB1'.out hN' (fun a ha => (hne' a ha).imp id (fun h => ⟨by have := h.1; simp at this; omega, h.2⟩)))
            have HCC := Lib.hid hc'
            have HNN := Lib.hid hn'
            clear hd1 hc' hn' hN' hne' b1
            have d0 : decide ((x.b.length : Int) ≤ 64) = false := decide_eq_false (by omega)
            go_wp2_with fail
            have HX := Lib.hid ((HM.out.store HCC.out HNN.out (G0.length : Int) rfl).on (alloc1B _ (.cells #[.int .u64 (G0.length : Int), .slice A' (lastN 32 G0).length c'] 27)))
            go_roundg (gk - 1)
            case rel => exact ⟨k + 1, by have := HK.out; omega, by go_num, A', c', by rw [HGT.out]; exact HX.out⟩
            case measure => have := HK.out; omega
          · rw [if_neg h64] at HC hGT
            have hG1 : (Nt.good (L.take (k + 1))).length = (Nt.good (L.take k)).length + 1 := by rw [hGT, List.length_append]; rfl
            have hG1l : (Nt.good (L.take (k + 1))).length ≤ 160 := Nat.le_trans (Nt.good_le _) (by rw [List.length_take]; omega)
            have HGT := Lib.hid hGT
            have HG1 := Lib.hid hG1
            clear hGT hG1
            generalize L.getD k Nt.zero = x at *
            generalize hE : Nt.good (L.take (k + 1)) = G1 at *
            have HE := Lib.hid hE
            clear hE
            generalize Nt.good (L.take k) = G0 at *
            have HA1 := Lib.hid (alloc1B wr (.cells #[.int .u64 (x.t : Int), .int .u8 (x.k : Int), .string (ofL x.b)] 32))
            have HQ := Lib.hid (show (wr.alloc (.cells #[.int .u64 (x.t : Int), .int .u8 (x.k : Int), .string (ofL x.b)] 32)).cell? ⟨wr.heap.size, 0, none⟩ = some (.int .u64 (x.t : Int)) ∧ (wr.alloc (.cells #[.int .u64 (x.t : Int), .int .u8 (x.k : Int), .string (ofL x.b)] 32)).cell? ⟨wr.heap.size, 1, none⟩ = some (.int .u8 (x.k : Int)) ∧ (wr.alloc (.cells #[.int .u64 (x.t : Int), .int .u8 (x.k : Int), .string (ofL x.b)] 32)).cell? ⟨wr.heap.size, 2, none⟩ = some (.string (ofL x.b)) from ⟨cell_new _ _ _ _ _ rfl, cell_new _ _ _ _ _ rfl, cell_new _ _ _ _ _ rfl⟩)
            go_wp2_with fail
            refine (HC.out _ (HI.out.row.on HA1.out)).mono ?_
            rintro e w1 ⟨A', c', rfl, hc', hn', hN', hne', b1⟩
            have HB1' := Lib.hid (bthen HA1.out b1 (Nat.le_refl _))
            have q0 := (b1.cell (p := ⟨wr.heap.size, 0, none⟩) (by simp)).trans (show _ = some (.int .u64 (x.t : Int)) from HQ.out.1)
            have q1 := (b1.cell (p := ⟨wr.heap.size, 1, none⟩) (by simp)).trans (show _ = some (.int .u8 (x.k : Int)) from HQ.out.2.1)
            have q2 := (b1.cell (p := ⟨wr.heap.size, 2, none⟩) (by simp)).trans (show _ = some (.string (ofL x.b)) from HQ.out.2.2)
            have ql : wr.heap.size < w1.heap.size := Nat.lt_of_lt_of_le (by simp) b1.size
            clear e0 e1 el
            have HM := Lib.hid (NlMid.of HI.out HB1'.out hN' (fun a ha => (hne' a ha).imp id (fun h => ⟨by have := h.1; simp at this; omega, h.2⟩)))
            have HCC := Lib.hid hc'
            have HNN := Lib.hid hn'
            clear hc' hn' hN' hne' b1
            have d0 : decide ((x.b.length : Int) ≤ 64) = true := decide_eq_true (by omega)
            have HMX := Lib.hid (HM.out.on ((alloc1B w1 (.cells #[.int .u64 (G1.length : Int), .slice A' (lastN 32 G1).length c'] 27)).trans ((alloc1B _ (.cells #[.int .u64 (x.t : Int), .int .u8 (x.k : Int), .string (ofL x.b)] 32)).mono (by simp))))
            have HP := Lib.hid (show ((w1.alloc (.cells #[.int .u64 (G1.length : Int), .slice A' (lastN 32 G1).length c'] 27)).alloc (.cells #[.int .u64 (x.t : Int), .int .u8 (x.k : Int), .string (ofL x.b)] 32)).cell? ⟨w1.heap.size, 0, none⟩ = some (.int .u64 (G1.length : Int)) ∧ ((w1.alloc (.cells #[.int .u64 (G1.length : Int), .slice A' (lastN 32 G1).length c'] 27)).alloc (.cells #[.int .u64 (x.t : Int), .int .u8 (x.k : Int), .string (ofL x.b)] 32)).cell? ⟨w1.heap.size, 1, none⟩ = some (.slice A' (lastN 32 G1).length c') from ⟨((alloc1B _ _).cell (p := ⟨w1.heap.size, 0, none⟩) (by simp)).trans (cell_new _ _ _ _ _ rfl), ((alloc1B _ _).cell (p := ⟨w1.heap.size, 1, none⟩) (by simp)).trans (cell_new _ _ _ _ _ rfl)⟩)
            have HOX := Lib.hid HMX.out.own
            have HNW := Lib.hid (show ∀ j u, (ncs [x])[j]? = some u → ((w1.alloc (.cells #[.int .u64 (G1.length : Int), .slice A' (lastN 32 G1).length c'] 27)).alloc (.cells #[.int .u64 (x.t : Int), .int .u8 (x.k : Int), .string (ofL x.b)] 32)).cell? ((⟨w1.heap.size + 1, 0, none⟩ : Addr).add j) = some u from fun j u hu => by
              rw [rws_add, Nat.zero_add]
              rw [ncs_one1] at hu
              have e : (w1.alloc (.cells #[.int .u64 (G1.length : Int), .slice A' (lastN 32 G1).length c'] 27)).heap.size = w1.heap.size + 1 := by simp
              rw [← e]
              match j, hu with
              | 0, hu => obtain rfl := Option.some.inj hu; exact cell_new _ _ _ _ _ rfl
              | 1, hu => obtain rfl := Option.some.inj hu; exact cell_new _ _ _ _ _ rfl
              | 2, hu => obtain rfl := Option.some.inj hu; exact cell_new _ _ _ _ _ rfl)
            have hw6 : w6.heap.size ≤ w1.heap.size := HM.out.grow.size
            go_wp2_with (at_builtin; refine wpList_append_lies _ rfl _ _ 22 rfl w6.heap.size 32 iN _ 3 32 Try.underlying22 hiN hzN0 hzN1 hzN2 rfl (by omega) (.slice Av G0.length cv) G0.length (ncs G0) (by rfl) HOX.out ⟨w1.heap.size + 1, 0, none⟩ 1 1 (ncs [x]) (by rfl) (by rfl) HNW.out (ncs_one _) (by omega) (by unfold maxLen; omega) (by omega) (by simp; omega) _ rfl ?_; intro gg cap w4 hown hgrow hat hlt4; rw [← HG1.out]; rw [← HG1.out, ← ncs_app, ← HGT.out] at hown; have HM4 := Lib.hid (HMX.out.grown hgrow hown hat); have hne := fun (e : some w1.heap.size = (Value.slice Av G0.length cv).ownBlock) => (show False by have := (HM.out.own.lt _ e.symm).2; omega); have p0 := hgrow.cell HP.out.1 hne; have p1 := hgrow.cell HP.out.2 hne; obtain ⟨xx, yy, hd4⟩ := HM4.out.du; have e0 := hd4.c0; have e1 := hd4.c1; have ef0 := hd4.fz 0; have ef1 := hd4.fz 1; have el1 := hd4.lt; clear hd4 hown hgrow hat hlt4 hne)
            have HX := Lib.hid (HM4.out.store HCC.out HNN.out (G1.length : Int) rfl)
            go_roundg (gk - 1)
            case rel => exact ⟨k + 1, by have := HK.out; omega, by go_num, A', c', by rw [HE.out]; exact HX.out⟩
            case measure => have := HK.out; omega
        · have hkL : k = L.length := by have := HK.out; omega
          have hGe : Nt.good (L.take k) = Nt.good L := by rw [hkL, List.take_length]
          rw [hGe] at HI ⊢
          clear hGe
          have hGl : (Nt.good L).length ≤ 160 := Nat.le_trans (Nt.good_le _) hLl
          have hKl := lastN_len 32 (Nt.good L)
          have HLN := Lib.hid (fun i d => lastN_getD 32 (Nt.good L) i d)
          have hmin : min ((Nt.good L).length : Int) 32 = ((lastN 32 (Nt.good L)).length : Int) := by omega
          have hle : (lastN 32 (Nt.good L)).length ≤ (Nt.good L).length := by omega
          have HALL := Lib.hid (fun W h => ntAll_any (Nt.good L).length c A (lastN 32 (Nt.good L)) W (by omega) h)
          have HTO := Lib.hid (fun W => ntTotal_any (Nt.good L).length (lastN 32 (Nt.good L)).length c A W)
          clear hKl
          have hdu := HI.out.du
          have hrow := HI.out.row
          have hown := HI.out.own
          have hgrow := HI.out.grow
          have hltb := HI.out.lt
          clear HI
          generalize lastN 32 (Nt.good L) = K at *
          generalize Nt.good L = G at *
          have HROW := Lib.hid hrow
          have HDU := Lib.hid hdu
          have HOWN := Lib.hid hown
          have HGR := Lib.hid hgrow
          have HLB := Lib.hid hltb
          clear hrow hdu hown hgrow hltb
          have e0 := HDU.out.c0
          have e1 := HDU.out.c1
          have el := HDU.out.lt
          go_wp2_with fail
          refine (HALL.out _ HROW.out).mono ?_
          rintro e w7 ⟨A7, c7, rfl, -, -, hN7, -, b7⟩
          have hd7 := HDU.out.on b7
          have HK7 := Lib.hid hN7
          obtain ⟨Aw, cw, ew, -, -, hG7, -⟩ := Rws.of_own (Rw.own_on HOWN.out b7)
          obtain ⟨rfl, -, rfl⟩ := Value.slice.inj ew
          have HG7 := Lib.hid (show Nts w7 Av G from hG7)
          have HB7 := Lib.hid (bthen (HB6.out.grown HGR.out (Nat.le_trans HB3.out.size (Nat.le_of_lt HLB.out)) (fun k hk => by cases hk; exact HB3.out.size)) b7 (Nat.le_refl _))
          clear e0 e1 el hN7 hG7 ew b7
          have e0 := hd7.c0
          have e1 := hd7.c1
          have el := hd7.lt
          clear hd7
          go_wp2_with fail
          refine (HTO.out _).mono ?_
          rintro e w8 ⟨rfl, b8⟩
          have HK8 := Lib.hid (HK7.out.on b8)
          have HG8 := Lib.hid (HG7.out.on b8)
          have HB8 := Lib.hid (bthen HB7.out b8 (Nat.le_refl _))
          clear e0 e1 el b8
          go_wp2_with fail
          go_loopg [73] K.length (fun g i wr => NkSt w8 K.length g i wr)
          case atStart => exact ⟨0, by omega, rfl, Below.refl _ _⟩
          case round =>
            obtain ⟨j, hj, rfl, hBj⟩ := hrel
            have HJ := Lib.hid hj
            have HBJ := Lib.hid hBj
            clear hj hBj
            by_cases hjl : j < K.length
            · obtain ⟨b1, o1, rfl, hb1, y0, y1, y2⟩ := (HK8.out.on HBJ.out).get hjl
              obtain ⟨b2, o2, rfl, hb2, z0, z1, z2⟩ := (HG8.out.on HBJ.out).get (i := G.length - K.length + j) (by omega)
              have hsame := HLN.out j Nt.zero
              rw [hsame] at y0 y1 y2
              have hself := ntEq_self (G.getD (G.length - K.length + j) Nt.zero)
              obtain ⟨m, hm⟩ : ∃ m, G.length - K.length + j = m := ⟨_, rfl⟩
              have hmi : (G.length : Int) - (K.length : Int) + (j : Int) = (m : Int) := by omega
              have hml : m < G.length := by omega
              rw [hm] at y0 y1 y2 z0 z1 z2 hself
              clear hsame hm
              generalize G.getD m Nt.zero = x at *
              have HBN := Lib.hid (HBJ.out.alloc HBJ.out.size (.cells #[.int .u64 (x.t : Int), .int .u8 (x.k : Int), .string (ofL x.b)] 32))
              go_wp2_with fail
              go_quiet (fail)
              go_wp2_with fail
              go_roundg (gk - 1)
              case rel => exact ⟨j + 1, by have := HJ.out; omega, by go_num, HBN.out.trans ⟨rfl, rfl, rfl, Nat.le_refl _, fun _ _ => rfl⟩⟩
              case measure => have := HJ.out; omega
            · go_wp2_with fail
              go_ret
              exact ⟨rfl, bthen HB8.out HBJ.out (Nat.le_refl _)⟩
    · have HB3 := Lib.hid (bthen HB2.out b3 (Nat.le_refl _))
      clear b3
      go_wp2_with fail
      go_ret
      exact ⟨rfl, HB3.out⟩
  · have HB2 := Lib.hid (bthen HB1.out b2 (Nat.le_refl _))
    clear b2
    go_wp2_with fail
    go_ret
    exact ⟨rfl, HB2.out⟩
end Go.Proofs.Ytabnkbdbbneihaa
