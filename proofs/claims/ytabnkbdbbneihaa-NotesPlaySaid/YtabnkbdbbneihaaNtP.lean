/-
  THE LAW NotesPlay, walked.
-/
import Derived.Test.YtabnkbdbbneihaaNtV
import Derived.Test.YtabnkbdbbneihaaNtG
namespace Go.Proofs.Ytabnkbdbbneihaa
open Go.ChangeShapes Go.WideShapes Go.ChangeAt Go.RowKit

theorem Rws.farB {w0 w w' : World} {A : Option Addr} {cs : List Value} {bi : Nat} (h : Rws w0 A cs) (hb : Below w0.heap.size w0 w) (hg : w.grownBy w' (some bi)) (hbi : w0.heap.size ≤ bi) : Rws w' A cs := ⟨fun j v hv => by
  obtain ⟨b, off, rfl, hlt, hc⟩ := h.at_ j v hv
  exact ⟨b, off, rfl, Nat.lt_of_lt_of_le hlt (Nat.le_trans hb.size hg.size), hg.cell ((hb.cell (p := ⟨b, off + j, none⟩) hlt).trans hc) (fun e => by have := Option.some.inj e; simp only at this; omega)⟩⟩
/-- what the loop of NotesPlay keeps -/
structure NpIn (w : World) (b : Nat) (G : List Nt) (A : Option Addr) (c : Nat) (B : Option Addr) (d : Nat) (wr : World) : Prop where
  dn : Du2 b (.int .u64 (G.length : Int)) (.slice A (lastN 32 G).length c) wr
  dq : Du2 (b + 1) (.int .u64 (G.length : Int)) (.slice B (lastN 32 G).length d) wr
  lc : (lastN 32 G).length ≤ c ∧ (A = none → c = 0)
  ld : (lastN 32 G).length ≤ d ∧ (B = none → d = 0)
  rn : Nts wr A (lastN 32 G)
  rq : Nts wr B (lastN 32 G)
  an : ∀ a, A = some a → a.block ≠ b ∧ a.block ≠ b + 1
  aq : ∀ a, B = some a → a.block ≠ b ∧ a.block ≠ b + 1
  below : Below w.heap.size w wr
  ge : w.heap.size ≤ b
def NpSt (w : World) (b : Nat) (l : List Nt) (g : Nat) (i : Value) (wr : World) : Prop := ∃ (k : Nat) (A : Option Addr) (c : Nat) (B : Option Addr) (d : Nat), k + g = l.length ∧ i = .int .i64 (k : Int) ∧ NpIn w b (Nt.good (l.take k)) A c B d wr
theorem good_mem {l : List Nt} {k : Nat} {x : Nt} (h : x ∈ lastN 32 (Nt.good (l.take k))) : x ∈ l ∧ x.b.length ≤ 64 := by
  have h1 := List.mem_of_mem_drop h
  unfold Nt.good at h1
  obtain ⟨h2, h3⟩ := List.mem_filter.1 h1
  exact ⟨List.mem_of_mem_take h2, by simpa using h3⟩
theorem np_none {G : List Nt} : (lastN 32 G).length = min G.length 32 := lastN_len 32 G
theorem NpIn.on {w W W' : World} {b c d : Nat} {G : List Nt} {A B : Option Addr} (h : NpIn w b G A c B d W) (hb : Below W.heap.size W W') : NpIn w b G A c B d W' :=
  ⟨h.dn.on hb, h.dq.on hb, h.lc, h.ld, h.rn.on hb, h.rq.on hb, h.an, h.aq, bthen h.below hb (Nat.le_refl _), h.ge⟩
theorem Du2.aside2 {b g : Nat} {x y : Value} {w : World} (h : Du2 b x y w) (hg : b ≠ g) (u v : Value) : Du2 b x y ((w.setCell ⟨g, 0, none⟩ u).setCell ⟨g, 1, none⟩ v) := (h.aside hg 0 u).aside hg 1 v
theorem NpIn.store {w W : World} {b c d : Nat} {G : List Nt} {A B : Option Addr} {x1 y1 x2 y2 : Value} (hn : Du2 b x1 y1 W) (hq : Du2 (b + 1) x2 y2 W) (lc : (lastN 32 G).length ≤ c ∧ (A = none → c = 0)) (ld : (lastN 32 G).length ≤ d ∧ (B = none → d = 0)) (rn : Nts W A (lastN 32 G)) (rq : Nts W B (lastN 32 G))
    (an : ∀ a, A = some a → a.block ≠ b ∧ a.block ≠ b + 1) (aq : ∀ a, B = some a → a.block ≠ b ∧ a.block ≠ b + 1) (hB : Below w.heap.size w W) (ge : w.heap.size ≤ b) :
    NpIn w b G A c B d ((((W.setCell ⟨b, 0, none⟩ (.int .u64 (G.length : Int))).setCell ⟨b, 1, none⟩ (.slice A (lastN 32 G).length c)).setCell ⟨b + 1, 0, none⟩ (.int .u64 (G.length : Int))).setCell ⟨b + 1, 1, none⟩ (.slice B (lastN 32 G).length d)) :=
  ⟨(hn.set _ _).aside2 (by omega) _ _, (hq.aside2 (by omega) _ _).set _ _, lc, ld, (rn.put2 (fun a ha => (an a ha).1) _ _).put2 (fun a ha => (an a ha).2) _ _, (rq.put2 (fun a ha => (aq a ha).1) _ _).put2 (fun a ha => (aq a ha).2) _ _, an, aq,
   (((hB.setCell (p := ⟨b, 0, none⟩) ge _).setCell (p := ⟨b, 1, none⟩) ge _).setCell (p := ⟨b + 1, 0, none⟩) (Nat.le_succ_of_le ge) _).setCell (p := ⟨b + 1, 1, none⟩) (Nat.le_succ_of_le ge) _, ge⟩
attribute [local go_sem ↓] rnt_eql nt_eql
attribute [local go_sem] guardRNt guardNt
set_option maxRecDepth 100000 in
set_option maxHeartbeats 16000000 in
theorem notesPlay_walk (A0 : Option Addr) (c0 : Nat) (l : List Nt) (num : Nat) (w : World) (hl : l.length ≤ 9223372036854775807) (hf : ∀ x ∈ l, x.Fits) (hnum : num < 18446744073709551616) (hA : Nts w A0 l) :
    Calls Try.prog 3 #[.slice A0 l.length c0, .int .u64 (num : Int)] w fun e w' => e = .returned (.bool true) ∧ Below w.heap.size w w' := by
  have HA := Lib.hid hA
  have HFI := Lib.hid hf
  have HLi := Lib.hid (fun W h => light19_any A0 c0 l W hl hf h)
  have HAW := Lib.hid (awake19_any w)
  clear hA hf
  go_enter Try.func3, Try.ntmps3
  go_wp2_with fail
  refine HAW.out.mono ?_
  rintro e w1 ⟨rfl, b1⟩
  have HB1 := Lib.hid b1
  have HA1 := Lib.hid (HA.out.on b1)
  clear b1
  go_wp2_with fail
  refine (HLi.out _ HA1.out).mono ?_
  rintro e w2 ⟨⟨rfl, hfew⟩ | rfl, b2⟩
  · have HB2 := Lib.hid (bthen HB1.out b2 (Nat.le_refl _))
    have hle1 := hfew.1
    clear b2 hfew
    have HS := Lib.hid (show NpIn w w2.heap.size (Nt.good (l.take 0)) none 0 none 0 ((w2.alloc (.cells #[.int .u64 0, .slice none 0 0] 27)).alloc (.cells #[.int .u64 0, .slice none 0 0] 30)) from by
      have e : (w2.alloc (.cells #[.int .u64 0, .slice none 0 0] 27)).heap.size = w2.heap.size + 1 := by simp
      have h2 := Du2.new (w2.alloc (.cells #[.int .u64 0, .slice none 0 0] 27)) (.int .u64 0) (.slice none 0 0) 30
      rw [e] at h2
      exact ⟨(Du2.new _ _ _ _).on (alloc1B _ _), h2, ⟨Nat.le_refl _, fun _ => rfl⟩, ⟨Nat.le_refl _, fun _ => rfl⟩, Nts.nil _ _, Nts.nil _ _, (fun a h => by cases h), (fun a h => by cases h), bthen (bthen HB2.out (alloc1B _ _) (Nat.le_refl _)) (alloc1B _ _) (Nat.le_refl _), HB2.out.size⟩)
    go_wp2_with fail
    go_loopg [26] l.length (fun g i wr => NpSt w w2.heap.size l g i wr)
    case atStart => exact ⟨0, none, 0, none, 0, by omega, rfl, HS.out⟩
    case round =>
      obtain ⟨k, A, c, B, d, hk, rfl, hI⟩ := hrel
      have HK := Lib.hid hk
      have HI := Lib.hid hI
      clear hk hI
      generalize hb : w2.heap.size = b at *
      have e0 := HI.out.dn.c0
      have e1 := HI.out.dn.c1
      have el := HI.out.dn.lt
      by_cases hlt : k < l.length
      · obtain ⟨bb, off, rfl, hbb, y0, y1, y2⟩ := (HA.out.on HI.out.below).get hlt
        have hmem : l.getD k Nt.zero ∈ l := by rw [List.getD_eq_getElem?_getD, List.getElem?_eq_getElem hlt]; exact List.getElem_mem hlt
        have hx63 := (HFI.out _ hmem).2.2
        have hTl : (Nt.good (l.take k)).length ≤ 160 := Nat.le_trans (Nt.good_le _) (by rw [List.length_take]; omega)
        obtain ⟨hT, hK, hCd⟩ := nl_add hlt (by omega)
        have HC1 := Lib.hid (fun W h => ntAdd_any (Nt.good (l.take k)).length c A (lastN 32 (Nt.good (l.take k))) (l.getD k Nt.zero) W (lastN_le _ _) HI.out.lc.1 HI.out.lc.2 (by omega) hx63 h)
        have HC2 := Lib.hid (fun W h => r19Add_any (Nt.good (l.take k)).length d B (lastN 32 (Nt.good (l.take k))) (l.getD k Nt.zero) W (lastN_le _ _) HI.out.ld.1 HI.out.ld.2 (by omega) hx63 h)
        unfold NtAddPost at HC1 HC2
        rw [hT, hK] at HC1 HC2
        have HGT := Lib.hid (good_take hlt)
        have hle1' := lastN_le 32 (Nt.good (l.take k))
        have hle2' := lastN_le 32 (Nt.good (l.take (k + 1)))
        clear hT hK hCd hmem
        generalize Nt.addC (Nt.good (l.take k)).length (l.getD k Nt.zero) = cd at *
        generalize l.getD k Nt.zero = x at *
        generalize hE : Nt.good (l.take (k + 1)) = G1 at *
        have HE := Lib.hid hE
        clear hE
        generalize Nt.good (l.take k) = G0 at *
        have hb1 : b + 1 < wr.heap.size := HI.out.dq.lt
        go_wp2_with fail
        refine (HC1.out _ (HI.out.rn.on (alloc1B _ _))).mono ?_
        rintro e w5 ⟨Am, cm, rfl, hcm, hnm, hNm, hnem, b5⟩
        have HA5 := Lib.hid (bthen (alloc1B wr (.cells #[.int .u64 (x.t : Int), .int .u8 (x.k : Int), .string (ofL x.b)] 32)) b5 (Nat.le_refl _))
        have hdq5 := HI.out.dq.on HA5.out
        have x0 := (b5.cell (p := ⟨wr.heap.size, 0, none⟩) (by simp)).trans (show _ = some (.int .u64 (x.t : Int)) from cell_new _ _ _ _ _ rfl)
        have x1 := (b5.cell (p := ⟨wr.heap.size, 1, none⟩) (by simp)).trans (show _ = some (.int .u8 (x.k : Int)) from cell_new _ _ _ _ _ rfl)
        have x2 := (b5.cell (p := ⟨wr.heap.size, 2, none⟩) (by simp)).trans (show _ = some (.string (ofL x.b)) from cell_new _ _ _ _ _ rfl)
        have xl : wr.heap.size < w5.heap.size := Nat.lt_of_lt_of_le (by simp) b5.size
        have HCM := Lib.hid (And.intro hcm hnm)
        have HAM := Lib.hid (show ∀ a, Am = some a → a.block ≠ b ∧ a.block ≠ b + 1 from fun a ha => (hnem a ha).elim (fun h => HI.out.an a h) (fun h => by have := h.1; simp at this; omega))
        have HNm := Lib.hid hNm
        have HM5 := Lib.hid (Du2.new w5 (.int .u64 (G1.length : Int)) (.slice Am (lastN 32 G1).length cm) 27)
        have HAm := Lib.hid (alloc1B w5 (.cells #[.int .u64 (G1.length : Int), .slice Am (lastN 32 G1).length cm] 27))
        clear e0 e1 el hcm hnm hNm hnem b5
        have e0 := hdq5.c0
        have e1 := hdq5.c1
        have el := hdq5.lt
        clear hdq5
        go_wp2_with fail
        refine (HC2.out _ ((HI.out.rq.on HA5.out).on HAm.out)).mono ?_
        rintro e w6 ⟨Ap, cp, rfl, hcp, hnp, hNp, hnep, b6⟩
        have HA6 := Lib.hid (bthen (bthen HA5.out HAm.out (Nat.le_refl _)) b6 (Nat.le_refl _))
        have HCP := Lib.hid (And.intro hcp hnp)
        have HAP := Lib.hid (show ∀ a, Ap = some a → a.block ≠ b ∧ a.block ≠ b + 1 from fun a ha => (hnep a ha).elim (fun h => HI.out.aq a h) (fun h => by have := h.1; simp at this; omega))
        have HAp := Lib.hid (alloc1B w6 (.cells #[.int .u64 (G1.length : Int), .slice Ap (lastN 32 G1).length cp] 30))
        have HDp := Lib.hid (Du2.new w6 (.int .u64 (G1.length : Int)) (.slice Ap (lastN 32 G1).length cp) 30)
        have HDm := Lib.hid ((HM5.out.on b6).on HAp.out)
        have HDn := Lib.hid ((HI.out.dn.on HA6.out).on HAp.out)
        have HDq := Lib.hid ((HI.out.dq.on HA6.out).on HAp.out)
        have HRn := Lib.hid ((HI.out.rn.on HA6.out).on HAp.out)
        have HRq := Lib.hid ((HI.out.rq.on HA6.out).on HAp.out)
        have HRm := Lib.hid (((HNm.out.on HAm.out).on b6).on HAp.out)
        have HRp := Lib.hid (Nts.on hNp HAp.out)
        have HBW := Lib.hid (bthen (bthen HI.out.below HA6.out (Nat.le_refl _)) HAp.out (Nat.le_refl _))
        have HGE := Lib.hid HI.out.ge
        have hpm : b + 1 < w5.heap.size := by omega
        have hpp : w5.heap.size < w6.heap.size := Nat.lt_of_lt_of_le (by simp) b6.size
        clear e0 e1 el x0 x1 x2 xl hcp hnp hNp hnep b6 HI HA5 HA6 HAm HAp HM5 HNm HC1 HC2
        go_wp2_with fail
        generalize w6.alloc (.cells #[.int .u64 (G1.length : Int), .slice Ap (lastN 32 G1).length cp] 30) = w7 at *
        generalize hpme : w5.heap.size = pm at *
        generalize hppe : w6.heap.size = pp at *
        by_cases h64 : 64 < x.b.length
        · have hGT := HGT.out
          clear HGT
          rw [if_pos h64] at hGT
          have hGT2 := hGT.symm
          subst hGT2
          have hS0 := Lib.hid (show (fun a => a.cell? ⟨b, 0, none⟩ = some (.int .u64 (G0.length : Int)) ∧ a.cell? ⟨b, 1, none⟩ = some (.slice A (lastN 32 G0).length c) ∧ a.cell? ⟨b + 1, 0, none⟩ = some (.int .u64 (G0.length : Int)) ∧ a.cell? ⟨b + 1, 1, none⟩ = some (.slice B (lastN 32 G0).length d) ∧ a.cell? ⟨pm, 0, none⟩ = some (.int .u64 (G0.length : Int)) ∧ a.cell? ⟨pm, 1, none⟩ = some (.slice Am (lastN 32 G0).length cm) ∧ a.cell? ⟨pp, 0, none⟩ = some (.int .u64 (G0.length : Int)) ∧ a.cell? ⟨pp, 1, none⟩ = some (.slice Ap (lastN 32 G0).length cp) ∧ Below w7.heap.size w7 a) w7.drew from ⟨HDn.out.c0, HDn.out.c1, HDq.out.c0, HDq.out.c1, HDm.out.c0, HDm.out.c1, HDp.out.c0, HDp.out.c1, (Below.refl _ _).drew⟩)
          have HON := Lib.hid (fun (W W' : World) (h : (fun a => a.cell? ⟨b, 0, none⟩ = some (.int .u64 (G0.length : Int)) ∧ a.cell? ⟨b, 1, none⟩ = some (.slice A (lastN 32 G0).length c) ∧ a.cell? ⟨b + 1, 0, none⟩ = some (.int .u64 (G0.length : Int)) ∧ a.cell? ⟨b + 1, 1, none⟩ = some (.slice B (lastN 32 G0).length d) ∧ a.cell? ⟨pm, 0, none⟩ = some (.int .u64 (G0.length : Int)) ∧ a.cell? ⟨pm, 1, none⟩ = some (.slice Am (lastN 32 G0).length cm) ∧ a.cell? ⟨pp, 0, none⟩ = some (.int .u64 (G0.length : Int)) ∧ a.cell? ⟨pp, 1, none⟩ = some (.slice Ap (lastN 32 G0).length cp) ∧ Below w7.heap.size w7 a) W) (hb : Below W.heap.size W W') => show (fun a => a.cell? ⟨b, 0, none⟩ = some (.int .u64 (G0.length : Int)) ∧ a.cell? ⟨b, 1, none⟩ = some (.slice A (lastN 32 G0).length c) ∧ a.cell? ⟨b + 1, 0, none⟩ = some (.int .u64 (G0.length : Int)) ∧ a.cell? ⟨b + 1, 1, none⟩ = some (.slice B (lastN 32 G0).length d) ∧ a.cell? ⟨pm, 0, none⟩ = some (.int .u64 (G0.length : Int)) ∧ a.cell? ⟨pm, 1, none⟩ = some (.slice Am (lastN 32 G0).length cm) ∧ a.cell? ⟨pp, 0, none⟩ = some (.int .u64 (G0.length : Int)) ∧ a.cell? ⟨pp, 1, none⟩ = some (.slice Ap (lastN 32 G0).length cp) ∧ Below w7.heap.size w7 a) W' from ⟨cell_onB hb h.1, cell_onB hb h.2.1, cell_onB hb h.2.2.1, cell_onB hb h.2.2.2.1, cell_onB hb h.2.2.2.2.1, cell_onB hb h.2.2.2.2.2.1, cell_onB hb h.2.2.2.2.2.2.1, cell_onB hb h.2.2.2.2.2.2.2.1, bthen h.2.2.2.2.2.2.2.2 hb (Nat.le_refl _)⟩)
          have HGET := Lib.hid (fun (W : World) (h : (fun a => a.cell? ⟨b, 0, none⟩ = some (.int .u64 (G0.length : Int)) ∧ a.cell? ⟨b, 1, none⟩ = some (.slice A (lastN 32 G0).length c) ∧ a.cell? ⟨b + 1, 0, none⟩ = some (.int .u64 (G0.length : Int)) ∧ a.cell? ⟨b + 1, 1, none⟩ = some (.slice B (lastN 32 G0).length d) ∧ a.cell? ⟨pm, 0, none⟩ = some (.int .u64 (G0.length : Int)) ∧ a.cell? ⟨pm, 1, none⟩ = some (.slice Am (lastN 32 G0).length cm) ∧ a.cell? ⟨pp, 0, none⟩ = some (.int .u64 (G0.length : Int)) ∧ a.cell? ⟨pp, 1, none⟩ = some (.slice Ap (lastN 32 G0).length cp) ∧ Below w7.heap.size w7 a) W) => h.2.2.2.2.2.2.2.2)
          refine wp_region_noPanic ?_
          refine wp_region_held_drew (S := (fun a => a.cell? ⟨b, 0, none⟩ = some (.int .u64 (G0.length : Int)) ∧ a.cell? ⟨b, 1, none⟩ = some (.slice A (lastN 32 G0).length c) ∧ a.cell? ⟨b + 1, 0, none⟩ = some (.int .u64 (G0.length : Int)) ∧ a.cell? ⟨b + 1, 1, none⟩ = some (.slice B (lastN 32 G0).length d) ∧ a.cell? ⟨pm, 0, none⟩ = some (.int .u64 (G0.length : Int)) ∧ a.cell? ⟨pm, 1, none⟩ = some (.slice Am (lastN 32 G0).length cm) ∧ a.cell? ⟨pp, 0, none⟩ = some (.int .u64 (G0.length : Int)) ∧ a.cell? ⟨pp, 1, none⟩ = some (.slice Ap (lastN 32 G0).length cp) ∧ Below w7.heap.size w7 a)) (by kernel_rfl) ?_ (fun hHeld => ?_)
          · (try dsimp only); first | with_reducible exact hS0.out | with_reducible assumption | with_reducible exact HON.out _ _ (by assumption) hb2
          refine wpAnyH_take (i := 0) (v := ?_) rfl (by kernel_rfl) (by kernel_rfl) (by kernel_rfl) (fun _ _ _ h => h) (Or.inl ⟨by rfl, ?_⟩) (by assumption) ?_
          rotate_left
          · intro w hSw; (try dsimp only at hSw); go_simp; try with_reducible rfl
          (try simp only [List.getElem_toArray, List.getElem_cons_zero, Act.put, List.setIfInBounds_toArray, List.set_cons_zero, List.set_cons_succ])
          refine wpAnyH_take (i := 1) (v := ?_) rfl (by kernel_rfl) (by kernel_rfl) (by kernel_rfl) (fun _ _ _ h => h) (Or.inl ⟨by rfl, ?_⟩) (by assumption) ?_
          rotate_left
          · intro w hSw; (try dsimp only at hSw); go_simp; try with_reducible rfl
          (try simp only [List.getElem_toArray, List.getElem_cons_succ, List.getElem_cons_zero, Act.put, List.setIfInBounds_toArray, List.set_cons_zero, List.set_cons_succ])
          refine wpAnyH_take (i := 2) (v := ?_) rfl (by kernel_rfl) (by kernel_rfl) (by kernel_rfl) (fun _ _ _ h => h) (Or.inl ⟨by rfl, ?_⟩) (by assumption) ?_
          rotate_left
          · intro w hSw; (try dsimp only at hSw); go_simp; try with_reducible rfl
          (try simp only [List.getElem_toArray, List.getElem_cons_succ, List.getElem_cons_zero, Act.put, List.setIfInBounds_toArray, List.set_cons_zero, List.set_cons_succ])
          refine wpAnyH_take (i := 3) (v := ?_) rfl (by kernel_rfl) (by kernel_rfl) (by kernel_rfl) (fun _ _ _ h => h) (Or.inl ⟨by rfl, ?_⟩) (by assumption) ?_
          rotate_left
          · intro w hSw; (try dsimp only at hSw); go_simp; try with_reducible rfl
          (try simp only [List.getElem_toArray, List.getElem_cons_succ, List.getElem_cons_zero, Act.put, List.setIfInBounds_toArray, List.set_cons_zero, List.set_cons_succ])
          refine wpAnyH_take (i := 4) (v := ?_) rfl (by kernel_rfl) (by kernel_rfl) (by kernel_rfl) (fun _ _ _ h => h) (Or.inl ⟨by rfl, ?_⟩) (by assumption) ?_
          rotate_left
          · intro w hSw; (try dsimp only at hSw); go_simp; try with_reducible rfl
          (try simp only [List.getElem_toArray, List.getElem_cons_succ, List.getElem_cons_zero, Act.put, List.setIfInBounds_toArray, List.set_cons_zero, List.set_cons_succ])
          refine wpAnyH_take (i := 6) (v := ?_) rfl (by kernel_rfl) (by kernel_rfl) (by kernel_rfl) (fun _ _ _ h => h) (Or.inl ⟨by rfl, ?_⟩) (by assumption) ?_
          rotate_left
          · intro w hSw; (try dsimp only at hSw); go_simp; try with_reducible rfl
          (try simp only [List.getElem_toArray, List.getElem_cons_succ, List.getElem_cons_zero, Act.put, List.setIfInBounds_toArray, List.set_cons_zero, List.set_cons_succ])
          refine wpAnyH_ready (rs := [5]) (by kernel_rfl) (by simp) ?_
          refine AllReadyH.cons rfl (fun K hK => ?_) (AllReadyH.nil)
          · go_simp
            (go_at_call 12; refine (of19_any G0.length cm Am (lastN 32 G0) _ (by have := lastN_le 32 G0; omega) (HRm.out.on (HGET.out _ (by assumption)))).mono ?_; rintro e wx ⟨A6, c6, rfl, -, -, hN6, hb2⟩; have HN6 := Lib.hid hN6; clear hN6)
            refine hK.out _ _ ?_ (fun hHeld => ?_)
            · (try dsimp only); first | with_reducible exact hS0.out | with_reducible assumption | with_reducible exact HON.out _ _ (by assumption) hb2
            clear hK K
            (try simp only [List.getElem_toArray, List.getElem_cons_succ, List.getElem_cons_zero, Act.put, List.setIfInBounds_toArray, List.set_cons_zero, List.set_cons_succ])
            refine wpAnyH_ready (rs := [7]) (by kernel_rfl) (by simp) ?_
            refine AllReadyH.cons rfl (fun K hK => ?_) (AllReadyH.nil)
            · go_simp
              (go_at_call 11; refine (r19Same_self G0.length c6 cp A6 Ap (lastN 32 G0) _ (by have := lastN_le 32 G0; omega) HN6.out (HRp.out.on (HGET.out _ (by assumption)))).mono ?_; rintro e wx ⟨rfl, hb2⟩)
              refine hK.out _ _ ?_ (fun hHeld => ?_)
              · (try dsimp only); first | with_reducible exact hS0.out | with_reducible assumption | with_reducible exact HON.out _ _ (by assumption) hb2
              clear hK K
              (try simp only [List.getElem_toArray, List.getElem_cons_succ, List.getElem_cons_zero, Act.put, List.setIfInBounds_toArray, List.set_cons_zero, List.set_cons_succ])
              refine wpAnyH_take (i := 8) (v := ?_) rfl (by kernel_rfl) (by kernel_rfl) (by kernel_rfl) (fun _ _ _ h => h) (Or.inl ⟨by rfl, ?_⟩) (by assumption) ?_
              rotate_left
              · intro w hSw; (try dsimp only at hSw); go_simp; try with_reducible rfl
              (try simp only [List.getElem_toArray, List.getElem_cons_succ, List.getElem_cons_zero, Act.put, List.setIfInBounds_toArray, List.set_cons_zero, List.set_cons_succ])
              refine wpAnyH_take (i := 9) (v := ?_) rfl (by kernel_rfl) (by kernel_rfl) (by kernel_rfl) (fun _ _ _ h => h) (Or.inl ⟨by rfl, ?_⟩) (by assumption) ?_
              rotate_left
              · intro w hSw; (try dsimp only at hSw); go_simp; try with_reducible rfl
              (try simp only [List.getElem_toArray, List.getElem_cons_succ, List.getElem_cons_zero, Act.put, List.setIfInBounds_toArray, List.set_cons_zero, List.set_cons_succ])
              refine wpAnyH_take (i := 10) (v := ?_) rfl (by kernel_rfl) (by kernel_rfl) (by kernel_rfl) (fun _ _ _ h => h) (Or.inl ⟨by rfl, ?_⟩) (by assumption) ?_
              rotate_left
              · intro w hSw; (try dsimp only at hSw); go_simp; try with_reducible rfl
              (try simp only [List.getElem_toArray, List.getElem_cons_succ, List.getElem_cons_zero, Act.put, List.setIfInBounds_toArray, List.set_cons_zero, List.set_cons_succ])
              refine wpAnyH_take (i := 11) (v := ?_) rfl (by kernel_rfl) (by kernel_rfl) (by kernel_rfl) (fun _ _ _ h => h) (Or.inl ⟨by rfl, ?_⟩) (by assumption) ?_
              rotate_left
              · intro w hSw; (try dsimp only at hSw); go_simp; try with_reducible rfl
              (try simp only [List.getElem_toArray, List.getElem_cons_succ, List.getElem_cons_zero, Act.put, List.setIfInBounds_toArray, List.set_cons_zero, List.set_cons_succ])
              refine wpAnyH_take (i := 13) (v := ?_) rfl (by kernel_rfl) (by kernel_rfl) (by kernel_rfl) (fun _ _ _ h => h) (Or.inl ⟨by rfl, ?_⟩) (by assumption) ?_
              rotate_left
              · intro w hSw; (try dsimp only at hSw); go_simp; try with_reducible rfl
              (try simp only [List.getElem_toArray, List.getElem_cons_succ, List.getElem_cons_zero, Act.put, List.setIfInBounds_toArray, List.set_cons_zero, List.set_cons_succ])
              refine wpAnyH_ready (rs := [12]) (by kernel_rfl) (by simp) ?_
              refine AllReadyH.cons rfl (fun K hK => ?_) (AllReadyH.nil)
              · go_simp
                (go_at_call 12; refine (of19_any G0.length c A (lastN 32 G0) _ (by have := lastN_le 32 G0; omega) (HRn.out.on (HGET.out _ (by assumption)))).mono ?_; rintro e wx ⟨A7, c7, rfl, -, -, hN7, hb2⟩; have HN7 := Lib.hid hN7; clear hN7)
                refine hK.out _ _ ?_ (fun hHeld => ?_)
                · (try dsimp only); first | with_reducible exact hS0.out | with_reducible assumption | with_reducible exact HON.out _ _ (by assumption) hb2
                clear hK K
                (try simp only [List.getElem_toArray, List.getElem_cons_succ, List.getElem_cons_zero, Act.put, List.setIfInBounds_toArray, List.set_cons_zero, List.set_cons_succ])
                refine wpAnyH_ready (rs := [14]) (by kernel_rfl) (by simp) ?_
                refine AllReadyH.cons rfl (fun K hK => ?_) (AllReadyH.nil)
                · go_simp
                  (go_at_call 11; refine (r19Same_self G0.length c7 d A7 B (lastN 32 G0) _ (by have := lastN_le 32 G0; omega) HN7.out (HRq.out.on (HGET.out _ (by assumption)))).mono ?_; rintro e wx ⟨rfl, hb2⟩)
                  refine hK.out _ _ ?_ (fun hHeld => ?_)
                  · (try dsimp only); first | with_reducible exact hS0.out | with_reducible assumption | with_reducible exact HON.out _ _ (by assumption) hb2
                  clear hK K
                  (try simp only [List.getElem_toArray, List.getElem_cons_succ, List.getElem_cons_zero, Act.put, List.setIfInBounds_toArray, List.set_cons_zero, List.set_cons_succ])
                  refine wpAnyH_take (i := 15) (v := ?_) rfl (by kernel_rfl) (by kernel_rfl) (by kernel_rfl) (fun _ _ _ h => h) (Or.inl ⟨by rfl, ?_⟩) (by assumption) ?_
                  rotate_left
                  · intro w hSw; (try dsimp only at hSw); go_simp; try with_reducible rfl
                  (try simp only [List.getElem_toArray, List.getElem_cons_succ, List.getElem_cons_zero, Act.put, List.setIfInBounds_toArray, List.set_cons_zero, List.set_cons_succ])
                  refine wpAnyH_take (i := 16) (v := ?_) rfl (by kernel_rfl) (by kernel_rfl) (by kernel_rfl) (fun _ _ _ h => h) (Or.inl ⟨by rfl, ?_⟩) (by assumption) ?_
                  rotate_left
                  · intro w hSw; (try dsimp only at hSw); go_simp; try with_reducible rfl
                  (try simp only [List.getElem_toArray, List.getElem_cons_succ, List.getElem_cons_zero, Act.put, List.setIfInBounds_toArray, List.set_cons_zero, List.set_cons_succ])
                  refine wpAnyH_take (i := 17) (v := ?_) rfl (by kernel_rfl) (by kernel_rfl) (by kernel_rfl) (fun _ _ _ h => h) (Or.inl ⟨by rfl, ?_⟩) (by assumption) ?_
                  rotate_left
                  · intro w hSw; (try dsimp only at hSw); go_simp; try with_reducible rfl
                  (try simp only [List.getElem_toArray, List.getElem_cons_succ, List.getElem_cons_zero, Act.put, List.setIfInBounds_toArray, List.set_cons_zero, List.set_cons_succ])
                  refine wpAnyH_take (i := 18) (v := ?_) rfl (by kernel_rfl) (by kernel_rfl) (by kernel_rfl) (fun _ _ _ h => h) (Or.inl ⟨by rfl, ?_⟩) (by assumption) ?_
                  rotate_left
                  · intro w hSw; (try dsimp only at hSw); go_simp; try with_reducible rfl
                  (try simp only [List.getElem_toArray, List.getElem_cons_succ, List.getElem_cons_zero, Act.put, List.setIfInBounds_toArray, List.set_cons_zero, List.set_cons_succ])
                  refine wpAnyH_take (i := 19) (v := ?_) rfl (by kernel_rfl) (by kernel_rfl) (by kernel_rfl) (fun _ _ _ h => h) (Or.inl ⟨by rfl, ?_⟩) (by assumption) ?_
                  rotate_left
                  · intro w hSw; (try dsimp only at hSw); go_simp; try with_reducible rfl
                  (try simp only [List.getElem_toArray, List.getElem_cons_succ, List.getElem_cons_zero, Act.put, List.setIfInBounds_toArray, List.set_cons_zero, List.set_cons_succ])
                  refine wpAnyH_take (i := 21) (v := ?_) rfl (by kernel_rfl) (by kernel_rfl) (by kernel_rfl) (fun _ _ _ h => h) (Or.inl ⟨by rfl, ?_⟩) (by assumption) ?_
                  rotate_left
                  · intro w hSw; (try dsimp only at hSw); go_simp; try with_reducible rfl
                  (try simp only [List.getElem_toArray, List.getElem_cons_succ, List.getElem_cons_zero, Act.put, List.setIfInBounds_toArray, List.set_cons_zero, List.set_cons_succ])
                  refine wpAnyH_take (i := 22) (v := ?_) rfl (by kernel_rfl) (by kernel_rfl) (by kernel_rfl) (fun _ _ _ h => h) (Or.inl ⟨by rfl, ?_⟩) (by assumption) ?_
                  rotate_left
                  · intro w hSw; (try dsimp only at hSw); go_simp; try with_reducible rfl
                  (try simp only [List.getElem_toArray, List.getElem_cons_succ, List.getElem_cons_zero, Act.put, List.setIfInBounds_toArray, List.set_cons_zero, List.set_cons_succ])
                  refine wpAnyH_ready (rs := [20]) (by kernel_rfl) (by simp) ?_
                  refine AllReadyH.cons rfl (fun K hK => ?_) (AllReadyH.nil)
                  · go_simp
                    (go_at_call 13; refine (ntSame_self G0.length c cm A Am (lastN 32 G0) _ (by have := lastN_le 32 G0; omega) (HRn.out.on (HGET.out _ (by assumption))) (HRm.out.on (HGET.out _ (by assumption)))).mono ?_; rintro e wx ⟨rfl, hb2⟩)
                    refine hK.out _ _ ?_ (fun hHeld => ?_)
                    · (try dsimp only); first | with_reducible exact hS0.out | with_reducible assumption | with_reducible exact HON.out _ _ (by assumption) hb2
                    clear hK K
                    (try simp only [List.getElem_toArray, List.getElem_cons_succ, List.getElem_cons_zero, Act.put, List.setIfInBounds_toArray, List.set_cons_zero, List.set_cons_succ])
                    refine wpAnyH_ready (rs := [23]) (by kernel_rfl) (by simp) ?_
                    refine AllReadyH.cons rfl (fun K hK => ?_) (AllReadyH.nil)
                    · go_simp
                      (go_at_call 11; refine (r19Same_self G0.length d cp B Ap (lastN 32 G0) _ (by have := lastN_le 32 G0; omega) (HRq.out.on (HGET.out _ (by assumption))) (HRp.out.on (HGET.out _ (by assumption)))).mono ?_; rintro e wx ⟨rfl, hb2⟩)
                      refine hK.out _ _ ?_ (fun hHeld => ?_)
                      · (try dsimp only); first | with_reducible exact hS0.out | with_reducible assumption | with_reducible exact HON.out _ _ (by assumption) hb2
                      clear hK K
                      (try simp only [List.getElem_toArray, List.getElem_cons_succ, List.getElem_cons_zero, Act.put, List.setIfInBounds_toArray, List.set_cons_zero, List.set_cons_succ])
                      refine wpAnyH_take (i := 24) (v := ?_) rfl (by kernel_rfl) (by kernel_rfl) (by kernel_rfl) (fun _ _ _ h => h) (Or.inl ⟨by rfl, ?_⟩) (by assumption) ?_
                      rotate_left
                      · intro w hSw; (try dsimp only at hSw); go_simp; try with_reducible rfl
                      (try simp only [List.getElem_toArray, List.getElem_cons_succ, List.getElem_cons_zero, Act.put, List.setIfInBounds_toArray, List.set_cons_zero, List.set_cons_succ])
                      refine wpAnyH_take (i := 25) (v := ?_) rfl (by kernel_rfl) (by kernel_rfl) (by kernel_rfl) (fun _ _ _ h => h) (Or.inl ⟨by rfl, ?_⟩) (by assumption) ?_
                      rotate_left
                      · intro w hSw; (try dsimp only at hSw); go_simp; try with_reducible rfl
                      (try simp only [List.getElem_toArray, List.getElem_cons_succ, List.getElem_cons_zero, Act.put, List.setIfInBounds_toArray, List.set_cons_zero, List.set_cons_succ])
                      refine wpAnyH_done (by kernel_rfl) ?_ _
                      refine NoPanic.normal ?_
                      have HB8 := Lib.hid (HGET.out _ (by assumption))
                      clear hHeld hS0 HON HN6 HN7 HGET hb2
                      have hn8 := HDn.out.on HB8.out
                      have hq8 := HDq.out.on HB8.out
                      have hm8 := HDm.out.on HB8.out
                      have hp8 := HDp.out.on HB8.out
                      have HX := Lib.hid ((NpIn.store (G := G0) (c := cm) (d := cp) hn8 hq8 HCM.out HCP.out (HRm.out.on HB8.out) (HRp.out.on HB8.out) HAM.out HAP.out (bthen HBW.out HB8.out (Nat.le_refl _)) HGE.out).on (Below.refl _ _).drew)
                      have n0 := hn8.c0
                      have n1 := hn8.c1
                      have nf0 := hn8.fz 0
                      have nf1 := hn8.fz 1
                      have nl := hn8.lt
                      have q0 := hq8.c0
                      have q1 := hq8.c1
                      have qf0 := hq8.fz 0
                      have qf1 := hq8.fz 1
                      have ql := hq8.lt
                      have m0 := hm8.c0
                      have m1 := hm8.c1
                      have ml := hm8.lt
                      have p0 := hp8.c0
                      have p1 := hp8.c1
                      have pl := hp8.lt
                      clear hn8 hq8 hm8 hp8 HDn HDq HDm HDp HRn HRq HRm HRp HB8
                      go_wp2_with fail
                      refine wp_region_noPanic ?_
                      refine wp_region_held_drew (S := (fun _ => True)) (by kernel_rfl) ?_ (fun hHeld => ?_)
                      · (try dsimp only); (first | done | trivial)
                      refine wpAnyH_ready (rs := [0, 1]) (by kernel_rfl) (by simp) ?_
                      refine AllReadyH.cons rfl (fun K hK => ?_) (AllReadyH.cons rfl (fun K hK => ?_) (AllReadyH.nil))
                      · go_simp
                        refine hK.out _ _ ?_ (fun hHeld => ?_)
                        · (try dsimp only); (first | done | trivial)
                        clear hK K
                        (try simp only [List.getElem_toArray, List.getElem_cons_succ, List.getElem_cons_zero, Act.put, List.setIfInBounds_toArray, List.set_cons_zero, List.set_cons_succ])
                        refine wpAnyH_ready (rs := [1, 2]) (by kernel_rfl) (by simp) ?_
                        refine AllReadyH.cons rfl (fun K hK => ?_) (AllReadyH.cons rfl (fun K hK => ?_) (AllReadyH.nil))
                        · go_simp
                          refine hK.out _ _ ?_ (fun hHeld => ?_)
                          · (try dsimp only); (first | done | trivial)
                          clear hK K
                          (try simp only [List.getElem_toArray, List.getElem_cons_succ, List.getElem_cons_zero, Act.put, List.setIfInBounds_toArray, List.set_cons_zero, List.set_cons_succ])
                          refine wpAnyH_ready (rs := [2]) (by kernel_rfl) (by simp) ?_
                          refine AllReadyH.cons rfl (fun K hK => ?_) (AllReadyH.nil)
                          · go_simp
                            refine hK.out _ _ ?_ (fun hHeld => ?_)
                            · (try dsimp only); (first | done | trivial)
                            clear hK K
                            (try simp only [List.getElem_toArray, List.getElem_cons_succ, List.getElem_cons_zero, Act.put, List.setIfInBounds_toArray, List.set_cons_zero, List.set_cons_succ])
                            refine wpAnyH_ready (rs := [3]) (by kernel_rfl) (by simp) ?_
                            refine AllReadyH.cons rfl (fun K hK => ?_) (AllReadyH.nil)
                            · go_simp
                              refine hK.out _ _ ?_ (fun hHeld => ?_)
                              · (try dsimp only); (first | done | trivial)
                              clear hK K
                              (try simp only [List.getElem_toArray, List.getElem_cons_succ, List.getElem_cons_zero, Act.put, List.setIfInBounds_toArray, List.set_cons_zero, List.set_cons_succ])
                              refine wpAnyH_done (by kernel_rfl) ?_ _
                              refine NoPanic.normal ?_
                              clear n0 n1 nf0 nf1 q0 q1 qf0 qf1 m0 m1 p0 p1
                              go_wp2_with fail
                              go_roundg (gk - 1)
                              case rel => exact ⟨k + 1, Am, cm, Ap, cp, by have := HK.out; omega, by go_num, by rw [HE.out]; exact HX.out⟩
                              case measure => have := HK.out; omega
                        · go_simp
                          refine hK.out _ _ ?_ (fun hHeld => ?_)
                          · (try dsimp only); (first | done | trivial)
                          clear hK K
                          (try simp only [List.getElem_toArray, List.getElem_cons_succ, List.getElem_cons_zero, Act.put, List.setIfInBounds_toArray, List.set_cons_zero, List.set_cons_succ])
                          refine wpAnyH_ready (rs := [1]) (by kernel_rfl) (by simp) ?_
                          refine AllReadyH.cons rfl (fun K hK => ?_) (AllReadyH.nil)
                          · go_simp
                            refine hK.out _ _ ?_ (fun hHeld => ?_)
                            · (try dsimp only); (first | done | trivial)
                            clear hK K
                            (try simp only [List.getElem_toArray, List.getElem_cons_succ, List.getElem_cons_zero, Act.put, List.setIfInBounds_toArray, List.set_cons_zero, List.set_cons_succ])
                            refine wpAnyH_ready (rs := [3]) (by kernel_rfl) (by simp) ?_
                            refine AllReadyH.cons rfl (fun K hK => ?_) (AllReadyH.nil)
                            · go_simp
                              refine hK.out _ _ ?_ (fun hHeld => ?_)
                              · (try dsimp only); (first | done | trivial)
                              clear hK K
                              (try simp only [List.getElem_toArray, List.getElem_cons_succ, List.getElem_cons_zero, Act.put, List.setIfInBounds_toArray, List.set_cons_zero, List.set_cons_succ])
                              refine wpAnyH_done (by kernel_rfl) ?_ _
                              refine NoPanic.normal ?_
                              clear n0 n1 nf0 nf1 q0 q1 qf0 qf1 m0 m1 p0 p1
                              go_wp2_with fail
                              go_roundg (gk - 1)
                              case rel => exact ⟨k + 1, Am, cm, Ap, cp, by have := HK.out; omega, by go_num, by rw [HE.out]; exact HX.out⟩
                              case measure => have := HK.out; omega
                      · go_simp
                        refine hK.out _ _ ?_ (fun hHeld => ?_)
                        · (try dsimp only); (first | done | trivial)
                        clear hK K
                        (try simp only [List.getElem_toArray, List.getElem_cons_succ, List.getElem_cons_zero, Act.put, List.setIfInBounds_toArray, List.set_cons_zero, List.set_cons_succ])
                        refine wpAnyH_ready (rs := [0]) (by kernel_rfl) (by simp) ?_
                        refine AllReadyH.cons rfl (fun K hK => ?_) (AllReadyH.nil)
                        · go_simp
                          refine hK.out _ _ ?_ (fun hHeld => ?_)
                          · (try dsimp only); (first | done | trivial)
                          clear hK K
                          (try simp only [List.getElem_toArray, List.getElem_cons_succ, List.getElem_cons_zero, Act.put, List.setIfInBounds_toArray, List.set_cons_zero, List.set_cons_succ])
                          refine wpAnyH_ready (rs := [2]) (by kernel_rfl) (by simp) ?_
                          refine AllReadyH.cons rfl (fun K hK => ?_) (AllReadyH.nil)
                          · go_simp
                            refine hK.out _ _ ?_ (fun hHeld => ?_)
                            · (try dsimp only); (first | done | trivial)
                            clear hK K
                            (try simp only [List.getElem_toArray, List.getElem_cons_succ, List.getElem_cons_zero, Act.put, List.setIfInBounds_toArray, List.set_cons_zero, List.set_cons_succ])
                            refine wpAnyH_ready (rs := [3]) (by kernel_rfl) (by simp) ?_
                            refine AllReadyH.cons rfl (fun K hK => ?_) (AllReadyH.nil)
                            · go_simp
                              refine hK.out _ _ ?_ (fun hHeld => ?_)
                              · (try dsimp only); (first | done | trivial)
                              clear hK K
                              (try simp only [List.getElem_toArray, List.getElem_cons_succ, List.getElem_cons_zero, Act.put, List.setIfInBounds_toArray, List.set_cons_zero, List.set_cons_succ])
                              refine wpAnyH_done (by kernel_rfl) ?_ _
                              refine NoPanic.normal ?_
                              clear n0 n1 nf0 nf1 q0 q1 qf0 qf1 m0 m1 p0 p1
                              go_wp2_with fail
                              go_roundg (gk - 1)
                              case rel => exact ⟨k + 1, Am, cm, Ap, cp, by have := HK.out; omega, by go_num, by rw [HE.out]; exact HX.out⟩
                              case measure => have := HK.out; omega
        · have hGT := HGT.out
          clear HGT
          rw [if_neg h64] at hGT
          have HTT := Lib.hid (show G0.length ≠ G1.length by rw [hGT, List.length_append]; simp)
          clear hGT
          have hS0 := Lib.hid (show (fun a => a.cell? ⟨b, 0, none⟩ = some (.int .u64 (G0.length : Int)) ∧ a.cell? ⟨b, 1, none⟩ = some (.slice A (lastN 32 G0).length c) ∧ a.cell? ⟨b + 1, 0, none⟩ = some (.int .u64 (G0.length : Int)) ∧ a.cell? ⟨b + 1, 1, none⟩ = some (.slice B (lastN 32 G0).length d) ∧ a.cell? ⟨pm, 0, none⟩ = some (.int .u64 (G1.length : Int)) ∧ a.cell? ⟨pm, 1, none⟩ = some (.slice Am (lastN 32 G1).length cm) ∧ a.cell? ⟨pp, 0, none⟩ = some (.int .u64 (G1.length : Int)) ∧ a.cell? ⟨pp, 1, none⟩ = some (.slice Ap (lastN 32 G1).length cp) ∧ Below w7.heap.size w7 a) w7.drew from ⟨HDn.out.c0, HDn.out.c1, HDq.out.c0, HDq.out.c1, HDm.out.c0, HDm.out.c1, HDp.out.c0, HDp.out.c1, (Below.refl _ _).drew⟩)
          have HON := Lib.hid (fun (W W' : World) (h : (fun a => a.cell? ⟨b, 0, none⟩ = some (.int .u64 (G0.length : Int)) ∧ a.cell? ⟨b, 1, none⟩ = some (.slice A (lastN 32 G0).length c) ∧ a.cell? ⟨b + 1, 0, none⟩ = some (.int .u64 (G0.length : Int)) ∧ a.cell? ⟨b + 1, 1, none⟩ = some (.slice B (lastN 32 G0).length d) ∧ a.cell? ⟨pm, 0, none⟩ = some (.int .u64 (G1.length : Int)) ∧ a.cell? ⟨pm, 1, none⟩ = some (.slice Am (lastN 32 G1).length cm) ∧ a.cell? ⟨pp, 0, none⟩ = some (.int .u64 (G1.length : Int)) ∧ a.cell? ⟨pp, 1, none⟩ = some (.slice Ap (lastN 32 G1).length cp) ∧ Below w7.heap.size w7 a) W) (hb : Below W.heap.size W W') => show (fun a => a.cell? ⟨b, 0, none⟩ = some (.int .u64 (G0.length : Int)) ∧ a.cell? ⟨b, 1, none⟩ = some (.slice A (lastN 32 G0).length c) ∧ a.cell? ⟨b + 1, 0, none⟩ = some (.int .u64 (G0.length : Int)) ∧ a.cell? ⟨b + 1, 1, none⟩ = some (.slice B (lastN 32 G0).length d) ∧ a.cell? ⟨pm, 0, none⟩ = some (.int .u64 (G1.length : Int)) ∧ a.cell? ⟨pm, 1, none⟩ = some (.slice Am (lastN 32 G1).length cm) ∧ a.cell? ⟨pp, 0, none⟩ = some (.int .u64 (G1.length : Int)) ∧ a.cell? ⟨pp, 1, none⟩ = some (.slice Ap (lastN 32 G1).length cp) ∧ Below w7.heap.size w7 a) W' from ⟨cell_onB hb h.1, cell_onB hb h.2.1, cell_onB hb h.2.2.1, cell_onB hb h.2.2.2.1, cell_onB hb h.2.2.2.2.1, cell_onB hb h.2.2.2.2.2.1, cell_onB hb h.2.2.2.2.2.2.1, cell_onB hb h.2.2.2.2.2.2.2.1, bthen h.2.2.2.2.2.2.2.2 hb (Nat.le_refl _)⟩)
          have HGET := Lib.hid (fun (W : World) (h : (fun a => a.cell? ⟨b, 0, none⟩ = some (.int .u64 (G0.length : Int)) ∧ a.cell? ⟨b, 1, none⟩ = some (.slice A (lastN 32 G0).length c) ∧ a.cell? ⟨b + 1, 0, none⟩ = some (.int .u64 (G0.length : Int)) ∧ a.cell? ⟨b + 1, 1, none⟩ = some (.slice B (lastN 32 G0).length d) ∧ a.cell? ⟨pm, 0, none⟩ = some (.int .u64 (G1.length : Int)) ∧ a.cell? ⟨pm, 1, none⟩ = some (.slice Am (lastN 32 G1).length cm) ∧ a.cell? ⟨pp, 0, none⟩ = some (.int .u64 (G1.length : Int)) ∧ a.cell? ⟨pp, 1, none⟩ = some (.slice Ap (lastN 32 G1).length cp) ∧ Below w7.heap.size w7 a) W) => h.2.2.2.2.2.2.2.2)
          refine wp_region_noPanic ?_
          refine wp_region_held_drew (S := (fun a => a.cell? ⟨b, 0, none⟩ = some (.int .u64 (G0.length : Int)) ∧ a.cell? ⟨b, 1, none⟩ = some (.slice A (lastN 32 G0).length c) ∧ a.cell? ⟨b + 1, 0, none⟩ = some (.int .u64 (G0.length : Int)) ∧ a.cell? ⟨b + 1, 1, none⟩ = some (.slice B (lastN 32 G0).length d) ∧ a.cell? ⟨pm, 0, none⟩ = some (.int .u64 (G1.length : Int)) ∧ a.cell? ⟨pm, 1, none⟩ = some (.slice Am (lastN 32 G1).length cm) ∧ a.cell? ⟨pp, 0, none⟩ = some (.int .u64 (G1.length : Int)) ∧ a.cell? ⟨pp, 1, none⟩ = some (.slice Ap (lastN 32 G1).length cp) ∧ Below w7.heap.size w7 a)) (by kernel_rfl) ?_ (fun hHeld => ?_)
          · (try dsimp only); first | with_reducible exact hS0.out | with_reducible assumption | with_reducible exact HON.out _ _ (by assumption) hb2
          refine wpAnyH_take (i := 0) (v := ?_) rfl (by kernel_rfl) (by kernel_rfl) (by kernel_rfl) (fun _ _ _ h => h) (Or.inl ⟨by rfl, ?_⟩) (by assumption) ?_
          rotate_left
          · intro w hSw; (try dsimp only at hSw); go_simp; try with_reducible rfl
          (try simp only [List.getElem_toArray, List.getElem_cons_zero, Act.put, List.setIfInBounds_toArray, List.set_cons_zero, List.set_cons_succ])
          refine wpAnyH_take (i := 1) (v := ?_) rfl (by kernel_rfl) (by kernel_rfl) (by kernel_rfl) (fun _ _ _ h => h) (Or.inl ⟨by rfl, ?_⟩) (by assumption) ?_
          rotate_left
          · intro w hSw; (try dsimp only at hSw); go_simp; try with_reducible rfl
          (try simp only [List.getElem_toArray, List.getElem_cons_succ, List.getElem_cons_zero, Act.put, List.setIfInBounds_toArray, List.set_cons_zero, List.set_cons_succ])
          refine wpAnyH_take (i := 2) (v := ?_) rfl (by kernel_rfl) (by kernel_rfl) (by kernel_rfl) (fun _ _ _ h => h) (Or.inl ⟨by rfl, ?_⟩) (by assumption) ?_
          rotate_left
          · intro w hSw; (try dsimp only at hSw); go_simp; try with_reducible rfl
          (try simp only [List.getElem_toArray, List.getElem_cons_succ, List.getElem_cons_zero, Act.put, List.setIfInBounds_toArray, List.set_cons_zero, List.set_cons_succ])
          refine wpAnyH_take (i := 3) (v := ?_) rfl (by kernel_rfl) (by kernel_rfl) (by kernel_rfl) (fun _ _ _ h => h) (Or.inl ⟨by rfl, ?_⟩) (by assumption) ?_
          rotate_left
          · intro w hSw; (try dsimp only at hSw); go_simp; try with_reducible rfl
          (try simp only [List.getElem_toArray, List.getElem_cons_succ, List.getElem_cons_zero, Act.put, List.setIfInBounds_toArray, List.set_cons_zero, List.set_cons_succ])
          refine wpAnyH_take (i := 4) (v := ?_) rfl (by kernel_rfl) (by kernel_rfl) (by kernel_rfl) (fun _ _ _ h => h) (Or.inl ⟨by rfl, ?_⟩) (by assumption) ?_
          rotate_left
          · intro w hSw; (try dsimp only at hSw); go_simp; try with_reducible rfl
          (try simp only [List.getElem_toArray, List.getElem_cons_succ, List.getElem_cons_zero, Act.put, List.setIfInBounds_toArray, List.set_cons_zero, List.set_cons_succ])
          refine wpAnyH_take (i := 6) (v := ?_) rfl (by kernel_rfl) (by kernel_rfl) (by kernel_rfl) (fun _ _ _ h => h) (Or.inl ⟨by rfl, ?_⟩) (by assumption) ?_
          rotate_left
          · intro w hSw; (try dsimp only at hSw); go_simp; try with_reducible rfl
          (try simp only [List.getElem_toArray, List.getElem_cons_succ, List.getElem_cons_zero, Act.put, List.setIfInBounds_toArray, List.set_cons_zero, List.set_cons_succ])
          refine wpAnyH_ready (rs := [5]) (by kernel_rfl) (by simp) ?_
          refine AllReadyH.cons rfl (fun K hK => ?_) (AllReadyH.nil)
          · go_simp
            (go_at_call 12; refine (of19_any G1.length cm Am (lastN 32 G1) _ (by have := lastN_le 32 G1; omega) (HRm.out.on (HGET.out _ (by assumption)))).mono ?_; rintro e wx ⟨A6, c6, rfl, -, -, hN6, hb2⟩; have HN6 := Lib.hid hN6; clear hN6)
            refine hK.out _ _ ?_ (fun hHeld => ?_)
            · (try dsimp only); first | with_reducible exact hS0.out | with_reducible assumption | with_reducible exact HON.out _ _ (by assumption) hb2
            clear hK K
            (try simp only [List.getElem_toArray, List.getElem_cons_succ, List.getElem_cons_zero, Act.put, List.setIfInBounds_toArray, List.set_cons_zero, List.set_cons_succ])
            refine wpAnyH_ready (rs := [7]) (by kernel_rfl) (by simp) ?_
            refine AllReadyH.cons rfl (fun K hK => ?_) (AllReadyH.nil)
            · go_simp
              (go_at_call 11; refine (r19Same_self G1.length c6 cp A6 Ap (lastN 32 G1) _ (by have := lastN_le 32 G1; omega) HN6.out (HRp.out.on (HGET.out _ (by assumption)))).mono ?_; rintro e wx ⟨rfl, hb2⟩)
              refine hK.out _ _ ?_ (fun hHeld => ?_)
              · (try dsimp only); first | with_reducible exact hS0.out | with_reducible assumption | with_reducible exact HON.out _ _ (by assumption) hb2
              clear hK K
              (try simp only [List.getElem_toArray, List.getElem_cons_succ, List.getElem_cons_zero, Act.put, List.setIfInBounds_toArray, List.set_cons_zero, List.set_cons_succ])
              refine wpAnyH_take (i := 8) (v := ?_) rfl (by kernel_rfl) (by kernel_rfl) (by kernel_rfl) (fun _ _ _ h => h) (Or.inl ⟨by rfl, ?_⟩) (by assumption) ?_
              rotate_left
              · intro w hSw; (try dsimp only at hSw); go_simp; try with_reducible rfl
              (try simp only [List.getElem_toArray, List.getElem_cons_succ, List.getElem_cons_zero, Act.put, List.setIfInBounds_toArray, List.set_cons_zero, List.set_cons_succ])
              refine wpAnyH_take (i := 9) (v := ?_) rfl (by kernel_rfl) (by kernel_rfl) (by kernel_rfl) (fun _ _ _ h => h) (Or.inl ⟨by rfl, ?_⟩) (by assumption) ?_
              rotate_left
              · intro w hSw; (try dsimp only at hSw); go_simp; try with_reducible rfl
              (try simp only [List.getElem_toArray, List.getElem_cons_succ, List.getElem_cons_zero, Act.put, List.setIfInBounds_toArray, List.set_cons_zero, List.set_cons_succ])
              refine wpAnyH_take (i := 10) (v := ?_) rfl (by kernel_rfl) (by kernel_rfl) (by kernel_rfl) (fun _ _ _ h => h) (Or.inl ⟨by rfl, ?_⟩) (by assumption) ?_
              rotate_left
              · intro w hSw; (try dsimp only at hSw); go_simp; try with_reducible rfl
              (try simp only [List.getElem_toArray, List.getElem_cons_succ, List.getElem_cons_zero, Act.put, List.setIfInBounds_toArray, List.set_cons_zero, List.set_cons_succ])
              refine wpAnyH_take (i := 11) (v := ?_) rfl (by kernel_rfl) (by kernel_rfl) (by kernel_rfl) (fun _ _ _ h => h) (Or.inl ⟨by rfl, ?_⟩) (by assumption) ?_
              rotate_left
              · intro w hSw; (try dsimp only at hSw); go_simp; try with_reducible rfl
              (try simp only [List.getElem_toArray, List.getElem_cons_succ, List.getElem_cons_zero, Act.put, List.setIfInBounds_toArray, List.set_cons_zero, List.set_cons_succ])
              refine wpAnyH_take (i := 13) (v := ?_) rfl (by kernel_rfl) (by kernel_rfl) (by kernel_rfl) (fun _ _ _ h => h) (Or.inl ⟨by rfl, ?_⟩) (by assumption) ?_
              rotate_left
              · intro w hSw; (try dsimp only at hSw); go_simp; try with_reducible rfl
              (try simp only [List.getElem_toArray, List.getElem_cons_succ, List.getElem_cons_zero, Act.put, List.setIfInBounds_toArray, List.set_cons_zero, List.set_cons_succ])
              refine wpAnyH_ready (rs := [12]) (by kernel_rfl) (by simp) ?_
              refine AllReadyH.cons rfl (fun K hK => ?_) (AllReadyH.nil)
              · go_simp
                (go_at_call 12; refine (of19_any G0.length c A (lastN 32 G0) _ (by have := lastN_le 32 G0; omega) (HRn.out.on (HGET.out _ (by assumption)))).mono ?_; rintro e wx ⟨A7, c7, rfl, -, -, hN7, hb2⟩; have HN7 := Lib.hid hN7; clear hN7)
                refine hK.out _ _ ?_ (fun hHeld => ?_)
                · (try dsimp only); first | with_reducible exact hS0.out | with_reducible assumption | with_reducible exact HON.out _ _ (by assumption) hb2
                clear hK K
                (try simp only [List.getElem_toArray, List.getElem_cons_succ, List.getElem_cons_zero, Act.put, List.setIfInBounds_toArray, List.set_cons_zero, List.set_cons_succ])
                refine wpAnyH_ready (rs := [14]) (by kernel_rfl) (by simp) ?_
                refine AllReadyH.cons rfl (fun K hK => ?_) (AllReadyH.nil)
                · go_simp
                  (go_at_call 11; refine (r19Same_self G0.length c7 d A7 B (lastN 32 G0) _ (by have := lastN_le 32 G0; omega) HN7.out (HRq.out.on (HGET.out _ (by assumption)))).mono ?_; rintro e wx ⟨rfl, hb2⟩)
                  refine hK.out _ _ ?_ (fun hHeld => ?_)
                  · (try dsimp only); first | with_reducible exact hS0.out | with_reducible assumption | with_reducible exact HON.out _ _ (by assumption) hb2
                  clear hK K
                  (try simp only [List.getElem_toArray, List.getElem_cons_succ, List.getElem_cons_zero, Act.put, List.setIfInBounds_toArray, List.set_cons_zero, List.set_cons_succ])
                  refine wpAnyH_take (i := 15) (v := ?_) rfl (by kernel_rfl) (by kernel_rfl) (by kernel_rfl) (fun _ _ _ h => h) (Or.inl ⟨by rfl, ?_⟩) (by assumption) ?_
                  rotate_left
                  · intro w hSw; (try dsimp only at hSw); go_simp; try with_reducible rfl
                  (try simp only [List.getElem_toArray, List.getElem_cons_succ, List.getElem_cons_zero, Act.put, List.setIfInBounds_toArray, List.set_cons_zero, List.set_cons_succ])
                  refine wpAnyH_take (i := 16) (v := ?_) rfl (by kernel_rfl) (by kernel_rfl) (by kernel_rfl) (fun _ _ _ h => h) (Or.inl ⟨by rfl, ?_⟩) (by assumption) ?_
                  rotate_left
                  · intro w hSw; (try dsimp only at hSw); go_simp; try with_reducible rfl
                  (try simp only [List.getElem_toArray, List.getElem_cons_succ, List.getElem_cons_zero, Act.put, List.setIfInBounds_toArray, List.set_cons_zero, List.set_cons_succ])
                  refine wpAnyH_take (i := 17) (v := ?_) rfl (by kernel_rfl) (by kernel_rfl) (by kernel_rfl) (fun _ _ _ h => h) (Or.inl ⟨by rfl, ?_⟩) (by assumption) ?_
                  rotate_left
                  · intro w hSw; (try dsimp only at hSw); go_simp; try with_reducible rfl
                  (try simp only [List.getElem_toArray, List.getElem_cons_succ, List.getElem_cons_zero, Act.put, List.setIfInBounds_toArray, List.set_cons_zero, List.set_cons_succ])
                  refine wpAnyH_take (i := 18) (v := ?_) rfl (by kernel_rfl) (by kernel_rfl) (by kernel_rfl) (fun _ _ _ h => h) (Or.inl ⟨by rfl, ?_⟩) (by assumption) ?_
                  rotate_left
                  · intro w hSw; (try dsimp only at hSw); go_simp; try with_reducible rfl
                  (try simp only [List.getElem_toArray, List.getElem_cons_succ, List.getElem_cons_zero, Act.put, List.setIfInBounds_toArray, List.set_cons_zero, List.set_cons_succ])
                  refine wpAnyH_take (i := 19) (v := ?_) rfl (by kernel_rfl) (by kernel_rfl) (by kernel_rfl) (fun _ _ _ h => h) (Or.inl ⟨by rfl, ?_⟩) (by assumption) ?_
                  rotate_left
                  · intro w hSw; (try dsimp only at hSw); go_simp; try with_reducible rfl
                  (try simp only [List.getElem_toArray, List.getElem_cons_succ, List.getElem_cons_zero, Act.put, List.setIfInBounds_toArray, List.set_cons_zero, List.set_cons_succ])
                  refine wpAnyH_take (i := 21) (v := ?_) rfl (by kernel_rfl) (by kernel_rfl) (by kernel_rfl) (fun _ _ _ h => h) (Or.inl ⟨by rfl, ?_⟩) (by assumption) ?_
                  rotate_left
                  · intro w hSw; (try dsimp only at hSw); go_simp; try with_reducible rfl
                  (try simp only [List.getElem_toArray, List.getElem_cons_succ, List.getElem_cons_zero, Act.put, List.setIfInBounds_toArray, List.set_cons_zero, List.set_cons_succ])
                  refine wpAnyH_take (i := 22) (v := ?_) rfl (by kernel_rfl) (by kernel_rfl) (by kernel_rfl) (fun _ _ _ h => h) (Or.inl ⟨by rfl, ?_⟩) (by assumption) ?_
                  rotate_left
                  · intro w hSw; (try dsimp only at hSw); go_simp; try with_reducible rfl
                  (try simp only [List.getElem_toArray, List.getElem_cons_succ, List.getElem_cons_zero, Act.put, List.setIfInBounds_toArray, List.set_cons_zero, List.set_cons_succ])
                  refine wpAnyH_ready (rs := [20]) (by kernel_rfl) (by simp) ?_
                  refine AllReadyH.cons rfl (fun K hK => ?_) (AllReadyH.nil)
                  · go_simp
                    (go_at_call 13; refine (ntSame_no G0.length G1.length _ _ _ _ _ _ _ HTT.out).mono ?_; rintro e wx ⟨rfl, hb2⟩)
                    refine hK.out _ _ ?_ (fun hHeld => ?_)
                    · (try dsimp only); first | with_reducible exact hS0.out | with_reducible assumption | with_reducible exact HON.out _ _ (by assumption) hb2
                    clear hK K
                    (try simp only [List.getElem_toArray, List.getElem_cons_succ, List.getElem_cons_zero, Act.put, List.setIfInBounds_toArray, List.set_cons_zero, List.set_cons_succ])
                    refine wpAnyH_ready (rs := [23]) (by kernel_rfl) (by simp) ?_
                    refine AllReadyH.cons rfl (fun K hK => ?_) (AllReadyH.nil)
                    · go_simp
                      (go_at_call 11; refine (r19Same_no G0.length G1.length _ _ _ _ _ _ _ HTT.out).mono ?_; rintro e wx ⟨rfl, hb2⟩)
                      refine hK.out _ _ ?_ (fun hHeld => ?_)
                      · (try dsimp only); first | with_reducible exact hS0.out | with_reducible assumption | with_reducible exact HON.out _ _ (by assumption) hb2
                      clear hK K
                      (try simp only [List.getElem_toArray, List.getElem_cons_succ, List.getElem_cons_zero, Act.put, List.setIfInBounds_toArray, List.set_cons_zero, List.set_cons_succ])
                      refine wpAnyH_take (i := 24) (v := ?_) rfl (by kernel_rfl) (by kernel_rfl) (by kernel_rfl) (fun _ _ _ h => h) (Or.inl ⟨by rfl, ?_⟩) (by assumption) ?_
                      rotate_left
                      · intro w hSw; (try dsimp only at hSw); go_simp; try with_reducible rfl
                      (try simp only [List.getElem_toArray, List.getElem_cons_succ, List.getElem_cons_zero, Act.put, List.setIfInBounds_toArray, List.set_cons_zero, List.set_cons_succ])
                      refine wpAnyH_take (i := 25) (v := ?_) rfl (by kernel_rfl) (by kernel_rfl) (by kernel_rfl) (fun _ _ _ h => h) (Or.inl ⟨by rfl, ?_⟩) (by assumption) ?_
                      rotate_left
                      · intro w hSw; (try dsimp only at hSw); go_simp; try with_reducible rfl
                      (try simp only [List.getElem_toArray, List.getElem_cons_succ, List.getElem_cons_zero, Act.put, List.setIfInBounds_toArray, List.set_cons_zero, List.set_cons_succ])
                      refine wpAnyH_done (by kernel_rfl) ?_ _
                      refine NoPanic.normal ?_
                      have HB8 := Lib.hid (HGET.out _ (by assumption))
                      clear hHeld hS0 HON HN6 HN7 HGET hb2
                      have hn8 := HDn.out.on HB8.out
                      have hq8 := HDq.out.on HB8.out
                      have hm8 := HDm.out.on HB8.out
                      have hp8 := HDp.out.on HB8.out
                      have HX := Lib.hid ((NpIn.store (G := G1) (c := cm) (d := cp) hn8 hq8 HCM.out HCP.out (HRm.out.on HB8.out) (HRp.out.on HB8.out) HAM.out HAP.out (bthen HBW.out HB8.out (Nat.le_refl _)) HGE.out).on (Below.refl _ _).drew)
                      have n0 := hn8.c0
                      have n1 := hn8.c1
                      have nf0 := hn8.fz 0
                      have nf1 := hn8.fz 1
                      have nl := hn8.lt
                      have q0 := hq8.c0
                      have q1 := hq8.c1
                      have qf0 := hq8.fz 0
                      have qf1 := hq8.fz 1
                      have ql := hq8.lt
                      have m0 := hm8.c0
                      have m1 := hm8.c1
                      have ml := hm8.lt
                      have p0 := hp8.c0
                      have p1 := hp8.c1
                      have pl := hp8.lt
                      clear hn8 hq8 hm8 hp8 HDn HDq HDm HDp HRn HRq HRm HRp HB8
                      go_wp2_with fail
                      refine wp_region_noPanic ?_
                      refine wp_region_held_drew (S := (fun _ => True)) (by kernel_rfl) ?_ (fun hHeld => ?_)
                      · (try dsimp only); (first | done | trivial)
                      refine wpAnyH_ready (rs := [0, 1]) (by kernel_rfl) (by simp) ?_
                      refine AllReadyH.cons rfl (fun K hK => ?_) (AllReadyH.cons rfl (fun K hK => ?_) (AllReadyH.nil))
                      · go_simp
                        refine hK.out _ _ ?_ (fun hHeld => ?_)
                        · (try dsimp only); (first | done | trivial)
                        clear hK K
                        (try simp only [List.getElem_toArray, List.getElem_cons_succ, List.getElem_cons_zero, Act.put, List.setIfInBounds_toArray, List.set_cons_zero, List.set_cons_succ])
                        refine wpAnyH_ready (rs := [1, 2]) (by kernel_rfl) (by simp) ?_
                        refine AllReadyH.cons rfl (fun K hK => ?_) (AllReadyH.cons rfl (fun K hK => ?_) (AllReadyH.nil))
                        · go_simp
                          refine hK.out _ _ ?_ (fun hHeld => ?_)
                          · (try dsimp only); (first | done | trivial)
                          clear hK K
                          (try simp only [List.getElem_toArray, List.getElem_cons_succ, List.getElem_cons_zero, Act.put, List.setIfInBounds_toArray, List.set_cons_zero, List.set_cons_succ])
                          refine wpAnyH_ready (rs := [2]) (by kernel_rfl) (by simp) ?_
                          refine AllReadyH.cons rfl (fun K hK => ?_) (AllReadyH.nil)
                          · go_simp
                            refine hK.out _ _ ?_ (fun hHeld => ?_)
                            · (try dsimp only); (first | done | trivial)
                            clear hK K
                            (try simp only [List.getElem_toArray, List.getElem_cons_succ, List.getElem_cons_zero, Act.put, List.setIfInBounds_toArray, List.set_cons_zero, List.set_cons_succ])
                            refine wpAnyH_ready (rs := [3]) (by kernel_rfl) (by simp) ?_
                            refine AllReadyH.cons rfl (fun K hK => ?_) (AllReadyH.nil)
                            · go_simp
                              refine hK.out _ _ ?_ (fun hHeld => ?_)
                              · (try dsimp only); (first | done | trivial)
                              clear hK K
                              (try simp only [List.getElem_toArray, List.getElem_cons_succ, List.getElem_cons_zero, Act.put, List.setIfInBounds_toArray, List.set_cons_zero, List.set_cons_succ])
                              refine wpAnyH_done (by kernel_rfl) ?_ _
                              refine NoPanic.normal ?_
                              clear n0 n1 nf0 nf1 q0 q1 qf0 qf1 m0 m1 p0 p1
                              go_wp2_with fail
                              go_roundg (gk - 1)
                              case rel => exact ⟨k + 1, Am, cm, Ap, cp, by have := HK.out; omega, by go_num, by rw [HE.out]; exact HX.out⟩
                              case measure => have := HK.out; omega
                        · go_simp
                          refine hK.out _ _ ?_ (fun hHeld => ?_)
                          · (try dsimp only); (first | done | trivial)
                          clear hK K
                          (try simp only [List.getElem_toArray, List.getElem_cons_succ, List.getElem_cons_zero, Act.put, List.setIfInBounds_toArray, List.set_cons_zero, List.set_cons_succ])
                          refine wpAnyH_ready (rs := [1]) (by kernel_rfl) (by simp) ?_
                          refine AllReadyH.cons rfl (fun K hK => ?_) (AllReadyH.nil)
                          · go_simp
                            refine hK.out _ _ ?_ (fun hHeld => ?_)
                            · (try dsimp only); (first | done | trivial)
                            clear hK K
                            (try simp only [List.getElem_toArray, List.getElem_cons_succ, List.getElem_cons_zero, Act.put, List.setIfInBounds_toArray, List.set_cons_zero, List.set_cons_succ])
                            refine wpAnyH_ready (rs := [3]) (by kernel_rfl) (by simp) ?_
                            refine AllReadyH.cons rfl (fun K hK => ?_) (AllReadyH.nil)
                            · go_simp
                              refine hK.out _ _ ?_ (fun hHeld => ?_)
                              · (try dsimp only); (first | done | trivial)
                              clear hK K
                              (try simp only [List.getElem_toArray, List.getElem_cons_succ, List.getElem_cons_zero, Act.put, List.setIfInBounds_toArray, List.set_cons_zero, List.set_cons_succ])
                              refine wpAnyH_done (by kernel_rfl) ?_ _
                              refine NoPanic.normal ?_
                              clear n0 n1 nf0 nf1 q0 q1 qf0 qf1 m0 m1 p0 p1
                              go_wp2_with fail
                              go_roundg (gk - 1)
                              case rel => exact ⟨k + 1, Am, cm, Ap, cp, by have := HK.out; omega, by go_num, by rw [HE.out]; exact HX.out⟩
                              case measure => have := HK.out; omega
                      · go_simp
                        refine hK.out _ _ ?_ (fun hHeld => ?_)
                        · (try dsimp only); (first | done | trivial)
                        clear hK K
                        (try simp only [List.getElem_toArray, List.getElem_cons_succ, List.getElem_cons_zero, Act.put, List.setIfInBounds_toArray, List.set_cons_zero, List.set_cons_succ])
                        refine wpAnyH_ready (rs := [0]) (by kernel_rfl) (by simp) ?_
                        refine AllReadyH.cons rfl (fun K hK => ?_) (AllReadyH.nil)
                        · go_simp
                          refine hK.out _ _ ?_ (fun hHeld => ?_)
                          · (try dsimp only); (first | done | trivial)
                          clear hK K
                          (try simp only [List.getElem_toArray, List.getElem_cons_succ, List.getElem_cons_zero, Act.put, List.setIfInBounds_toArray, List.set_cons_zero, List.set_cons_succ])
                          refine wpAnyH_ready (rs := [2]) (by kernel_rfl) (by simp) ?_
                          refine AllReadyH.cons rfl (fun K hK => ?_) (AllReadyH.nil)
                          · go_simp
                            refine hK.out _ _ ?_ (fun hHeld => ?_)
                            · (try dsimp only); (first | done | trivial)
                            clear hK K
                            (try simp only [List.getElem_toArray, List.getElem_cons_succ, List.getElem_cons_zero, Act.put, List.setIfInBounds_toArray, List.set_cons_zero, List.set_cons_succ])
                            refine wpAnyH_ready (rs := [3]) (by kernel_rfl) (by simp) ?_
                            refine AllReadyH.cons rfl (fun K hK => ?_) (AllReadyH.nil)
                            · go_simp
                              refine hK.out _ _ ?_ (fun hHeld => ?_)
                              · (try dsimp only); (first | done | trivial)
                              clear hK K
                              (try simp only [List.getElem_toArray, List.getElem_cons_succ, List.getElem_cons_zero, Act.put, List.setIfInBounds_toArray, List.set_cons_zero, List.set_cons_succ])
                              refine wpAnyH_done (by kernel_rfl) ?_ _
                              refine NoPanic.normal ?_
                              clear n0 n1 nf0 nf1 q0 q1 qf0 qf1 m0 m1 p0 p1
                              go_wp2_with fail
                              go_roundg (gk - 1)
                              case rel => exact ⟨k + 1, Am, cm, Ap, cp, by have := HK.out; omega, by go_num, by rw [HE.out]; exact HX.out⟩
                              case measure => have := HK.out; omega
      · have hkL : k = l.length := by have := HK.out; omega
        have hGe : Nt.good (l.take k) = Nt.good l := by rw [hkL, List.take_length]
        have HMEM := Lib.hid (fun x (hx : x ∈ lastN 32 (Nt.good (l.take k))) => good_mem hx)
        rw [hGe] at HI e1 e0 HMEM
        clear hGe
        have hTl : (Nt.good l).length ≤ 160 := Nat.le_trans (Nt.good_le _) (by omega)
        have hKl := lastN_len 32 (Nt.good l)
        have hdn := HI.out.dn
        have hdq := HI.out.dq
        have hrn := HI.out.rn
        have hrq := HI.out.rq
        have hbelow := HI.out.below
        have hge := HI.out.ge
        clear HI
        generalize lastN 32 (Nt.good l) = KL at *
        obtain ⟨T, hTe⟩ : ∃ T, (Nt.good l).length = T := ⟨_, rfl⟩
        rw [hTe] at hdn hdq hTl hKl e0
        clear hTe
        have HF := Lib.hid (fun x hx => HFI.out x (HMEM.out x hx).1)
        have H64 := Lib.hid (fun x hx => (HMEM.out x hx).2)
        have HDN := Lib.hid hdn
        have HDQ := Lib.hid hdq
        have HRN := Lib.hid hrn
        have HRQ := Lib.hid hrq
        have HBW := Lib.hid hbelow
        have hk32 : KL.length ≤ 32 := by omega
        have hkT : KL.length ≤ T := by omega
        have hT64 : T < 18446744073709551616 := by omega
        have HGA := Lib.hid (fun W h => ntGet_any T c A KL num W (by omega) hkT hT64 hnum h)
        have HGB := Lib.hid (fun W h => r19Get_any T d B KL num W (by omega) hkT hT64 hnum h)
        have HBA := Lib.hid (fun W h => ntBytes_any T c A KL W hk32 hT64 HF.out H64.out h)
        have HBB := Lib.hid (fun W h => r19Bytes_any T d B KL W hk32 hT64 HF.out H64.out h)
        obtain ⟨hra, hre⟩ := Nt.read_enc hT64 hKl HF.out H64.out
        have HRD := Lib.hid (fun bi W h => ntRead_any bi (Nt.enc T KL, 0) W h (lOk_new _))
        unfold ReadPost at HRD
        rw [hra, hre] at HRD
        simp only at HRD
        unfold GetPost at HGB
        generalize (if Nt.has T KL.length num then KL.getD (num - (T - KL.length) - 1) Nt.zero else Nt.zero) = y at *
        generalize Nt.has T KL.length num = bo at *
        simp only [ntV] at HGA HGB
        clear hra hre hKl hdn hdq hrn hrq hbelow HMEM
        generalize Nt.enc T KL = E at *
        have HNEW := Lib.hid (fun W => inew_l E W)
        have hb1 : b + 1 < wr.heap.size := HDQ.out.lt
        go_wp2_with fail
        refine (HGA.out _ HRN.out).mono ?_
        rintro e w5 ⟨rfl, b5⟩
        have HA5 := Lib.hid (alloc1B w5 (.cells #[.int .u64 (y.t : Int), .int .u8 (y.k : Int), .string (ofL y.b)] 32))
        have HY5 := Lib.hid (show (w5.alloc (.cells #[.int .u64 (y.t : Int), .int .u8 (y.k : Int), .string (ofL y.b)] 32)).cell? ⟨w5.heap.size, 0, none⟩ = some (.int .u64 (y.t : Int)) ∧ (w5.alloc (.cells #[.int .u64 (y.t : Int), .int .u8 (y.k : Int), .string (ofL y.b)] 32)).cell? ⟨w5.heap.size, 1, none⟩ = some (.int .u8 (y.k : Int)) ∧ (w5.alloc (.cells #[.int .u64 (y.t : Int), .int .u8 (y.k : Int), .string (ofL y.b)] 32)).cell? ⟨w5.heap.size, 2, none⟩ = some (.string (ofL y.b)) from ⟨cell_new _ _ _ _ _ rfl, cell_new _ _ _ _ _ rfl, cell_new _ _ _ _ _ rfl⟩)
        have HB5 := Lib.hid (bthen (show Below wr.heap.size wr w5 from b5) HA5.out (Nat.le_refl _))
        have hs5 : wr.heap.size ≤ w5.heap.size := b5.size
        clear e0 e1 el b5
        have hdq5 := HDQ.out.on HB5.out
        have e0 := hdq5.c0
        have e1 := hdq5.c1
        have el := hdq5.lt
        clear hdq5
        go_wp2_with fail
        refine (HGB.out _ (HRQ.out.on HB5.out)).mono ?_
        rintro e w6 ⟨rfl, b6⟩
        have HA6 := Lib.hid (alloc1B w6 (.cells #[.int .u64 (y.t : Int), .int .u8 (y.k : Int), .string (ofL y.b)] 38))
        have HZ6 := Lib.hid (show (w6.alloc (.cells #[.int .u64 (y.t : Int), .int .u8 (y.k : Int), .string (ofL y.b)] 38)).cell? ⟨w6.heap.size, 0, none⟩ = some (.int .u64 (y.t : Int)) ∧ (w6.alloc (.cells #[.int .u64 (y.t : Int), .int .u8 (y.k : Int), .string (ofL y.b)] 38)).cell? ⟨w6.heap.size, 1, none⟩ = some (.int .u8 (y.k : Int)) ∧ (w6.alloc (.cells #[.int .u64 (y.t : Int), .int .u8 (y.k : Int), .string (ofL y.b)] 38)).cell? ⟨w6.heap.size, 2, none⟩ = some (.string (ofL y.b)) from ⟨cell_new _ _ _ _ _ rfl, cell_new _ _ _ _ _ rfl, cell_new _ _ _ _ _ rfl⟩)
        have hb56 := b6.trans (HA6.out.mono b6.size)
        have HY6 := Lib.hid (And.intro (cell_onB hb56 HY5.out.1) (And.intro (cell_onB hb56 HY5.out.2.1) (cell_onB hb56 HY5.out.2.2)))
        have HB6 := Lib.hid (bthen HB5.out hb56 (Nat.le_refl _))
        have hs6 : w5.heap.size < w6.heap.size := Nat.lt_of_lt_of_le (by simp) b6.size
        clear e0 e1 el b6 hb56 HY5
        have hdn6 := HDN.out.on HB6.out
        have e0 := hdn6.c0
        have e1 := hdn6.c1
        have el := hdn6.lt
        clear hdn6
        go_wp2_with fail
        refine (HBA.out _ (HRN.out.on HB6.out)).mono ?_
        rintro e w7 ⟨rfl, b7⟩
        have HB7 := Lib.hid (bthen HB6.out b7 (Nat.le_refl _))
        have HY7 := Lib.hid (And.intro (cell_onB b7 HY6.out.1) (And.intro (cell_onB b7 HY6.out.2.1) (cell_onB b7 HY6.out.2.2)))
        have HZ7 := Lib.hid (And.intro (cell_onB b7 HZ6.out.1) (And.intro (cell_onB b7 HZ6.out.2.1) (cell_onB b7 HZ6.out.2.2)))
        have hs7 : w6.heap.size < w7.heap.size := Nat.lt_of_lt_of_le (by simp) b7.size
        clear e0 e1 el b7 HY6 HZ6
        go_wp2_with fail
        refine (HNEW.out _).mono ?_
        rintro e w8 ⟨rfl, hi8, b8⟩
        have HI8 := Lib.hid hi8
        have HBr8 := Lib.hid (bthen HB7.out b8 (Nat.le_refl _))
        have HY8 := Lib.hid (And.intro (cell_onB b8 HY7.out.1) (And.intro (cell_onB b8 HY7.out.2.1) (cell_onB b8 HY7.out.2.2)))
        have HZ8 := Lib.hid (And.intro (cell_onB b8 HZ7.out.1) (And.intro (cell_onB b8 HZ7.out.2.1) (cell_onB b8 HZ7.out.2.2)))
        have HDn8 := Lib.hid (HDN.out.on HBr8.out)
        have HDq8 := Lib.hid (HDQ.out.on HBr8.out)
        have HRq8 := Lib.hid (HRQ.out.on HBr8.out)
        have HB8 := Lib.hid (bthen HBW.out HBr8.out (Nat.le_refl _))
        have hww : w.heap.size ≤ wr.heap.size := HBW.out.size
        have hbi : wr.heap.size ≤ w7.heap.size := by omega
        have HRD := Lib.hid (fun W h => HRD.out w7.heap.size W h)
        clear hi8 b8 HY7 HZ7 HB5 HB6 HB7 HA5 HA6 HGA HGB HBA HNEW
        go_wp2_with fail
        generalize hpy : w5.heap.size = py at *
        generalize hpz : w6.heap.size = pz at *
        generalize hpi : w7.heap.size = bi at *
        have hS0 := Lib.hid (show (fun a => a.cell? ⟨py, 0, none⟩ = some (.int .u64 (y.t : Int)) ∧ a.cell? ⟨py, 1, none⟩ = some (.int .u8 (y.k : Int)) ∧ a.cell? ⟨py, 2, none⟩ = some (.string (ofL y.b)) ∧ a.cell? ⟨pz, 0, none⟩ = some (.int .u64 (y.t : Int)) ∧ a.cell? ⟨pz, 1, none⟩ = some (.int .u8 (y.k : Int)) ∧ a.cell? ⟨pz, 2, none⟩ = some (.string (ofL y.b)) ∧ a.cell? ⟨b, 0, none⟩ = some (.int .u64 (T : Int)) ∧ a.cell? ⟨b, 1, none⟩ = some (.slice A KL.length c) ∧ a.cell? ⟨b + 1, 0, none⟩ = some (.int .u64 (T : Int)) ∧ a.cell? ⟨b + 1, 1, none⟩ = some (.slice B KL.length d) ∧ w8.grownBy a (some bi)) w8.drew from ⟨HY8.out.1, HY8.out.2.1, HY8.out.2.2, HZ8.out.1, HZ8.out.2.1, HZ8.out.2.2, HDn8.out.c0, HDn8.out.c1, HDq8.out.c0, HDq8.out.c1, Rw.gb (Below.refl _ _).drew _⟩)
        have HON := Lib.hid (fun (W W' : World) (h : (fun a => a.cell? ⟨py, 0, none⟩ = some (.int .u64 (y.t : Int)) ∧ a.cell? ⟨py, 1, none⟩ = some (.int .u8 (y.k : Int)) ∧ a.cell? ⟨py, 2, none⟩ = some (.string (ofL y.b)) ∧ a.cell? ⟨pz, 0, none⟩ = some (.int .u64 (y.t : Int)) ∧ a.cell? ⟨pz, 1, none⟩ = some (.int .u8 (y.k : Int)) ∧ a.cell? ⟨pz, 2, none⟩ = some (.string (ofL y.b)) ∧ a.cell? ⟨b, 0, none⟩ = some (.int .u64 (T : Int)) ∧ a.cell? ⟨b, 1, none⟩ = some (.slice A KL.length c) ∧ a.cell? ⟨b + 1, 0, none⟩ = some (.int .u64 (T : Int)) ∧ a.cell? ⟨b + 1, 1, none⟩ = some (.slice B KL.length d) ∧ w8.grownBy a (some bi)) W) (hb : Below W.heap.size W W') => show (fun a => a.cell? ⟨py, 0, none⟩ = some (.int .u64 (y.t : Int)) ∧ a.cell? ⟨py, 1, none⟩ = some (.int .u8 (y.k : Int)) ∧ a.cell? ⟨py, 2, none⟩ = some (.string (ofL y.b)) ∧ a.cell? ⟨pz, 0, none⟩ = some (.int .u64 (y.t : Int)) ∧ a.cell? ⟨pz, 1, none⟩ = some (.int .u8 (y.k : Int)) ∧ a.cell? ⟨pz, 2, none⟩ = some (.string (ofL y.b)) ∧ a.cell? ⟨b, 0, none⟩ = some (.int .u64 (T : Int)) ∧ a.cell? ⟨b, 1, none⟩ = some (.slice A KL.length c) ∧ a.cell? ⟨b + 1, 0, none⟩ = some (.int .u64 (T : Int)) ∧ a.cell? ⟨b + 1, 1, none⟩ = some (.slice B KL.length d) ∧ w8.grownBy a (some bi)) W' from ⟨cell_onB hb h.1, cell_onB hb h.2.1, cell_onB hb h.2.2.1, cell_onB hb h.2.2.2.1, cell_onB hb h.2.2.2.2.1, cell_onB hb h.2.2.2.2.2.1, cell_onB hb h.2.2.2.2.2.2.1, cell_onB hb h.2.2.2.2.2.2.2.1, cell_onB hb h.2.2.2.2.2.2.2.2.1, cell_onB hb h.2.2.2.2.2.2.2.2.2.1, grown_below h.2.2.2.2.2.2.2.2.2.2 hb⟩)
        have HOG := Lib.hid (fun (W W' : World) (h : (fun a => a.cell? ⟨py, 0, none⟩ = some (.int .u64 (y.t : Int)) ∧ a.cell? ⟨py, 1, none⟩ = some (.int .u8 (y.k : Int)) ∧ a.cell? ⟨py, 2, none⟩ = some (.string (ofL y.b)) ∧ a.cell? ⟨pz, 0, none⟩ = some (.int .u64 (y.t : Int)) ∧ a.cell? ⟨pz, 1, none⟩ = some (.int .u8 (y.k : Int)) ∧ a.cell? ⟨pz, 2, none⟩ = some (.string (ofL y.b)) ∧ a.cell? ⟨b, 0, none⟩ = some (.int .u64 (T : Int)) ∧ a.cell? ⟨b, 1, none⟩ = some (.slice A KL.length c) ∧ a.cell? ⟨b + 1, 0, none⟩ = some (.int .u64 (T : Int)) ∧ a.cell? ⟨b + 1, 1, none⟩ = some (.slice B KL.length d) ∧ w8.grownBy a (some bi)) W) (hg : W.grownBy W' (some bi)) => show (fun a => a.cell? ⟨py, 0, none⟩ = some (.int .u64 (y.t : Int)) ∧ a.cell? ⟨py, 1, none⟩ = some (.int .u8 (y.k : Int)) ∧ a.cell? ⟨py, 2, none⟩ = some (.string (ofL y.b)) ∧ a.cell? ⟨pz, 0, none⟩ = some (.int .u64 (y.t : Int)) ∧ a.cell? ⟨pz, 1, none⟩ = some (.int .u8 (y.k : Int)) ∧ a.cell? ⟨pz, 2, none⟩ = some (.string (ofL y.b)) ∧ a.cell? ⟨b, 0, none⟩ = some (.int .u64 (T : Int)) ∧ a.cell? ⟨b, 1, none⟩ = some (.slice A KL.length c) ∧ a.cell? ⟨b + 1, 0, none⟩ = some (.int .u64 (T : Int)) ∧ a.cell? ⟨b + 1, 1, none⟩ = some (.slice B KL.length d) ∧ w8.grownBy a (some bi)) W' from ⟨hg.cell h.1 (fun e => by have := Option.some.inj e; simp only at this; omega), hg.cell h.2.1 (fun e => by have := Option.some.inj e; simp only at this; omega), hg.cell h.2.2.1 (fun e => by have := Option.some.inj e; simp only at this; omega), hg.cell h.2.2.2.1 (fun e => by have := Option.some.inj e; simp only at this; omega), hg.cell h.2.2.2.2.1 (fun e => by have := Option.some.inj e; simp only at this; omega), hg.cell h.2.2.2.2.2.1 (fun e => by have := Option.some.inj e; simp only at this; omega), hg.cell h.2.2.2.2.2.2.1 (fun e => by have := Option.some.inj e; simp only at this; omega), hg.cell h.2.2.2.2.2.2.2.1 (fun e => by have := Option.some.inj e; simp only at this; omega), hg.cell h.2.2.2.2.2.2.2.2.1 (fun e => by have := Option.some.inj e; simp only at this; omega), hg.cell h.2.2.2.2.2.2.2.2.2.1 (fun e => by have := Option.some.inj e; simp only at this; omega), h.2.2.2.2.2.2.2.2.2.2.trans hg⟩)
        have HGET := Lib.hid (fun (W : World) (h : (fun a => a.cell? ⟨py, 0, none⟩ = some (.int .u64 (y.t : Int)) ∧ a.cell? ⟨py, 1, none⟩ = some (.int .u8 (y.k : Int)) ∧ a.cell? ⟨py, 2, none⟩ = some (.string (ofL y.b)) ∧ a.cell? ⟨pz, 0, none⟩ = some (.int .u64 (y.t : Int)) ∧ a.cell? ⟨pz, 1, none⟩ = some (.int .u8 (y.k : Int)) ∧ a.cell? ⟨pz, 2, none⟩ = some (.string (ofL y.b)) ∧ a.cell? ⟨b, 0, none⟩ = some (.int .u64 (T : Int)) ∧ a.cell? ⟨b, 1, none⟩ = some (.slice A KL.length c) ∧ a.cell? ⟨b + 1, 0, none⟩ = some (.int .u64 (T : Int)) ∧ a.cell? ⟨b + 1, 1, none⟩ = some (.slice B KL.length d) ∧ w8.grownBy a (some bi)) W) => h.2.2.2.2.2.2.2.2.2.2)
        refine wp_region_noPanic ?_
        refine wp_region_held_drew (S := (fun a => a.cell? ⟨py, 0, none⟩ = some (.int .u64 (y.t : Int)) ∧ a.cell? ⟨py, 1, none⟩ = some (.int .u8 (y.k : Int)) ∧ a.cell? ⟨py, 2, none⟩ = some (.string (ofL y.b)) ∧ a.cell? ⟨pz, 0, none⟩ = some (.int .u64 (y.t : Int)) ∧ a.cell? ⟨pz, 1, none⟩ = some (.int .u8 (y.k : Int)) ∧ a.cell? ⟨pz, 2, none⟩ = some (.string (ofL y.b)) ∧ a.cell? ⟨b, 0, none⟩ = some (.int .u64 (T : Int)) ∧ a.cell? ⟨b, 1, none⟩ = some (.slice A KL.length c) ∧ a.cell? ⟨b + 1, 0, none⟩ = some (.int .u64 (T : Int)) ∧ a.cell? ⟨b + 1, 1, none⟩ = some (.slice B KL.length d) ∧ w8.grownBy a (some bi))) (by kernel_rfl) ?_ (fun hHeld => ?_)
        · (try dsimp only); first | with_reducible exact hS0.out | with_reducible assumption | with_reducible exact HON.out _ _ (by assumption) hb2 | with_reducible exact HOG.out _ _ (by assumption) hg9
        refine wpAnyH_take (i := 0) (v := ?_) rfl (by kernel_rfl) (by kernel_rfl) (by kernel_rfl) (fun _ _ _ h => h) (Or.inl ⟨by rfl, ?_⟩) (by assumption) ?_
        rotate_left
        · intro w hSw; (try dsimp only at hSw); go_simp; try with_reducible rfl
        (try simp only [List.getElem_toArray, List.getElem_cons_zero, Act.put, List.setIfInBounds_toArray, List.set_cons_zero, List.set_cons_succ])
        refine wpAnyH_take (i := 1) (v := ?_) rfl (by kernel_rfl) (by kernel_rfl) (by kernel_rfl) (fun _ _ _ h => h) (Or.inl ⟨by rfl, ?_⟩) (by assumption) ?_
        rotate_left
        · intro w hSw; (try dsimp only at hSw); go_simp; try with_reducible rfl
        (try simp only [List.getElem_toArray, List.getElem_cons_succ, List.getElem_cons_zero, Act.put, List.setIfInBounds_toArray, List.set_cons_zero, List.set_cons_succ])
        refine wpAnyH_take (i := 2) (v := ?_) rfl (by kernel_rfl) (by kernel_rfl) (by kernel_rfl) (fun _ _ _ h => h) (Or.inl ⟨by rfl, ?_⟩) (by assumption) ?_
        rotate_left
        · intro w hSw; (try dsimp only at hSw); go_simp; try with_reducible rfl
        (try simp only [List.getElem_toArray, List.getElem_cons_succ, List.getElem_cons_zero, Act.put, List.setIfInBounds_toArray, List.set_cons_zero, List.set_cons_succ])
        refine wpAnyH_take (i := 3) (v := ?_) rfl (by kernel_rfl) (by kernel_rfl) (by kernel_rfl) (fun _ _ _ h => h) (Or.inl ⟨by rfl, ?_⟩) (by assumption) ?_
        rotate_left
        · intro w hSw; (try dsimp only at hSw); go_simp; try with_reducible rfl
        (try simp only [List.getElem_toArray, List.getElem_cons_succ, List.getElem_cons_zero, Act.put, List.setIfInBounds_toArray, List.set_cons_zero, List.set_cons_succ])
        refine wpAnyH_take (i := 4) (v := ?_) rfl (by kernel_rfl) (by kernel_rfl) (by kernel_rfl) (fun _ _ _ h => h) (Or.inl ⟨by rfl, ?_⟩) (by assumption) ?_
        rotate_left
        · intro w hSw; (try dsimp only at hSw); go_simp; try with_reducible rfl
        (try simp only [List.getElem_toArray, List.getElem_cons_succ, List.getElem_cons_zero, Act.put, List.setIfInBounds_toArray, List.set_cons_zero, List.set_cons_succ])
        refine wpAnyH_take (i := 5) (v := ?_) rfl (by kernel_rfl) (by kernel_rfl) (by kernel_rfl) (fun _ _ _ h => h) (Or.inl ⟨by rfl, ?_⟩) (by assumption) ?_
        rotate_left
        · intro w hSw; (try dsimp only at hSw); go_simp; try with_reducible rfl
        (try simp only [List.getElem_toArray, List.getElem_cons_succ, List.getElem_cons_zero, Act.put, List.setIfInBounds_toArray, List.set_cons_zero, List.set_cons_succ])
        refine wpAnyH_take (i := 6) (v := ?_) rfl (by kernel_rfl) (by kernel_rfl) (by kernel_rfl) (fun _ _ _ h => h) (Or.inl ⟨by rfl, ?_⟩) (by assumption) ?_
        rotate_left
        · intro w hSw; (try dsimp only at hSw); go_simp; try with_reducible rfl
        (try simp only [List.getElem_toArray, List.getElem_cons_succ, List.getElem_cons_zero, Act.put, List.setIfInBounds_toArray, List.set_cons_zero, List.set_cons_succ])
        refine wpAnyH_take (i := 7) (v := ?_) rfl (by kernel_rfl) (by kernel_rfl) (by kernel_rfl) (fun _ _ _ h => h) (Or.inl ⟨by rfl, ?_⟩) (by assumption) ?_
        rotate_left
        · intro w hSw; (try dsimp only at hSw); go_simp; try with_reducible rfl
        (try simp only [List.getElem_toArray, List.getElem_cons_succ, List.getElem_cons_zero, Act.put, List.setIfInBounds_toArray, List.set_cons_zero, List.set_cons_succ])
        refine wpAnyH_take (i := 8) (v := ?_) rfl (by kernel_rfl) (by kernel_rfl) (by kernel_rfl) (fun _ _ _ h => h) (Or.inl ⟨by rfl, ?_⟩) (by assumption) ?_
        rotate_left
        · intro w hSw; (try dsimp only at hSw); go_simp; try with_reducible rfl
        (try simp only [List.getElem_toArray, List.getElem_cons_succ, List.getElem_cons_zero, Act.put, List.setIfInBounds_toArray, List.set_cons_zero, List.set_cons_succ])
        refine wpAnyH_take (i := 9) (v := ?_) rfl (by kernel_rfl) (by kernel_rfl) (by kernel_rfl) (fun _ _ _ h => h) (Or.inl ⟨by rfl, ?_⟩) (by assumption) ?_
        rotate_left
        · intro w hSw; (try dsimp only at hSw); go_simp; try with_reducible rfl
        (try simp only [List.getElem_toArray, List.getElem_cons_succ, List.getElem_cons_zero, Act.put, List.setIfInBounds_toArray, List.set_cons_zero, List.set_cons_succ])
        refine wpAnyH_take (i := 10) (v := ?_) rfl (by kernel_rfl) (by kernel_rfl) (by kernel_rfl) (fun _ _ _ h => h) (Or.inl ⟨by rfl, ?_⟩) (by assumption) ?_
        rotate_left
        · intro w hSw; (try dsimp only at hSw); go_simp; try with_reducible rfl
        (try simp only [List.getElem_toArray, List.getElem_cons_succ, List.getElem_cons_zero, Act.put, List.setIfInBounds_toArray, List.set_cons_zero, List.set_cons_succ])
        refine wpAnyH_ready (rs := [11]) (by kernel_rfl) (by simp) ?_
        refine AllReadyH.cons rfl (fun K hK => ?_) (AllReadyH.nil)
        · go_simp
          (go_at_call 18; refine (HBB.out _ (HRq8.out.on (Below.refl _ _).drew)).mono ?_; rintro e wx ⟨rfl, hb2⟩; have HIa := Lib.hid ((rdr_in bi).on ((rdr_in bi).on HI8.out (Below.refl _ _).drew) hb2); have HBa := Lib.hid (bthen (bthen HBr8.out (Below.refl _ _).drew (Nat.le_refl _)) hb2 (Nat.le_refl _)))
          refine hK.out _ _ ?_ (fun hHeld => ?_)
          · (try dsimp only); first | with_reducible exact hS0.out | with_reducible assumption | with_reducible exact HON.out _ _ (by assumption) hb2 | with_reducible exact HOG.out _ _ (by assumption) hg9
          clear hK K
          (try simp only [List.getElem_toArray, List.getElem_cons_succ, List.getElem_cons_zero, Act.put, List.setIfInBounds_toArray, List.set_cons_zero, List.set_cons_succ])
          refine wpAnyH_take (i := 12) (v := ?_) rfl (by kernel_rfl) (by kernel_rfl) (by kernel_rfl) (fun _ _ _ h => h) (Or.inl ⟨by rfl, ?_⟩) (by assumption) ?_
          rotate_left
          · intro w hSw; (try dsimp only at hSw); go_simp; try with_reducible rfl
          (try simp only [List.getElem_toArray, List.getElem_cons_succ, List.getElem_cons_zero, Act.put, List.setIfInBounds_toArray, List.set_cons_zero, List.set_cons_succ])
          refine wpAnyH_take (i := 13) (v := ?_) rfl (by kernel_rfl) (by kernel_rfl) (by kernel_rfl) (fun _ _ _ h => h) (Or.inl ⟨by rfl, ?_⟩) (by assumption) ?_
          rotate_left
          · intro w hSw; (try dsimp only at hSw); go_simp; try with_reducible rfl
          (try simp only [List.getElem_toArray, List.getElem_cons_succ, List.getElem_cons_zero, Act.put, List.setIfInBounds_toArray, List.set_cons_zero, List.set_cons_succ])
          refine wpAnyH_take (i := 14) (v := ?_) rfl (by kernel_rfl) (by kernel_rfl) (by kernel_rfl) (fun _ _ _ h => h) (Or.inl ⟨by rfl, ?_⟩) (by assumption) ?_
          rotate_left
          · intro w hSw; (try dsimp only at hSw); go_simp; try with_reducible rfl
          (try simp only [List.getElem_toArray, List.getElem_cons_succ, List.getElem_cons_zero, Act.put, List.setIfInBounds_toArray, List.set_cons_zero, List.set_cons_succ])
          refine wpAnyH_take (i := 15) (v := ?_) rfl (by kernel_rfl) (by kernel_rfl) (by kernel_rfl) (fun _ _ _ h => h) (Or.inl ⟨by rfl, ?_⟩) (by assumption) ?_
          rotate_left
          · intro w hSw; (try dsimp only at hSw); go_simp; try with_reducible rfl
          (try simp only [List.getElem_toArray, List.getElem_cons_succ, List.getElem_cons_zero, Act.put, List.setIfInBounds_toArray, List.set_cons_zero, List.set_cons_succ])
          refine wpAnyH_take (i := 17) (v := ?_) rfl (by kernel_rfl) (by kernel_rfl) (by kernel_rfl) (fun _ _ _ h => h) (Or.inl ⟨by rfl, ?_⟩) (by assumption) ?_
          rotate_left
          · intro w hSw; (try dsimp only at hSw); go_simp; try with_reducible rfl
          (try simp only [List.getElem_toArray, List.getElem_cons_succ, List.getElem_cons_zero, Act.put, List.setIfInBounds_toArray, List.set_cons_zero, List.set_cons_succ])
          refine wpAnyH_ready (rs := [16]) (by kernel_rfl) (by simp) ?_
          refine AllReadyH.cons rfl (fun K hK => ?_) (AllReadyH.nil)
          · go_simp
            (go_at_call 19; refine (HRD.out _ HIa.out).mono ?_; rintro e wx ⟨A9, c9, rfl, -, -, hN9, -, hi9, hg9⟩; have HN9 := Lib.hid hN9; have HI9 := Lib.hid hi9; have HRn9 := Lib.hid (Rws.farB HRN.out HBa.out hg9 hbi))
            refine hK.out _ _ ?_ (fun hHeld => ?_)
            · (try dsimp only); first | with_reducible exact hS0.out | with_reducible assumption | with_reducible exact HON.out _ _ (by assumption) hb2 | with_reducible exact HOG.out _ _ (by assumption) hg9
            clear hK K
            (try simp only [List.getElem_toArray, List.getElem_cons_succ, List.getElem_cons_zero, Act.put, List.setIfInBounds_toArray, List.set_cons_zero, List.set_cons_succ])
            refine wpAnyH_ready (rs := [18]) (by kernel_rfl) (by simp) ?_
            refine AllReadyH.cons rfl (fun K hK => ?_) (AllReadyH.nil)
            · go_simp
              (go_at_call 13; refine (ntSame_self T c9 c A9 A KL _ (by omega) HN9.out HRn9.out).mono ?_; rintro e wx ⟨rfl, hb2⟩; have HI10 := Lib.hid ((rdr_in bi).on HI9.out hb2))
              refine hK.out _ _ ?_ (fun hHeld => ?_)
              · (try dsimp only); first | with_reducible exact hS0.out | with_reducible assumption | with_reducible exact HON.out _ _ (by assumption) hb2 | with_reducible exact HOG.out _ _ (by assumption) hg9
              clear hK K
              (try simp only [List.getElem_toArray, List.getElem_cons_succ, List.getElem_cons_zero, Act.put, List.setIfInBounds_toArray, List.set_cons_zero, List.set_cons_succ])
              refine wpAnyH_take (i := 19) (v := ?_) rfl (by kernel_rfl) (by kernel_rfl) (by kernel_rfl) (fun _ _ _ h => h) (Or.inl ⟨by rfl, ?_⟩) (by assumption) ?_
              rotate_left
              · intro w hSw; (try dsimp only at hSw); go_simp; try with_reducible rfl
              (try simp only [List.getElem_toArray, List.getElem_cons_succ, List.getElem_cons_zero, Act.put, List.setIfInBounds_toArray, List.set_cons_zero, List.set_cons_succ])
              refine wpAnyH_take (i := 20) (v := ?_) rfl (by kernel_rfl) (by kernel_rfl) (by kernel_rfl) (fun _ _ _ h => h) (Or.inl ⟨by rfl, ?_⟩) (by assumption) ?_
              rotate_left
              · intro w hSw; (try dsimp only at hSw); go_simp; try with_reducible rfl
              (try simp only [List.getElem_toArray, List.getElem_cons_succ, List.getElem_cons_zero, Act.put, List.setIfInBounds_toArray, List.set_cons_zero, List.set_cons_succ])
              refine wpAnyH_take (i := 21) (v := ?_) rfl (by kernel_rfl) (by kernel_rfl) (by kernel_rfl) (fun _ _ _ h => h) (Or.inl ⟨by rfl, ?_⟩) (by assumption) ?_
              rotate_left
              · intro w hSw; (try dsimp only at hSw); go_simp; try with_reducible rfl
              (try simp only [List.getElem_toArray, List.getElem_cons_succ, List.getElem_cons_zero, Act.put, List.setIfInBounds_toArray, List.set_cons_zero, List.set_cons_succ])
              refine wpAnyH_ready (rs := [22]) (by kernel_rfl) (by simp) ?_
              refine AllReadyH.cons rfl (fun K hK => ?_) (AllReadyH.nil)
              · go_simp
                (go_at_call 20; refine (iend_l bi _ _ HI10.out).mono ?_; rintro e wx ⟨rfl, rfl⟩)
                refine hK.out _ _ ?_ (fun hHeld => ?_)
                · (try dsimp only); first | with_reducible exact hS0.out | with_reducible assumption | with_reducible exact HON.out _ _ (by assumption) hb2 | with_reducible exact HOG.out _ _ (by assumption) hg9
                clear hK K
                (try simp only [List.getElem_toArray, List.getElem_cons_succ, List.getElem_cons_zero, Act.put, List.setIfInBounds_toArray, List.set_cons_zero, List.set_cons_succ])
                refine wpAnyH_take (i := 23) (v := ?_) rfl (by kernel_rfl) (by kernel_rfl) (by kernel_rfl) (fun _ _ _ h => h) (Or.inl ⟨by rfl, ?_⟩) (by assumption) ?_
                rotate_left
                · intro w hSw; (try dsimp only at hSw); go_simp; try with_reducible rfl
                (try simp only [List.getElem_toArray, List.getElem_cons_succ, List.getElem_cons_zero, Act.put, List.setIfInBounds_toArray, List.set_cons_zero, List.set_cons_succ])
                refine wpAnyH_take (i := 24) (v := ?_) rfl (by kernel_rfl) (by kernel_rfl) (by kernel_rfl) (fun _ _ _ h => h) (Or.inl ⟨by rfl, ?_⟩) (by assumption) ?_
                rotate_left
                · intro w hSw; (try dsimp only at hSw); go_simp; try with_reducible rfl
                (try simp only [List.getElem_toArray, List.getElem_cons_succ, List.getElem_cons_zero, Act.put, List.setIfInBounds_toArray, List.set_cons_zero, List.set_cons_succ])
                refine wpAnyH_take (i := 25) (v := ?_) rfl (by kernel_rfl) (by kernel_rfl) (by kernel_rfl) (fun _ _ _ h => h) (Or.inl ⟨by rfl, ?_⟩) (by assumption) ?_
                rotate_left
                · intro w hSw; (try dsimp only at hSw); go_simp; try with_reducible rfl
                (try simp only [List.getElem_toArray, List.getElem_cons_succ, List.getElem_cons_zero, Act.put, List.setIfInBounds_toArray, List.set_cons_zero, List.set_cons_succ])
                refine wpAnyH_done (by kernel_rfl) ?_ _
                refine NoPanic.normal ?_
                have HGZ := Lib.hid (HGET.out _ (by assumption))
                clear hHeld hS0 HON HOG HGET
                go_wp2_with fail
                go_ret
                exact ⟨rfl, HB8.out.grown HGZ.out HB8.out.size (fun k hk => by cases hk; omega)⟩
  · have HB2 := Lib.hid (bthen HB1.out b2 (Nat.le_refl _))
    clear b2
    go_wp2_with fail
    go_ret
    exact ⟨rfl, HB2.out⟩
end Go.Proofs.Ytabnkbdbbneihaa
