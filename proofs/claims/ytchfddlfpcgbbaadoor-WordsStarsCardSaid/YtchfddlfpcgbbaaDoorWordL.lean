/-
  THE LAW OF A KEY ITSELF, its walk.
-/
import Derived.Test.YtchfddlfpcgbbaaDoorWordK
namespace Go.Proofs.YtchfddlfpcgbbaaDoor
open Go.ChangeShapes Go.WideShapes Go.ChangeAt Go.RowKit

theorem ofL_data (x : List UInt8) : (ofL x).data.toList = x := rfl
theorem join_at (g cap : Nat) (w : World) (ws : List (List UInt8)) (h : w.ownsRow 0 9 1 (.slice (some ⟨g, 0, none⟩) ws.length cap) ws.length (strs ws)) (hl : (Wrd.joinW ws).length ≤ 100000) (hn : ws.length ≤ 100000) :
    Calls Tryd.prog 24 #[.slice (some ⟨g, 0, none⟩) ws.length cap, .string ⟨#[46]⟩] w fun e w' => e = .returned (.string (ofL (Wrd.joinW ws))) ∧ Below w.heap.size w w' := by
  have hcap : ws.length ≤ cap ∧ g < w.heap.size := by
    obtain ⟨_, h1 | ⟨g', cap', cur, e, _, hb, h2, _⟩⟩ := h
    · exact absurd h1.1 (by simp)
    · injection e with e1 _ e3
      injection e1 with e1
      injection e1 with e1
      subst e1 e3
      exact ⟨h2, (Array.getElem?_eq_some_iff.1 hb).1⟩
  have hm : (ws.map ofL).map (·.data.toList) = ws := by rw [List.map_map]; exact List.map_id' ws
  have hc : ∀ (j : Nat) x, (ws.map ofL)[j]? = some x → w.cell? ⟨g, 0 + j, none⟩ = some (.string x) := by
    intro j x hx
    rw [List.getElem?_map] at hx
    obtain ⟨y, hy, rfl⟩ := Option.map_eq_some_iff.1 hx
    obtain ⟨hj, rfl⟩ := List.getElem?_eq_some_iff.1 hy
    rw [Nat.zero_add, h.cellAt j (by omega), strs_get ws j hj]
  have hs : (⟨#[46]⟩ : ByteArray).data.toList = [46] := rfl
  have := Tryd.strings_Join g 0 cap (ws.map ofL) ⟨#[46]⟩ w hc hcap.2 (by rw [List.length_map]; omega) (by rw [List.length_map]; exact hcap.1) (by rw [hm, hs, join_eq]; omega)
  rw [hm, hs, join_eq, List.length_map] at this
  exact this
theorem own_form {w : World} {B : Nat} {v : Value} {n : Nat} {xs : List Value} (h : w.ownsRow B 9 1 v n xs) (hn : 0 < n) : ∃ g cap, v = .slice (some ⟨g, 0, none⟩) n cap ∧ B ≤ g := by
  rcases h.2 with h1 | ⟨g, cap, cur, e, hB, _⟩
  · exact absurd h1.2 (by omega)
  · exact ⟨g, cap, e, hB⟩
theorem own_low {w : World} {B : Nat} {v : Value} {n : Nat} {xs : List Value} (h : w.ownsRow B 9 1 v n xs) : w.ownsRow 0 9 1 v n xs := by
  refine ⟨h.1, ?_⟩
  rcases h.2 with h1 | ⟨g, cap, cur, e, _, h2⟩
  · exact Or.inl h1
  · exact Or.inr ⟨g, cap, cur, e, Nat.zero_le _, h2⟩
theorem own_set {w : World} {B g cap : Nat} {ws : List (List UInt8)} (h : w.ownsRow B 9 1 (.slice (some ⟨g, 0, none⟩) ws.length cap) ws.length (strs ws)) (i : Nat) :
    (w.setCell ⟨g, i, none⟩ (.string ⟨#[35]⟩)).ownsRow 0 9 1 (.slice (some ⟨g, 0, none⟩) (ws.set i Wrd.hash).length cap) (ws.set i Wrd.hash).length (strs (ws.set i Wrd.hash)) := by
  have h1 := (h.stored i (.string ⟨#[35]⟩)).1
  have e : strs (ws.set i Wrd.hash) = (strs ws).set i (.string ⟨#[35]⟩) := by unfold strs; rw [List.map_set]; rfl
  rw [e, List.length_set]
  exact own_low h1
theorem own_on {w w' : World} {B : Nat} {v : Value} {n : Nat} {xs : List Value} (h : w.ownsRow B 9 1 v n xs) (hb : Below w.heap.size w w') : w'.ownsRow B 9 1 v n xs := by
  refine ⟨h.1, ?_⟩
  rcases h.2 with h1 | ⟨g, cap, cur, e, hB, hg, h2⟩
  · exact Or.inl h1
  · exact Or.inr ⟨g, cap, cur, e, hB, (hb.block g (Array.getElem?_eq_some_iff.1 hg).1).trans hg, h2⟩
set_option maxRecDepth 8000 in
set_option maxHeartbeats 8000000 in
theorem self_walk (pt ky ot : List UInt8) (a : Nat) (ha : a < 256) (w : World) (hL : Len w) (h1 : Wrd.keyCode (wildIf true) pt = 0) (h2 : Wrd.keyCode (wildIf false) ky = 0) (h3 : Wrd.keyCode (wildIf false) ot = 0) :
    Calls Tryd.prog 6 #[.string (ofL pt), .string (ofL ky), .string (ofL ot), .int .u8 (a : Int)] w fun e w' => e = .returned (.bool true) ∧ Below w.heap.size w w' := by
  have HA := Lib.hid (wawake_any w hL)
  have HL := Lib.hid hL
  have HK1 := Lib.hid (fun W => rkey_all pt true W)
  have HK2 := Lib.hid (fun W => rkey_all ky false W)
  have HK3 := Lib.hid (fun W => rkey_all ot false W)
  rw [h1] at HK1
  rw [h2] at HK2
  rw [h3] at HK3
  have l1 := key_len h1
  have l2 := key_len h2
  have l3 := key_len h3
  have HM1 := Lib.hid (fun W h => matches_any ky ot W (by omega) (by omega) h)
  rw [self_same h2] at HM1
  have HM2 : Hid (∀ W, Len W → Calls Tryd.prog 22 #[.string ⟨#[35]⟩, .string (ofL ky)] W fun e w' => e = .returned (.bool true) ∧ Below W.heap.size W w') := fun W h => by
    have := matches_any [35] ky W (by decide) (by omega) h
    rw [hash_any] at this
    exact this
  have hse := str_eq ky ot
  have HM3 := Lib.hid (fun W h => matches_any pt ky W (by omega) (by omega) h)
  have HSP := Lib.hid (fun W => rsplit_any pt W (by omega))
  have hwl := Wrd.words_len pt
  have HJL := Lib.hid (fun i => joinW_len ((Wrd.words pt).set i Wrd.hash) 64 (fun w hw => by
    rcases List.mem_or_eq_of_mem_set hw with hw | rfl
    · have := Wrd.words_part pt w hw; omega
    · decide))
  have HM4 := Lib.hid (fun i W (hi : i < (Wrd.words pt).length) (hm : Wrd.matches' (Wrd.words pt) (Wrd.words ky) = true) (h : Len W) => show Calls Tryd.prog 22 #[.string (ofL (Wrd.joinW ((Wrd.words pt).set i Wrd.hash))), .string (ofL ky)] W fun e w' => e = .returned (.bool true) ∧ Below W.heap.size W w' from by
    have hj := HJL.out i
    rw [List.length_set] at hj
    have := matches_any (Wrd.joinW ((Wrd.words pt).set i Wrd.hash)) ky W (by omega) (by omega) h
    rw [self_set i hi hm] at this
    exact this)
  generalize Wrd.matches' (Wrd.words pt) (Wrd.words ky) = M at *
  generalize Wrd.words pt = ws at *
  generalize (ky == ot) = b at *
  generalize ofL pt = sp at *
  generalize ofL ky = sk at *
  generalize ofL ot = so at *
  clear h1 h2 h3 hL
  go_enter Tryd.func6, Tryd.ntmps6
  go_wp2_with fail
  refine HA.out.mono ?_
  rintro e u1 ⟨rfl, hB⟩
  have HL1 := Lib.hid (HL.out.on hB)
  have HB1 := Lib.hid hB
  clear hB
  go_wp2_with fail
  refine (HK1.out _).mono ?_
  rintro e u2 ⟨rfl, hB⟩
  have HL2 := Lib.hid (HL1.out.on hB)
  have HB2 := Lib.hid (HB1.out.trans (hB.mono HB1.out.size))
  clear hB
  go_wp2_with fail
  refine (HK2.out _).mono ?_
  rintro e u3 ⟨rfl, hB⟩
  have HL3 := Lib.hid (HL2.out.on hB)
  have HB3 := Lib.hid (HB2.out.trans (hB.mono HB2.out.size))
  clear hB
  go_wp2_with fail
  refine (HK3.out _).mono ?_
  rintro e u4 ⟨rfl, hB⟩
  have HL4 := Lib.hid (HL3.out.on hB)
  have HB4 := Lib.hid (HB3.out.trans (hB.mono HB3.out.size))
  clear hB
  go_wp2_with fail
  refine (HM1.out _ HL4.out).mono ?_
  rintro e u5 ⟨rfl, hB⟩
  have HL5 := Lib.hid (HL4.out.on hB)
  have HB5 := Lib.hid (HB4.out.trans (hB.mono HB4.out.size))
  clear hB
  have hbb : (b != b) = false := by simp
  go_wp2_with fail
  refine (HM2.out _ HL5.out).mono ?_
  rintro e u6 ⟨rfl, hB⟩
  have HL6 := Lib.hid (HL5.out.on hB)
  have HB6 := Lib.hid (HB5.out.trans (hB.mono HB5.out.size))
  clear hB
  go_wp2_with fail
  refine (HSP.out _).mono ?_
  rintro e u7 ⟨v, rfl, hown, hB⟩
  have HL7 := Lib.hid (HL6.out.on hB)
  have HB7 := Lib.hid (HB6.out.trans (hB.mono HB6.out.size))
  have HZ6 := Lib.hid HB6.out.size
  clear hB
  by_cases h0 : ws.length = 0
  · obtain ⟨pp, cp, rfl, _⟩ := reads_own hown
    clear hown
    have hz : ((ws.length : Int) == 0) = true := by simp [h0]
    go_wp2_with fail
    go_ret
    exact ⟨rfl, HB7.out⟩
  · obtain ⟨g, cp, rfl, hgB⟩ := own_form hown (by omega)
    have HO := Lib.hid hown
    have hz : ((ws.length : Int) == 0) = false := beq_eq_false_iff_ne.2 (by omega)
    clear hown
    go_wp2_with fail
    refine (HM3.out _ HL7.out).mono ?_
    rintro e u8 ⟨rfl, hB⟩
    have HL8 := Lib.hid (HL7.out.on hB)
    have HB8 := Lib.hid (HB7.out.trans (hB.mono HB7.out.size))
    have HO8 := Lib.hid (own_on HO.out hB)
    clear hB
    cases M with
    | false =>
      go_wp2_with fail
      go_ret
      exact ⟨rfl, HB8.out⟩
    | true =>
      obtain ⟨i, hi⟩ : ∃ i, i = a % ws.length := ⟨_, rfl⟩
      have hil : i < ws.length := by rw [hi]; exact Nat.mod_lt _ (by omega)
      have hrem : Int.tmod (a : Int) (ws.length : Int) = (i : Int) := by rw [hi]; rfl
      have hfz := HO8.out.frozenAt i
      have hcl := (HO8.out.cellAt i (by omega)).trans (strs_get ws i hil)
      have HB9 := Lib.hid (HB8.out.setCell (p := ⟨g, i, none⟩) (Nat.le_trans HZ6.out hgB) (.string ⟨#[35]⟩))
      have HL9 := Lib.hid (HL.out.below HB9.out HL.out.pos)
      have HJ := Lib.hid (join_at g cp (u8.setCell ⟨g, i, none⟩ (.string ⟨#[35]⟩)) (ws.set i Wrd.hash) (own_set HO8.out i) (by have := HJL.out i; rw [List.length_set] at this; omega) (by rw [List.length_set]; omega))
      rw [List.length_set] at HJ
      have HM5 := Lib.hid (fun W h => HM4.out i W hil rfl h)
      clear hi HM4 HJL HO8 HO
      go_wp2_with fail
      refine HJ.out.mono ?_
      rintro e u9 ⟨rfl, hB⟩
      have HL10 := Lib.hid (HL9.out.on hB)
      have HB10 := Lib.hid (HB9.out.trans (hB.mono HB9.out.size))
      clear hB
      go_wp2_with fail
      refine (HM5.out _ HL10.out).mono ?_
      rintro e u11 ⟨rfl, hB⟩
      have HB11 := Lib.hid (HB10.out.trans (hB.mono HB10.out.size))
      clear hB
      go_wp2_with fail
      go_ret
      exact ⟨rfl, HB11.out⟩
set_option maxRecDepth 8000 in
set_option maxHeartbeats 8000000 in
theorem self_law (pt ky ot : List UInt8) (a : Nat) (ha : a < 256) (w : World) (hL : Len w) :
    Calls Tryd.prog 6 #[.string (ofL pt), .string (ofL ky), .string (ofL ot), .int .u8 (a : Int)] w fun e w' => e = .returned (.bool true) ∧ Below w.heap.size w w' := by
  by_cases h1 : Wrd.keyCode (wildIf true) pt = 0
  · by_cases h2 : Wrd.keyCode (wildIf false) ky = 0
    · by_cases h3 : Wrd.keyCode (wildIf false) ot = 0
      · exact self_walk pt ky ot a ha w hL h1 h2 h3
      · have HA := Lib.hid (wawake_any w hL)
        have HK1 := Lib.hid (fun W => rkey_all pt true W)
        have HK2 := Lib.hid (fun W => rkey_all ky false W)
        have HK3 := Lib.hid (fun W => rkey_all ot false W)
        rw [h1] at HK1
        rw [h2] at HK2
        generalize Wrd.keyCode (wildIf false) ot = C at *
        generalize ofL pt = sp at *
        generalize ofL ky = sk at *
        generalize ofL ot = so at *
        have hC : (C : Int) ≠ 0 := by omega
        have hCb : ((C : Int) != 0) = true := by simp; omega
        clear h1 h2 h3 hL
        go_enter Tryd.func6, Tryd.ntmps6
        go_wp2_with fail
        refine HA.out.mono ?_
        rintro e u1 ⟨rfl, hB⟩
        have HB1 := Lib.hid hB
        clear hB
        go_wp2_with fail
        refine (HK1.out _).mono ?_
        rintro e u2 ⟨rfl, hB⟩
        have HB2 := Lib.hid (HB1.out.trans (hB.mono HB1.out.size))
        clear hB
        go_wp2_with fail
        refine (HK2.out _).mono ?_
        rintro e u3 ⟨rfl, hB⟩
        have HB3 := Lib.hid (HB2.out.trans (hB.mono HB2.out.size))
        clear hB
        go_wp2_with fail
        refine (HK3.out _).mono ?_
        rintro e u4 ⟨rfl, hB⟩
        have HB4 := Lib.hid (HB3.out.trans (hB.mono HB3.out.size))
        clear hB
        go_wp2_with fail
        go_ret
        exact ⟨rfl, HB4.out⟩
    · have HA := Lib.hid (wawake_any w hL)
      have HK1 := Lib.hid (fun W => rkey_all pt true W)
      have HK2 := Lib.hid (fun W => rkey_all ky false W)
      rw [h1] at HK1
      generalize Wrd.keyCode (wildIf false) ky = C at *
      generalize ofL pt = sp at *
      generalize ofL ky = sk at *
      generalize ofL ot = so at *
      have hC : (C : Int) ≠ 0 := by omega
      have hCb : ((C : Int) != 0) = true := by simp; omega
      clear h1 h2 hL
      go_enter Tryd.func6, Tryd.ntmps6
      go_wp2_with fail
      refine HA.out.mono ?_
      rintro e u1 ⟨rfl, hB⟩
      have HB1 := Lib.hid hB
      clear hB
      go_wp2_with fail
      refine (HK1.out _).mono ?_
      rintro e u2 ⟨rfl, hB⟩
      have HB2 := Lib.hid (HB1.out.trans (hB.mono HB1.out.size))
      clear hB
      go_wp2_with fail
      refine (HK2.out _).mono ?_
      rintro e u3 ⟨rfl, hB⟩
      have HB3 := Lib.hid (HB2.out.trans (hB.mono HB2.out.size))
      clear hB
      go_wp2_with fail
      go_ret
      exact ⟨rfl, HB3.out⟩
  · have HA := Lib.hid (wawake_any w hL)
    have HK1 := Lib.hid (fun W => rkey_all pt true W)
    generalize Wrd.keyCode (wildIf true) pt = C at *
    generalize ofL pt = sp at *
    generalize ofL ky = sk at *
    generalize ofL ot = so at *
    have hC : (C : Int) ≠ 0 := by omega
    have hCb : ((C : Int) != 0) = true := by simp; omega
    clear h1 hL
    go_enter Tryd.func6, Tryd.ntmps6
    go_wp2_with fail
    refine HA.out.mono ?_
    rintro e u1 ⟨rfl, hB⟩
    have HB1 := Lib.hid hB
    clear hB
    go_wp2_with fail
    refine (HK1.out _).mono ?_
    rintro e u2 ⟨rfl, hB⟩
    have HB2 := Lib.hid (HB1.out.trans (hB.mono HB1.out.size))
    clear hB
    go_wp2_with fail
    go_ret
    exact ⟨rfl, HB2.out⟩
end Go.Proofs.YtchfddlfpcgbbaaDoor
