/-
  A DISK: a sync; a write that waits; a new one.
-/
import Derived.Test.YtpdgadohfhmcnaaDkD
namespace Go.Proofs.Ytpdgadohfhmcnaa
open Go.ChangeShapes Go.WideShapes Go.ChangeAt Go.RowKit

theorem arm_get {st : Dk.St} {am : Bool} {sy ct : Int} (h : ArmOk st am sy ct) (ho : st.on = true) : (st.arm = none → am = false) ∧ ∀ s c, st.arm = some (s, c) → am = true ∧ sy = (s : Int) ∧ ct = (c : Int) := by
  have h' := h ho
  constructor
  · intro e; rw [e] at h'; exact h'
  · intro s c e; rw [e] at h'; exact h'
set_option maxHeartbeats 2000000 in
theorem dkSync_any {n D : Nat} {F : Nat → Prop} {st : Dk.St} (w : World) (h : Disk n F D st w) (hl : st.wait.length ≤ 100000) (hc : ∀ s c, st.arm = some (s, c) → s ≤ 9223372036854775807 ∧ c ≤ 9223372036854775807) :
    Calls Try.prog 23 #[dkP D] w (DkPost n D F (Dk.sync st) w (.int .i64 (Dk.scode st))) := by
  have HC := Lib.hid (dkPower_any w h)
  have HH := Lib.hid h
  by_cases hon : st.on = true
  · rw [if_neg (by rw [hon]; decide)] at HC
    obtain ⟨R, v, am, sy, ct, hb⟩ := h
    have c3 := hb.cs.c3
    have c4 := hb.cs.c4
    have c5 := hb.cs.c5
    obtain ⟨g0, g1⟩ := arm_get hb.arm hon
    have hle := Dk.waits_le _ hb.wf.ok
    have hlt := hb.lt D hb.fd
    cases harm : st.arm with
    | none =>
      obtain rfl := g0 harm
      have e1 : Dk.scode st = 0 := by unfold Dk.scode; rw [if_neg (by rw [hon]; decide), harm]
      have e2 : Dk.sync st = { st with last := Dk.done st.last st.wait (Dk.waits st.wait), wait := [] } := by unfold Dk.sync; rw [if_neg (by rw [hon]; decide), harm]
      rw [e1, e2]
      have HW := Lib.hid (dkWaits_any w HH.out hl)
      have HDO := Lib.hid (fun (w1 : World) (b : Below w.heap.size w w1) => dkDo_core (Dk.waits st.wait) w1 (hb.below b) hl (by omega))
      have HAM := Lib.hid (show ∀ w', Disk n F D st w' → True from fun _ _ => trivial)
      have HARM := Lib.hid harm
      have HON := Lib.hid hon
      clear e1 e2 hb g0 g1 harm hon hc hle
      go_enter Try.func23, Try.ntmps23
      go_wp2_with fail
      refine HC.out.mono ?_
      rintro x w' ⟨rfl, rfl⟩
      go_wp2_with fail
      refine HW.out.mono ?_
      rintro x w1 ⟨rfl, b1⟩
      have B1 := Lib.hid b1
      clear b1
      go_wp2_with fail
      refine (HDO.out w1 B1.out).mono ?_
      rintro x w2 ⟨rfl, k2, F', e2, R', v', am', sy', ct', h2⟩
      have q3 := h2.cs.c3
      have ham : am' = false := (arm_get h2.arm HON.out).1 HARM.out
      subst ham
      have HS := Lib.hid (show Disk n F' D { st with last := Dk.done st.last st.wait (Dk.waits st.wait), wait := [] } w2 from ⟨R', v', false, sy', ct', h2⟩)
      have HK := Lib.hid ((Kp.of B1.out F).trans k2 (fun _ _ f => f))
      have HE := Lib.hid (show Ext F w F' from fun i hi => (e2 i hi).imp id (fun g => Nat.le_trans B1.out.size g))
      clear h2 k2 e2
      go_wp2_with fail
      go_ret
      exact ⟨rfl, HK.out, F', HE.out, HS.out⟩
    | some x =>
      obtain ⟨s, c⟩ := x
      obtain ⟨rfl, rfl, rfl⟩ := g1 s c harm
      have hsc := hc s c harm
      cases s with
      | zero =>
        have e1 : Dk.scode st = 16 := by unfold Dk.scode; rw [if_neg (by rw [hon]; decide), harm]; rfl
        have e2 : Dk.sync st = Dk.down st ((c : Int)).toNat := by unfold Dk.sync; rw [if_neg (by rw [hon]; decide), harm]; rfl
        rw [e1, e2]
        have HD := Lib.hid (dkDown_any (c : Int) w HH.out hl (by omega))
        generalize Dk.down st ((c : Int)).toNat = st' at *
        clear e1 e2 hb g0 g1 harm hon hc hle hsc
        go_enter Try.func23, Try.ntmps23
        go_wp2_with fail
        refine HC.out.mono ?_
        rintro x w' ⟨rfl, rfl⟩
        go_wp2_with fail
        refine HD.out.mono ?_
        rintro x w1 ⟨rfl, h1⟩
        have H1 := Lib.hid h1
        clear h1
        go_wp2_with fail
        go_ret
        exact ⟨rfl, H1.out⟩
      | succ s =>
        have e1 : Dk.scode st = 0 := by unfold Dk.scode; rw [if_neg (by rw [hon]; decide), harm]; rfl
        have e2 : Dk.sync st = { st with last := Dk.done st.last st.wait (Dk.waits st.wait), wait := [], arm := some (s, c) } := by unfold Dk.sync; rw [if_neg (by rw [hon]; decide), harm]
        rw [e1, e2]
        have HW := Lib.hid (dkWaits_any w HH.out hl)
        have HDO := Lib.hid (fun (w1 : World) (b : Below w.heap.size w w1) => dkDo_core (Dk.waits st.wait) w1 (hb.below b) hl (by omega))
        have HARM := Lib.hid harm
        have HON := Lib.hid hon
        have hs0 : (((s + 1 : Nat) : Int) == 0) = false := by simp; omega
        have hwr : IntKind.i64.wrap (((s + 1 : Nat) : Int) - 1) = (s : Int) := by rw [IntKind.wrap_i64]; omega
        generalize hS : ((s + 1 : Nat) : Int) = S at *
        have HSS := Lib.hid hS
        clear e1 e2 hb g0 g1 harm hon hc hle hsc hS
        go_enter Try.func23, Try.ntmps23
        go_wp2_with fail
        refine HC.out.mono ?_
        rintro x w' ⟨rfl, rfl⟩
        go_wp2_with fail
        refine HW.out.mono ?_
        rintro x w1 ⟨rfl, b1⟩
        have B1 := Lib.hid b1
        clear b1
        go_wp2_with fail
        refine (HDO.out w1 B1.out).mono ?_
        rintro x w2 ⟨rfl, k2, F', e2, R', v', am', sy', ct', h2⟩
        obtain ⟨rfl, rfl, rfl⟩ := (arm_get h2.arm HON.out).2 _ _ HARM.out
        rw [HSS.out] at h2
        have q3 := h2.cs.c3
        have q4 := h2.cs.c4
        have f4 := h2.cs.fz 4
        have HS := Lib.hid (show Disk n F' D { st with last := Dk.done st.last st.wait (Dk.waits st.wait), wait := [], arm := some (s, c) } (w2.setCell ⟨D, 4, none⟩ (.int .i64 (s : Int))) from
          ⟨R', v', true, (s : Int), (c : Int), h2.turn (kset w2 D 4 _) (Lib.heap_setCell_same (i := 4) h2.hd _) rfl rfl (fun _ => ⟨rfl, rfl, rfl⟩) ⟨h2.wf.len, h2.wf.ok, fun ho => absurd (show st.on = false from ho) (by rw [HON.out]; decide)⟩⟩)
        have HK := Lib.hid (((Kp.of B1.out F).trans k2 (fun _ _ f => f)).trans ((kset w2 D 4 (.int .i64 (s : Int))).one h2.fd) (fun i hi f => e2.old i (Nat.lt_of_lt_of_le hi B1.out.size) f))
        have HE := Lib.hid (show Ext F w F' from fun i hi => (e2 i hi).imp id (fun g => Nat.le_trans B1.out.size g))
        clear h2 k2 e2
        go_wp2_with fail
        go_ret
        exact ⟨rfl, HK.out, F', HE.out, HS.out⟩
  · have hon' : st.on = false := by simpa using hon
    have e1 : Dk.scode st = 16 := by unfold Dk.scode; rw [if_pos hon']
    have e2 : Dk.sync st = st := by unfold Dk.sync; rw [if_pos hon']
    rw [if_pos hon'] at HC
    rw [e1, e2]
    clear hon hon' e1 e2 hc h
    go_enter Try.func23, Try.ntmps23
    go_wp2_with fail
    refine HC.out.mono ?_
    rintro x w' ⟨rfl, rfl⟩
    go_wp2_with fail
    go_ret
    exact DkPost.same HH.out _
theorem dkSync_nil (w : World) : Calls Try.prog 23 #[.pointer none] w fun e w' => e = .returned (.int .i64 1) ∧ w = w' := by
  go_enter Try.func23, Try.ntmps23
  go_wp2_with fail
  refine (dkPower_nil _).mono ?_
  rintro x w' ⟨rfl, rfl⟩
  go_wp2_with fail
  go_ret
  exact ⟨rfl, rfl⟩
theorem dk_waited {n D R gg cap : Nat} {F : Nat → Prop} {v : Value} {am : Bool} {sy ct : Int} {st : Dk.St} {a : Int} {d : List UInt8} {w w2 : World} {o : Obj} (h : DkB n F D R v am sy ct st w) (G : (w.alloc o).grownBy w2 v.ownBlock)
    (O : w2.ownsRow 0 68 2 (.slice (some ⟨gg, 0, none⟩) (st.wait.length + 1) cap) (st.wait.length + 1) (wcells st.wait ++ [.int .i64 a, .string (ofL d)])) (hat : v.ownBlock = some gg ∨ gg = (w.alloc o).heap.size) (hlt : gg < w2.heap.size)
    (ha : ((a.toNat : Nat) : Int) = a) (ho : st.on = true) (hw : Dk.Wf n { st with wait := st.wait ++ [(a.toNat, d)] }) :
    w2.heap[D]? = some (.cells #[.slice (some ⟨R, 0, none⟩) n n, v, .bool st.on, .bool am, .int .i64 sy, .int .i64 ct] 55 (0, 0)) ∧
    DkPost n D F { st with wait := st.wait ++ [(a.toNat, d)] } w (.int .i64 0) (.returned (.int .i64 0)) (w2.setCell ⟨D, 1, none⟩ (.slice (some ⟨gg, 0, none⟩) (st.wait.length + 1) cap)) := by
  have hsz : w.heap.size < (w.alloc o).heap.size := by simp
  have hb : Below w.heap.size w (w.alloc o) := (Below.refl _ _).alloc (Nat.le_refl _) _
  have h1 := h.below hb
  have k2 : Kp F (w.alloc o) w2 := Kp.grown G (fun k hk => h.fv k hk)
  have hD := (G.block D (h1.lt D h1.fd) (fun e => (h1.neV D e.symm).1 rfl)).trans h1.hd
  have hR := (G.block R (h1.lt R h1.fr) (fun e => (h1.neV R e.symm).2 rfl)).trans h1.hr
  have hgD : gg ≠ D := by
    rcases hat with e | e
    · exact (h1.neV gg e).1
    · have := h1.lt D h1.fd; omega
  have hlt' : ∀ k, F k → k < w2.heap.size := fun k hk => Nat.lt_of_lt_of_le (h1.lt k hk) k2.size
  refine ⟨hD, rfl, ((Kp.of hb F).trans k2 (fun _ _ f => f)).trans ((kset w2 D 1 (.slice (some ⟨gg, 0, none⟩) (st.wait.length + 1) cap)).one (F := F) h.fd) (fun _ _ f => f), fun k => F k ∨ k = gg, ?_, R, .slice (some ⟨gg, 0, none⟩) (st.wait.length + 1) cap, am, sy, ct, .inl h.fd, .inl h.fr, ?_, ?_, ?_, ?_, fun _ => h.arm ho, hw, ?_⟩
  · rintro k (hk | rfl)
    · exact .inl hk
    · rcases hat with e | e
      · exact .inl (h.fv _ e)
      · exact .inr (by omega)
  · intro g hg
    right
    simpa [Value.ownBlock] using hg.symm
  · exact Lib.heap_setCell_same (i := 1) hD _
  · rw [Below.heap_setCell _ _ _ _ (fun e => h.neDR e.symm)]; exact hR
  · have e : wcells (st.wait ++ [(a.toNat, d)]) = wcells st.wait ++ [.int .i64 a, .string (ofL d)] := by rw [wcells_app]; simp [wcells, ha]
    show (w2.setCell ⟨D, 1, none⟩ _).ownsRow 0 68 2 _ (st.wait ++ [(a.toNat, d)]).length (wcells (st.wait ++ [(a.toNat, d)]))
    rw [e, List.length_append]
    exact own_kp O (kset w2 D 1 _) (fun g hg e => hgD (by have : gg = g := by simpa [Value.ownBlock] using hg
                                                          rw [this]; exact e))
  · rintro k (hk | rfl)
    · have := hlt' k hk; simpa [World.setCell] using this
    · simpa [World.setCell] using hlt
theorem infoWr : (Try.prog.info? 68).map (fun i => (i.zero, i.size, i.bytes)) = some (some (.agg #[.int .i64 0, .string ⟨#[]⟩]), 2, 24) := by kernel_rfl
set_option maxHeartbeats 2000000 in
theorem dkWrite_any {n D : Nat} {F : Nat → Prop} {st : Dk.St} (a : Int) (d : List UInt8) (w : World) (h : Disk n F D st w) (hl : st.wait.length ≤ 100000) (hd : d.length ≤ 100000) :
    Calls Try.prog 22 #[dkP D, .int .i64 a, .string (ofL d)] w (DkPost n D F (Dk.write n st a d) w (.int .i64 (Dk.wcode n st a d))) := by
  have hz : (ofL d).size = d.length := ofL_size d
  have HC := Lib.hid (dkFind_any a w h)
  have HH := Lib.hid h
  by_cases h0 : Dk.code n st a = 0
  · rw [h0] at HC
    by_cases h64 : 64 < d.length
    · have e1 : Dk.wcode n st a d = 5 := by unfold Dk.wcode; rw [if_neg (by omega), if_pos h64]
      have e2 : Dk.write n st a d = st := by unfold Dk.write; rw [if_neg (by rw [e1]; decide)]
      rw [e1, e2]
      clear e1 e2 h0 h
      go_enter Try.func22, Try.ntmps22
      go_wp2_with fail
      refine HC.out.mono ?_
      rintro x w' ⟨rfl, rfl⟩
      go_wp2_with fail
      go_ret
      exact DkPost.same HH.out _
    · have e1 : Dk.wcode n st a d = 0 := by unfold Dk.wcode; rw [if_neg (by omega), if_neg h64]
      have e2 : Dk.write n st a d = { st with wait := st.wait ++ [(a.toNat, d)] } := if_pos e1
      have HWF := Lib.hid (Dk.write_wf HH.out.choose_spec.choose_spec.choose_spec.choose_spec.choose_spec.wf a d)
      rw [e2] at HWF
      rw [e1, e2]
      obtain ⟨h3, h4, h5⟩ := Dk.code_ok h0
      have HON := Lib.hid h3
      have HA0 := Lib.hid (show ((a.toNat : Nat) : Int) = a by omega)
      obtain ⟨R, v, am, sy, ct, hb⟩ := h
      have HB := Lib.hid hb
      have c1 := hb.cs.c1
      have f1 := hb.cs.fz 1
      have hlt := hb.lt D hb.fd
      obtain ⟨A, cp, rfl, hcp, -, -⟩ := Rw.own_cells hb.own
      obtain ⟨i1, hi1, hz0, hz1, hz2⟩ := info_parts infoWr
      have hb64 : decide ((d.length : Int) > 64) = false := decide_eq_false (by omega)
      clear e1 e2 h0 hb h3 h4 h5 h64
      go_enter Try.func22, Try.ntmps22
      go_wp2_with fail
      refine HC.out.mono ?_
      rintro x w' ⟨rfl, rfl⟩
      go_wp2_with (first
        | (at_builtin; refine wpList_append_lies _ rfl _ _ 53 rfl 0 68 i1 _ 2 24 Try.underlying53 hi1 hz0 hz1 hz2 rfl (by omega) (.slice A st.wait.length cp) st.wait.length (wcells st.wait) (by rfl) (HB.out.own.alloc _) ⟨w.heap.size, 0, none⟩ 1 1 [.int .i64 a, .string (ofL d)] (by rfl) (by rfl) (World.news_of_block (heap_alloc_new w _)) (by simp [Value.oneCell']) (by omega) (by unfold maxLen; omega) (by omega) (by simp) _ rfl ?_; intro gg cap w2 hown1 hgrow hat hlt'; have HW := Lib.hid hown1; have HG := Lib.hid hgrow; have HAT := Lib.hid hat; have HLT := Lib.hid hlt'; clear hown1 hgrow hat hlt'; have HP := Lib.hid (dk_waited HB.out HG.out HW.out HAT.out HLT.out HA0.out HON.out HWF.out); have hD := HP.out.1; have q1 : w2.cell? ⟨D, 1, none⟩ = some (.slice A st.wait.length cp) := (by rw [Lib.cell_of_heap hD]; rfl); have q2 := Lib.frozen_of_heap hD 1; have hlt2 : D < w2.heap.size := (Array.getElem?_eq_some_iff.1 hD).1; clear hD))
      go_ret
      exact HP.out.2
  · have e1 : Dk.wcode n st a d = Dk.code n st a := by unfold Dk.wcode; rw [if_pos h0]
    have e2 : Dk.write n st a d = st := by unfold Dk.write; rw [if_neg (by rw [e1]; exact h0)]
    have hb : (Dk.code n st a != 0) = true := by simpa using h0
    rw [e1, e2]
    generalize Dk.code n st a = q at *
    clear e1 e2 h0 h
    go_enter Try.func22, Try.ntmps22
    go_wp2_with fail
    refine HC.out.mono ?_
    rintro x w' ⟨rfl, rfl⟩
    go_wp2_with fail
    go_ret
    exact DkPost.same HH.out _
theorem dkWrite_nil (a : Int) (s : ByteArray) (w : World) : Calls Try.prog 22 #[.pointer none, .int .i64 a, .string s] w fun e w' => e = .returned (.int .i64 1) ∧ w = w' := by
  go_enter Try.func22, Try.ntmps22
  go_wp2_with fail
  refine (dkFind_nil _ _).mono ?_
  rintro x w' ⟨rfl, rfl⟩
  go_wp2_with fail
  go_ret
  exact ⟨rfl, rfl⟩
end Go.Proofs.Ytpdgadohfhmcnaa
