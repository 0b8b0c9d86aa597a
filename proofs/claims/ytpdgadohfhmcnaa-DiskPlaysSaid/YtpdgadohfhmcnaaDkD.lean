/-
  A DISK: a write that waits; the power; a sync.
-/
import Derived.Test.YtpdgadohfhmcnaaDkC
namespace Go.Proofs.Ytpdgadohfhmcnaa
open Go.ChangeShapes Go.WideShapes Go.ChangeAt Go.RowKit

/-- what a call makes of a disk -/
def DkPost (n D : Nat) (F : Nat → Prop) (st : Dk.St) (w : World) (v : Value) (e : Ending) (w' : World) : Prop :=
  e = .returned v ∧ Kp F w w' ∧ ∃ F', Ext F w F' ∧ Disk n F' D st w'
theorem DkPost.same {n D : Nat} {F : Nat → Prop} {st : Dk.St} {w : World} (h : Disk n F D st w) (v : Value) : DkPost n D F st w v (.returned v) w := ⟨rfl, Kp.refl _ _, F, Ext.refl _ _, h⟩
/-- the disk's own cells are turned -/
theorem DkB.turn {n D R : Nat} {F : Nat → Prop} {v : Value} {am : Bool} {sy ct : Int} {st : Dk.St} {w w' : World} (h : DkB n F D R v am sy ct st w) (k : Kp (fun q => q = D) w w') {st' : Dk.St} {am' : Bool} {sy' ct' : Int}
    (hd : w'.heap[D]? = some (.cells #[.slice (some ⟨R, 0, none⟩) n n, v, .bool st'.on, .bool am', .int .i64 sy', .int .i64 ct'] 55 (0, 0))) (hl : st'.last = st.last) (hw : st'.wait = st.wait) (ha : ArmOk st' am' sy' ct') (hf : Dk.Wf n st') :
    DkB n F D R v am' sy' ct' st' w' := by
  refine ⟨h.fd, h.fr, h.fv, hd, ?_, ?_, ha, hf, fun i hi => Nat.lt_of_lt_of_le (h.lt i hi) k.size⟩
  · rw [hl]; exact (k.block R (h.lt R h.fr) (fun e => h.neDR e.symm)).trans h.hr
  · rw [hw]; exact own_kp h.own k (fun g hg => (h.neV g hg).1)
theorem kset (w : World) (D i : Nat) (v : Value) : Kp (fun q => q = D) w (w.setCell ⟨D, i, none⟩ v) := Kp.set w ⟨D, i, none⟩ v rfl
theorem Kp.one {F : Nat → Prop} {D : Nat} {w w' : World} (h : Kp (fun q => q = D) w w') (hD : F D) : Kp F w w' := h.mono (fun _ _ e => e ▸ hD)
set_option maxHeartbeats 1000000 in
theorem dkArm_any {n D : Nat} {F : Nat → Prop} {st : Dk.St} (s c : Int) (w : World) (h : Disk n F D st w) :
    Calls Try.prog 18 #[dkP D, .int .i64 s, .int .i64 c] w (DkPost n D F (Dk.armed st s c) w (.tuple #[])) := by
  have HC := Lib.hid (dkOn_any w h)
  have HH := Lib.hid h
  obtain ⟨R, v, am, sy, ct, h⟩ := h
  have HB := Lib.hid h
  have c3 := h.cs.c3
  have c4 := h.cs.c4
  have c5 := h.cs.c5
  have f3 := h.cs.fz 3
  have f4 := h.cs.fz 4
  have f5 := h.cs.fz 5
  have hlt := h.lt D h.fd
  clear h
  by_cases hon : st.on = true
  · have hA : Dk.armed st s c = { st with arm := some (s.toNat, c.toNat) } := if_pos hon
    rw [hon] at HC
    rw [hA]
    have hd := HB.out.hd
    have HS := Lib.hid (show Disk n F D { st with arm := some (s.toNat, c.toNat) } (((w.setCell ⟨D, 3, none⟩ (.bool true)).setCell ⟨D, 4, none⟩ (.int .i64 (max s 0))).setCell ⟨D, 5, none⟩ (.int .i64 (max c 0))) from
      ⟨R, v, true, max s 0, max c 0, HB.out.turn (((kset w D 3 _).trans (kset _ D 4 _) (fun _ _ e => e)).trans (kset _ D 5 _) (fun _ _ e => e)) (Lib.heap_setCell_same (i := 5) (Lib.heap_setCell_same (i := 4) (Lib.heap_setCell_same (i := 3) hd _) _) _) rfl rfl (fun _ => ⟨rfl, by omega, by omega⟩) ⟨HB.out.wf.len, HB.out.wf.ok, fun ho => absurd (show st.on = false from ho) (by rw [hon]; decide)⟩⟩)
    have HK := Lib.hid (show Kp F w (((w.setCell ⟨D, 3, none⟩ (.bool true)).setCell ⟨D, 4, none⟩ (.int .i64 (max s 0))).setCell ⟨D, 5, none⟩ (.int .i64 (max c 0))) from
      ((((kset w D 3 _).trans (kset _ D 4 _) (fun _ _ e => e)).trans (kset _ D 5 _) (fun _ _ e => e)).one HB.out.fd))
    clear hd hon hA
    go_enter Try.func18, Try.ntmps18
    go_wp2_with fail
    refine HC.out.mono ?_
    rintro x w' ⟨rfl, rfl⟩
    go_wp2_with fail
    go_end0
    exact ⟨rfl, HK.out, F, Ext.refl _ _, HS.out⟩
  · have hon' : st.on = false := by simpa using hon
    have hA : Dk.armed st s c = st := if_neg hon
    rw [hA]
    rw [hon'] at HC
    clear hon hon' hA
    go_enter Try.func18, Try.ntmps18
    go_wp2_with fail
    refine HC.out.mono ?_
    rintro x w' ⟨rfl, rfl⟩
    go_wp2_with fail
    go_end0
    exact DkPost.same HH.out _
theorem dkArm_nil (s c : Int) (w : World) : Calls Try.prog 18 #[.pointer none, .int .i64 s, .int .i64 c] w fun e w' => e = .returned (.tuple #[]) ∧ w = w' := by
  go_enter Try.func18, Try.ntmps18
  go_wp2_with fail
  refine (dkOn_nil _).mono ?_
  rintro x w' ⟨rfl, rfl⟩
  go_wp2_with fail
  go_end0
  exact ⟨rfl, rfl⟩
set_option maxHeartbeats 1000000 in
theorem dkDown_any {n D : Nat} {F : Nat → Prop} {st : Dk.St} (c : Int) (w : World) (h : Disk n F D st w) (hl : st.wait.length ≤ 100000) (hc : c ≤ 9223372036854775807) :
    Calls Try.prog 19 #[dkP D, .int .i64 c] w (DkPost n D F (Dk.down st c.toNat) w (.tuple #[])) := by
  have HC := Lib.hid (dkOn_any w h)
  have HH := Lib.hid h
  obtain ⟨R, v, am, sy, ct, h⟩ := h
  by_cases hon : st.on = true
  · have hA : Dk.down st c.toNat = { last := Dk.done st.last st.wait c.toNat, wait := [], on := false, arm := none } := if_pos hon
    have HDO := Lib.hid (dkDo_core c.toNat w h hl (by omega))
    have hmx : max c 0 = ((c.toNat : Nat) : Int) := by omega
    generalize c.toNat = q at *
    rw [hon] at HC
    rw [hA]
    clear hon hA h hc
    go_enter Try.func19, Try.ntmps19
    go_wp2_with fail
    refine HC.out.mono ?_
    rintro x w' ⟨rfl, rfl⟩
    go_wp2_with fail
    refine HDO.out.mono ?_
    rintro x w1 ⟨rfl, k1, F', e1, R', v', am', sy', ct', h1⟩
    have c2 := h1.cs.c2
    have f2 := h1.cs.fz 2
    have HS := Lib.hid (show Disk n F' D { last := Dk.done st.last st.wait q, wait := [], on := false, arm := none } (w1.setCell ⟨D, 2, none⟩ (.bool false)) from
      ⟨R', v', am', sy', ct', h1.turn (kset w1 D 2 _) (Lib.heap_setCell_same (i := 2) h1.hd _) rfl rfl (fun ho => by cases ho) ⟨h1.wf.len, (fun w hw => by cases hw), fun _ => ⟨rfl, rfl⟩⟩⟩)
    have HK := Lib.hid (show Kp F w (w1.setCell ⟨D, 2, none⟩ (.bool false)) from k1.trans ((kset w1 D 2 _).one h1.fd) (fun i hi f => e1.old i hi f))
    have HE := Lib.hid e1
    clear k1 e1 h1
    go_wp2_with fail
    go_end0
    exact ⟨rfl, HK.out, F', HE.out, HS.out⟩
  · have hon' : st.on = false := by simpa using hon
    have hA : Dk.down st c.toNat = st := if_neg hon
    rw [hA]
    rw [hon'] at HC
    clear hon hon' hA h
    go_enter Try.func19, Try.ntmps19
    go_wp2_with fail
    refine HC.out.mono ?_
    rintro x w' ⟨rfl, rfl⟩
    go_wp2_with fail
    go_end0
    exact DkPost.same HH.out _
theorem dkDown_nil (c : Int) (w : World) : Calls Try.prog 19 #[.pointer none, .int .i64 c] w fun e w' => e = .returned (.tuple #[]) ∧ w = w' := by
  go_enter Try.func19, Try.ntmps19
  go_wp2_with fail
  refine (dkOn_nil _).mono ?_
  rintro x w' ⟨rfl, rfl⟩
  go_wp2_with fail
  go_end0
  exact ⟨rfl, rfl⟩
set_option maxHeartbeats 1000000 in
theorem dkUp_any {n D : Nat} {F : Nat → Prop} {st : Dk.St} (w : World) (h : Disk n F D st w) :
    Calls Try.prog 20 #[dkP D] w (DkPost n D F (Dk.up st) w (.tuple #[])) := by
  have HH := Lib.hid h
  obtain ⟨R, v, am, sy, ct, h⟩ := h
  have c2 := h.cs.c2
  have c3 := h.cs.c3
  have f2 := h.cs.fz 2
  have f3 := h.cs.fz 3
  have hlt := h.lt D h.fd
  by_cases hon : st.on = true
  · have hA : Dk.up st = st := if_pos hon
    rw [hon] at c2
    rw [hA]
    clear hon hA h
    go_enter Try.func20, Try.ntmps20
    go_wp2_with fail
    go_end0
    exact DkPost.same HH.out _
  · have hon' : st.on = false := by simpa using hon
    have hA : Dk.up st = { st with on := true, arm := none } := if_neg hon
    rw [hA]
    have HS := Lib.hid (show Disk n F D { st with on := true, arm := none } ((w.setCell ⟨D, 2, none⟩ (.bool true)).setCell ⟨D, 3, none⟩ (.bool false)) from
      ⟨R, v, false, sy, ct, h.turn ((kset w D 2 _).trans (kset _ D 3 _) (fun _ _ e => e)) (Lib.heap_setCell_same (i := 3) (Lib.heap_setCell_same (i := 2) h.hd _) _) rfl rfl (fun _ => rfl) ⟨h.wf.len, h.wf.ok, fun ho => by cases ho⟩⟩)
    have HK := Lib.hid (show Kp F w ((w.setCell ⟨D, 2, none⟩ (.bool true)).setCell ⟨D, 3, none⟩ (.bool false)) from ((kset w D 2 _).trans (kset _ D 3 _) (fun _ _ e => e)).one h.fd)
    rw [hon'] at c2
    clear hon hon' hA h
    go_enter Try.func20, Try.ntmps20
    go_wp2_with fail
    go_end0
    exact ⟨rfl, HK.out, F, Ext.refl _ _, HS.out⟩
theorem dkUp_nil (w : World) : Calls Try.prog 20 #[.pointer none] w fun e w' => e = .returned (.tuple #[]) ∧ w = w' := by
  go_enter Try.func20, Try.ntmps20
  go_wp2_with fail
  go_end0
  exact ⟨rfl, rfl⟩
end Go.Proofs.Ytpdgadohfhmcnaa
