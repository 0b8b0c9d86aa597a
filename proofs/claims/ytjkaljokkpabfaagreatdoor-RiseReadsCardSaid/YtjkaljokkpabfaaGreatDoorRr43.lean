/-
  RISE READ, plain.
-/
import Derived.Test.YtjkaljokkpabfaaGreatDoorRr08

section
namespace Go.Proofs.YtjkaljokkpabfaaGreatDoor
open Go.ChangeShapes Go.WideShapes Go.ChangeAt Go.RowKit
namespace Rs
/-- so many, one behind the other, whatever reads one -/
def rdF (f : LSt → Ml × LSt) : Nat → LSt → List Ml × LSt
  | 0, s => ([], s)
  | n + 1, s => ((f s).1 :: (rdF f n (f s).2).1, (rdF f n (f s).2).2)
theorem rdF_len (f : LSt → Ml × LSt) : ∀ (n : Nat) (s : LSt), (rdF f n s).1.length = n
  | 0, _ => rfl
  | n + 1, s => by simp [rdF, rdF_len f n]
theorem rdF_ok {f : LSt → Ml × LSt} (hf : ∀ s, lOk s → lOk (f s).2) : ∀ (n : Nat) {s : LSt}, lOk s → lOk (rdF f n s).2
  | 0, _, h => h
  | n + 1, _, h => rdF_ok hf n (hf _ h)
theorem rdF_snoc (f : LSt → Ml × LSt) : ∀ (n : Nat) (s : LSt), rdF f (n + 1) s = ((rdF f n s).1 ++ [(f (rdF f n s).2).1], (f (rdF f n s).2).2)
  | 0, s => rfl
  | n + 1, s => by
    have h := rdF_snoc f n (f s).2
    show ((f s).1 :: (rdF f (n + 1) (f s).2).1, (rdF f (n + 1) (f s).2).2) = _
    rw [h]
    rfl
theorem rdF_err {f : LSt → Ml × LSt} (hf : ∀ s, lOk s → s.2 ≠ 0 → (f s).2 = s) : ∀ (n : Nat) {s : LSt}, lOk s → s.2 ≠ 0 → (rdF f n s).2 = s
  | 0, _, _, _ => rfl
  | n + 1, s, h, he => by
    show (rdF f n (f s).2).2 = s
    rw [hf s h he]
    exact rdF_err hf n h he
theorem rdF_all {f : LSt → Ml × LSt} {P : Ml → Prop} (hf : ∀ s, P (f s).1) : ∀ (n : Nat) (s : LSt), ∀ x ∈ (rdF f n s).1, P x
  | 0, _, x, h => by simp [rdF] at h
  | n + 1, s, x, h => by
    rcases List.mem_cons.1 (show x ∈ (f s).1 :: (rdF f n (f s).2).1 from h) with e | e
    · rw [e]; exact hf s
    · exact rdF_all hf n _ x e
theorem rdF_code {f : LSt → Ml × LSt} (h1 : ∀ s, lOk s → lOk (f s).2) (h2 : ∀ s, lOk s → s.2 ≠ 0 → (f s).2 = s) (h3 : ∀ s, (f s).2.2 = 0 → (f s).1.code = 0) : ∀ (n : Nat) {s : LSt}, lOk s → (rdF f n s).2.2 = 0 → ∀ x ∈ (rdF f n s).1, x.code = 0
  | 0, _, _, _, x, h => by simp [rdF] at h
  | n + 1, s, hok, he, x, h => by
    have he2 : (rdF f n (f s).2).2.2 = 0 := he
    have h0 : (f s).2.2 = 0 := by
      by_cases g : (f s).2.2 = 0
      · exact g
      · rw [rdF_err h2 n (h1 s hok) g] at he2; exact he2
    rcases List.mem_cons.1 (show x ∈ (f s).1 :: (rdF f n (f s).2).1 from h) with e | e
    · rw [e]; exact h3 s h0
    · exact rdF_code h1 h2 h3 n (h1 s hok) he2 x e
theorem rd_snd (s : LSt) : (Ml.rd s).2 = Ml.fin s := by unfold Ml.rd; rfl
theorem rd_ok (s : LSt) (h : lOk s) : lOk (Ml.rd s).2 := by rw [rd_snd]; exact Ml.okF h
def rds : Nat → LSt → List Ml × LSt := rdF Ml.rd
theorem rds_len (n : Nat) (s : LSt) : (rds n s).1.length = n := rdF_len _ n s
theorem lOk_rds (n : Nat) {s : LSt} (h : lOk s) : lOk (rds n s).2 := rdF_ok rd_ok n h
theorem rds_snoc (n : Nat) (s : LSt) : rds (n + 1) s = ((rds n s).1 ++ [(Ml.rd (rds n s).2).1], (Ml.rd (rds n s).2).2) := rdF_snoc _ n s
theorem hread_err {s : LSt} (h : lOk s) (he : s.2 ≠ 0) : (Hd.hread s).2 = s := by
  have h1 : s.1 = [] := h he
  have h2 : Oct.val (lOut s.1 1) = 0 := by rw [h1]; rfl
  unfold Hd.hread
  rw [h2, if_neg (by omega)]
  show lRaw s 1 = s
  exact lRaw_err h he 1
theorem rd_err {s : LSt} (h : lOk s) (he : s.2 ≠ 0) : (Ml.rd s).2 = s := by
  have e1 : Ml.s1 s = s := lRaw_err h he 8
  have e2 : Ml.s2 s = s := by unfold Ml.s2; rw [e1]; exact lText_err h he 16
  have e3 : Ml.s3 s = s := by unfold Ml.s3; rw [e2]; exact lText_err h he 64
  have e4 : Ml.s4 s = s := by unfold Ml.s4; rw [e3]; exact hread_err h he
  have e5 : Ml.s5 s = s := by unfold Ml.s5; rw [e4]; exact lText_err h he 256
  have e6 : Ml.s6 s = s := by unfold Ml.s6; rw [e5]; exact lRaw_err h he 8
  have e7 : Ml.s7 s = s := by unfold Ml.s7; rw [e6]; exact lRaw_err h he 1
  rw [rd_snd]
  unfold Ml.fin
  rw [e7]
  unfold lFail
  rw [if_pos (.inr he)]
theorem rds_err (n : Nat) {s : LSt} (h : lOk s) (he : s.2 ≠ 0) : (rds n s).2 = s := rdF_err (fun _ h he => rd_err h he) n h he
def mid (T n : Nat) (s : LSt) : LSt := if 16 < n then lFail s 6 else if n ≠ min T 16 then lFail s 7 else s
theorem lOk_mid {T n : Nat} {s : LSt} (h : lOk s) : lOk (mid T n s) := by
  unfold mid
  split
  · exact lOk_fail h _
  · split
    · exact lOk_fail h _
    · exact h
def readT (s : LSt) : Nat := Oct.val (lOut s.1 8)
def readN (s : LSt) : Nat := Oct.val (lOut (lRaw s 8).1 1)
def readS (s : LSt) : LSt := mid (readT s) (readN s) (lRaw (lRaw s 8) 1)
def readE (s : LSt) : LSt := (rds (readN s) (readS s)).2
/-- the rise that is read -/
def readA (s : LSt) : Nat × List Ml := if (readE s).2 ≠ 0 then (0, []) else (readT s, (rds (readN s) (readS s)).1)
theorem readN_lt (s : LSt) : readN s < 256 := val_out_lt _ 1
theorem readT_lt (s : LSt) : readT s < 18446744073709551616 := val_out_lt _ 8
theorem lOk_readS {s : LSt} (h : lOk s) : lOk (readS s) := lOk_mid (lOk_raw (lOk_raw h 8) 1)
theorem rd_code {s : LSt} (he : (Ml.rd s).2.2 = 0) : (Ml.rd s).1.code = 0 := by
  have h1 : (Ml.fin s).2 = 0 := by rw [← rd_snd]; exact he
  have h2 : (Ml.rd s).1 = Ml.got s := by
    show (if (Ml.fin s).2 ≠ 0 then Ml.zero else Ml.got s) = _
    rw [if_neg (fun g => g h1)]
  rw [h2]
  unfold Ml.fin lFail at h1
  by_cases hc : ((Ml.got s).code : Int) = 0
  · omega
  · split at h1
    · rename_i h3
      rcases h3 with h3 | h3
      · exact absurd h3 hc
      · exact absurd h1 h3
    · exact absurd h1 hc
theorem rd_fits (s : LSt) : Ml.Fits (Ml.rd s).1 := by
  show Ml.Fits (if (Ml.fin s).2 ≠ 0 then Ml.zero else Ml.got s)
  split
  · exact ⟨by decide, by decide, by decide, fun p hp => by simp [Ml.zero] at hp⟩
  · exact Ml.got_fits s
theorem rds_fits (n : Nat) (s : LSt) : ∀ x ∈ (rds n s).1, Ml.Fits x := rdF_all rd_fits n s
theorem rds_code (n : Nat) {s : LSt} (h : lOk s) (he : (rds n s).2.2 = 0) : ∀ x ∈ (rds n s).1, x.code = 0 := rdF_code rd_ok (fun _ h he => rd_err h he) (fun _ he => rd_code he) n h he
end Rs
end Go.Proofs.YtjkaljokkpabfaaGreatDoor
end
