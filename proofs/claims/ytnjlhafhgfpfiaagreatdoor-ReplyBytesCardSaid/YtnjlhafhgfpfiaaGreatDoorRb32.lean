/-
  A REPLY's COPY, as the laws make it; which are gone through: walked.
-/
import Derived.Test.YtnjlhafhgfpfiaaGreatDoorRb16
import Derived.Test.YtnjlhafhgfpfiaaGreatDoorRb31

section
namespace Go.Proofs.YtnjlhafhgfpfiaaGreatDoor
open Go.ChangeShapes Go.WideShapes Go.ChangeAt Go.RowKit
def ReToPost (x : Re) (w : World) (e : Ending) (w' : World) : Prop := ∃ A' c', e = .returned (reV x A' c') ∧ x.head.length ≤ c' ∧ Prs w' A' x.head ∧ Below w.heap.size w w'
set_option maxRecDepth 100000 in
set_option maxHeartbeats 4000000 in
theorem re_To_any (x : Re) (A : Option Addr) (c : Nat) (w : World) (hl : x.head.length ≤ 100000) (hc : x.head.length ≤ c) (hp : Prs w A x.head) :
    Calls Tryz.prog 7 #[reV x A c] w (ReToPost x w) := by
  have b1 : BoxC w w.heap.size (reL x A c) (w.alloc (.cells #[.int .u8 (x.ch.toNat : Int), .int .u8 (x.kd.toNat : Int), .int .u64 (x.n : Int), .int .u64 (x.m : Int), .bool x.yes, .string (ofL x.name), .int .u64 (x.id : Int), .string (ofL x.shop), .string (ofL x.key), .slice A x.head.length c, .string (ofL x.body), .int .u64 (x.due : Int), .int .u8 (x.hops : Int)] 30)) := BoxC.new (Nat.le_refl _) #[.int .u8 (x.ch.toNat : Int), .int .u8 (x.kd.toNat : Int), .int .u64 (x.n : Int), .int .u64 (x.m : Int), .bool x.yes, .string (ofL x.name), .int .u64 (x.id : Int), .string (ofL x.shop), .string (ofL x.key), .slice A x.head.length c, .string (ofL x.body), .int .u64 (x.due : Int), .int .u8 (x.hops : Int)] 30
  have b2 : BoxC w (w.heap.size + 1) [.int .u8 0, .int .u8 0, .int .u64 0, .int .u64 0, .bool false, .string ⟨#[]⟩, .int .u64 0, .string ⟨#[]⟩, .string ⟨#[]⟩, .slice none 0 0, .string ⟨#[]⟩, .int .u64 0, .int .u8 0] ((w.alloc (.cells #[.int .u8 (x.ch.toNat : Int), .int .u8 (x.kd.toNat : Int), .int .u64 (x.n : Int), .int .u64 (x.m : Int), .bool x.yes, .string (ofL x.name), .int .u64 (x.id : Int), .string (ofL x.shop), .string (ofL x.key), .slice A x.head.length c, .string (ofL x.body), .int .u64 (x.due : Int), .int .u8 (x.hops : Int)] 30)).alloc (.cells #[.int .u8 0, .int .u8 0, .int .u64 0, .int .u64 0, .bool false, .string ⟨#[]⟩, .int .u64 0, .string ⟨#[]⟩, .string ⟨#[]⟩, .slice none 0 0, .string ⟨#[]⟩, .int .u64 0, .int .u8 0] 33)) := by
    have := BoxC.new (w := w) (W := (w.alloc (.cells #[.int .u8 (x.ch.toNat : Int), .int .u8 (x.kd.toNat : Int), .int .u64 (x.n : Int), .int .u64 (x.m : Int), .bool x.yes, .string (ofL x.name), .int .u64 (x.id : Int), .string (ofL x.shop), .string (ofL x.key), .slice A x.head.length c, .string (ofL x.body), .int .u64 (x.due : Int), .int .u8 (x.hops : Int)] 30))) (by simp) #[.int .u8 0, .int .u8 0, .int .u64 0, .int .u64 0, .bool false, .string ⟨#[]⟩, .int .u64 0, .string ⟨#[]⟩, .string ⟨#[]⟩, .slice none 0 0, .string ⟨#[]⟩, .int .u64 0, .int .u8 0] 33
    simpa using this
  have b3 : BoxC w (w.heap.size + 1 + 1) (reL x A c) (((w.alloc (.cells #[.int .u8 (x.ch.toNat : Int), .int .u8 (x.kd.toNat : Int), .int .u64 (x.n : Int), .int .u64 (x.m : Int), .bool x.yes, .string (ofL x.name), .int .u64 (x.id : Int), .string (ofL x.shop), .string (ofL x.key), .slice A x.head.length c, .string (ofL x.body), .int .u64 (x.due : Int), .int .u8 (x.hops : Int)] 30)).alloc (.cells #[.int .u8 0, .int .u8 0, .int .u64 0, .int .u64 0, .bool false, .string ⟨#[]⟩, .int .u64 0, .string ⟨#[]⟩, .string ⟨#[]⟩, .slice none 0 0, .string ⟨#[]⟩, .int .u64 0, .int .u8 0] 33)).alloc (.cells #[.int .u8 (x.ch.toNat : Int), .int .u8 (x.kd.toNat : Int), .int .u64 (x.n : Int), .int .u64 (x.m : Int), .bool x.yes, .string (ofL x.name), .int .u64 (x.id : Int), .string (ofL x.shop), .string (ofL x.key), .slice A x.head.length c, .string (ofL x.body), .int .u64 (x.due : Int), .int .u8 (x.hops : Int)] 33)) := by
    have := BoxC.new (w := w) (W := ((w.alloc (.cells #[.int .u8 (x.ch.toNat : Int), .int .u8 (x.kd.toNat : Int), .int .u64 (x.n : Int), .int .u64 (x.m : Int), .bool x.yes, .string (ofL x.name), .int .u64 (x.id : Int), .string (ofL x.shop), .string (ofL x.key), .slice A x.head.length c, .string (ofL x.body), .int .u64 (x.due : Int), .int .u8 (x.hops : Int)] 30)).alloc (.cells #[.int .u8 0, .int .u8 0, .int .u64 0, .int .u64 0, .bool false, .string ⟨#[]⟩, .int .u64 0, .string ⟨#[]⟩, .string ⟨#[]⟩, .slice none 0 0, .string ⟨#[]⟩, .int .u64 0, .int .u8 0] 33))) (by simp; omega) #[.int .u8 (x.ch.toNat : Int), .int .u8 (x.kd.toNat : Int), .int .u64 (x.n : Int), .int .u64 (x.m : Int), .bool x.yes, .string (ofL x.name), .int .u64 (x.id : Int), .string (ofL x.shop), .string (ofL x.key), .slice A x.head.length c, .string (ofL x.body), .int .u64 (x.due : Int), .int .u8 (x.hops : Int)] 33
    simpa [reL] using this
  have a2 : Below ((w.alloc (.cells #[.int .u8 (x.ch.toNat : Int), .int .u8 (x.kd.toNat : Int), .int .u64 (x.n : Int), .int .u64 (x.m : Int), .bool x.yes, .string (ofL x.name), .int .u64 (x.id : Int), .string (ofL x.shop), .string (ofL x.key), .slice A x.head.length c, .string (ofL x.body), .int .u64 (x.due : Int), .int .u8 (x.hops : Int)] 30)).alloc (.cells #[.int .u8 0, .int .u8 0, .int .u64 0, .int .u64 0, .bool false, .string ⟨#[]⟩, .int .u64 0, .string ⟨#[]⟩, .string ⟨#[]⟩, .slice none 0 0, .string ⟨#[]⟩, .int .u64 0, .int .u8 0] 33)).heap.size ((w.alloc (.cells #[.int .u8 (x.ch.toNat : Int), .int .u8 (x.kd.toNat : Int), .int .u64 (x.n : Int), .int .u64 (x.m : Int), .bool x.yes, .string (ofL x.name), .int .u64 (x.id : Int), .string (ofL x.shop), .string (ofL x.key), .slice A x.head.length c, .string (ofL x.body), .int .u64 (x.due : Int), .int .u8 (x.hops : Int)] 30)).alloc (.cells #[.int .u8 0, .int .u8 0, .int .u64 0, .int .u64 0, .bool false, .string ⟨#[]⟩, .int .u64 0, .string ⟨#[]⟩, .string ⟨#[]⟩, .slice none 0 0, .string ⟨#[]⟩, .int .u64 0, .int .u8 0] 33)) (((w.alloc (.cells #[.int .u8 (x.ch.toNat : Int), .int .u8 (x.kd.toNat : Int), .int .u64 (x.n : Int), .int .u64 (x.m : Int), .bool x.yes, .string (ofL x.name), .int .u64 (x.id : Int), .string (ofL x.shop), .string (ofL x.key), .slice A x.head.length c, .string (ofL x.body), .int .u64 (x.due : Int), .int .u8 (x.hops : Int)] 30)).alloc (.cells #[.int .u8 0, .int .u8 0, .int .u64 0, .int .u64 0, .bool false, .string ⟨#[]⟩, .int .u64 0, .string ⟨#[]⟩, .string ⟨#[]⟩, .slice none 0 0, .string ⟨#[]⟩, .int .u64 0, .int .u8 0] 33)).alloc (.cells #[.int .u8 (x.ch.toNat : Int), .int .u8 (x.kd.toNat : Int), .int .u64 (x.n : Int), .int .u64 (x.m : Int), .bool x.yes, .string (ofL x.name), .int .u64 (x.id : Int), .string (ofL x.shop), .string (ofL x.key), .slice A x.head.length c, .string (ofL x.body), .int .u64 (x.due : Int), .int .u8 (x.hops : Int)] 33)) := (Below.refl _ _).alloc (Nat.le_refl _) _
  have a3 : Below (((w.alloc (.cells #[.int .u8 (x.ch.toNat : Int), .int .u8 (x.kd.toNat : Int), .int .u64 (x.n : Int), .int .u64 (x.m : Int), .bool x.yes, .string (ofL x.name), .int .u64 (x.id : Int), .string (ofL x.shop), .string (ofL x.key), .slice A x.head.length c, .string (ofL x.body), .int .u64 (x.due : Int), .int .u8 (x.hops : Int)] 30)).alloc (.cells #[.int .u8 0, .int .u8 0, .int .u64 0, .int .u64 0, .bool false, .string ⟨#[]⟩, .int .u64 0, .string ⟨#[]⟩, .string ⟨#[]⟩, .slice none 0 0, .string ⟨#[]⟩, .int .u64 0, .int .u8 0] 33)).alloc (.cells #[.int .u8 (x.ch.toNat : Int), .int .u8 (x.kd.toNat : Int), .int .u64 (x.n : Int), .int .u64 (x.m : Int), .bool x.yes, .string (ofL x.name), .int .u64 (x.id : Int), .string (ofL x.shop), .string (ofL x.key), .slice A x.head.length c, .string (ofL x.body), .int .u64 (x.due : Int), .int .u8 (x.hops : Int)] 33)).heap.size (((w.alloc (.cells #[.int .u8 (x.ch.toNat : Int), .int .u8 (x.kd.toNat : Int), .int .u64 (x.n : Int), .int .u64 (x.m : Int), .bool x.yes, .string (ofL x.name), .int .u64 (x.id : Int), .string (ofL x.shop), .string (ofL x.key), .slice A x.head.length c, .string (ofL x.body), .int .u64 (x.due : Int), .int .u8 (x.hops : Int)] 30)).alloc (.cells #[.int .u8 0, .int .u8 0, .int .u64 0, .int .u64 0, .bool false, .string ⟨#[]⟩, .int .u64 0, .string ⟨#[]⟩, .string ⟨#[]⟩, .slice none 0 0, .string ⟨#[]⟩, .int .u64 0, .int .u8 0] 33)).alloc (.cells #[.int .u8 (x.ch.toNat : Int), .int .u8 (x.kd.toNat : Int), .int .u64 (x.n : Int), .int .u64 (x.m : Int), .bool x.yes, .string (ofL x.name), .int .u64 (x.id : Int), .string (ofL x.shop), .string (ofL x.key), .slice A x.head.length c, .string (ofL x.body), .int .u64 (x.due : Int), .int .u8 (x.hops : Int)] 33)) ((((w.alloc (.cells #[.int .u8 (x.ch.toNat : Int), .int .u8 (x.kd.toNat : Int), .int .u64 (x.n : Int), .int .u64 (x.m : Int), .bool x.yes, .string (ofL x.name), .int .u64 (x.id : Int), .string (ofL x.shop), .string (ofL x.key), .slice A x.head.length c, .string (ofL x.body), .int .u64 (x.due : Int), .int .u8 (x.hops : Int)] 30)).alloc (.cells #[.int .u8 0, .int .u8 0, .int .u64 0, .int .u64 0, .bool false, .string ⟨#[]⟩, .int .u64 0, .string ⟨#[]⟩, .string ⟨#[]⟩, .slice none 0 0, .string ⟨#[]⟩, .int .u64 0, .int .u8 0] 33)).alloc (.cells #[.int .u8 (x.ch.toNat : Int), .int .u8 (x.kd.toNat : Int), .int .u64 (x.n : Int), .int .u64 (x.m : Int), .bool x.yes, .string (ofL x.name), .int .u64 (x.id : Int), .string (ofL x.shop), .string (ofL x.key), .slice A x.head.length c, .string (ofL x.body), .int .u64 (x.due : Int), .int .u8 (x.hops : Int)] 33)).alloc (.cells #[] 86)) := (Below.refl _ _).alloc (Nat.le_refl _) _
  have a1 : Below (w.alloc (.cells #[.int .u8 (x.ch.toNat : Int), .int .u8 (x.kd.toNat : Int), .int .u64 (x.n : Int), .int .u64 (x.m : Int), .bool x.yes, .string (ofL x.name), .int .u64 (x.id : Int), .string (ofL x.shop), .string (ofL x.key), .slice A x.head.length c, .string (ofL x.body), .int .u64 (x.due : Int), .int .u8 (x.hops : Int)] 30)).heap.size (w.alloc (.cells #[.int .u8 (x.ch.toNat : Int), .int .u8 (x.kd.toNat : Int), .int .u64 (x.n : Int), .int .u64 (x.m : Int), .bool x.yes, .string (ofL x.name), .int .u64 (x.id : Int), .string (ofL x.shop), .string (ofL x.key), .slice A x.head.length c, .string (ofL x.body), .int .u64 (x.due : Int), .int .u8 (x.hops : Int)] 30)) ((w.alloc (.cells #[.int .u8 (x.ch.toNat : Int), .int .u8 (x.kd.toNat : Int), .int .u64 (x.n : Int), .int .u64 (x.m : Int), .bool x.yes, .string (ofL x.name), .int .u64 (x.id : Int), .string (ofL x.shop), .string (ofL x.key), .slice A x.head.length c, .string (ofL x.body), .int .u64 (x.due : Int), .int .u8 (x.hops : Int)] 30)).alloc (.cells #[.int .u8 0, .int .u8 0, .int .u64 0, .int .u64 0, .bool false, .string ⟨#[]⟩, .int .u64 0, .string ⟨#[]⟩, .string ⟨#[]⟩, .slice none 0 0, .string ⟨#[]⟩, .int .u64 0, .int .u8 0] 33)) := (Below.refl _ _).alloc (Nat.le_refl _) _
  have a0 : Below w.heap.size w (w.alloc (.cells #[.int .u8 (x.ch.toNat : Int), .int .u8 (x.kd.toNat : Int), .int .u64 (x.n : Int), .int .u64 (x.m : Int), .bool x.yes, .string (ofL x.name), .int .u64 (x.id : Int), .string (ofL x.shop), .string (ofL x.key), .slice A x.head.length c, .string (ofL x.body), .int .u64 (x.due : Int), .int .u8 (x.hops : Int)] 30)) := (Below.refl _ _).alloc (Nat.le_refl _) _
  have hB4 : Below w.heap.size w ((((w.alloc (.cells #[.int .u8 (x.ch.toNat : Int), .int .u8 (x.kd.toNat : Int), .int .u64 (x.n : Int), .int .u64 (x.m : Int), .bool x.yes, .string (ofL x.name), .int .u64 (x.id : Int), .string (ofL x.shop), .string (ofL x.key), .slice A x.head.length c, .string (ofL x.body), .int .u64 (x.due : Int), .int .u8 (x.hops : Int)] 30)).alloc (.cells #[.int .u8 0, .int .u8 0, .int .u64 0, .int .u64 0, .bool false, .string ⟨#[]⟩, .int .u64 0, .string ⟨#[]⟩, .string ⟨#[]⟩, .slice none 0 0, .string ⟨#[]⟩, .int .u64 0, .int .u8 0] 33)).alloc (.cells #[.int .u8 (x.ch.toNat : Int), .int .u8 (x.kd.toNat : Int), .int .u64 (x.n : Int), .int .u64 (x.m : Int), .bool x.yes, .string (ofL x.name), .int .u64 (x.id : Int), .string (ofL x.shop), .string (ofL x.key), .slice A x.head.length c, .string (ofL x.body), .int .u64 (x.due : Int), .int .u8 (x.hops : Int)] 33)).alloc (.cells #[] 86)) := bthen (bthen (bthen a0 a1 (Nat.le_refl _)) a2 (Nat.le_refl _)) a3 (Nat.le_refl _)
  have hown4 : ((((w.alloc (.cells #[.int .u8 (x.ch.toNat : Int), .int .u8 (x.kd.toNat : Int), .int .u64 (x.n : Int), .int .u64 (x.m : Int), .bool x.yes, .string (ofL x.name), .int .u64 (x.id : Int), .string (ofL x.shop), .string (ofL x.key), .slice A x.head.length c, .string (ofL x.body), .int .u64 (x.due : Int), .int .u8 (x.hops : Int)] 30)).alloc (.cells #[.int .u8 0, .int .u8 0, .int .u64 0, .int .u64 0, .bool false, .string ⟨#[]⟩, .int .u64 0, .string ⟨#[]⟩, .string ⟨#[]⟩, .slice none 0 0, .string ⟨#[]⟩, .int .u64 0, .int .u8 0] 33)).alloc (.cells #[.int .u8 (x.ch.toNat : Int), .int .u8 (x.kd.toNat : Int), .int .u64 (x.n : Int), .int .u64 (x.m : Int), .bool x.yes, .string (ofL x.name), .int .u64 (x.id : Int), .string (ofL x.shop), .string (ofL x.key), .slice A x.head.length c, .string (ofL x.body), .int .u64 (x.due : Int), .int .u8 (x.hops : Int)] 33)).alloc (.cells #[] 86)).ownsRow (w.heap.size + 1 + 1 + 1) 86 4 (.slice (some ⟨w.heap.size + 1 + 1 + 1, 0, none⟩) 0 0) 0 [] := by
    have := World.ownsRow_made (e := 86) (size := 4) (((w.alloc (.cells #[.int .u8 (x.ch.toNat : Int), .int .u8 (x.kd.toNat : Int), .int .u64 (x.n : Int), .int .u64 (x.m : Int), .bool x.yes, .string (ofL x.name), .int .u64 (x.id : Int), .string (ofL x.shop), .string (ofL x.key), .slice A x.head.length c, .string (ofL x.body), .int .u64 (x.due : Int), .int .u8 (x.hops : Int)] 30)).alloc (.cells #[.int .u8 0, .int .u8 0, .int .u64 0, .int .u64 0, .bool false, .string ⟨#[]⟩, .int .u64 0, .string ⟨#[]⟩, .string ⟨#[]⟩, .slice none 0 0, .string ⟨#[]⟩, .int .u64 0, .int .u8 0] 33)).alloc (.cells #[.int .u8 (x.ch.toNat : Int), .int .u8 (x.kd.toNat : Int), .int .u64 (x.n : Int), .int .u64 (x.m : Int), .bool x.yes, .string (ofL x.name), .int .u64 (x.id : Int), .string (ofL x.shop), .string (ofL x.key), .slice A x.head.length c, .string (ofL x.body), .int .u64 (x.due : Int), .int .u8 (x.hops : Int)] 33)) #[] 0 (Nat.le_refl _) (by unfold maxLen; omega) rfl
    simpa using this
  have hs4 : ((((w.alloc (.cells #[.int .u8 (x.ch.toNat : Int), .int .u8 (x.kd.toNat : Int), .int .u64 (x.n : Int), .int .u64 (x.m : Int), .bool x.yes, .string (ofL x.name), .int .u64 (x.id : Int), .string (ofL x.shop), .string (ofL x.key), .slice A x.head.length c, .string (ofL x.body), .int .u64 (x.due : Int), .int .u8 (x.hops : Int)] 30)).alloc (.cells #[.int .u8 0, .int .u8 0, .int .u64 0, .int .u64 0, .bool false, .string ⟨#[]⟩, .int .u64 0, .string ⟨#[]⟩, .string ⟨#[]⟩, .slice none 0 0, .string ⟨#[]⟩, .int .u64 0, .int .u8 0] 33)).alloc (.cells #[.int .u8 (x.ch.toNat : Int), .int .u8 (x.kd.toNat : Int), .int .u64 (x.n : Int), .int .u64 (x.m : Int), .bool x.yes, .string (ofL x.name), .int .u64 (x.id : Int), .string (ofL x.shop), .string (ofL x.key), .slice A x.head.length c, .string (ofL x.body), .int .u64 (x.due : Int), .int .u8 (x.hops : Int)] 33)).alloc (.cells #[] 86)).heap.size = w.heap.size + 1 + 1 + 1 + 1 := by simp
  obtain ⟨A', c', w5, hrun, hown5, hgr5, hc5, hA5⟩ := copy_run (W := ((((w.alloc (.cells #[.int .u8 (x.ch.toNat : Int), .int .u8 (x.kd.toNat : Int), .int .u64 (x.n : Int), .int .u64 (x.m : Int), .bool x.yes, .string (ofL x.name), .int .u64 (x.id : Int), .string (ofL x.shop), .string (ofL x.key), .slice A x.head.length c, .string (ofL x.body), .int .u64 (x.due : Int), .int .u8 (x.hops : Int)] 30)).alloc (.cells #[.int .u8 0, .int .u8 0, .int .u64 0, .int .u64 0, .bool false, .string ⟨#[]⟩, .int .u64 0, .string ⟨#[]⟩, .string ⟨#[]⟩, .slice none 0 0, .string ⟨#[]⟩, .int .u64 0, .int .u8 0] 33)).alloc (.cells #[.int .u8 (x.ch.toNat : Int), .int .u8 (x.kd.toNat : Int), .int .u64 (x.n : Int), .int .u64 (x.m : Int), .bool x.yes, .string (ofL x.name), .int .u64 (x.id : Int), .string (ofL x.shop), .string (ofL x.key), .slice A x.head.length c, .string (ofL x.body), .int .u64 (x.due : Int), .int .u8 (x.hops : Int)] 33)).alloc (.cells #[] 86))) (l := x.head) (A := A) (c := c) hl hc (hp.on hB4) hown4 (by rw [hs4]; omega)
  rw [hs4] at hA5
  have q1 := (((b1.on a1).on a2).on a3).grown hgr5 (by omega)
  have q2 := ((b2.on a2).on a3).grown hgr5 (by omega)
  have q3 := (b3.on a3).grown hgr5 (by omega)
  have hB5 : Below w.heap.size w w5 := hB4.grown hgr5 (by rw [hs4]; omega) (fun k hk => by cases hk; omega)
  obtain ⟨A2, c2, e2, -, -, hP5⟩ := rown_prs hown5
  obtain ⟨rfl, -, rfl⟩ := Value.slice.inj e2
  have r3 := q3.put 9 (.slice A' x.head.length c') (by simp [reL])
  have r2 := q2.aside (g := w.heap.size + 1 + 1) (by omega) 9 (.slice A' x.head.length c')
  have hP6 := hP5.aside (g := w.heap.size + 1 + 1) (fun a ha => by have := hA5 a ha; omega) 9 (.slice A' x.head.length c')
  have hB6 := hB5.setCell (p := ⟨w.heap.size + 1 + 1, 9, none⟩) (by show w.heap.size ≤ w.heap.size + 1 + 1; omega) (.slice A' x.head.length c')
  have HF := Lib.hid (r2.fill (reL x A' c') rfl)
  have HPF := Lib.hid (Prs.putAll (g := w.heap.size + 1) (fun a ha => by have := hA5 a ha; omega) (reL x A' c') 0 hP6)
  have HBF := Lib.hid (below_putAll (g := w.heap.size + 1) (by omega) (reL x A' c') 0 hB6)
  have HRUN := Lib.hid hrun
  have HC5 := Lib.hid hc5
  have c9 := q3.cs 9 _ rfl
  have cf : ∀ j, w5.frozen? ⟨w.heap.size + 1 + 1, j, none⟩ = false := q3.s
  have cl := q3.lt
  have d0 := r3.cs 0 _ rfl
  have d1 := r3.cs 1 _ rfl
  have d2 := r3.cs 2 _ rfl
  have d3 := r3.cs 3 _ rfl
  have d4 := r3.cs 4 _ rfl
  have d5 := r3.cs 5 _ rfl
  have d6 := r3.cs 6 _ rfl
  have d7 := r3.cs 7 _ rfl
  have d8 := r3.cs 8 _ rfl
  have d9 := r3.cs 9 _ rfl
  have d10 := r3.cs 10 _ rfl
  have d11 := r3.cs 11 _ rfl
  have d12 := r3.cs 12 _ rfl
  have z0 := r2.cs 0 _ rfl
  have z1 := r2.cs 1 _ rfl
  have z2 := r2.cs 2 _ rfl
  have z3 := r2.cs 3 _ rfl
  have z4 := r2.cs 4 _ rfl
  have z5 := r2.cs 5 _ rfl
  have z6 := r2.cs 6 _ rfl
  have z7 := r2.cs 7 _ rfl
  have z8 := r2.cs 8 _ rfl
  have z9 := r2.cs 9 _ rfl
  have z10 := r2.cs 10 _ rfl
  have z11 := r2.cs 11 _ rfl
  have z12 := r2.cs 12 _ rfl
  have zf : ∀ j, (w5.setCell ⟨w.heap.size + 1 + 1, 9, none⟩ (.slice A' x.head.length c')).frozen? ⟨w.heap.size + 1, j, none⟩ = false := r2.s
  have zl := r2.lt
  clear b1 b2 b3 a0 a1 a2 a3 hB4 hown4 hs4 hrun hown5 hgr5 hc5 hA5 q1 q2 q3 hB5 hP5 r3 r2 hP6 hB6 hp e2
  simp only [reV]
  go_enter Tryz.func7, Tryz.ntmps7
  go_wp2_with (first
    | (at_builtin; (refine wpList_append_run (by rfl) _ _ 26 (by rfl) _ _ (by rfl) (by rfl) HRUN.out ?_)))
  have hF := HF.out
  have hPF := HPF.out
  have hBF := HBF.out
  simp only [putAll, reL] at hF hPF hBF
  have g0 := hF.cs 0 _ rfl
  have g1 := hF.cs 1 _ rfl
  have g2 := hF.cs 2 _ rfl
  have g3 := hF.cs 3 _ rfl
  have g4 := hF.cs 4 _ rfl
  have g5 := hF.cs 5 _ rfl
  have g6 := hF.cs 6 _ rfl
  have g7 := hF.cs 7 _ rfl
  have g8 := hF.cs 8 _ rfl
  have g9 := hF.cs 9 _ rfl
  have g10 := hF.cs 10 _ rfl
  have g11 := hF.cs 11 _ rfl
  have g12 := hF.cs 12 _ rfl
  exact bodyPost_ret (v := .agg #[.int .u8 (x.ch.toNat : Int), .int .u8 (x.kd.toNat : Int), .int .u64 (x.n : Int), .int .u64 (x.m : Int), .bool x.yes, .string (ofL x.name), .int .u64 (x.id : Int), .string (ofL x.shop), .string (ofL x.key), .slice A' x.head.length c', .string (ofL x.body), .int .u64 (x.due : Int), .int .u8 (x.hops : Int)]) (by simp [results, Tryz.results7, go_sem, g0, g1, g2, g3, g4, g5, g6, g7, g8, g9, g10, g11, g12]) rfl ⟨A', c', rfl, HC5.out, hPF, hBF⟩
def reLight (x : Re) : Bool := decide (x.name.length ≤ 40) && decide (x.shop.length ≤ 40) && decide (x.key.length ≤ 100) && lightB x.head && decide (x.body.length ≤ 300)
theorem re_light_ok {x : Re} (h : reLight x = true) : x.name.length ≤ 40 ∧ x.shop.length ≤ 40 ∧ x.key.length ≤ 100 ∧ lightB x.head = true ∧ x.body.length ≤ 300 := by
  unfold reLight at h
  simp only [Bool.and_eq_true, decide_eq_true_eq] at h
  exact ⟨h.1.1.1.1, h.1.1.1.2, h.1.1.2, h.1.2, h.2⟩
theorem re_light_Ok {w : World} {x : Re} {A : Option Addr} {c : Nat} (h : reLight x = true) (hc : x.head.length ≤ c) (hp : Prs w A x.head) : ReOk w x A c := by
  obtain ⟨h1, h2, h3, h4, h5⟩ := re_light_ok h
  obtain ⟨h6, h7, -⟩ := light_lite h4
  exact ⟨by omega, by omega, by omega, by omega, by omega, hc, h7, hp⟩
set_option maxRecDepth 100000 in
set_option maxHeartbeats 4000000 in
theorem re_light_any (x : Re) (A : Option Addr) (c : Nat) (w : World) (hl : x.head.length ≤ 9223372036854775807) (hp : Prs w A x.head) :
    Calls Tryz.prog 5 #[reV x A c] w fun e w' => e = .returned (.bool (reLight x)) ∧ Below w.heap.size w w' := by
  have HB0 := Lib.hid (show Below w.heap.size w (w.alloc (.cells #[.int .u8 (x.ch.toNat : Int), .int .u8 (x.kd.toNat : Int), .int .u64 (x.n : Int), .int .u64 (x.m : Int), .bool x.yes, .string (ofL x.name), .int .u64 (x.id : Int), .string (ofL x.shop), .string (ofL x.key), .slice A x.head.length c, .string (ofL x.body), .int .u64 (x.due : Int), .int .u8 (x.hops : Int)] 30)) from (Below.refl _ _).alloc (Nat.le_refl _) _)
  have HP0 := Lib.hid (hp.on HB0.out)
  have HX0 := Lib.hid (reBox x A c w 30)
  have HLI := Lib.hid (fun W h => light9_any x.head A c W hl h)
  have HD : Hid (reLight x = (decide (x.name.length ≤ 40) && decide (x.shop.length ≤ 40) && decide (x.key.length ≤ 100) && lightB x.head && decide (x.body.length ≤ 300))) := rfl
  have s1 : (ofL x.name).size = x.name.length := ofL_size _
  have s2 : (ofL x.shop).size = x.shop.length := ofL_size _
  have s3 : (ofL x.key).size = x.key.length := ofL_size _
  have s4 : (ofL x.body).size = x.body.length := ofL_size _
  generalize reLight x = LX at *
  generalize lightB x.head = LB at *
  simp only [reV]
  clear hp
  by_cases h1 : x.name.length ≤ 40 ∧ x.shop.length ≤ 40
  · have m1 : max ((ofL x.name).size : Int) ((ofL x.shop).size : Int) ≤ 40 := by omega
    have m2 : max (ofL x.name).size (ofL x.shop).size ≤ 40 := by omega
    by_cases h3 : x.key.length ≤ 100
    · have g3 : (ofL x.key).size ≤ 100 := by omega
      cases hb : LB with
      | false =>
        have HC := Lib.hid (show LX = false by rw [HD.out, hb]; simp)
        rw [hb] at HLI
        clear h1 h3 hb s1 s2 s3 s4
        go_enter Tryz.func5, Tryz.ntmps5
        go_wp2_with fail
        refine (HLI.out _ HP0.out).mono ?_
        rintro e w1 ⟨rfl, b1⟩
        have HB1 := Lib.hid (bthen HB0.out b1 (Nat.le_refl _))
        clear b1
        go_wp2_with fail
        go_ret
        exact ⟨ret_bool HC.out.symm, HB1.out⟩
      | true =>
        have HC := Lib.hid (show LX = decide (x.body.length ≤ 300) by rw [HD.out, hb, decide_eq_true h1.1, decide_eq_true h1.2, decide_eq_true h3]; simp)
        have hb4 : decide (((ofL x.body).size : Int) ≤ 300) = decide (x.body.length ≤ 300) := decide_eq_decide.2 (by omega)
        rw [hb] at HLI
        clear h1 h3 hb s1 s2 s3 s4
        go_enter Tryz.func5, Tryz.ntmps5
        go_wp2_with fail
        refine (HLI.out _ HP0.out).mono ?_
        rintro e w1 ⟨rfl, b1⟩
        have HB1 := Lib.hid (bthen HB0.out b1 (Nat.le_refl _))
        have HX1 := Lib.hid (HX0.out.on b1 (by simp))
        have lt1 : w.heap.size < w1.heap.size := by have := b1.size; simp at this; omega
        have cb := HX1.out 10 _ rfl
        clear b1
        go_wp2_with fail
        go_ret
        exact ⟨ret_bool (by rw [HC.out, ← hb4]), HB1.out⟩
    · have g3 : ¬ (ofL x.key).size ≤ 100 := by omega
      have HC := Lib.hid (show LX = false by rw [HD.out, decide_eq_false h3]; simp)
      clear h1 h3 s1 s2 s3 s4
      go_enter Tryz.func5, Tryz.ntmps5
      go_wp2_with fail
      go_ret
      exact ⟨ret_bool HC.out.symm, HB0.out⟩
  · have m1 : ¬ max ((ofL x.name).size : Int) ((ofL x.shop).size : Int) ≤ 40 := by omega
    have m2 : ¬ max (ofL x.name).size (ofL x.shop).size ≤ 40 := by omega
    have HC := Lib.hid (show LX = false by
      rw [HD.out]
      by_cases g1 : x.name.length ≤ 40
      · rw [decide_eq_false (fun g2 => h1 ⟨g1, g2⟩ : ¬ x.shop.length ≤ 40)]; simp
      · rw [decide_eq_false g1]; simp)
    clear h1 s1 s2 s3 s4
    go_enter Tryz.func5, Tryz.ntmps5
    go_wp2_with fail
    go_ret
    exact ⟨ret_bool HC.out.symm, HB0.out⟩
/-- one that came in -/
structure ReIn (w : World) (x : Re) (A : Option Addr) (c : Nat) : Prop where
  row : Prs w A x.head
  cap : x.head.length ≤ c
  big : x.head.length ≤ 9223372036854775807
  txt : x.name.length ≤ 9223372036854775807 ∧ x.shop.length ≤ 9223372036854775807 ∧ x.key.length ≤ 9223372036854775807 ∧ x.body.length ≤ 9223372036854775807
  fits : Re.Fits x
end Go.Proofs.YtnjlhafhgfpfiaaGreatDoor
end
