/-
  What the laws ask of the landed slots, as a bundle of contracts over any predicate that says where they lie; contract of the laws' check of the chapter's example over it. Conditions: at most 4096 slots.
-/
import Derived.Test.YtaoojgnkbcoggaaGme
import Derived.Test.YtaoojgnkbcoggaaGsm
namespace Go.Proofs.Ytaoojgnkbcoggaa
open Go.ChangeShapes Go.WideShapes Go.RowKit
set_option linter.unusedVariables false
set_option maxHeartbeats 4000000
set_option maxRecDepth 100000

/-- The contracts of the landed slots. Sl w c k p s: in world w the block p holds slots of the state s; what they write has the colour k. -/
structure Pc (Sl : World → (Nat → Nat) → Nat → Nat → Gs → Prop) : Prop where
  kept : ∀ {w w' : World} {c c' : Nat → Nat} {k j p : Nat} {s : Gs}, Sl w c k p s → Kept c j w w' → j ≠ k → (∀ g, g < w.heap.size → c' g = c g) → Sl w' c' k p s
  new : ∀ (n first : Int) (w : World) (c : Nat → Nat) (k : Nat), (∀ g, g < w.heap.size → c g ≠ k) → Calls Try.prog 28 #[.int .i64 n, .int .i64 first] w fun e w' =>
    (nsE n first = 1 ∧ e = .returned (.tuple #[.pointer none, .int .i64 1]) ∧ Below w.heap.size w w') ∨
    (nsE n first = 0 ∧ ∃ p, e = .returned (.tuple #[.pointer (some ⟨p, 0, none⟩), .int .i64 0]) ∧ w.heap.size ≤ p ∧ Sl w' (rc c w.heap.size k) k p (Gs.new n.toNat first) ∧ Below w.heap.size w w')
  issue : ∀ (w : World) (c : Nat → Nat) (k p N : Nat) (s : Gs) (d : Int), Sl w c k p s → s.Wf N → N ≤ 4096 → (0 ≤ d ∧ d < 18446744073709551616) → Calls Try.prog 46 #[.pointer (some ⟨p, 0, none⟩), .int .u64 d] w fun e w' =>
    e = .returned (.tuple #[.int .i64 (s.issV d).1, .int .i64 (s.issV d).2.1, .int .i64 (s.issV d).2.2]) ∧ Sl w' (rc c w.heap.size k) k p (s.issN d) ∧ Kept c k w w'
  end_ : ∀ (w : World) (c : Nat → Nat) (k p N : Nat) (s : Gs) (x : Int), Sl w c k p s → s.Wf N → N ≤ 4096 → Calls Try.prog 44 #[.pointer (some ⟨p, 0, none⟩), .int .i64 x] w fun e w' =>
    e = .returned (.int .i64 (s.endV x)) ∧ Sl w' (rc c w.heap.size k) k p (s.endN x) ∧ Kept c k w w'
  live : ∀ (w : World) (c : Nat → Nat) (k p N : Nat) (s : Gs) (x : Int), Sl w c k p s → s.Wf N → Calls Try.prog 38 #[.pointer (some ⟨p, 0, none⟩), .int .i64 x] w fun e w' =>
    e = .returned (.tuple #[.int .i64 (s.of x).1, .bool (s.of x).2]) ∧ Below w.heap.size w w'
  size : ∀ (w : World) (c : Nat → Nat) (k p N : Nat) (s : Gs), Sl w c k p s → s.Wf N → Calls Try.prog 37 #[.pointer (some ⟨p, 0, none⟩)] w fun e w' => e = .returned (.int .i64 (N : Int)) ∧ Below w.heap.size w w'
  retired : ∀ (w : World) (c : Nat → Nat) (k p N : Nat) (s : Gs), Sl w c k p s → s.Wf N → N ≤ 4096 → Calls Try.prog 49 #[.pointer (some ⟨p, 0, none⟩)] w fun e w' => e = .returned (.int .i64 s.gone) ∧ Below w.heap.size w w'
  pool : ∀ (w : World) (c : Nat → Nat) (k p N : Nat) (s : Gs), Sl w c k p s → s.Wf N → N ≤ 4096 → Calls Try.prog 50 #[.pointer (some ⟨p, 0, none⟩)] w (ClI w s.free)
theorem Pc.go {Sl : World → (Nat → Nat) → Nat → Nat → Gs → Prop} (C : Pc Sl) {w w' : World} {c : Nat → Nat} {k p : Nat} {s : Gs} (h : Sl w c k p s) (hb : Below w.heap.size w w') : Sl w' c k p s := C.kept h (j := k + 1) (Kept.ofBelow hb) (by omega) (fun _ _ => rfl)
/-- The example of the chapter. -/
def exS : Gs := Gs.new 1 4294967295
theorem ex_1 : exS.issV 3 = (0, 4294967295, 0) := by decide
theorem ex_2 : (exS.issN 3).endV 0 = 0 := by decide
theorem ex_3 : ((exS.issN 3).endN 0).issV 3 = (0, 0, 17) := by decide
theorem ex_4 : (((exS.issN 3).endN 0).issN 3).gone = 1 := by decide
end Go.Proofs.Ytaoojgnkbcoggaa
