/-
  What the laws ask of the landed slots, as a bundle of contracts over any predicate that says where they lie; contract of the laws' check of the chapter's example over it. Conditions: at most 4096 slots.
-/
import Derived.Test.YtnaoffpemnkmmaaGme
import Derived.Test.YtnaoffpemnkmmaaGsm
namespace Go.Proofs.Ytnaoffpemnkmmaa
open Go.ChangeShapes Go.WideShapes Go.RowKit
set_option linter.unusedVariables false
set_option maxHeartbeats 4000000
set_option maxRecDepth 100000

/-- The contracts of the landed slots. Sl w c k p s: in world w the block p holds slots of the state s; what they write has the colour k. -/
structure Pc (Sl : World → (Nat → Nat) → Nat → Nat → Gs → Prop) : Prop where
  kept : ∀ {w w' : World} {c c' : Nat → Nat} {k j p : Nat} {s : Gs}, Sl w c k p s → Kept c j w w' → j ≠ k → (∀ g, g < w.heap.size → c' g = c g) → Sl w' c' k p s
  new : ∀ (n first : Int) (w : World) (c : Nat → Nat) (k : Nat), (∀ g, g < w.heap.size → c g ≠ k) → Calls Try.prog 8 #[.int .i64 n, .int .i64 first] w fun e w' =>
    (nsE n first = 1 ∧ e = .returned (.tuple #[.pointer none, .int .i64 1]) ∧ Below w.heap.size w w') ∨
    (nsE n first = 0 ∧ ∃ p, e = .returned (.tuple #[.pointer (some ⟨p, 0, none⟩), .int .i64 0]) ∧ w.heap.size ≤ p ∧ Sl w' (rc c w.heap.size k) k p (Gs.new n.toNat first) ∧ Below w.heap.size w w')
  issue : ∀ (w : World) (c : Nat → Nat) (k p N : Nat) (s : Gs) (d : Int), Sl w c k p s → s.Wf N → N ≤ 4096 → (0 ≤ d ∧ d < 18446744073709551616) → Calls Try.prog 14 #[.pointer (some ⟨p, 0, none⟩), .int .u64 d] w fun e w' =>
    e = .returned (.tuple #[.int .i64 (s.issV d).1, .int .i64 (s.issV d).2.1, .int .i64 (s.issV d).2.2]) ∧ Sl w' (rc c w.heap.size k) k p (s.issN d) ∧ Kept c k w w'
  end_ : ∀ (w : World) (c : Nat → Nat) (k p N : Nat) (s : Gs) (x : Int), Sl w c k p s → s.Wf N → N ≤ 4096 → Calls Try.prog 16 #[.pointer (some ⟨p, 0, none⟩), .int .i64 x] w fun e w' =>
    e = .returned (.int .i64 (s.endV x)) ∧ Sl w' (rc c w.heap.size k) k p (s.endN x) ∧ Kept c k w w'
  live : ∀ (w : World) (c : Nat → Nat) (k p N : Nat) (s : Gs) (x : Int), Sl w c k p s → s.Wf N → Calls Try.prog 15 #[.pointer (some ⟨p, 0, none⟩), .int .i64 x] w fun e w' =>
    e = .returned (.tuple #[.int .i64 (s.of x).1, .bool (s.of x).2]) ∧ Below w.heap.size w w'
  size : ∀ (w : World) (c : Nat → Nat) (k p N : Nat) (s : Gs), Sl w c k p s → s.Wf N → Calls Try.prog 17 #[.pointer (some ⟨p, 0, none⟩)] w fun e w' => e = .returned (.int .i64 (N : Int)) ∧ Below w.heap.size w w'
  retired : ∀ (w : World) (c : Nat → Nat) (k p N : Nat) (s : Gs), Sl w c k p s → s.Wf N → N ≤ 4096 → Calls Try.prog 18 #[.pointer (some ⟨p, 0, none⟩)] w fun e w' => e = .returned (.int .i64 s.gone) ∧ Below w.heap.size w w'
  pool : ∀ (w : World) (c : Nat → Nat) (k p N : Nat) (s : Gs), Sl w c k p s → s.Wf N → N ≤ 4096 → Calls Try.prog 19 #[.pointer (some ⟨p, 0, none⟩)] w (ClI w s.free)
theorem Pc.go {Sl : World → (Nat → Nat) → Nat → Nat → Gs → Prop} (C : Pc Sl) {w w' : World} {c : Nat → Nat} {k p : Nat} {s : Gs} (h : Sl w c k p s) (hb : Below w.heap.size w w') : Sl w' c k p s := C.kept h (j := k + 1) (Kept.ofBelow hb) (by omega) (fun _ _ => rfl)
/-- The example of the chapter. -/
def exS : Gs := Gs.new 1 4294967295
theorem ex_1 : exS.issV 3 = (0, 4294967295, 0) := by decide
theorem ex_2 : (exS.issN 3).endV 0 = 0 := by decide
theorem ex_3 : ((exS.issN 3).endN 0).issV 3 = (0, 0, 17) := by decide
theorem ex_4 : (((exS.issN 3).endN 0).issN 3).gone = 1 := by decide
theorem awake12_any {Sl : World → (Nat → Nat) → Nat → Nat → Gs → Prop} (C : Pc Sl) (w : World) : Calls Try.prog 13 #[] w fun e w' => e = .returned (.bool true) ∧ Below w.heap.size w w' := by
  have HN := Lib.hid (C.new 1 4294967295 w (fun _ => 0) 1 (fun _ _ => by omega))
  have HC := Lib.hid C
  clear C
  have hw0 : exS.Wf 1 := Gs.wf_new (by omega)
  have HW0 := Lib.hid hw0
  clear hw0
  go_enter Try.func13, Try.ntmps13
  go_wp2_with fail
  refine HN.out.mono ?_
  rintro e w2 (⟨h1, _⟩ | ⟨_, p, rfl, hp, hS, hb⟩)
  · exact absurd h1 (by decide)
  · have HB := Lib.hid hb
    have HS : Hid (Sl w2 (rc (fun _ => 0) w.heap.size 1) 1 p exS) := Lib.hid hS
    clear HN hS hb
    have HI := Lib.hid (HC.out.issue w2 _ 1 p 1 exS 3 HS.out HW0.out (by omega) (by omega))
    rw [ex_1] at HI
    go_wp2_with fail
    refine HI.out.mono ?_
    rintro e w3 ⟨rfl, hS3, hk3⟩
    have HW1 := Lib.hid (HW0.out.iss (d := 3))
    have HB3 : Hid (Below w.heap.size w w3) := Lib.hid (HB.out.trans (hk3.below (fun g hg => by rw [rc_old hg]; omega) HB.out.size))
    have HE := Lib.hid (HC.out.end_ w3 _ 1 p 1 _ 0 hS3 HW1.out (by omega))
    rw [ex_2] at HE
    have hz2 := HB.out.size
    have hz3 := HB3.out.size
    clear hS3 hk3 HI
    go_wp2_with fail
    refine HE.out.mono ?_
    rintro e w4 ⟨rfl, hS4, hk4⟩
    have HW2 := Lib.hid (HW1.out.end_ (k := 0))
    have HB4 : Hid (Below w.heap.size w w4) := Lib.hid (HB3.out.trans (hk4.below (fun g hg => by rw [rc_old (by omega), rc_old hg]; omega) HB3.out.size))
    have HI := Lib.hid (HC.out.issue w4 _ 1 p 1 _ 3 hS4 HW2.out (by omega) (by omega))
    rw [ex_3] at HI
    have hz4 := HB4.out.size
    clear hS4 hk4 HE
    go_wp2_with fail
    refine HI.out.mono ?_
    rintro e w5 ⟨rfl, hS5, hk5⟩
    have HB5 : Hid (Below w.heap.size w w5) := Lib.hid (HB4.out.trans (hk5.below (fun g hg => by rw [rc_old (by omega), rc_old (by omega), rc_old hg]; omega) HB4.out.size))
    have HR := Lib.hid (HC.out.retired w5 _ 1 p 1 _ hS5 (HW2.out.iss (d := 3)) (by omega))
    rw [ex_4] at HR
    clear hS5 hk5 HI
    go_wp2_with fail
    refine HR.out.mono ?_
    rintro e w6 ⟨rfl, hb6⟩
    go_wp2
    go_ret
    exact ⟨rfl, Below.then HB5.out hb6 (Nat.le_refl _)⟩
end Go.Proofs.Ytnaoffpemnkmmaa
