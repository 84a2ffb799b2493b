/-
  Contract of the registry's copy of a type. Conditions: at most a million fields.
-/
import Derived.Test.YtgddlpabgeeflaaTeq
import Derived.Test.YtgddlpabgeeflaaKep
namespace Go.Proofs.Ytgddlpabgeeflaa
open Go.ChangeShapes Go.WideShapes Go.RowKit
set_option linter.unusedVariables false
set_option maxHeartbeats 4000000
set_option maxRecDepth 100000

/-- What the copy of a type says. -/
def CtE (w : World) (n : Int) (l : List (Int × Int)) (e : Ending) (w' : World) : Prop := ∃ A m c, e = .returned (.agg #[.int .i64 n, .slice A m c]) ∧ OwnE 45 w' w.heap.size (.slice A m c) l ∧ Below w.heap.size w w'
theorem cloneT_any (n : Int) (A : Option Addr) (m c : Nat) (l : List (Int × Int)) (w : World) (h : Exs w w.heap.size A m c l) (hm : m ≤ 1000000) :
    Calls Try.prog 25 #[.agg #[.int .i64 n, .slice A m c]] w (CtE w n l) := by
  have hb0 : Below w.heap.size w (w.alloc (.cells #[.int .i64 n, .slice A m c] 35)) := (Below.refl _ _).alloc (Nat.le_refl _) _
  have hs0 : (w.alloc (.cells #[.int .i64 n, .slice A m c] 35)).heap.size = w.heap.size + 1 := by simp
  have hb1 : Below (w.alloc (.cells #[.int .i64 n, .slice A m c] 35)).heap.size (w.alloc (.cells #[.int .i64 n, .slice A m c] 35)) ((w.alloc (.cells #[.int .i64 n, .slice A m c] 35)).alloc (.cells #[.int .i64 0, .slice none 0 0] 35)) := (Below.refl _ _).alloc (Nat.le_refl _) _
  have HT1 := Lib.hid ((TyB.new (w := w) (n := n) (A := A) (m := m) (c := c)).go hb1)
  have hr := TyB.new (w := w.alloc (.cells #[.int .i64 n, .slice A m c] 35)) (n := 0) (A := none) (m := 0) (c := 0)
  rw [hs0] at hr
  have HU1 := Lib.hid hr
  have HB1 := Lib.hid (Below.then hb0 hb1 (Nat.le_refl _))
  have c0 := HT1.out.cell0
  have c1 := HT1.out.cell1
  have d0 := HU1.out.cell0
  have d1 := HU1.out.cell1
  have HX := Lib.hid (h.go HB1.out)
  clear h hb0 hb1 hr hs0
  go_enter Try.func25, Try.ntmps25
  go_wp2_with fail
  have hw2 : ((w.alloc (.cells #[.int .i64 n, .slice A m c] 35)).alloc (.cells #[.int .i64 0, .slice none 0 0] 35)).heap.size = w.heap.size + 2 := by simp
  have hwl : w.heap.size < ((w.alloc (.cells #[.int .i64 n, .slice A m c] 35)).alloc (.cells #[.int .i64 0, .slice none 0 0] 35)).heap.size := HT1.out.lt
  generalize (w.alloc (.cells #[.int .i64 n, .slice A m c] 35)).alloc (.cells #[.int .i64 0, .slice none 0 0] 35) = w1 at *
  have hds : w1.drew.heap.size = w.heap.size + 2 := hw2
  have HQ := Lib.hid (cloneF_any A m c l w1.drew (HX.out.go (below_drewN (Below.refl _ _) 1)) hm)
  go_region_with
    (first
      | (go_at_call 33
         refine HQ.out.mono ?_
         rintro e w5 ⟨v5, rfl, ho5, hb5⟩
         obtain ⟨A5, n5, c5, rfl, hx5⟩ := ho5.shape
         have HO5 := Lib.hid ho5
         have HB5 := Lib.hid (Below.then (below_drewN (Below.refl w1.heap.size w1) 1) hb5 (Nat.le_refl _))
         have HT5 := Lib.hid (HT1.out.go HB5.out)
         have HU5 := Lib.hid (HU1.out.go HB5.out)
         have g0 := HT5.out.cell0
         have g1 := HT5.out.cell1
         have m0 := HU5.out.cell0
         have m1 := HU5.out.cell1
         have m2 := HU5.out.fr 0
         have m3 := HU5.out.fr 1
         have k0 := (HU5.out.set (n' := n) (A' := A5) (m' := n5) (c' := c5)).cell0
         have k1 := (HU5.out.set (n' := n) (A' := A5) (m' := n5) (c' := c5)).cell1
         clear ho5 hb5 hx5))
  all_goals
    have HO6 : Hid (OwnE 45 ((w5.setCell ⟨w.heap.size + 1, 0, none⟩ (.int .i64 n)).setCell ⟨w.heap.size + 1, 1, none⟩ (.slice A5 n5 c5)) w.heap.size (.slice A5 n5 c5) l) := Lib.hid (OwnE.down ⟨ownsRow_setCell_below (ownsRow_setCell_below HO5.out.1 (by simp only; omega) _) (by simp only; omega) _, HO5.out.2⟩ (by omega))
    have HB6 : Hid (Below w.heap.size w ((w5.setCell ⟨w.heap.size + 1, 0, none⟩ (.int .i64 n)).setCell ⟨w.heap.size + 1, 1, none⟩ (.slice A5 n5 c5))) := Lib.hid (((Below.then HB1.out HB5.out (Nat.le_refl _)).setCell (p := ⟨w.heap.size + 1, 0, none⟩) (by simp) _).setCell (p := ⟨w.heap.size + 1, 1, none⟩) (by simp) _)
    go_wp2
    exact bodyPost_ret (v := .agg #[.int .i64 n, .slice A5 n5 c5]) (by simp [results, Try.results25, go_sem, k0, k1]) rfl ⟨_, _, _, rfl, HO6.out, HB6.out⟩
end Go.Proofs.Ytgddlpabgeeflaa
