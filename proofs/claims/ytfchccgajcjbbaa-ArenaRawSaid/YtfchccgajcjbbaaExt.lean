/-
  Contracts of the small functions of package extents and of the reference: what they return is what the plain functions of the text Set say, and they change nothing that was there. Conditions: the numbers fit into 64 bits; lists have at most a million extents.
-/
import Derived.Test.YtfchccgajcjbbaaRows
import Derived.Test.YtfchccgajcjbbaaPair
import Derived.Test.YtfchccgajcjbbaaSet
import Derived.WalkKit
import Derived.ProofKit
import Derived.Outline
import Derived.WalkLawsBesides
import Derived.WalkSpells
import Derived.Lib.Hide
import Derived.Deep.QuietTactic
import Derived.BigQuiet
namespace Go.Proofs.Ytfchccgajcjbbaa
open Go.ChangeShapes Go.WideShapes Go.ChangeAt Go.RowKit
set_option maxHeartbeats 400000
set_option maxRecDepth 100000

theorem infoE : (Try.prog.info? 31).map (fun i => (i.zero, i.size, i.bytes)) = some (some (.agg #[.int .i64 0, .int .i64 0]), 2, 16) := by kernel_rfl

/-- What a function says that answers yes or no and may make memory. -/
def Tell (w : World) (b : Bool) (e : Ending) (w' : World) : Prop := e = .returned (.bool b) ∧ Below w.heap.size w w'
/-- What a function says that computes a number and may make memory. -/
def NumE (w : World) (x : Int) (e : Ending) (w' : World) : Prop := e = .returned (.int .i64 x) ∧ Below w.heap.size w w'

theorem proper_yes (x y : Int) (w : World) (h : Pr x y) :
    Calls Try.prog 78 #[.agg #[.int .i64 x, .int .i64 y]] w (Tell w true) := by
  obtain ⟨h1, h2, h3⟩ := h
  have h4 : x ≤ 1048576 - y := by omega
  go_enter Try.func78, Try.ntmps78
  go_wp2
  go_ret
  exact ⟨rfl, (Below.refl _ _).alloc (Nat.le_refl _) _⟩

theorem proper_no (x y : Int) (w : World) (h : ¬ Pr x y) (x0 : -9223372036854775808 ≤ x) (x1 : x ≤ 9223372036854775807) (y0 : -9223372036854775808 ≤ y) (y1 : y ≤ 9223372036854775807) :
    Calls Try.prog 78 #[.agg #[.int .i64 x, .int .i64 y]] w (Tell w false) := by
  unfold Pr at h
  by_cases h1 : 0 ≤ x
  · by_cases h2 : 0 < y
    · have h3 : ¬ x ≤ 1048576 - y := by omega
      clear h
      go_enter Try.func78, Try.ntmps78
      go_wp2
      go_ret
      exact ⟨rfl, (Below.refl _ _).alloc (Nat.le_refl _) _⟩
    · clear h
      go_enter Try.func78, Try.ntmps78
      go_wp2
      go_ret
      exact ⟨rfl, (Below.refl _ _).alloc (Nat.le_refl _) _⟩
  · clear h
    go_enter Try.func78, Try.ntmps78
    go_wp2
    go_ret
    exact ⟨rfl, (Below.refl _ _).alloc (Nat.le_refl _) _⟩

theorem properR_yes (x y : Int) (w : World) (h : Pr x y) :
    Calls Try.prog 70 #[.agg #[.int .i64 x, .int .i64 y]] w (Tell w true) := by
  obtain ⟨h1, h2, h3⟩ := h
  have h4 : y ≤ 1048576 - x := by omega
  go_enter Try.func70, Try.ntmps70
  go_wp2
  go_ret
  exact ⟨rfl, (Below.refl _ _).alloc (Nat.le_refl _) _⟩
theorem properR_no (x y : Int) (w : World) (h : ¬ Pr x y) (x0 : -9223372036854775808 ≤ x) (x1 : x ≤ 9223372036854775807) (y0 : -9223372036854775808 ≤ y) (y1 : y ≤ 9223372036854775807) :
    Calls Try.prog 70 #[.agg #[.int .i64 x, .int .i64 y]] w (Tell w false) := by
  unfold Pr at h
  by_cases h1 : 0 ≤ x
  · by_cases h2 : 0 < y
    · by_cases h4 : x ≤ 1048576
      · have h3 : ¬ y ≤ 1048576 - x := by omega
        clear h
        go_enter Try.func70, Try.ntmps70
        go_wp2
        go_ret
        exact ⟨rfl, (Below.refl _ _).alloc (Nat.le_refl _) _⟩
      · clear h
        go_enter Try.func70, Try.ntmps70
        go_wp2
        go_ret
        exact ⟨rfl, (Below.refl _ _).alloc (Nat.le_refl _) _⟩
    · clear h
      go_enter Try.func70, Try.ntmps70
      go_wp2
      go_ret
      exact ⟨rfl, (Below.refl _ _).alloc (Nat.le_refl _) _⟩
  · clear h
    go_enter Try.func70, Try.ntmps70
    go_wp2
    go_ret
    exact ⟨rfl, (Below.refl _ _).alloc (Nat.le_refl _) _⟩

/-- The end of an extent, where it does not wrap around. -/
theorem end_any (x y : Int) (w : World) (h : Pr x y) :
    Calls Try.prog 77 #[.agg #[.int .i64 x, .int .i64 y]] w (NumE w (x + y)) := by
  obtain ⟨h1, h2, h3⟩ := h
  go_enter Try.func77, Try.ntmps77
  go_wp2
  go_ret
  exact ⟨rfl, (Below.refl _ _).alloc (Nat.le_refl _) _⟩

/-- What a function says that makes an extent. -/
def ExtE (w : World) (x y : Int) (e : Ending) (w' : World) : Prop := e = .returned (.agg #[.int .i64 x, .int .i64 y]) ∧ Below w.heap.size w w'
theorem between_any (a b : Int) (w : World) (a0 : 0 ≤ a) (a1 : a ≤ 1048576) (b0 : 0 ≤ b) (b1 : b ≤ 1048576) :
    Calls Try.prog 80 #[.int .i64 a, .int .i64 b] w (ExtE w a (b - a)) := by
  go_enter Try.func80, Try.ntmps80
  go_wp2
  exact bodyPost_ret (v := .agg #[.int .i64 a, .int .i64 (b - a)]) (by simp [results, Try.results80, go_sem]) rfl ⟨rfl, (Below.refl _ _).alloc (Nat.le_refl _) _⟩

def meetB (x y a b : Int) : Bool := decide (x < a + b) && decide (a < x + y)
theorem meets_any (x y a b : Int) (w : World) (h : Pr x y) (h' : Pr a b) :
    Calls Try.prog 71 #[.agg #[.int .i64 x, .int .i64 y], .agg #[.int .i64 a, .int .i64 b]] w (Tell w (meetB x y a b)) := by
  obtain ⟨h1, h2, h3⟩ := h
  obtain ⟨g1, g2, g3⟩ := h'
  unfold meetB
  by_cases c1 : x < a + b
  · by_cases c2 : a < x + y
    · go_enter Try.func71, Try.ntmps71
      go_wp2
      go_ret
      exact ⟨by simp [c1, c2], ((Below.refl _ _).alloc (Nat.le_refl _) _).alloc (by simp) _⟩
    · go_enter Try.func71, Try.ntmps71
      go_wp2
      go_ret
      exact ⟨by simp [c2], ((Below.refl _ _).alloc (Nat.le_refl _) _).alloc (by simp) _⟩
  · go_enter Try.func71, Try.ntmps71
    go_wp2
    go_ret
    exact ⟨by rw [decide_eq_false (by omega : ¬ x < a + b)]; rfl, ((Below.refl _ _).alloc (Nat.le_refl _) _).alloc (by simp) _⟩

/-- Whether an offset lies in an extent of any list; the difference wraps around. -/
def hit (x : Int × Int) (t : Int) : Bool := decide (x.1 ≤ t) && decide (wrap64 (t - x.1) < x.2)
def cnt (l : List (Int × Int)) (t : Int) : Bool := l.any fun x => hit x t
theorem cnt_yes {l : List (Int × Int)} {t : Int} {k : Nat} {x : Int × Int} (h : l[k]? = some x) (hh : hit x t = true) : cnt l t = true := by
  simp only [cnt, List.any_eq_true]
  exact ⟨x, List.mem_of_getElem? h, hh⟩
theorem cnt_step {l : List (Int × Int)} {t : Int} {k : Nat} {x : Int × Int} (h : l[k]? = some x) (h1 : cnt (l.take k) t = false) (hh : hit x t = false) : cnt (l.take (k + 1)) t = false := by
  rw [take_one h]
  simp only [cnt, List.any_append, List.any_cons, List.any_nil, Bool.or_false] at h1 ⊢
  rw [h1, hh]
  rfl
/-- The sum of the lengths of any list, which wraps around. -/
def tot : Int → List (Int × Int) → Int
  | a, [] => a
  | a, x :: l => tot (wrap64 (a + x.2)) l
theorem tot_app {b : List (Int × Int)} : ∀ {a : List (Int × Int)} {p : Int}, tot p (a ++ b) = tot (tot p a) b
  | [], p => rfl
  | x :: a, p => by simp [tot, tot_app (a := a)]
theorem tot_step {l : List (Int × Int)} {k : Nat} {x : Int × Int} (h : l[k]? = some x) (p : Int) : tot p (l.take (k + 1)) = wrap64 (tot p (l.take k) + x.2) := by
  rw [take_one h, tot_app]
  rfl

end Go.Proofs.Ytfchccgajcjbbaa
