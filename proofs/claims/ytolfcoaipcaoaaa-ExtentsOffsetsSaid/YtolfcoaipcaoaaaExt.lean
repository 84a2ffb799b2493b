/-
  Contracts of the small functions of package extents and of the reference: what they return is what the plain functions of the text Set say, and they change nothing that was there. Conditions: the numbers fit into 64 bits; lists have at most a million extents.
-/
import Derived.Test.YtolfcoaipcaoaaaRows
import Derived.Test.YtolfcoaipcaoaaaPair
import Derived.Test.YtolfcoaipcaoaaaSet
import Derived.WalkKit
import Derived.ProofKit
import Derived.Outline
import Derived.WalkLawsBesides
import Derived.WalkSpells
import Derived.Lib.Hide
import Derived.Deep.QuietTactic
import Derived.BigQuiet
namespace Go.Proofs.Ytolfcoaipcaoaaa
open Go.ChangeShapes Go.WideShapes Go.ChangeAt Go.RowKit
set_option maxHeartbeats 400000
set_option maxRecDepth 100000

theorem infoE : (Try.prog.info? 31).map (fun i => (i.zero, i.size, i.bytes)) = some (some (.agg #[.int .i64 0, .int .i64 0]), 2, 16) := by kernel_rfl

/-- What a function says that answers yes or no and may make memory. -/
def Tell (w : World) (b : Bool) (e : Ending) (w' : World) : Prop := e = .returned (.bool b) ∧ Below w.heap.size w w'
/-- What a function says that computes a number and may make memory. -/
def NumE (w : World) (x : Int) (e : Ending) (w' : World) : Prop := e = .returned (.int .i64 x) ∧ Below w.heap.size w w'

theorem proper_yes (x y : Int) (w : World) (h : Pr x y) :
    Calls Try.prog 31 #[.agg #[.int .i64 x, .int .i64 y]] w (Tell w true) := by
  obtain ⟨h1, h2, h3⟩ := h
  have h4 : x ≤ 1048576 - y := by omega
  go_enter Try.func31, Try.ntmps31
  go_wp2
  go_ret
  exact ⟨rfl, (Below.refl _ _).alloc (Nat.le_refl _) _⟩

theorem proper_no (x y : Int) (w : World) (h : ¬ Pr x y) (x0 : -9223372036854775808 ≤ x) (x1 : x ≤ 9223372036854775807) (y0 : -9223372036854775808 ≤ y) (y1 : y ≤ 9223372036854775807) :
    Calls Try.prog 31 #[.agg #[.int .i64 x, .int .i64 y]] w (Tell w false) := by
  unfold Pr at h
  by_cases h1 : 0 ≤ x
  · by_cases h2 : 0 < y
    · have h3 : ¬ x ≤ 1048576 - y := by omega
      clear h
      go_enter Try.func31, Try.ntmps31
      go_wp2
      go_ret
      exact ⟨rfl, (Below.refl _ _).alloc (Nat.le_refl _) _⟩
    · clear h
      go_enter Try.func31, Try.ntmps31
      go_wp2
      go_ret
      exact ⟨rfl, (Below.refl _ _).alloc (Nat.le_refl _) _⟩
  · clear h
    go_enter Try.func31, Try.ntmps31
    go_wp2
    go_ret
    exact ⟨rfl, (Below.refl _ _).alloc (Nat.le_refl _) _⟩

theorem properR_yes (x y : Int) (w : World) (h : Pr x y) :
    Calls Try.prog 33 #[.agg #[.int .i64 x, .int .i64 y]] w (Tell w true) := by
  obtain ⟨h1, h2, h3⟩ := h
  have h4 : y ≤ 1048576 - x := by omega
  go_enter Try.func33, Try.ntmps33
  go_wp2
  go_ret
  exact ⟨rfl, (Below.refl _ _).alloc (Nat.le_refl _) _⟩
theorem properR_no (x y : Int) (w : World) (h : ¬ Pr x y) (x0 : -9223372036854775808 ≤ x) (x1 : x ≤ 9223372036854775807) (y0 : -9223372036854775808 ≤ y) (y1 : y ≤ 9223372036854775807) :
    Calls Try.prog 33 #[.agg #[.int .i64 x, .int .i64 y]] w (Tell w false) := by
  unfold Pr at h
  by_cases h1 : 0 ≤ x
  · by_cases h2 : 0 < y
    · by_cases h4 : x ≤ 1048576
      · have h3 : ¬ y ≤ 1048576 - x := by omega
        clear h
        go_enter Try.func33, Try.ntmps33
        go_wp2
        go_ret
        exact ⟨rfl, (Below.refl _ _).alloc (Nat.le_refl _) _⟩
      · clear h
        go_enter Try.func33, Try.ntmps33
        go_wp2
        go_ret
        exact ⟨rfl, (Below.refl _ _).alloc (Nat.le_refl _) _⟩
    · clear h
      go_enter Try.func33, Try.ntmps33
      go_wp2
      go_ret
      exact ⟨rfl, (Below.refl _ _).alloc (Nat.le_refl _) _⟩
  · clear h
    go_enter Try.func33, Try.ntmps33
    go_wp2
    go_ret
    exact ⟨rfl, (Below.refl _ _).alloc (Nat.le_refl _) _⟩

/-- The end of an extent, where it does not wrap around. -/
theorem end_any (x y : Int) (w : World) (h : Pr x y) :
    Calls Try.prog 32 #[.agg #[.int .i64 x, .int .i64 y]] w (NumE w (x + y)) := by
  obtain ⟨h1, h2, h3⟩ := h
  go_enter Try.func32, Try.ntmps32
  go_wp2
  go_ret
  exact ⟨rfl, (Below.refl _ _).alloc (Nat.le_refl _) _⟩

/-- What a function says that makes an extent. -/
def ExtE (w : World) (x y : Int) (e : Ending) (w' : World) : Prop := e = .returned (.agg #[.int .i64 x, .int .i64 y]) ∧ Below w.heap.size w w'
theorem between_any (a b : Int) (w : World) (a0 : 0 ≤ a) (a1 : a ≤ 1048576) (b0 : 0 ≤ b) (b1 : b ≤ 1048576) :
    Calls Try.prog 35 #[.int .i64 a, .int .i64 b] w (ExtE w a (b - a)) := by
  go_enter Try.func35, Try.ntmps35
  go_wp2
  exact bodyPost_ret (v := .agg #[.int .i64 a, .int .i64 (b - a)]) (by simp [results, Try.results35, go_sem]) rfl ⟨rfl, (Below.refl _ _).alloc (Nat.le_refl _) _⟩

def meetB (x y a b : Int) : Bool := decide (x < a + b) && decide (a < x + y)
theorem meets_any (x y a b : Int) (w : World) (h : Pr x y) (h' : Pr a b) :
    Calls Try.prog 37 #[.agg #[.int .i64 x, .int .i64 y], .agg #[.int .i64 a, .int .i64 b]] w (Tell w (meetB x y a b)) := by
  obtain ⟨h1, h2, h3⟩ := h
  obtain ⟨g1, g2, g3⟩ := h'
  unfold meetB
  by_cases c1 : x < a + b
  · by_cases c2 : a < x + y
    · go_enter Try.func37, Try.ntmps37
      go_wp2
      go_ret
      exact ⟨by simp [c1, c2], ((Below.refl _ _).alloc (Nat.le_refl _) _).alloc (by simp) _⟩
    · go_enter Try.func37, Try.ntmps37
      go_wp2
      go_ret
      exact ⟨by simp [c2], ((Below.refl _ _).alloc (Nat.le_refl _) _).alloc (by simp) _⟩
  · go_enter Try.func37, Try.ntmps37
    go_wp2
    go_ret
    exact ⟨by rw [decide_eq_false (by omega : ¬ x < a + b)]; rfl, ((Below.refl _ _).alloc (Nat.le_refl _) _).alloc (by simp) _⟩

/-- Whether an offset lies in an extent of any list; the difference wraps around. -/
def hit (x : Int × Int) (t : Int) : Bool := decide (x.1 ≤ t) && decide (wrap64 (t - x.1) < x.2)
def cnt (l : List (Int × Int)) (t : Int) : Bool := l.any fun x => hit x t
theorem cnt_yes {l : List (Int × Int)} {t : Int} {k : Nat} {x : Int × Int} (h : l[k]? = some x) (hh : hit x t = true) : cnt l t = true := by
  simp only [cnt, List.any_eq_true]
  exact ⟨x, List.mem_of_getElem? h, hh⟩
theorem cnt_step {l : List (Int × Int)} {t : Int} {k : Nat} {x : Int × Int} (h : l[k]? = some x) (h1 : cnt (l.take k) t = false) (hh : hit x t = false) : cnt (l.take (k + 1)) t = false := by
  rw [take_one h]
  simp only [cnt, List.any_append, List.any_cons, List.any_nil, Bool.or_false] at h1 ⊢
  rw [h1, hh]
  rfl
/-- The sum of the lengths of any list, which wraps around. -/
def tot : Int → List (Int × Int) → Int
  | a, [] => a
  | a, x :: l => tot (wrap64 (a + x.2)) l
theorem tot_app {b : List (Int × Int)} : ∀ {a : List (Int × Int)} {p : Int}, tot p (a ++ b) = tot (tot p a) b
  | [], p => rfl
  | x :: a, p => by simp [tot, tot_app (a := a)]
theorem tot_step {l : List (Int × Int)} {k : Nat} {x : Int × Int} (h : l[k]? = some x) (p : Int) : tot p (l.take (k + 1)) = wrap64 (tot p (l.take k) + x.2) := by
  rw [take_one h, tot_app]
  rfl

theorem contains_any (A : Option Addr) (n c : Nat) (l : List (Int × Int)) (t : Int) (w : World) (h : Exs w w.heap.size A n c l) (hn : n ≤ 1000000) :
    Calls Try.prog 17 #[.slice A n c, .int .i64 t] w (Tell w (cnt l t)) := by
  have HB := Lib.hid h
  have hcap := h.cap
  have hsm := h.small
  unfold maxLen at hsm
  clear h
  go_enter Try.func17, Try.ntmps17
  go_wp2
  go_loopw [9] (fun i wr => ∃ (k : Nat), k ≤ n ∧ i = .int .i64 k ∧ Hid (cnt (l.take k) t = false ∧ Below w.heap.size w wr)) (fun i _ => n - (intOf i).toNat)
  case atStart => exact ⟨0, by omega, rfl, Lib.hid ⟨by simp [cnt], Below.refl _ _⟩⟩
  case round =>
    obtain ⟨k, hk, rfl, hh⟩ := hrel
    by_cases hlt : k < n
    · obtain ⟨b, o, x, y, hx, rfl, hb, hc1, hc2, x0, x1, y0, y1⟩ := (HB.out.below hh.out.2).at_ hlt
      have HX := Lib.hid hx
      clear hx
      by_cases c1 : x ≤ t
      · by_cases c2 : wrap64 (t - x) < y
        · go_wp2
          go_ret
          exact ⟨by rw [cnt_yes HX.out (by simp [hit, c1, c2])]; rfl, hh.out.2.alloc hh.out.2.size _⟩
        · go_wp2
          go_roundw
          case rel => exact ⟨k + 1, by omega, by go_num, Lib.hid ⟨cnt_step HX.out hh.out.1 (by simp [hit, c2]), hh.out.2.alloc hh.out.2.size _⟩⟩
          case measure => simp [intOf]; omega
      · go_wp2
        go_roundw
        case rel => exact ⟨k + 1, by omega, by go_num, Lib.hid ⟨cnt_step HX.out hh.out.1 (by simp [hit, c1]), hh.out.2.alloc hh.out.2.size _⟩⟩
        case measure => simp [intOf]; omega
    · obtain rfl : k = n := by omega
      have HE : Hid (cnt l t = false) := Lib.hid (by have := hh.out.1; rwa [List.take_of_length_le (by have := HB.out.len; omega)] at this)
      go_wp2
      go_ret
      exact ⟨by rw [HE.out]; rfl, hh.out.2⟩

theorem total_any (A : Option Addr) (n c : Nat) (l : List (Int × Int)) (w : World) (h : Exs w w.heap.size A n c l) (hn : n ≤ 1000000) :
    Calls Try.prog 19 #[.slice A n c] w (NumE w (tot 0 l)) := by
  have HB := Lib.hid h
  have hcap := h.cap
  have hsm := h.small
  unfold maxLen at hsm
  clear h
  go_enter Try.func19, Try.ntmps19
  go_wp2
  go_loopw [3, 8] (fun s i wr => ∃ (k : Nat) (z : Int), k ≤ n ∧ i = .int .i64 k ∧ s = .int .i64 z ∧ Hid (z = tot 0 (l.take k) ∧ Below w.heap.size w wr)) (fun _ i _ => n - (intOf i).toNat)
  case atStart => exact ⟨0, 0, by omega, rfl, rfl, Lib.hid ⟨by simp [tot], Below.refl _ _⟩⟩
  case round =>
    obtain ⟨k, z, hk, rfl, rfl, hh⟩ := hrel
    by_cases hlt : k < n
    · obtain ⟨b, o, x, y, hx, rfl, hb, hc1, hc2, x0, x1, y0, y1⟩ := (HB.out.below hh.out.2).at_ hlt
      have HX := Lib.hid hx
      clear hx
      go_wp2
      go_roundw
      case rel => exact ⟨k + 1, _, by omega, by go_num, rfl, Lib.hid ⟨by rw [tot_step HX.out, ← hh.out.1], hh.out.2.alloc hh.out.2.size _⟩⟩
      case measure => simp [intOf]; omega
    · obtain rfl : k = n := by omega
      have HE : Hid (z = tot 0 l) := Lib.hid (by have := hh.out.1; rwa [List.take_of_length_le (by have := HB.out.len; omega)] at this)
      go_wp2
      go_ret
      exact ⟨by rw [← HE.out]; rfl, hh.out.2⟩

theorem totalR_any (A : Option Addr) (n c : Nat) (l : List (Int × Int)) (w : World) (h : Exs w w.heap.size A n c l) (hn : n ≤ 1000000) :
    Calls Try.prog 20 #[.slice A n c] w (NumE w (tot 0 l)) := by
  have HB := Lib.hid h
  have hcap := h.cap
  have hsm := h.small
  unfold maxLen at hsm
  clear h
  go_enter Try.func20, Try.ntmps20
  go_wp2
  go_loop [3, 4] (fun s i => ∃ (k : Nat) (z : Int), k ≤ n ∧ i = .int .i64 k ∧ s = .int .i64 z ∧ Hid (z = tot 0 (l.take k))) (fun _ i => n - (intOf i).toNat)
  case atStart => exact ⟨0, 0, by omega, rfl, rfl, Lib.hid (by simp [tot])⟩
  case round =>
    obtain ⟨k, z, hk, rfl, rfl, hh⟩ := hrel
    by_cases hlt : k < n
    · obtain ⟨b, o, x, y, hx, rfl, hb, hc1, hc2, x0, x1, y0, y1⟩ := HB.out.at_ hlt
      have HX := Lib.hid hx
      clear hx
      go_wp2
      go_round
      case rel => exact ⟨k + 1, _, by omega, by go_num, rfl, Lib.hid (by rw [tot_step HX.out, ← hh.out])⟩
      case measure => simp [intOf]; omega
    · obtain rfl : k = n := by omega
      have HE : Hid (z = tot 0 l) := Lib.hid (by have := hh.out; rwa [List.take_of_length_le (by have := HB.out.len; omega)] at this)
      go_wp2
      go_ret
      exact ⟨by rw [← HE.out]; rfl, Below.refl _ _⟩

theorem containsR_any (A : Option Addr) (n c : Nat) (l : List (Int × Int)) (t : Int) (w : World) (h : Exs w w.heap.size A n c l) (hn : n ≤ 1000000) :
    Calls Try.prog 18 #[.slice A n c, .int .i64 t] w (Tell w (cnt l t)) := by
  have HB := Lib.hid h
  have hcap := h.cap
  have hsm := h.small
  unfold maxLen at hsm
  clear h
  go_enter Try.func18, Try.ntmps18
  go_wp2
  go_loopw [5] (fun i wr => ∃ (k : Nat), k ≤ n ∧ i = .int .i64 k ∧ Hid (cnt (l.take k) t = false ∧ Below w.heap.size w wr)) (fun i _ => n - (intOf i).toNat)
  case atStart => exact ⟨0, by omega, rfl, Lib.hid ⟨by simp [cnt], Below.refl _ _⟩⟩
  case round =>
    obtain ⟨k, hk, rfl, hh⟩ := hrel
    by_cases hlt : k < n
    · obtain ⟨b, o, x, y, hx, rfl, hb, hc1, hc2, x0, x1, y0, y1⟩ := (HB.out.below hh.out.2).at_ hlt
      have HX := Lib.hid hx
      clear hx
      have hlt' : (k : Int) < (n : Int) := by omega
      by_cases c1 : x ≤ t
      · have d1 : decide (x ≤ t) = true := decide_eq_true c1
        by_cases c2 : wrap64 (t - x) < y
        · have HH : Hid (hit (x, y) t = true) := Lib.hid (by simp [hit, c1, c2])
          go_wp2
          go_quiet (fail)
          go_wp2
          go_ret
          exact ⟨by rw [cnt_yes HX.out HH.out]; rfl, below_drewN hh.out.2 _⟩
        · have HH : Hid (hit (x, y) t = false) := Lib.hid (by simp [hit, c2])
          go_wp2
          go_quiet (fail)
          go_wp2
          go_roundw
          case rel => exact ⟨k + 1, by omega, by go_num, Lib.hid ⟨cnt_step HX.out hh.out.1 HH.out, below_drewN hh.out.2 _⟩⟩
          case measure => simp [intOf]; omega
      · have d1 : decide (x ≤ t) = false := decide_eq_false c1
        have HH : Hid (hit (x, y) t = false) := Lib.hid (by simp [hit, c1])
        go_wp2
        go_quiet (fail)
        go_wp2
        go_roundw
        case rel => exact ⟨k + 1, by omega, by go_num, Lib.hid ⟨cnt_step HX.out hh.out.1 HH.out, below_drewN hh.out.2 _⟩⟩
        case measure => simp [intOf]; omega
    · obtain rfl : k = n := by omega
      have HE : Hid (cnt l t = false) := Lib.hid (by have := hh.out.1; rwa [List.take_of_length_le (by have := HB.out.len; omega)] at this)
      go_wp2
      go_ret
      exact ⟨by rw [HE.out]; rfl, hh.out.2⟩
end Go.Proofs.Ytolfcoaipcaoaaa
