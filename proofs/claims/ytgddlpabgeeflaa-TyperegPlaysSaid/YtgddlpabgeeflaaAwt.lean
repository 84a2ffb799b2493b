/-
  The example of chapter 10. No conditions.
-/
import Derived.Test.YtgddlpabgeeflaaRgl
namespace Go.Proofs.Ytgddlpabgeeflaa
open Go.ChangeShapes Go.WideShapes Go.RowKit
set_option linter.unusedVariables false
set_option maxHeartbeats 4000000
set_option maxRecDepth 100000

theorem aw_t : rgV [] (0, [(1, 0)]) = (1, 0) ∧ rgT [] (0, [(1, 0)]) = [(0, [(1, 0)])] ∧ rgV [(0, [(1, 0)])] (0, [(2, 0)]) = (2, 0) ∧ rgT [(0, [(1, 0)])] (0, [(2, 0)]) = [(0, [(1, 0)]), (0, [(2, 0)])] ∧ rgV [(0, [(1, 0)]), (0, [(2, 0)])] (0, [(1, 0)]) = (1, 0) := by
  decide
theorem Kept.tyb {w w' : World} {c : Nat → Nat} {k t m cc : Nat} {n : Int} {A : Option Addr} (hk : Kept c k w w') (h : TyB w t n A m cc) (hc : c t ≠ k) : TyB w' t n A m cc := (hk.block t h.lt hc).trans h
/-- The colours of a registry at block b. -/
def cl2 (b : Nat) : Nat → Nat := fun g => if g = b then 2 else 0
theorem cl2_at {b : Nat} : cl2 b b = 2 := if_pos rfl
theorem cl2_no {b g : Nat} (h : g ≠ b) : cl2 b g = 0 := if_neg h
theorem Exs.one {w w' : World} {x y : Int} {b : Nat} {t : TypeId} (hb : b = w.heap.size) (hf : Fits [(x, y)]) (h : Below (w.heap.size + 1) (w.alloc (.cells #[.int .i64 x, .int .i64 y] t)) w') : Exs w' w'.heap.size (some ⟨b, 0, none⟩) 1 1 [(x, y)] := by
  subst hb
  exact ((Exs.new w [(x, y)] _ t 1 rfl rfl (by unfold maxLen; omega) hf).below h).more (by have := h.size; simp at this; exact this)
theorem awake10_any (w : World) : Calls Try.prog 8 #[] w (Says w (.bool true)) := by
  have HN := Lib.hid (newT_any w)
  have hb1 : Below w.heap.size w (w.alloc (.cells #[.slice none 0 0] 54)) := (Below.refl _ _).alloc (Nat.le_refl _) _
  have hb5 : Below (w.heap.size + 1) (w.alloc (.cells #[.slice none 0 0] 54)) (((((w.alloc (.cells #[.slice none 0 0] 54)).alloc (.cells #[.int .i64 1, .int .i64 0] 45)).alloc (.cells #[.int .i64 0, .slice (some ⟨w.heap.size + 1, 0, none⟩) 1 1] 35)).alloc (.cells #[.int .i64 2, .int .i64 0] 45)).alloc (.cells #[.int .i64 0, .slice (some ⟨w.heap.size + 1 + 1 + 1, 0, none⟩) 1 1] 35)) := (((((Below.refl _ _).alloc (by simp) _).alloc (by simp) _).alloc (by simp) _).alloc (by simp <;> omega) _)
  have HB5 : Hid (Below w.heap.size w (((((w.alloc (.cells #[.slice none 0 0] 54)).alloc (.cells #[.int .i64 1, .int .i64 0] 45)).alloc (.cells #[.int .i64 0, .slice (some ⟨w.heap.size + 1, 0, none⟩) 1 1] 35)).alloc (.cells #[.int .i64 2, .int .i64 0] 45)).alloc (.cells #[.int .i64 0, .slice (some ⟨w.heap.size + 1 + 1 + 1, 0, none⟩) 1 1] 35))) := Lib.hid (hb1.trans (hb5.mono (by omega)))
  have HR5 : Hid (Reg (((((w.alloc (.cells #[.slice none 0 0] 54)).alloc (.cells #[.int .i64 1, .int .i64 0] 45)).alloc (.cells #[.int .i64 0, .slice (some ⟨w.heap.size + 1, 0, none⟩) 1 1] 35)).alloc (.cells #[.int .i64 2, .int .i64 0] 45)).alloc (.cells #[.int .i64 0, .slice (some ⟨w.heap.size + 1 + 1 + 1, 0, none⟩) 1 1] 35)) (cl2 w.heap.size) 2 0 w.heap.size []) := Lib.hid ((Reg.new (base := 0) (w := w) (c := cl2 w.heap.size) (k := 2) cl2_at).go (hb5.mono (by simp)))
  have HE1 : Hid (Ex0 (((((w.alloc (.cells #[.slice none 0 0] 54)).alloc (.cells #[.int .i64 1, .int .i64 0] 45)).alloc (.cells #[.int .i64 0, .slice (some ⟨w.heap.size + 1, 0, none⟩) 1 1] 35)).alloc (.cells #[.int .i64 2, .int .i64 0] 45)).alloc (.cells #[.int .i64 0, .slice (some ⟨w.heap.size + 1 + 1 + 1, 0, none⟩) 1 1] 35)) (cl2 w.heap.size) (some ⟨w.heap.size + 1, 0, none⟩) 1 1 [(1, 0)]) := Lib.hid ⟨Exs.one (w := (w.alloc (.cells #[.slice none 0 0] 54))) (t := 45) (by simp) (fun x hx => by simp at hx; subst hx; simp) ((((Below.refl _ _).alloc (by simp) _).alloc (by simp) _).alloc (by simp <;> omega) _), fun a ha => by cases ha; exact ⟨by simp <;> omega, cl2_no (by simp)⟩⟩
  have HE2 : Hid (Ex0 (((((w.alloc (.cells #[.slice none 0 0] 54)).alloc (.cells #[.int .i64 1, .int .i64 0] 45)).alloc (.cells #[.int .i64 0, .slice (some ⟨w.heap.size + 1, 0, none⟩) 1 1] 35)).alloc (.cells #[.int .i64 2, .int .i64 0] 45)).alloc (.cells #[.int .i64 0, .slice (some ⟨w.heap.size + 1 + 1 + 1, 0, none⟩) 1 1] 35)) (cl2 w.heap.size) (some ⟨w.heap.size + 1 + 1 + 1, 0, none⟩) 1 1 [(2, 0)]) := Lib.hid ⟨Exs.one (w := (((w.alloc (.cells #[.slice none 0 0] 54)).alloc (.cells #[.int .i64 1, .int .i64 0] 45)).alloc (.cells #[.int .i64 0, .slice (some ⟨w.heap.size + 1, 0, none⟩) 1 1] 35))) (t := 45) (by simp) (fun x hx => by simp at hx; subst hx; simp) ((Below.refl _ _).alloc (by simp) _), fun a ha => by cases ha; exact ⟨by simp <;> omega, cl2_no (by simp <;> omega)⟩⟩
  have ht1 : TyB (((((w.alloc (.cells #[.slice none 0 0] 54)).alloc (.cells #[.int .i64 1, .int .i64 0] 45)).alloc (.cells #[.int .i64 0, .slice (some ⟨w.heap.size + 1, 0, none⟩) 1 1] 35)).alloc (.cells #[.int .i64 2, .int .i64 0] 45)).alloc (.cells #[.int .i64 0, .slice (some ⟨w.heap.size + 1 + 1 + 1, 0, none⟩) 1 1] 35)) (w.heap.size + 1 + 1) 0 (some ⟨w.heap.size + 1, 0, none⟩) 1 1 := by
    have h := (TyB.new (w := ((w.alloc (.cells #[.slice none 0 0] 54)).alloc (.cells #[.int .i64 1, .int .i64 0] 45))) (n := 0) (A := some ⟨w.heap.size + 1, 0, none⟩) (m := 1) (c := 1)).go (((Below.refl _ _).alloc (Nat.le_refl _) (.cells #[.int .i64 2, .int .i64 0] 45)).alloc (by simp) (.cells #[.int .i64 0, .slice (some ⟨w.heap.size + 1 + 1 + 1, 0, none⟩) 1 1] 35))
    rwa [show ((w.alloc (.cells #[.slice none 0 0] 54)).alloc (.cells #[.int .i64 1, .int .i64 0] 45)).heap.size = w.heap.size + 1 + 1 by simp] at h
  have ht2 : TyB (((((w.alloc (.cells #[.slice none 0 0] 54)).alloc (.cells #[.int .i64 1, .int .i64 0] 45)).alloc (.cells #[.int .i64 0, .slice (some ⟨w.heap.size + 1, 0, none⟩) 1 1] 35)).alloc (.cells #[.int .i64 2, .int .i64 0] 45)).alloc (.cells #[.int .i64 0, .slice (some ⟨w.heap.size + 1 + 1 + 1, 0, none⟩) 1 1] 35)) (w.heap.size + 1 + 1 + 1 + 1) 0 (some ⟨w.heap.size + 1 + 1 + 1, 0, none⟩) 1 1 := by
    have h := TyB.new (w := ((((w.alloc (.cells #[.slice none 0 0] 54)).alloc (.cells #[.int .i64 1, .int .i64 0] 45)).alloc (.cells #[.int .i64 0, .slice (some ⟨w.heap.size + 1, 0, none⟩) 1 1] 35)).alloc (.cells #[.int .i64 2, .int .i64 0] 45))) (n := 0) (A := some ⟨w.heap.size + 1 + 1 + 1, 0, none⟩) (m := 1) (c := 1)
    rwa [show ((((w.alloc (.cells #[.slice none 0 0] 54)).alloc (.cells #[.int .i64 1, .int .i64 0] 45)).alloc (.cells #[.int .i64 0, .slice (some ⟨w.heap.size + 1, 0, none⟩) 1 1] 35)).alloc (.cells #[.int .i64 2, .int .i64 0] 45)).heap.size = w.heap.size + 1 + 1 + 1 + 1 by simp] at h
  have HT1 := Lib.hid ht1
  have HT2 := Lib.hid ht2
  clear hb1 hb5 ht1 ht2
  go_enter Try.func8, Try.ntmps8
  go_wp2_with fail
  refine HN.out.mono ?_
  rintro e w1 ⟨rfl, hw1⟩
  subst hw1
  clear HN
  go_wp2_with fail
  generalize (((((w.alloc (.cells #[.slice none 0 0] 54)).alloc (.cells #[.int .i64 1, .int .i64 0] 45)).alloc (.cells #[.int .i64 0, .slice (some ⟨w.heap.size + 1, 0, none⟩) 1 1] 35)).alloc (.cells #[.int .i64 2, .int .i64 0] 45)).alloc (.cells #[.int .i64 0, .slice (some ⟨w.heap.size + 1 + 1 + 1, 0, none⟩) 1 1] 35)) = w5 at *
  generalize hb : w.heap.size = b at *
  obtain ⟨f1, f2, f3, f4, f5⟩ := aw_t
  refine (register_any w5 _ 2 0 b [] 0 _ 1 1 _ HR5.out (by omega) (Nat.zero_le _) HE1.out.1 (by omega) (by simp)).mono ?_
  rintro e w6 ⟨c6, rfl, hc6, hr6, hk6⟩
  rw [f2] at hr6
  rw [f1]
  have h56 := hk6.size
  have HE16 := Lib.hid (HE1.out.kept hk6 (by omega) hc6)
  have HE26 := Lib.hid (HE2.out.kept hk6 (by omega) hc6)
  have HT16 := Lib.hid (hk6.tyb HT1.out (by rw [cl2_no (by omega)]; omega))
  have HT26 := Lib.hid (hk6.tyb HT2.out (by rw [cl2_no (by omega)]; omega))
  have HB6 : Hid (Below b w w6) := Lib.hid (HB5.out.trans (hk6.below (fun g hg => by rw [cl2_no (by omega)]; omega) (by have := HB5.out.size; omega)))
  have l1 := HT1.out.lt
  have l2 := HT2.out.lt
  have HC6 : Hid (∀ g, g ≠ b → g < w5.heap.size → c6 g = 0) := Lib.hid (fun g hg hl => (hc6 g hl).trans (cl2_no hg))
  have d0 := HT26.out.cell0
  have d1 := HT26.out.cell1
  clear hk6 hc6 HE1 HE2 HT1 HT2 HB5 HR5 f1 f2
  go_wp2_with fail
  refine (register_any w6 _ 2 0 b _ 0 _ 1 1 _ hr6 (by omega) (Nat.zero_le _) HE26.out.1 (by omega) (by simp)).mono ?_
  rintro e w7 ⟨c7, rfl, hc7, hr7, hk7⟩
  rw [f4] at hr7
  rw [f3]
  have HE17 := Lib.hid (HE16.out.kept hk7 (by omega) hc7)
  have HT17 := Lib.hid (hk7.tyb HT16.out (by rw [HC6.out _ (by omega) l1]; omega))
  have HB7 : Hid (Below b w w7) := Lib.hid (HB6.out.trans (hk7.below (fun g hg => by rw [HC6.out g (by omega) (by omega)]; omega) (by omega)))
  have HC7 : Hid (∀ g, g ≠ b → g < w5.heap.size → c7 g = 0) := Lib.hid (fun g hg hl => (hc7 g (by omega)).trans (HC6.out g hg hl))
  have h67 := hk7.size
  have e0 := HT17.out.cell0
  have e1 := HT17.out.cell1
  clear hr6 hk7 hc7 HE16 HE26 HT16 HT26 HB6 HC6 f3 f4 d0 d1
  go_wp2_with fail
  refine (register_any w7 _ 2 0 b _ 0 _ 1 1 _ hr7 (by omega) (Nat.zero_le _) HE17.out.1 (by omega) (by simp)).mono ?_
  rintro e w8 ⟨c8, rfl, hc8, hr8, hk8⟩
  rw [f5]
  have HB8 : Hid (Below b w w8) := Lib.hid (HB7.out.trans (hk8.below (fun g hg => by rw [HC7.out g (by omega) (by omega)]; omega) (by omega)))
  clear hr7 hr8 hk8 hc8 HE17 HT17 HB7 HC7 f5 e0 e1
  go_wp2
  go_ret
  exact ⟨rfl, by rw [hb]; exact HB8.out⟩
end Go.Proofs.Ytgddlpabgeeflaa
