/-
  The law TyperegFull as a walk: called with any arguments of its types it returns true. No conditions.
-/
import Derived.Test.YtgddlpabgeeflaaAwt
namespace Go.Proofs.Ytgddlpabgeeflaa
open Go.ChangeShapes Go.WideShapes Go.RowKit
set_option linter.unusedVariables false
set_option maxHeartbeats 4000000
set_option maxRecDepth 100000

/-- The first types that the law registers. -/
def ful (i : Nat) : List (Int × List (Int × Int)) := (List.range i).map fun (j : Nat) => ((j : Int) + 1, [((1 : Int), (0 : Int))])
theorem ful_len {i : Nat} : (ful i).length = i := by simp [ful]
theorem ful_succ {i : Nat} : ful (i + 1) = ful i ++ [((i : Int) + 1, [(1, 0)])] := by simp [ful, List.range_succ]
theorem ful_at {i j : Nat} (h : j < i) : (ful i)[j]? = some ((j : Int) + 1, [(1, 0)]) := by simp [ful, h]
theorem ful_no {i j : Nat} (h : i ≤ j) : ((j : Int) + 1, [((1 : Int), (0 : Int))]) ∉ ful i := by
  unfold ful
  intro hm
  obtain ⟨x, hx, he⟩ := List.mem_map.1 hm
  have := List.mem_range.1 hx
  have := (Prod.mk.injEq _ _ _ _ ▸ he).1
  omega
theorem chk_one {n : Int} (h : 1 ≤ n ∧ n ≤ 65536) : chk n [(1, 0)] = 0 := by
  have h1 : ckc n 1 = 0 := by
    unfold ckc
    rw [if_neg (by omega), if_neg (by omega), if_neg (by omega), if_neg (by omega)]
  have h2 : szc n [(1, 0)] = 1 * n := by
    unfold szc
    rw [if_pos (by omega)]
    rfl
  rw [chk_is, if_pos (by exact h1), if_pos (by decide), h2, if_neg (by omega)]
theorem ful_rg {i : Nat} (h : i < 260) : rgV (ful (min i 255)) ((i : Int) + 1, [(1, 0)]) = (if i < 255 then ((i : Int) + 1, 0) else (0, 4)) ∧ rgT (ful (min i 255)) ((i : Int) + 1, [(1, 0)]) = ful (min (i + 1) 255) := by
  have hc := chk_one (n := (i : Int) + 1) (by omega)
  have hn := ful_no (i := min i 255) (j := i) (by omega)
  unfold rgV rgT
  simp only [hc, ful_len, ne_eq, not_true_eq_false, if_false, true_and, hn, not_false_eq_true]
  by_cases h2 : i < 255
  · rw [if_neg (by omega), if_pos h2, if_pos (by omega), show min i 255 = i by omega, show min (i + 1) 255 = i + 1 by omega, ful_succ]
    exact ⟨rfl, rfl⟩
  · rw [if_pos (by omega), if_neg h2, if_neg (by omega), show min i 255 = 255 by omega, show min (i + 1) 255 = 255 by omega]
    exact ⟨rfl, rfl⟩
theorem ful_again {k a : Nat} (hk : 250 ≤ k) (ha : a < 200) : rgV (ful (min k 255)) (1 + (a : Int), [(1, 0)]) = (1 + (a : Int), 0) ∧ rgT (ful (min k 255)) (1 + (a : Int), [(1, 0)]) = ful (min k 255) := by
  have hc := chk_one (n := 1 + (a : Int)) (by omega)
  have hat := ful_at (i := min k 255) (j := a) (by omega)
  rw [Int.add_comm] at hat
  have hm := List.mem_of_getElem? hat
  have hix := ixT_at (x := (1 + (a : Int), [(1, 0)])) (T := ful (min k 255)) (j := a) (by
    intro h
    have := List.mem_of_mem_take (i := a) h
    have h2 : (ful (min k 255)).take a = ful a := by
      unfold ful
      rw [← List.map_take, List.take_range, Nat.min_eq_left (by omega)]
    rw [h2, Int.add_comm] at h
    exact ful_no (Nat.le_refl _) h) hat
  unfold rgV rgT
  simp only [hc, ne_eq, not_true_eq_false, if_false, hm, if_true, not_true_eq_false, false_and, and_false, hix]
  exact ⟨by rw [Int.add_comm], trivial⟩
theorem ful_zero {T : List (Int × List (Int × Int))} : rgV T (0, []) = (0, 3) ∧ rgT T (0, []) = T := by
  have hc : chk 0 [] = 3 := by decide
  unfold rgV rgT
  simp [hc]
theorem typeregFull_walk (a0 a1 : Int) (w : World) (w0 : (Lit.int .u8 a0).wf = true) (w1 : (Lit.int .u8 a1).wf = true) :
    Calls Try.prog 4 #[.int .u8 a0, .int .u8 a1] w fun e w' => e = .returned (.bool true) ∧ Below w.heap.size w w' := by
  have b0 := Go.bounds_u8 w0
  have b1 := Go.bounds_u8 w1
  obtain ⟨X, hX⟩ : ∃ X : Nat, a0 % 10 = (X : Int) := ⟨(a0 % 10).toNat, by omega⟩
  obtain ⟨Y, hY⟩ : ∃ Y : Nat, a1 % 200 = (Y : Int) := ⟨(a1 % 200).toNat, by omega⟩
  have hX9 : X < 10 := by omega
  have hY9 : Y < 200 := by omega
  have HN := Lib.hid (newT_any w)
  clear w0 w1
  go_enter Try.func4, Try.ntmps4
  go_wp2_with fail
  refine HN.out.mono ?_
  rintro e w2 ⟨rfl, hw2⟩
  have HB2 : Hid (Below w.heap.size w w2) := Lib.hid (by rw [hw2]; exact (Below.refl _ _).alloc (Nat.le_refl _) _)
  have HR2 : Hid (Reg w2 (cl2 w.heap.size) 2 0 w.heap.size []) := Lib.hid (by rw [hw2]; exact Reg.new cl2_at)
  clear HN hw2
  generalize hb : w.heap.size = b at *
  go_wp2
  go_loopw [7] (fun kv wr => ∃ (i : Nat), i ≤ 250 + X ∧ kv = .int .i64 i ∧ Hid (∃ c, Reg wr c 2 0 b (ful (min i 255)) ∧ (∀ g, g < b → c g ≠ 2) ∧ Below b w wr)) (fun kv _ => 250 + X - (intOf kv).toNat)
  case atStart => exact ⟨0, by omega, rfl, Lib.hid ⟨cl2 b, HR2.out, fun g hg => by rw [cl2_no (by omega)]; omega, HB2.out⟩⟩
  case round =>
    obtain ⟨i, hi, rfl, hh⟩ := hrel
    obtain ⟨c, hr, hc, hbw⟩ := hh.out
    clear hh
    by_cases hik : i < 250 + X
    · have hi1 : (i : Int) < 250 + (X : Int) := by omega
      have hi2 : IntKind.i64.wrap ((i : Int) + 1) = (i : Int) + 1 := by rw [IntKind.wrap_i64]; omega
      have hb1 : Below wr.heap.size wr (wr.alloc (.cells #[.int .i64 1, .int .i64 0] 45)) := (Below.refl _ _).alloc (Nat.le_refl _) _
      have HC := Lib.hid (register_any (wr.alloc (.cells #[.int .i64 1, .int .i64 0] 45)) c 2 0 b (ful (min i 255)) ((i : Int) + 1) (some ⟨wr.heap.size, 0, none⟩) 1 1 [(1, 0)] (hr.go hb1) (by omega) (Nat.zero_le _) (Exs.one (w := wr) (t := 45) rfl (fun x hx => by simp at hx; subst hx; simp) (Below.refl _ _)) (by omega) (by rw [ful_len]; omega))
      have HBW : Hid (Below b w (wr.alloc (.cells #[.int .i64 1, .int .i64 0] 45))) := Lib.hid (hbw.alloc (by have := hbw.size; omega) _)
      have HCC := Lib.hid hc
      have hbz := hbw.size
      obtain ⟨f1, f2⟩ := ful_rg (i := i) (by omega)
      clear hr hc hb1 hbw
      go_wp2_with fail
      refine HC.out.mono ?_
      rintro e w3 ⟨c3, rfl, hc3, hr3, hk3⟩
      rw [f2] at hr3
      rw [f1]
      have HR3 := Lib.hid hr3
      have hbz2 := HBW.out.size
      have HC3 : Hid (∀ g, g < b → c3 g ≠ 2) := Lib.hid (fun g hg => by rw [hc3 g (by omega)]; exact HCC.out g hg)
      have HB3 : Hid (Below b w w3) := Lib.hid (HBW.out.trans (hk3.below HCC.out (by omega)))
      clear hr3 hc3 hk3 HC f1 f2
      by_cases h255 : i < 255
      · rw [if_pos h255]
        have h3 : (i : Int) < 255 := by omega
        have h4 : ¬ (255 : Int) ≤ (i : Int) := by omega
        go_wp2
        go_roundw
        case rel => exact ⟨i + 1, by omega, by go_num, Lib.hid ⟨c3, HR3.out, HC3.out, HB3.out⟩⟩
        case measure => simp [intOf]; omega
      · rw [if_neg h255]
        have h3 : ¬ (i : Int) < 255 := by omega
        have h4 : (255 : Int) ≤ (i : Int) := by omega
        go_wp2
        go_roundw
        case rel => exact ⟨i + 1, by omega, by go_num, Lib.hid ⟨c3, HR3.out, HC3.out, HB3.out⟩⟩
        case measure => simp [intOf]; omega
    · obtain ⟨K, hK⟩ : ∃ K, 250 + X = K := ⟨_, rfl⟩
      obtain rfl : i = K := by omega
      have hKi : (i : Int) = 250 + (X : Int) := by omega
      have hi1 : ¬ (i : Int) < 250 + (X : Int) := by omega
      have hb1 : Below wr.heap.size wr (wr.alloc (.cells #[.int .i64 1, .int .i64 0] 45)) := (Below.refl _ _).alloc (Nat.le_refl _) _
      have HC := Lib.hid (register_any (wr.alloc (.cells #[.int .i64 1, .int .i64 0] 45)) c 2 0 b (ful (min i 255)) (1 + (Y : Int)) (some ⟨wr.heap.size, 0, none⟩) 1 1 [(1, 0)] (hr.go hb1) (by omega) (Nat.zero_le _) (Exs.one (w := wr) (t := 45) rfl (fun x hx => by simp at hx; subst hx; simp) (Below.refl _ _)) (by omega) (by rw [ful_len]; omega))
      have HBW : Hid (Below b w (wr.alloc (.cells #[.int .i64 1, .int .i64 0] 45))) := Lib.hid (hbw.alloc (by have := hbw.size; omega) _)
      have HCC := Lib.hid hc
      have hbz := hbw.size
      obtain ⟨f1, f2⟩ := ful_again (k := i) (a := Y) (by omega) hY9
      clear hr hc hb1 hbw
      go_wp2_with fail
      refine HC.out.mono ?_
      rintro e w3 ⟨c3, rfl, hc3, hr3, hk3⟩
      rw [f2] at hr3
      rw [f1]
      have hbz2 := HBW.out.size
      have HC3 : Hid (∀ g, g < b → c3 g ≠ 2) := Lib.hid (fun g hg => by rw [hc3 g (by omega)]; exact HCC.out g hg)
      have HB3 : Hid (Below b w w3) := Lib.hid (HBW.out.trans (hk3.below HCC.out (by omega)))
      have HC4 := Lib.hid (register_any w3 c3 2 0 b (ful (min i 255)) 0 none 0 0 [] hr3 (by omega) (Nat.zero_le _) Exs.none_ (by omega) (by rw [ful_len]; omega))
      have hbz3 := HB3.out.size
      obtain ⟨g1, g2⟩ := ful_zero (T := ful (min i 255))
      clear hr3 hc3 hk3 HC f1 f2
      go_wp2_with fail
      refine HC4.out.mono ?_
      rintro e w4 ⟨c4, rfl, hc4, hr4, hk4⟩
      rw [g2] at hr4
      rw [g1]
      have HB4 : Hid (Below b w w4) := Lib.hid (HB3.out.trans (hk4.below HC3.out (by omega)))
      have HR4 := Lib.hid hr4
      clear hr4 hc4 hk4 HC4 g1 g2
      go_wp2_with fail
      refine (awake10_any w4).mono ?_
      rintro e w5 ⟨rfl, hb5⟩
      have HB5 : Hid (Below b w w5) := Lib.hid (Below.then HB4.out hb5 (by have := HB4.out.size; omega))
      have HL := Lib.hid (lenT_any w5 c4 2 0 b _ (HR4.out.go hb5))
      rw [ful_len] at HL
      clear hb5 HR4
      by_cases h5 : (250 : Int) + (X : Int) ≤ 255
      · rw [show min i 255 = i by omega, hKi] at HL
        go_wp2_with fail
        refine HL.out.mono ?_
        rintro e w6 ⟨rfl, rfl⟩
        clear HL
        have h6 : ((250 : Int) + (X : Int) == 250 + (X : Int)) = true := by simp
        go_wp2
        go_ret
        exact ⟨by simp, by rw [hb]; exact HB5.out⟩
      · rw [show min i 255 = 255 by omega] at HL
        go_wp2_with fail
        refine HL.out.mono ?_
        rintro e w6 ⟨rfl, rfl⟩
        clear HL
        go_wp2
        go_ret
        exact ⟨by simp, by rw [hb]; exact HB5.out⟩
end Go.Proofs.Ytgddlpabgeeflaa
