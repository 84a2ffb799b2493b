/-
  Contracts of package event's Check and of the definition's. No conditions.
-/
import Derived.Test.YtlgoiccekgjhnaaEvp
import Derived.Test.YtlgoiccekgjhnaaTap
import Derived.Test.YtlgoiccekgjhnaaWge
namespace Go.Proofs.Ytlgoiccekgjhnaa
open Go.ChangeShapes Go.WideShapes Go.RowKit
set_option linter.unusedVariables false
set_option linter.unusedSimpArgs false
set_option maxHeartbeats 4000000
set_option maxRecDepth 100000

/-- A box with an event. -/
def EvB (w : World) (b : Nat) (p o h a e : Int) : Prop := w.heap[b]? = some (.cells #[.int .i64 p, .int .i64 o, .int .u64 h, .int .u64 a, .int .i64 e] 27 (0, 0))
section
variable {w w' : World} {b t : Nat} {p o h a e : Int}
theorem EvB.new : EvB (w.alloc (.cells #[.int .i64 p, .int .i64 o, .int .u64 h, .int .u64 a, .int .i64 e] 27)) w.heap.size p o h a e := heap_alloc_new w _
theorem EvB.lt (x : EvB w t p o h a e) : t < w.heap.size := (Array.getElem?_eq_some_iff.1 x).1
theorem EvB.go (x : EvB w t p o h a e) (hb : Below w.heap.size w w') : EvB w' t p o h a e := (hb.block t x.lt).trans x
theorem EvB.oth (x : EvB w t p o h a e) (ho : Oth b w w') (hne : t ≠ b) : EvB w' t p o h a e := (ho.block t x.lt hne).trans x
theorem EvB.cells (x : EvB w t p o h a e) : w.cell? ⟨t, 0, none⟩ = some (.int .i64 p) ∧ w.cell? ⟨t, 1, none⟩ = some (.int .i64 o) ∧ w.cell? ⟨t, 2, none⟩ = some (.int .u64 h) ∧ w.cell? ⟨t, 3, none⟩ = some (.int .u64 a) ∧ w.cell? ⟨t, 4, none⟩ = some (.int .i64 e) :=
  ⟨cell_of_row w t 0 _ _ _ x, cell_of_row w t 1 _ _ _ x, cell_of_row w t 2 _ _ _ x, cell_of_row w t 3 _ _ _ x, cell_of_row w t 4 _ _ _ x⟩
theorem EvB.fr (x : EvB w t p o h a e) (j : Nat) : w.frozen? ⟨t, j, none⟩ = false := frozen_of_row w t j _ _ x
theorem EvB.apart (x : EvB w t p o h a e) {b o' : Nat} (hne : t ≠ b) (u : Value) : EvB (w.setCell ⟨b, o', none⟩ u) t p o h a e := (Below.heap_setCell w ⟨b, o', none⟩ u t hne).trans x
end
/-- A function that says v and changes nothing that was there. -/
theorem Says.of {w w' : World} {v : Value} (h : Below w.heap.size w w') : Says w v (.returned v) w' := ⟨rfl, h⟩

theorem isOp_any (o : Int) (w : World) : Calls Try.prog 77 #[.int .i64 o] w fun e w' => e = .returned (.bool (decide (opB o))) ∧ w' = w := by
  by_cases h1 : 1 ≤ o
  · by_cases h2 : o ≤ 11
    · have HD : Hid (decide (opB o) = true) := Lib.hid (decide_eq_true (by unfold opB; omega))
      go_enter Try.func77, Try.ntmps77
      go_wp2
      go_ret
      rw [HD.out]; exact ⟨rfl, rfl⟩
    · have h2' : 11 < o := by omega
      by_cases h3 : o = 32
      · subst h3
        go_enter Try.func77, Try.ntmps77
        go_wp2
        go_ret
        exact ⟨rfl, rfl⟩
      · have h3' : (o == 32) = false := by simpa using h3
        have HD : Hid (decide (opB o) = (o == 33)) := Lib.hid (by
          by_cases h : o = 33
          · subst h; decide
          · rw [decide_eq_false (by unfold opB; omega)]; simpa using h)
        generalize hq : decide (opB o) = q at *
        clear hq
        go_enter Try.func77, Try.ntmps77
        go_wp2
        go_ret
        rw [HD.out]; exact ⟨rfl, rfl⟩
  · have h1' : o < 1 := by omega
    have h3' : (o == 32) = false := by simp; omega
    have h4' : (o == 33) = false := by simp; omega
    have HD : Hid (decide (opB o) = false) := Lib.hid (decide_eq_false (by unfold opB; omega))
    generalize hq : decide (opB o) = q at *
    clear hq
    go_enter Try.func77, Try.ntmps77
    go_wp2
    go_ret
    rw [HD.out]; exact ⟨rfl, rfl⟩
theorem check_any (p o h a e : Int) (w : World) : Calls Try.prog 63 #[.agg #[.int .i64 p, .int .i64 o, .int .u64 h, .int .u64 a, .int .i64 e]] w (Says w (.int .i64 (chkV p o e))) := by
  have hb0 : Below w.heap.size w (w.alloc (.cells #[.int .i64 p, .int .i64 o, .int .u64 h, .int .u64 a, .int .i64 e] 27)) := (Below.refl _ _).alloc (Nat.le_refl _) _
  have HB := Lib.hid hb0
  obtain ⟨c0, c1, c2, c3, c4⟩ := (EvB.new (w := w) (p := p) (o := o) (h := h) (a := a) (e := e)).cells
  have HOP := Lib.hid (isOp_any o (w.alloc (.cells #[.int .i64 p, .int .i64 o, .int .u64 h, .int .u64 a, .int .i64 e] 27)))
  have HK : Hid (chkV p o e = if 1 ≤ p ∧ p ≤ 64 ∧ opB o ∧ 0 ≤ e ∧ e ≤ 29 then 0 else 1) := Lib.hid rfl
  generalize chkV p o e = k at *
  generalize hq : decide (opB o) = q at *
  clear hb0
  by_cases h1 : 1 ≤ p
  · by_cases h2 : p ≤ 64
    · cases q with
      | false =>
        obtain rfl : k = 1 := by
          have := of_decide_eq_false hq
          rw [HK.out, if_neg (fun h => this h.2.2.1)]
        clear HK hq
        go_enter Try.func63, Try.ntmps63
        go_wp2_with fail
        refine HOP.out.mono ?_
        rintro e w' ⟨rfl, rfl⟩
        go_wp2
        go_ret
        exact Says.of HB.out
      | true =>
        have hop := of_decide_eq_true hq
        by_cases h3 : 0 ≤ e
        · by_cases h4 : e ≤ 29
          · obtain rfl : k = 0 := by rw [HK.out, if_pos ⟨h1, h2, hop, h3, h4⟩]
            clear HK hq hop
            go_enter Try.func63, Try.ntmps63
            go_wp2_with fail
            refine HOP.out.mono ?_
            rintro e w' ⟨rfl, rfl⟩
            go_wp2
            go_ret
            exact Says.of HB.out
          · obtain rfl : k = 1 := by rw [HK.out, if_neg (by omega)]
            have h5 : 29 < e := by omega
            clear HK hq hop
            go_enter Try.func63, Try.ntmps63
            go_wp2_with fail
            refine HOP.out.mono ?_
            rintro e w' ⟨rfl, rfl⟩
            go_wp2
            go_ret
            exact Says.of HB.out
        · obtain rfl : k = 1 := by rw [HK.out, if_neg (by omega)]
          have h5 : e < 0 := by omega
          clear HK hq hop
          go_enter Try.func63, Try.ntmps63
          go_wp2_with fail
          refine HOP.out.mono ?_
          rintro e w' ⟨rfl, rfl⟩
          go_wp2
          go_ret
          exact Says.of HB.out
    · obtain rfl : k = 1 := by rw [HK.out, if_neg (by omega)]
      have h5 : 64 < p := by omega
      clear HK hq HOP
      go_enter Try.func63, Try.ntmps63
      go_wp2
      go_ret
      exact Says.of HB.out
  · obtain rfl : k = 1 := by rw [HK.out, if_neg (by omega)]
    have h5 : p < 1 := by omega
    clear HK hq HOP
    go_enter Try.func63, Try.ntmps63
    go_wp2
    go_ret
    exact Says.of HB.out
theorem checkR_any (p o h a e : Int) (w : World) : Calls Try.prog 41 #[.agg #[.int .i64 p, .int .i64 o, .int .u64 h, .int .u64 a, .int .i64 e]] w (Says w (.int .i64 (chkV p o e))) := by
  have hb0 : Below w.heap.size w (w.alloc (.cells #[.int .i64 p, .int .i64 o, .int .u64 h, .int .u64 a, .int .i64 e] 27)) := (Below.refl _ _).alloc (Nat.le_refl _) _
  have HB := Lib.hid hb0
  obtain ⟨c0, c1, c2, c3, c4⟩ := (EvB.new (w := w) (p := p) (o := o) (h := h) (a := a) (e := e)).cells
  have HK : Hid (chkV p o e = if 1 ≤ p ∧ p ≤ 64 ∧ opB o ∧ 0 ≤ e ∧ e ≤ 29 then 0 else 1) := Lib.hid rfl
  generalize chkV p o e = k at *
  clear hb0
  by_cases h1 : 1 ≤ p
  · by_cases h2 : p ≤ 64
    · by_cases h3 : 0 ≤ e
      · by_cases h4 : e ≤ 29
        · by_cases h5 : 1 ≤ o
          · by_cases h6 : o ≤ 11
            · obtain rfl : k = 0 := by rw [HK.out, if_pos ⟨h1, h2, .inl ⟨h5, h6⟩, h3, h4⟩]
              clear HK
              go_enter Try.func41, Try.ntmps41
              go_wp2
              go_ret
              exact Says.of HB.out
            · have h7 : 11 < o := by omega
              by_cases h8 : o = 32
              · obtain rfl : k = 0 := by rw [HK.out, if_pos ⟨h1, h2, .inr (.inl h8), h3, h4⟩]
                subst h8
                clear HK
                go_enter Try.func41, Try.ntmps41
                go_wp2
                go_ret
                exact Says.of HB.out
              · have h8' : (o != 32) = true := by simpa using h8
                by_cases h9 : o = 33
                · obtain rfl : k = 0 := by rw [HK.out, if_pos ⟨h1, h2, .inr (.inr h9), h3, h4⟩]
                  subst h9
                  clear HK
                  go_enter Try.func41, Try.ntmps41
                  go_wp2
                  go_ret
                  exact Says.of HB.out
                · obtain rfl : k = 1 := by rw [HK.out, if_neg (fun h => by have := h.2.2.1; unfold opB at this; omega)]
                  have h9' : (o != 33) = true := by simpa using h9
                  clear HK
                  go_enter Try.func41, Try.ntmps41
                  go_wp2
                  go_ret
                  exact Says.of HB.out
          · obtain rfl : k = 1 := by rw [HK.out, if_neg (fun h => by have := op_bd h.2.2.1; omega)]
            have h7 : o < 1 := by omega
            have h8' : (o != 32) = true := by simp; omega
            have h9' : (o != 33) = true := by simp; omega
            clear HK
            go_enter Try.func41, Try.ntmps41
            go_wp2
            go_ret
            exact Says.of HB.out
        · obtain rfl : k = 1 := by rw [HK.out, if_neg (by omega)]
          have h5 : 29 < e := by omega
          clear HK
          go_enter Try.func41, Try.ntmps41
          go_wp2
          go_ret
          exact Says.of HB.out
      · obtain rfl : k = 1 := by rw [HK.out, if_neg (by omega)]
        have h5 : e < 0 := by omega
        clear HK
        go_enter Try.func41, Try.ntmps41
        go_wp2
        go_ret
        exact Says.of HB.out
    · obtain rfl : k = 1 := by rw [HK.out, if_neg (by omega)]
      have h5 : 64 < p := by omega
      clear HK
      go_enter Try.func41, Try.ntmps41
      go_wp2
      go_ret
      exact Says.of HB.out
  · obtain rfl : k = 1 := by rw [HK.out, if_neg (by omega)]
    have h5 : p < 1 := by omega
    clear HK
    go_enter Try.func41, Try.ntmps41
    go_wp2
    go_ret
    exact Says.of HB.out
end Go.Proofs.Ytlgoiccekgjhnaa
