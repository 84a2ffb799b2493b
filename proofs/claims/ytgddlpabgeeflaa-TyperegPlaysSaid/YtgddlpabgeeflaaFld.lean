/-
  Contract of the laws' maker of fields. Conditions: at most a million numbers read.
-/
import Derived.Test.YtgddlpabgeeflaaTap
namespace Go.Proofs.Ytgddlpabgeeflaa
open Go.ChangeShapes Go.WideShapes Go.RowKit
set_option linter.unusedVariables false
set_option maxHeartbeats 4000000
set_option maxRecDepth 100000

/-- A box with a field. -/
def FdB (w : World) (b : Nat) (x y : Int) : Prop := w.heap[b]? = some (.cells #[.int .i64 x, .int .i64 y] 45 (0, 0))
section
variable {w w' : World} {b t : Nat} {x y : Int}
theorem FdB.new : FdB (w.alloc (.cells #[.int .i64 x, .int .i64 y] 45)) w.heap.size x y := heap_alloc_new w _
theorem FdB.lt (h : FdB w t x y) : t < w.heap.size := (Array.getElem?_eq_some_iff.1 h).1
theorem FdB.go (h : FdB w t x y) (hb : Below w.heap.size w w') : FdB w' t x y := (hb.block t h.lt).trans h
theorem FdB.oth (h : FdB w t x y) (ho : Oth b w w') (hne : t ≠ b) : FdB w' t x y := (ho.block t h.lt hne).trans h
theorem FdB.cell0 (h : FdB w t x y) : w.cell? ⟨t, 0, none⟩ = some (.int .i64 x) := cell_of_row w t 0 _ _ _ h
theorem FdB.cell1 (h : FdB w t x y) : w.cell? ⟨t, 1, none⟩ = some (.int .i64 y) := cell_of_row w t 1 _ _ _ h
theorem FdB.fr (h : FdB w t x y) (j : Nat) : w.frozen? ⟨t, j, none⟩ = false := frozen_of_row w t j _ _ h
theorem FdB.set1 (h : FdB w t x y) (y' : Int) : FdB (w.setCell ⟨t, 1, none⟩ (.int .i64 y')) t x y' := heap_setCell_same w t 1 _ _ _ h
theorem FdB.set (h : FdB w t x y) (x' y' : Int) : FdB ((w.setCell ⟨t, 0, none⟩ (.int .i64 x')).setCell ⟨t, 1, none⟩ (.int .i64 y')) t x' y' :=
  heap_setCell_same _ t 1 _ _ _ (heap_setCell_same w t 0 _ _ _ h)
theorem FdB.apart (h : FdB w t x y) {b o : Nat} (hne : t ≠ b) (u : Value) : FdB (w.setCell ⟨b, o, none⟩ u) t x y := (Below.heap_setCell w ⟨b, o, none⟩ u t hne).trans h
theorem TS.apart {i : Nat} {L : List Int} (h : TS w b L i) {o : Nat} (hb : b < t) (u : Value) : TS (w.setCell ⟨t, o, none⟩ u) b L i := by
  obtain ⟨A, m, c, h1, h2⟩ := h
  exact ⟨A, m, c, (Below.heap_setCell w ⟨t, o, none⟩ u b (by simp only; omega)).trans h1, h2.below ((Below.refl b w).setCell (p := ⟨t, o, none⟩) (by simp only; omega) u)⟩
theorem Oth.far (h : Oth b w w') {o : Nat} (ht : w.heap.size ≤ t) (u : Value) : Oth b w (w'.setCell ⟨t, o, none⟩ u) :=
  ⟨h.os, h.tape, h.output, by have := h.size; simpa [World.setCell] using this, fun k hk hne => (Below.heap_setCell w' ⟨t, o, none⟩ u k (by simp only; omega)).trans (h.block k hk hne)⟩
end
/-- The field that the numbers from place i on make, and the place behind them. -/
def fldV (L : List Int) (i : Nat) : Int × Int := (1 + num L i % 6, if 1 + num L i % 6 = 6 then 1 + num L (i + 1) % 9 else 0)
def fldN (L : List Int) (i : Nat) : Nat := if 1 + num L i % 6 = 6 then i + 2 else i + 1
theorem fldN_le {L : List Int} {i : Nat} : i + 1 ≤ fldN L i ∧ fldN L i ≤ i + 2 := by
  unfold fldN
  split <;> omega
theorem fldV_ok {L : List Int} (i : Nat) : errF (fldV L i) = 0 ∧ (fldV L i).2 ≤ 9 := by
  have h1 : 0 ≤ num L i % 6 := Int.emod_nonneg _ (by omega)
  have h2 : num L i % 6 < 6 := Int.emod_lt_of_pos _ (by omega)
  have h3 : 0 ≤ num L (i + 1) % 9 := Int.emod_nonneg _ (by omega)
  have h4 : num L (i + 1) % 9 < 9 := Int.emod_lt_of_pos _ (by omega)
  by_cases hk : 1 + num L i % 6 = 6
  · have e : fldV L i = (6, 1 + num L (i + 1) % 9) := by unfold fldV; rw [if_pos hk, hk]
    rw [e]
    refine ⟨?_, by dsimp only; omega⟩
    unfold errF
    dsimp only
    rw [if_neg (by omega), if_neg (by omega), if_neg (by omega)]
  · have e : fldV L i = (1 + num L i % 6, 0) := by unfold fldV; rw [if_neg hk]
    rw [e]
    refine ⟨?_, by dsimp only; omega⟩
    unfold errF
    dsimp only
    rw [if_neg (by omega), if_neg (by omega), if_neg (by omega)]
theorem field_any (b i : Nat) (L : List Int) (w : World) (h : TS w b L i) (hf : Fit .u16 L) (hi : i ≤ 900000) :
    Calls Try.prog 20 #[.pointer (some ⟨b, 0, none⟩)] w (NxE w b L (fldN L i) (.agg #[.int .i64 (fldV L i).1, .int .i64 (fldV L i).2])) := by
  have hb0 : Below w.heap.size w (w.alloc (.cells #[.int .i64 0, .int .i64 0] 45)) := (Below.refl _ _).alloc (Nat.le_refl _) _
  have HF := Lib.hid hf
  have HR0 := Lib.hid (FdB.new (w := w) (x := 0) (y := 0))
  have HT0 := Lib.hid (h.go hb0)
  have HO0 := Lib.hid (Oth.ofBelow (b := b) hb0)
  have hlt := h.lt
  have h1 : 0 ≤ num L i % 6 := Int.emod_nonneg _ (by omega)
  have h2 : num L i % 6 < 6 := Int.emod_lt_of_pos _ (by omega)
  have h3 : 0 ≤ num L (i + 1) % 9 := Int.emod_nonneg _ (by omega)
  have h4 : num L (i + 1) % 9 < 9 := Int.emod_lt_of_pos _ (by omega)
  have HV : Hid (fldV L i = (1 + num L i % 6, if 1 + num L i % 6 = 6 then 1 + num L (i + 1) % 9 else 0)) := Lib.hid rfl
  have HN : Hid (fldN L i = if 1 + num L i % 6 = 6 then i + 2 else i + 1) := Lib.hid rfl
  have H1 := Lib.hid (next_any b i 6 L _ (h.go hb0) hf (by omega) (by omega) (by omega))
  rw [show num L i % ((6 : Nat) : Int) = num L i % 6 from rfl] at H1
  have H2 := Lib.hid (fun W (hW : TS W b L (i + 1)) => next_any b (i + 1) 9 L W hW hf (by omega) (by omega) (by omega))
  rw [show num L (i + 1) % ((9 : Nat) : Int) = num L (i + 1) % 9 from rfl] at H2
  generalize num L i % 6 = x at *
  generalize num L (i + 1) % 9 = y at *
  generalize fldV L i = fv at *
  generalize fldN L i = fn at *
  clear h hb0 hf
  go_enter Try.func20, Try.ntmps20
  go_wp2_with fail
  refine H1.out.mono ?_
  generalize w.alloc (.cells #[.int .i64 0, .int .i64 0] 45) = w1 at *
  generalize htb : w.heap.size = tb at *
  rintro e w2 ⟨rfl, ht2, ho2⟩
  have hb3 : Below w2.heap.size w2 (w2.alloc (.cells #[.int .i64 (1 + x), .int .i64 0] 45)) := (Below.refl _ _).alloc (Nat.le_refl _) _
  have hr2 := HR0.out.oth ho2 (by omega)
  have hlt2 := hr2.lt
  have HR3 := Lib.hid (hr2.go hb3)
  have HX3 := Lib.hid (FdB.new (w := w2) (x := 1 + x) (y := 0))
  have HT3 := Lib.hid (ht2.go hb3)
  have HO3 := Lib.hid (((HO0.out.trans ho2)).trans (Oth.ofBelow hb3))
  have hw1 : tb < w1.heap.size := HR0.out.lt
  have hw2 := ho2.size
  have r0 := hr2.cell0
  have r1 := hr2.cell1
  have r2 := hr2.fr 0
  have r3 := hr2.fr 1
  have HS2 := Lib.hid hr2
  have HT2 := Lib.hid ht2
  have HO2 := Lib.hid (HO0.out.trans ho2)
  clear hr2 ht2 ho2 hb3 H1 HT0
  by_cases hx : x = 5
  · subst hx
    clear HS2 HT2 HO2
    have HVV : Hid (fv = (6, 1 + y) ∧ fn = i + 2) := Lib.hid ⟨by rw [HV.out]; rfl, by rw [HN.out]; rfl⟩
    clear r0 r1 r2 r3
    go_wp2_with fail
    refine (H2.out _ HT3.out).mono ?_
    generalize w2.alloc (.cells #[.int .i64 (1 + 5), .int .i64 0] 45) = w3 at *
    generalize htx : w2.heap.size = tx at *
    rintro e w4 ⟨rfl, ht4, ho4⟩
    have hr4 := HR3.out.oth ho4 (by omega)
    have hx4 : FdB w4 tx 6 0 := HX3.out.oth ho4 (by omega)
    have htxl := HX3.out.lt
    have q0 := hx4.cell0
    have q1 := hx4.cell1
    have q3 := hx4.fr 1
    have hx5 := hx4.set1 (1 + y)
    have hr5 := hr4.apart (b := tx) (o := 1) (by omega) (.int .i64 (1 + y))
    have ht5 := ht4.apart (t := tx) (o := 1) (by omega) (.int .i64 (1 + y))
    have hwle := HO0.out.size
    have ho5 := ((HO3.out.trans ho4)).far (t := tx) (o := 1) (by omega) (.int .i64 (1 + y))
    have hx6 := hr5.set 6 (1 + y)
    have ht6 := (ht5.apart (t := tb) (o := 0) (by omega) (.int .i64 6)).apart (t := tb) (o := 1) (by omega) (.int .i64 (1 + y))
    have ho6 := (ho5.far (t := tb) (o := 0) (by omega) (.int .i64 6)).far (t := tb) (o := 1) (by omega) (.int .i64 (1 + y))
    have HT6 := Lib.hid ht6
    have HO6 := Lib.hid ho6
    have p0 := hx5.cell0
    have p1 := hx5.cell1
    have p2 := hr5.cell0
    have p3 := hr5.cell1
    have p4 := hr5.fr 0
    have p5 := hr5.fr 1
    have k0 := hx6.cell0
    have k1 := hx6.cell1
    clear hr4 hx4 hx5 hr5 ht5 ho5 hx6 ht6 ho6 ht4 ho4
    go_wp2
    exact bodyPost_ret (v := .agg #[.int .i64 6, .int .i64 (1 + y)]) (by simp [results, Try.results20, go_sem, k0, k1]) rfl ⟨by rw [HVV.out.1], by rw [HVV.out.2]; exact HT6.out, HO6.out⟩
  · have hx6 : ¬ 1 + x = 6 := by omega
    have hxb : (1 + x == 6) = false := by simpa using hx6
    have HVV : Hid (fv = (1 + x, 0) ∧ fn = i + 1) := Lib.hid ⟨by rw [HV.out, if_neg hx6], by rw [HN.out, if_neg hx6]⟩
    have hwle := HO0.out.size
    have hs7 := HS2.out.set (1 + x) 0
    have hb7 : Below ((w2.setCell ⟨tb, 0, none⟩ (.int .i64 (1 + x))).setCell ⟨tb, 1, none⟩ (.int .i64 0)).heap.size ((w2.setCell ⟨tb, 0, none⟩ (.int .i64 (1 + x))).setCell ⟨tb, 1, none⟩ (.int .i64 0)) (((w2.setCell ⟨tb, 0, none⟩ (.int .i64 (1 + x))).setCell ⟨tb, 1, none⟩ (.int .i64 0)).alloc (.cells #[.int .i64 (1 + x), .int .i64 0] 45)) := (Below.refl _ _).alloc (Nat.le_refl _) _
    have hx7 := hs7.go hb7
    have HT6 := Lib.hid (((HT2.out.apart (t := tb) (o := 0) (by omega) (.int .i64 (1 + x))).apart (t := tb) (o := 1) (by omega) (.int .i64 0)).go hb7)
    have HO6 := Lib.hid (((HO2.out.far (t := tb) (o := 0) (by omega) (.int .i64 (1 + x))).far (t := tb) (o := 1) (by omega) (.int .i64 0)).trans (Oth.ofBelow hb7))
    have k0 := hx7.cell0
    have k1 := hx7.cell1
    clear hs7 hb7
    clear hx7
    go_wp2
    exact bodyPost_ret (v := .agg #[.int .i64 (1 + x), .int .i64 0]) (by simp [results, Try.results20, go_sem, k0, k1]) rfl ⟨by rw [HVV.out.1], by rw [HVV.out.2]; exact HT6.out, HO6.out⟩
end Go.Proofs.Ytgddlpabgeeflaa
