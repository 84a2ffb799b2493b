/-
  Contract of the law's step over slots and their model, over the bundle of the landed contracts. Conditions: at most 4096 slots.
-/
import Derived.Test.YtnaoffpemnkmmaaGpc
namespace Go.Proofs.Ytnaoffpemnkmmaa
open Go.ChangeShapes Go.WideShapes Go.RowKit
set_option linter.unusedVariables false
set_option maxHeartbeats 8000000
set_option maxRecDepth 100000

/-- Slots (colour 1) and their model (colour 2) in step; what lies below B has the colour 0. -/
structure Duet (Sl : World → (Nat → Nat) → Nat → Nat → Gs → Prop) (B N : Nat) (w : World) (p m : Nat) (s : Gs) : Prop where
  ex : ∃ c : Nat → Nat, Sl w c 1 p s ∧ Mgs w c 2 m s ∧ ∀ g, g < B → c g = 0
  wf : s.Wf N
  bd : B ≤ w.heap.size
section
variable {Sl : World → (Nat → Nat) → Nat → Nat → Gs → Prop} {B N p m : Nat} {w w2 w3 : World} {s s' : Gs} {c : Nat → Nat}
theorem Duet.go (C : Pc Sl) (h : Duet Sl B N w p m s) (hb : Below w.heap.size w w2) : Duet Sl B N w2 p m s := by
  obtain ⟨c, h1, h2, h3⟩ := h.ex
  exact ⟨⟨c, C.go h1 hb, h2.go hb, h3⟩, h.wf, Nat.le_trans h.bd hb.size⟩
/-- Beside a box. -/
theorem Duet.box (C : Pc Sl) (h : Duet Sl B N w p m s) (o : Obj) : ∃ c : Nat → Nat, Sl (w.alloc o) c 1 p s ∧ Mgs (w.alloc o) c 2 m s ∧ (∀ g, g < B → c g = 0) ∧ c w.heap.size = 0 := by
  obtain ⟨c, h1, h2, h3⟩ := h.ex
  have hb : Below w.heap.size w (w.alloc o) := (Below.refl _ _).alloc (Nat.le_refl _) _
  have e : ∀ g, g < w.heap.size → (fun g => if g < w.heap.size then c g else 0) g = c g := fun g hg => if_pos hg
  exact ⟨fun g => if g < w.heap.size then c g else 0, C.kept h1 (j := 2) (Kept.ofBelow hb) (by omega) e, h2.kept (j := 1) (Kept.ofBelow hb) (by omega) e, fun g hg => (e g (by have := h.bd; omega)).trans (h3 g hg), if_neg (by omega)⟩
/-- Behind a call of the one and a call of the other. -/
theorem Duet.both (C : Pc Sl) (h0 : ∀ g, g < B → c g = 0) (hB : B ≤ w.heap.size) (h1 : Sl w2 (rc c w.heap.size 1) 1 p s') (k1 : Kept c 1 w w2) (h2 : Mgs w3 (rc (rc c w.heap.size 1) w2.heap.size 2) 2 m s') (k2 : Kept (rc c w.heap.size 1) 2 w2 w3) (hW : s'.Wf N) :
    Duet Sl B N w3 p m s' ∧ Below B w w3 := by
  have hz := k1.size
  have b2 : Below B w2 w3 := k2.below (fun g hg => by rw [rc_old (by omega), h0 g hg]; omega) (by omega)
  refine ⟨⟨⟨_, C.kept h1 k2 (by omega) (fun g hg => rc_old hg), h2, fun g hg => by rw [rc_old (by omega), rc_old (by omega)]; exact h0 g hg⟩, hW, by have := b2.size; have := k2.size; omega⟩, (k1.below (fun g hg => by rw [h0 g hg]; omega) hB).trans b2⟩
end
theorem step12_any {Sl : World → (Nat → Nat) → Nat → Nat → Gs → Prop} (C : Pc Sl) (B N : Nat) (w : World) (p m : Nat) (s : Gs) (x0 x1 : Int) (h : Duet Sl B N w p m s) (hN : N ≤ 4096) (hx0 : 0 ≤ x0 ∧ x0 ≤ 65535) (hx1 : 0 ≤ x1 ∧ x1 ≤ 65535) :
    Calls Try.prog 11 #[.pointer (some ⟨p, 0, none⟩), .pointer (some ⟨m, 0, none⟩), .agg #[.int .u16 x0, .int .u16 x1]] w fun e w' => e = .returned (.bool true) ∧ Below B w w' ∧ ∃ s', Duet Sl B N w' p m s' := by
  have hba : Below w.heap.size w (w.alloc (.cells #[.int .u16 x0, .int .u16 x1] 33)) := (Below.refl _ _).alloc (Nat.le_refl _) _
  obtain ⟨c, h1, h2, h3, h4⟩ := h.box C (.cells #[.int .u16 x0, .int .u16 x1] 33)
  have hz : (w.alloc (.cells #[.int .u16 x0, .int .u16 x1] 33)).heap.size = w.heap.size + 1 := by simp
  have HBA := Lib.hid (hba.mono h.bd)
  have HC := Lib.hid C
  have H1 := Lib.hid h1
  have H2 := Lib.hid h2
  have H3 := Lib.hid h3
  have H4 := Lib.hid h4
  have HW := Lib.hid h.wf
  have HB := Lib.hid h.bd
  have HN := Lib.hid hN
  have HBX : Hid ((w.alloc (.cells #[.int .u16 x0, .int .u16 x1] 33)).heap[w.heap.size]? = some (.cells #[.int .u16 x0, .int .u16 x1] 33 (0, 0))) := Lib.hid (heap_alloc_new w _)
  clear C h h1 h2 h3 h4 hba
  by_cases hx : x0 % 5 < 3
  · have hm5 := Int.emod_nonneg x0 (show (5 : Int) ≠ 0 by omega)
    have HI := Lib.hid (HC.out.issue _ c 1 p N s x1 H1.out HW.out HN.out (by omega))
    generalize hV : s.issV x1 = V at *
    obtain ⟨v1, v2, v3⟩ := V
    have HV := Lib.hid hV
    clear hV
    simp only at HI
    go_enter Try.func11, Try.ntmps11
    go_wp2_with fail
    refine HI.out.mono ?_
    rintro e w2 ⟨rfl, hS2, hK2⟩
    have HS2 := Lib.hid hS2
    have HK2 := Lib.hid hK2
    have x1c : w2.cell? ⟨w.heap.size, 1, none⟩ = some (.int .u16 x1) := cell_of_row w2 w.heap.size 1 _ _ _ ((hK2.block w.heap.size (by omega) (by rw [H4.out]; omega)).trans HBX.out)
    have HM := Lib.hid (issM_any w2 _ 2 m N s x1 (H2.out.kept HK2.out (by omega) (fun g hg => rc_old (k := 1) hg)) HW.out (by have := HN.out; omega) (by have h1 := HW.out.ct; have h2 := HW.out.g0; have := HN.out; omega) (by omega))
    unfold IsM at HM
    rw [HV.out] at HM
    simp only at HM
    clear HI hS2 hK2
    go_wp2_with fail
    refine HM.out.mono ?_
    rintro e w3 ⟨rfl, hM3, hK3⟩
    have HD := Lib.hid (Duet.both HC.out H3.out (by rw [hz]; have := HB.out; omega) HS2.out HK2.out hM3 hK3 (HW.out.iss (d := x1)))
    clear hM3 hK3 HM
    go_wp2
    go_ret
    exact ⟨rfl, HBA.out.trans HD.out.2, _, HD.out.1⟩
  · have hm5 := Int.emod_nonneg x0 (show (5 : Int) ≠ 0 by omega)
    have hm9 := Int.emod_nonneg x1 (show (9 : Int) ≠ 0 by omega)
    have hl9 := Int.emod_lt_of_pos x1 (show (0 : Int) < 9 by omega)
    have HI := Lib.hid (HC.out.end_ _ c 1 p N s (x1 % 9 - 1) H1.out HW.out HN.out)
    generalize hV : s.endV (x1 % 9 - 1) = V at *
    have HV := Lib.hid hV
    clear hV
    go_enter Try.func11, Try.ntmps11
    go_wp2_with fail
    refine HI.out.mono ?_
    rintro e w2 ⟨rfl, hS2, hK2⟩
    have HS2 := Lib.hid hS2
    have HK2 := Lib.hid hK2
    have HM := Lib.hid (endM_any w2 _ 2 m N s (x1 % 9 - 1) (H2.out.kept HK2.out (by omega) (fun g hg => rc_old (k := 1) hg)) HW.out (by have := HN.out; omega))
    unfold EnM at HM
    rw [HV.out] at HM
    clear HI hS2 hK2
    go_wp2_with fail
    refine HM.out.mono ?_
    rintro e w3 ⟨rfl, hM3, hK3⟩
    have HD := Lib.hid (Duet.both HC.out H3.out (by rw [hz]; have := HB.out; omega) HS2.out HK2.out hM3 hK3 (HW.out.end_ (k := x1 % 9 - 1)))
    clear hM3 hK3 HM
    go_wp2
    go_ret
    exact ⟨rfl, HBA.out.trans HD.out.2, _, HD.out.1⟩
end Go.Proofs.Ytnaoffpemnkmmaa
