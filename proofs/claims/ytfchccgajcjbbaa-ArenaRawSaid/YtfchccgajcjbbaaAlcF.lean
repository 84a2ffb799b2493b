/-
  Contracts of the allocator's method Free. Conditions: the free set and the list belong together (Gd); at most nine hundred allocated extents.
-/
import Derived.Test.YtfchccgajcjbbaaAlcA
namespace Go.Proofs.Ytfchccgajcjbbaa
open Go.ChangeShapes Go.WideShapes Go.ChangeAt Go.RowKit
set_option maxHeartbeats 4000000
set_option maxRecDepth 100000

theorem free_no (c : Nat → Nat) (k p : Nat) (F A : List (Int × Int)) (size x y : Int) (w : World) (h : Alc w c k p F A) (hv : Gd size F A) (hA : A.length ≤ 900) (hx : (x, y) ∉ A) :
    Calls Try.prog 48 #[.pointer (some ⟨p, 0, none⟩), .agg #[.int .i64 x, .int .i64 y]] w fun e w' => e = .returned (.int .i64 6) ∧ Below w.heap.size w w' := by
  have hb0 : Below w.heap.size w (w.alloc (.cells #[.int .i64 x, .int .i64 y] 31)) := (Below.refl _ _).alloc (Nat.le_refl _) _
  have HB0 := Lib.hid hb0
  have H := Lib.hid (locate_any c k p F A size x y _ (h.go hb0) hv (by omega))
  unfold LocE at H
  rw [decide_eq_false hx] at H
  clear h hb0 hv
  go_enter Try.func48, Try.ntmps48
  go_wp2_with fail
  refine H.out.mono ?_
  rintro e w2 ⟨i, rfl, _, hb2⟩
  have HB2 := Lib.hid (Below.then HB0.out hb2 (Nat.le_refl _))
  clear H hb2
  go_wp2
  go_ret
  exact ⟨rfl, HB2.out⟩

theorem free_yes (c : Nat → Nat) (k p i : Nat) (F A : List (Int × Int)) (size x y : Int) (w : World) (h : Alc w c k p F A) (hv : Gd size F A) (hA : A.length ≤ 900) (hx : A[i]? = some (x, y)) :
    Calls Try.prog 48 #[.pointer (some ⟨p, 0, none⟩), .agg #[.int .i64 x, .int .i64 y]] w fun e w' => e = .returned (.int .i64 0) ∧
      Alc w' (rc c w.heap.size k) k p (ins F (x, y)) (A.take i ++ A.drop (i + 1)) ∧ Kept c k w w' := by
  have hFl := flen_le hv
  obtain ⟨_, hfr, hp⟩ := gd_free hv hx
  have hb0 : Below w.heap.size w (w.alloc (.cells #[.int .i64 x, .int .i64 y] 31)) := (Below.refl _ _).alloc (Nat.le_refl _) _
  have HE := Lib.hid (Box.new (w := w) (x := x) (y := y))
  have HB0 := Lib.hid hb0
  have H := Lib.hid (locate_any c k p F A size x y _ (h.go hb0) hv (by omega))
  unfold LocE at H
  rw [decide_eq_true (List.mem_of_getElem? hx)] at H
  have HIL : Hid (∀ i', Lb A x i' → i' = i) := Lib.hid (fun i' hi' => by
    have h1 := (lb_found hv (e := (x, y)) hi').2 (List.mem_of_getElem? hx)
    rcases Nat.lt_trichotomy i i' with hlt | rfl | hlt
    · have := gd_off hv hx h1 hlt; omega
    · rfl
    · have := gd_off hv h1 hx hlt; omega)
  have hil : i < A.length := (List.getElem?_eq_some_iff.1 hx).1
  have HAL := Lib.hid h
  have HV := Lib.hid hv
  have HP := Lib.hid hp
  have HFR := Lib.hid hfr
  clear h hb0 hv hp hfr hx
  go_enter Try.func48, Try.ntmps48
  go_wp2_with fail
  refine H.out.mono ?_
  rintro e w4 ⟨i', rfl, hi', hb4⟩
  obtain rfl := HIL.out i' hi'
  have HE4 := Lib.hid (HE.out.go hb4)
  have HB4 := Lib.hid (Below.then HB0.out hb4 (Nat.le_refl _))
  clear H hi' hb4 HE HB0 HIL
  have hwp : p < w.heap.size := HAL.out.lt
  obtain ⟨vf, va, h1, h2, h3, h4, h5, h6⟩ := HAL.out.ex
  have HVB : Hid (∀ g, va.ownBlock = some g → g < w.heap.size) := Lib.hid (fun g hg => h3.blk_lt hg)
  have h1 := (HB4.out.block p hwp).trans h1
  have h2 := h2.below HB4.out
  have h3 := h3.below HB4.out
  have hw4 : w.heap.size < w4.heap.size := HE4.out.lt
  have HBLK := Lib.hid h1
  have HVA := Lib.hid h3
  have HC := Lib.hid (And.intro h4 (And.intro h5 h6))
  obtain ⟨Af, nf, cf, rfl, hxf⟩ := h2.shape
  have hnf : nf ≤ 1000 := by have := hxf.len; omega
  have k0 : w4.cell? ⟨p, 0, none⟩ = some (.slice Af nf cf) := cell_of_row w4 p 0 _ _ _ h1
  have k1 := HE4.out.cell0
  have k2 := HE4.out.cell1
  have hpw : p < w4.heap.size := (Array.getElem?_eq_some_iff.1 h1).1
  have p1 := HP.out.1
  have p2 := HP.out.2.1
  have p3 := HP.out.2.2
  have HREM := Lib.hid (insert_ok Af nf cf F x y w4.drew (hxf.go (below_drewN (Below.refl _ _) 1)) (by omega) HV.out.va HP.out HFR.out)
  clear h1 h2 h3 h4 h5 h6 hxf
  go_wp2_with fail
  go_region_with
    (first
      | (go_at_call 60
         refine HREM.out.mono ?_
         rintro e w5 ⟨v5, rfl, ho5, hb5⟩
         obtain ⟨A5, n5, c5, rfl, hx5⟩ := ho5.shape
         have HO5 := Lib.hid ho5
         have HB5 := Lib.hid (Below.then (below_drewN (Below.refl w4.heap.size w4) 1) hb5 (Nat.le_refl _))
         have m0 : w5.cell? ⟨p, 0, none⟩ = some (.slice Af nf cf) := (HB5.out.cell (p := ⟨p, 0, none⟩) hpw).trans k0
         have m3 : w5.frozen? ⟨p, 0, none⟩ = false := frozen_of_row w5 p 0 _ _ ((HB5.out.block p hpw).trans HBLK.out)
         clear ho5 hb5 hx5))
  all_goals
    have HBL6 : Hid ((w5.setCell ⟨p, 0, none⟩ (.slice A5 n5 c5)).heap[p]? = some (.cells #[.slice A5 n5 c5, va] 108 (0, 0))) := Lib.hid (heap_setCell_same w5 p 0 _ _ _ ((HB5.out.block p hpw).trans HBLK.out))
    have HVA6 : Hid (OwnE 31 (w5.setCell ⟨p, 0, none⟩ (.slice A5 n5 c5)) 0 va A) := Lib.hid ((HVA.out.below HB5.out).setc (fun e => (HC.out.2.2 p e).2.1 rfl) _)
    have HVF6 : Hid (OwnE 31 (w5.setCell ⟨p, 0, none⟩ (.slice A5 n5 c5)) w4.heap.size (.slice A5 n5 c5) (ins F (x, y))) := Lib.hid (HO5.out.apart (a := ⟨p, 0, none⟩) hpw _)
    have HK6 : Hid (Kept c k w (w5.setCell ⟨p, 0, none⟩ (.slice A5 n5 c5))) := Lib.hid ((Kept.ofBelow (Below.then HB4.out HB5.out (Nat.le_refl _))).own HC.out.1 _)
    generalize w5.setCell ⟨p, 0, none⟩ (.slice A5 n5 c5) = w6 at *
    obtain ⟨Aa, na, ca, rfl, hxa⟩ := HVA6.out.shape
    have k3 : w6.cell? ⟨p, 1, none⟩ = some (.slice Aa na ca) := cell_of_row w6 p 1 _ _ _ HBL6.out
    have HDEL := Lib.hid (delete1_any (.slice Aa na ca) A 0 i' w6 HVA6.out hil (by omega))
    have hp6 : p < w6.heap.size := (Array.getElem?_eq_some_iff.1 HBL6.out).1
    clear m0 m3 k0 k1 k2 hxa HB5 HO5 HVA HBLK HREM HE4
    go_wp2_with fail
    refine HDEL.out.mono ?_
    rintro e w8 ⟨v8, rfl, ho8, hg8, hv8⟩
    obtain ⟨A8, n8, c8, rfl, hx8⟩ := ho8.shape
    have hb8 : w8.heap[p]? = some (.cells #[.slice A5 n5 c5, .slice Aa na ca] 108 (0, 0)) := (hg8.block p hp6 (fun e => (HC.out.2.2 p e.symm).2.1 rfl)).trans HBL6.out
    have q1 : w8.cell? ⟨p, 1, none⟩ = some (.slice Aa na ca) := cell_of_row w8 p 1 _ _ _ hb8
    have q2 : w8.frozen? ⟨p, 1, none⟩ = false := frozen_of_row w8 p 1 _ _ hb8
    have c1 := HC.out.1
    have c2 := HC.out.2.2
    have b1 : ∀ g, (Value.slice A5 n5 c5).ownBlock = some g → w4.heap.size ≤ g ∧ g < w6.heap.size := fun g hg => ⟨HVF6.out.blk_ge hg, HVF6.out.blk_lt hg⟩
    have b2 : ∀ g, (Value.slice Aa na ca).ownBlock = some g → g < w.heap.size := HVB.out
    have b3 : ∀ g, (Value.slice A8 n8 c8).ownBlock = some g → g < w.heap.size ∧ c g = k ∧ g ≠ p := fun g hg => by
      rw [hv8] at hg
      exact ⟨b2 g hg, (c2 g hg).1, (c2 g hg).2.1⟩
    have f1 := (HVF6.out.grown hg8 (fun g hg e => by have := b1 g hg; have := b2 g e; omega)).setc (b := p) (o := 1) (fun e => by have := b1 p e; omega) (.slice A8 n8 c8)
    have f2 := ho8.setc (b := p) (o := 1) (fun e => by have := b3 p e; omega) (.slice A8 n8 c8)
    have f5 := (HK6.out.grown hg8 (fun g hg => (c2 g hg).1)).own (b := p) (o := 1) c1 (.slice A8 n8 c8)
    have f6 : (w8.setCell ⟨p, 1, none⟩ (.slice A8 n8 c8)).heap[p]? = some (.cells #[.slice A5 n5 c5, .slice A8 n8 c8] 108 (0, 0)) := heap_setCell_same w8 p 1 _ _ _ hb8
    have HF1 := Lib.hid (f1.down (Nat.zero_le _))
    have HF2 := Lib.hid f2
    have HF5 := Lib.hid f5
    have HF6 := Lib.hid f6
    have HD : Hid ((∀ g, (Value.slice A5 n5 c5).ownBlock = some g → w4.heap.size ≤ g ∧ g < w6.heap.size) ∧ ∀ g, (Value.slice A8 n8 c8).ownBlock = some g → g < w.heap.size ∧ c g = k ∧ g ≠ p) := Lib.hid ⟨b1, b3⟩
    clear f1 f2 f5 f6 b1 b2 b3 c2 ho8 hg8 hv8 hx8 hb8 HDEL HVF6 HVA6 HK6 HBL6 k3
    go_wp2
    go_ret
    refine ⟨rfl, ⟨_, _, HF6.out, HF1.out, HF2.out, rc_is (.inl c1), fun g hg => ?_, fun g hg => ?_⟩, HF5.out⟩
    · have := HD.out.1 g hg
      exact ⟨rc_is (.inr (by omega)), by omega⟩
    · have h1 := HD.out.2 g hg
      refine ⟨rc_is (.inl h1.2.1), h1.2.2, fun e => ?_⟩
      have := HD.out.1 g e
      omega
end Go.Proofs.Ytfchccgajcjbbaa
