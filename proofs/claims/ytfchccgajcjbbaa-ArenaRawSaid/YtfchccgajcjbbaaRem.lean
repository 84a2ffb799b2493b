/-
  Contract of extents.Remove: what it returns is what the plain functions of the text Set say. Conditions: the numbers fit into 64 bits; the list has at most a thousand extents.
-/
import Derived.Test.YtfchccgajcjbbaaInsOk
namespace Go.Proofs.Ytfchccgajcjbbaa
open Go.ChangeShapes Go.WideShapes Go.ChangeAt Go.RowKit
set_option maxHeartbeats 1600000
set_option maxRecDepth 100000

theorem remove_arg (A : Option Addr) (n c : Nat) (l : List (Int × Int)) (x y : Int) (w : World) (h : Exs w w.heap.size A n c l) (hn : n ≤ 1000)
    (x0 : -9223372036854775808 ≤ x) (x1 : x ≤ 9223372036854775807) (y0 : -9223372036854775808 ≤ y) (y1 : y ≤ 9223372036854775807) (hbad : ¬ Va (-1) l ∨ ¬ Pr x y) :
    Calls Try.prog 66 #[.slice A n c, .agg #[.int .i64 x, .int .i64 y]] w (ResE w [] 1) := by
  have hb0 : Below w.heap.size w (w.alloc (.cells #[.int .i64 x, .int .i64 y] 31)) := (Below.refl _ _).alloc (Nat.le_refl _) _
  have H := Lib.hid (valid_any A n c l _ (h.go hb0) (by omega))
  have HB0 := Lib.hid hb0
  clear hb0 h
  by_cases hv : Va (-1) l
  · have hp : ¬ Pr x y := by
      rcases hbad with h | h
      · exact absurd hv h
      · exact h
    have HP := Lib.hid hp
    rw [vaB_yes hv] at H
    clear hbad hv hp
    go_enter Try.func66, Try.ntmps66
    go_wp2_with fail
    refine H.out.mono ?_
    rintro e w1 ⟨rfl, hb1⟩
    clear H
    have HE1 := Lib.hid ((Box.new (w := w) (x := x) (y := y)).go hb1)
    have f0 := HE1.out.cell0
    have f1 := HE1.out.cell1
    have HB1 := Lib.hid (Below.then HB0.out hb1 (Nat.le_refl _))
    clear hb1
    go_wp2_with fail
    refine (proper_no x y _ HP.out x0 x1 y0 y1).mono ?_
    rintro e w2 ⟨rfl, hb2⟩
    go_wp2
    go_ret2
    exact ⟨_, rfl, OwnE.nil _ _ _, Below.then HB1.out hb2 (Nat.le_refl _)⟩
  · rw [vaB_no hv] at H
    clear hbad hv
    go_enter Try.func66, Try.ntmps66
    go_wp2_with fail
    refine H.out.mono ?_
    rintro e w1 ⟨rfl, hb1⟩
    clear H
    go_wp2
    go_ret2
    exact ⟨_, rfl, OwnE.nil _ _ _, Below.then HB0.out hb1 (Nat.le_refl _)⟩

open Classical in
/-- What a removal answers: the new list and the number of the error. -/
noncomputable def remR (l : List (Int × Int)) (e : Int × Int) : List (Int × Int) × Int :=
  if Va (-1) l ∧ Pr e.1 e.2 then (if Has l e then (rem l e, 0) else ([], 6)) else ([], 1)

theorem remove_in (A : Option Addr) (n c : Nat) (l : List (Int × Int)) (x y : Int) (w : World) (h : Exs w w.heap.size A n c l) (hn : n ≤ 1000) (hv : Va (-1) l) (hp : Pr x y) :
    Calls Try.prog 66 #[.slice A n c, .agg #[.int .i64 x, .int .i64 y]] w (ResE w (remR l (x, y)).1 (remR l (x, y)).2) := by
  have HR0 : Hid (Has l (x, y) → remR l (x, y) = (rem l (x, y), 0)) := Lib.hid fun hf => by unfold remR; rw [if_pos ⟨hv, hp⟩, if_pos hf]
  have HR1 : Hid (¬ Has l (x, y) → remR l (x, y) = ([], 6)) := Lib.hid fun hf => by unfold remR; rw [if_pos ⟨hv, hp⟩, if_neg hf]
  generalize remR l (x, y) = R at *
  have hb0 : Below w.heap.size w (w.alloc (.cells #[.int .i64 x, .int .i64 y] 31)) := (Below.refl _ _).alloc (Nat.le_refl _) _
  have H := Lib.hid (valid_any _ n c l _ (h.go hb0) (by omega))
  rw [vaB_yes hv] at H
  have HB0 := Lib.hid hb0
  have HX := Lib.hid h
  have HV := Lib.hid hv
  have HP := Lib.hid hp
  have hcap := h.cap
  have hsm := h.small
  have HLN := Lib.hid h.len
  unfold maxLen at hsm
  obtain ⟨p1, p2, p3⟩ := hp
  clear hb0 h hv
  go_enter Try.func66, Try.ntmps66
  go_wp2_with fail
  refine H.out.mono ?_
  rintro e w1 ⟨rfl, hb1⟩
  clear H
  have HE1 := Lib.hid ((Box.new (w := w) (x := x) (y := y)).go hb1)
  have HB1 := Lib.hid (Below.then HB0.out hb1 (Nat.le_refl _))
  have f0 := HE1.out.cell0
  have f1 := HE1.out.cell1
  clear hb1
  go_wp2_with fail
  refine (proper_yes x y _ HP.out).mono ?_
  rintro e w2 ⟨rfl, hb2⟩
  have HE2 := Lib.hid (HE1.out.go hb2)
  have HB2 := Lib.hid (Below.then HB1.out hb2 (Nat.le_refl _))
  clear hb2 f0 f1 HE1 HB1 HB0
  have f0 := HE2.out.cell0
  have f1 := HE2.out.cell1
  go_wp2_with fail
  refine (find_any A n c l x w2 (HX.out.go HB2.out) (by omega) HV.out).mono ?_
  rintro e w3 ⟨i, rfl, hi, hb3⟩
  have HE3 := Lib.hid (HE2.out.go hb3)
  have HB3 := Lib.hid (Below.then HB2.out hb3 (Nat.le_refl _))
  have HI := Lib.hid hi
  have hin : i ≤ n := by have := hi.1; have := HLN.out; omega
  clear hb3 f0 f1 hi HE2 HB2
  have d0 : ∀ m : Later w3, m.val.cell? ⟨w.heap.size, 0, none⟩ = some (.int .i64 x) := fun m => later_old m HE3.out.cell0
  have d1 : ∀ m : Later w3, m.val.cell? ⟨w.heap.size, 1, none⟩ = some (.int .i64 y) := fun m => later_old m HE3.out.cell1
  go_wp2
  by_cases hlt : i < n
  · obtain ⟨b, o, u, v, hu, rfl, hb, hc1, hc2, _⟩ := (HX.out.below HB3.out).at_ hlt
    have HPU := Lib.hid (va_at HV.out hu).1
    have HU := Lib.hid hu
    have u1 := HPU.out.1
    have u2 := HPU.out.2.1
    have u3 := HPU.out.2.2
    simp only at u1 u2 u3
    have hg0 : ((i : Int) == (n : Int)) = false := by simp; omega
    have hg1 : ¬ i = n := by omega
    have hi1 : (i : Int) < (n : Int) := by omega
    have d2 : ∀ m : Later w3, m.val.cell? ⟨b, o + i * 2, none⟩ = some (.int .i64 u) := fun m => later_old m hc1
    have d3 : ∀ m : Later w3, m.val.cell? ⟨b, o + i * 2 + 1, none⟩ = some (.int .i64 v) := fun m => later_old m hc2
    clear hu hc1 hc2 hb
    by_cases hx : x < u
    · have HNF : Hid (R = ([], 6)) := Lib.hid (HR1.out (has_not HV.out p2 HI.out fun z hz => by
        rw [HU.out] at hz
        cases hz
        exact .inl hx))
      refine wp_region_later (by kernel_rfl) (by kernel_rfl) ?_
      repeat (go_big_quiet_step ((go_at_call 77; fail)))
      refine wpQuiet_nil ?_
      rintro w4 ⟨⟨_, hq⟩, rfl⟩
      go_wp2
      go_ret2
      rw [HNF.out]
      exact ⟨_, rfl, OwnE.nil _ _ _, Below.then HB3.out hq (Nat.le_refl _)⟩
    · by_cases hy : u + v < x + y
      · have HNF : Hid (R = ([], 6)) := Lib.hid (HR1.out (has_not HV.out p2 HI.out fun z hz => by
          rw [HU.out] at hz
          cases hz
          exact .inr hy))
        refine wp_region_later (by kernel_rfl) (by kernel_rfl) ?_
        repeat (go_big_quiet_step ((go_at_call 77; refine Calls.later (end_any _ _ _ ?_); first | exact HPU.out | exact HP.out)))
        refine wpQuiet_nil ?_
        rintro w4 ⟨⟨_, hq⟩, rfl⟩
        go_wp2
        go_ret2
        rw [HNF.out]
        exact ⟨_, rfl, OwnE.nil _ _ _, Below.then HB3.out hq (Nat.le_refl _)⟩
      · have HOK : Hid (R = (l.take i ++ (pcs (u, v) (x, y) ++ l.drop (i + 1)), 0)) := Lib.hid (by
          rw [HR0.out ⟨(u, v), List.mem_of_getElem? HU.out, by simp only; omega, by simp only; omega⟩, rem_at HV.out p2 HI.out HU.out (by simp only; omega) (by simp only; omega)])
        obtain ⟨A1, hs1, hx1⟩ := cut_hi (some ⟨b, o, none⟩) n c l i hin hcap
        obtain ⟨A2, hs2, hx2⟩ := cut_lo (some ⟨b, o, none⟩) n c l (i + 1) (by omega)
        have HX1 := Lib.hid (hx1 w w.heap.size HX.out)
        have HX2 := Lib.hid (hx2 w w.heap.size HX.out)
        rw [show ((i + 1 : Nat) : Int) = (i : Int) + 1 by omega] at hs2
        have HS1 := Lib.hid hs1
        have HS2 := Lib.hid hs2
        clear hx1 hx2 hs1 hs2
        refine wp_region_later (by kernel_rfl) (by kernel_rfl) ?_
        repeat (go_big_quiet_step ((go_at_call 77; refine Calls.later (end_any _ _ _ ?_); first | exact HPU.out | exact HP.out)))
        refine wpQuiet_nil ?_
        rintro w4 ⟨⟨_, hq⟩, rfl⟩
        have HE4 := Lib.hid (HE3.out.go hq)
        have HB4 := Lib.hid (Below.then HB3.out hq (Nat.le_refl _))
        have c2' : ∀ m : Later w4, m.val.cell? ⟨b, o + i * 2, none⟩ = some (.int .i64 u) := fun m => later_old m (d2 ⟨w4, hq⟩)
        have c0 : ∀ m : Later w4, m.val.cell? ⟨w.heap.size, 0, none⟩ = some (.int .i64 x) := fun m => later_old m HE4.out.cell0
        have D3 : Hid (w4.cell? ⟨b, o + i * 2 + 1, none⟩ = some (.int .i64 v)) := Lib.hid (d3 ⟨w4, hq⟩)
        have D2 : Hid (w4.cell? ⟨b, o + i * 2, none⟩ = some (.int .i64 u)) := Lib.hid (d2 ⟨w4, hq⟩)
        clear hq d0 d1 d2 d3 HE3 HB3
        go_wp2
        refine wp_region_later_tail 7 (by kernel_rfl) (by kernel_rfl) ?_
        simp only [List.take_succ_cons, List.take_zero, List.drop_succ_cons, List.drop_zero]
        repeat (go_big_quiet_step (fail))
        refine wpQuiet_nil ?_
        rintro w5 ⟨⟨_, hq⟩, rfl⟩
        have HE5 := Lib.hid (HE4.out.go hq)
        have HB5 := Lib.hid (Below.then HB4.out hq (Nat.le_refl _))
        have G2 := Lib.hid ((hq.cell (p := ⟨b, o + i * 2, none⟩) (lt_of_some D2.out)).trans D2.out)
        have G3 := Lib.hid ((hq.cell (p := ⟨b, o + i * 2 + 1, none⟩) (lt_of_some D3.out)).trans D3.out)
        clear hq c0 c2' HE4 HB4 D2 D3
        go_wp2_with fail
        refine (appBtw_any (.slice none 0 0) [] w5.heap.size u x w5 (OwnE.nil _ _ _) (Nat.le_refl _) (by simp) (by omega) (by omega) (by omega) (by omega)).mono ?_
        rintro e w6 ⟨v6, rfl, ho6, hb6⟩
        have HO6 := Lib.hid ho6
        have HB6 := Lib.hid hb6
        have HE6 := Lib.hid (HE5.out.go hb6)
        have hz6 : w5.heap.size ≤ w6.heap.size := hb6.size
        have d0 : ∀ m : Later w6, m.val.cell? ⟨w.heap.size, 0, none⟩ = some (.int .i64 x) := fun m => later_old m HE6.out.cell0
        have d1 : ∀ m : Later w6, m.val.cell? ⟨w.heap.size, 1, none⟩ = some (.int .i64 y) := fun m => later_old m HE6.out.cell1
        have d2 : ∀ m : Later w6, m.val.cell? ⟨b, o + i * 2, none⟩ = some (.int .i64 u) := fun m => later_old m ((hb6.cell (p := ⟨b, o + i * 2, none⟩) (lt_of_some G2.out)).trans G2.out)
        have d3 : ∀ m : Later w6, m.val.cell? ⟨b, o + i * 2 + 1, none⟩ = some (.int .i64 v) := fun m => later_old m ((hb6.cell (p := ⟨b, o + i * 2 + 1, none⟩) (lt_of_some G3.out)).trans G3.out)
        clear ho6 hb6
        go_wp2
        refine wp_region_later_tail 8 (by kernel_rfl) (by kernel_rfl) ?_
        simp only [List.take_succ_cons, List.take_zero, List.drop_succ_cons, List.drop_zero]
        repeat (go_big_quiet_step ((go_at_call 77; refine Calls.later (end_any _ _ _ ?_); first | exact HPU.out | exact HP.out)))
        refine wpQuiet_nil ?_
        rintro w7 ⟨⟨_, hq⟩, rfl⟩
        have HO7 := Lib.hid (HO6.out.below hq)
        have hz7 : w5.heap.size ≤ w7.heap.size := Nat.le_trans hz6 hq.size
        have HB7 := Lib.hid (HB6.out.trans (hq.mono hz6))
        clear hq d0 d1 d2 d3
        go_wp2_with fail
        refine (appBtw_any v6 _ w5.heap.size (x + y) (u + v) w7 HO7.out hz7 (by have := btw_len (a := u) (b := x); simp; omega) (by omega) (by omega) (by omega) (by omega)).mono ?_
        rintro e w8 ⟨v8, rfl, ho8, hb8⟩
        have HB8 := Lib.hid (HB7.out.trans hb8)
        have HBW := Lib.hid (Below.then HB5.out HB8.out (Nat.le_refl _))
        obtain ⟨A8, n8, c8, rfl, hx8⟩ := ho8.shape
        have hn8 : n8 ≤ 2 := by
          have h1 := hx8.len
          have h2 := btw_len (a := u) (b := x)
          have h3 := btw_len (a := x + y) (b := u + v)
          simp at h1
          omega
        have HX8 := Lib.hid hx8
        clear ho8 hb8 hx8 HO7 HB7 HO6 HB6 HE6
        have hs1 := HS1.out
        have hs2 := HS2.out
        go_wp2
        refine wp_region_later_tail 8 (by kernel_rfl) (by kernel_rfl) ?_
        simp only [List.take_succ_cons, List.take_zero, List.drop_succ_cons, List.drop_zero]
        repeat (go_big_quiet_step (fail))
        refine wpQuiet_nil ?_
        rintro w9 ⟨⟨_, hq⟩, rfl⟩
        have HX9 := Lib.hid (HX8.out.go hq)
        have HB9 := Lib.hid (Below.then HBW.out hq (Nat.le_refl _))
        clear hq hs1 hs2 HS1 HS2
        go_wp2_with fail
        refine (concat3_any w9 ((HX1.out.below HB9.out).more HB9.out.size) HX9.out ((HX2.out.below HB9.out).more HB9.out.size) (by omega)).mono ?_
        rintro e w10 ⟨v10, rfl, ho, hb⟩
        have hbb := HB9.out.alloc HB9.out.size (.cells #[.slice A1 i c, .slice A8 n8 c8, .slice A2 (n - (i + 1)) (c - (i + 1))] 34)
        have HO10 := Lib.hid (ho.down (B := w.heap.size) hbb.size)
        have HB10 := Lib.hid (Below.then hbb hb (Nat.le_refl _))
        clear ho hb hbb
        go_wp2
        go_ret2
        rw [HOK.out]
        exact ⟨_, rfl, by simpa [pcs] using HO10.out, HB10.out⟩
  · obtain rfl : i = n := by omega
    have HNF : Hid (R = ([], 6)) := Lib.hid (HR1.out (has_not HV.out p2 HI.out fun z hz => by
      have := (List.getElem?_eq_some_iff.1 hz).1
      have := HLN.out
      omega))
    refine wp_region_later (by kernel_rfl) (by kernel_rfl) ?_
    repeat (go_big_quiet_step (fail))
    refine wpQuiet_nil ?_
    rintro w4 ⟨⟨_, hq⟩, rfl⟩
    go_wp2
    go_ret2
    rw [HNF.out]
    exact ⟨_, rfl, OwnE.nil _ _ _, Below.then HB3.out hq (Nat.le_refl _)⟩

theorem remove_any (A : Option Addr) (n c : Nat) (l : List (Int × Int)) (x y : Int) (w : World) (h : Exs w w.heap.size A n c l) (hn : n ≤ 1000)
    (x0 : -9223372036854775808 ≤ x) (x1 : x ≤ 9223372036854775807) (y0 : -9223372036854775808 ≤ y) (y1 : y ≤ 9223372036854775807) :
    Calls Try.prog 66 #[.slice A n c, .agg #[.int .i64 x, .int .i64 y]] w (ResE w (remR l (x, y)).1 (remR l (x, y)).2) := by
  by_cases hv : Va (-1) l
  · by_cases hp : Pr x y
    · exact remove_in A n c l x y w h hn hv hp
    · unfold remR
      rw [if_neg (fun hh => hp hh.2)]
      exact remove_arg A n c l x y w h hn x0 x1 y0 y1 (.inr hp)
  · unfold remR
    rw [if_neg (fun hh => hv hh.1)]
    exact remove_arg A n c l x y w h hn x0 x1 y0 y1 (.inl hv)
end Go.Proofs.Ytfchccgajcjbbaa
