/-
  Contract of extents.Insert where it succeeds: the new list is the insertion of the text Set. Conditions: the list is valid and has at most a million extents less ten, the extent is proper and meets none of them.
-/
import Derived.Test.YtfchccgajcjbbaaIns
namespace Go.Proofs.Ytfchccgajcjbbaa
open Go.ChangeShapes Go.WideShapes Go.ChangeAt Go.RowKit
set_option maxHeartbeats 1600000
set_option maxRecDepth 100000

/-- The pair at a place of a slice whose address is known. -/
theorem Exs.at2 {w : World} {B b o n c : Nat} {l : List (Int × Int)} (h : Exs w B (some ⟨b, o, none⟩) n c l) {k : Nat} (hk : k < n) :
    ∃ x y, l[k]? = some (x, y) ∧ b < B ∧ w.cell? ⟨b, o + k * 2, none⟩ = some (.int .i64 x) ∧ w.cell? ⟨b, o + k * 2 + 1, none⟩ = some (.int .i64 y) := by
  obtain ⟨b', o', x, y, hx, e, hb, h1, h2, _⟩ := h.at_ hk
  cases e
  exact ⟨x, y, hx, hb, h1, h2⟩
/-- What the left side of the insertion is. -/
theorem left_no {l : List (Int × Int)} {x y : Int} {i : Nat} (h : i = 0 ∨ ∃ u v, l[i - 1]? = some (u, v) ∧ u + v ≠ x) : md1 l (x, y) i = (x, y) ∧ bef l (x, y) i = l.take i := by
  have : lft l (x, y) i = false := by
    rcases h with rfl | ⟨u, v, h1, h2⟩
    · rfl
    · cases i with
      | zero => rfl
      | succ j => simp only [Nat.add_sub_cancel] at h1; simp [lft, h1, h2]
  simp [md1, bef, this]
theorem left_yes {l : List (Int × Int)} {x y : Int} {i : Nat} (h0 : 0 < i) {u v : Int} (h1 : l[i - 1]? = some (u, v)) (h2 : u + v = x) : md1 l (x, y) i = (u, x + y - u) ∧ bef l (x, y) i = l.take (i - 1) := by
  have : lft l (x, y) i = true := by
    cases i with
    | zero => omega
    | succ j => simp only [Nat.add_sub_cancel] at h1; simp [lft, h1, h2]
  simp [md1, bef, this, h1]
theorem right_no {l : List (Int × Int)} {x y : Int} {i : Nat} (h : ∀ u v, l[i]? = some (u, v) → u ≠ x + y) : md2 l (x, y) i = (x, y) ∧ aft l (x, y) i = l.drop i := by
  have : rgt l (x, y) i = false := by
    unfold rgt
    cases hz : l[i]? with
    | none => rfl
    | some z => simp; exact h z.1 z.2 hz
  simp [md2, aft, this]
theorem right_yes {l : List (Int × Int)} {x y : Int} {i : Nat} {u v : Int} (h1 : l[i]? = some (u, v)) (h2 : u = x + y) : md2 l (x, y) i = (x, u + v - x) ∧ aft l (x, y) i = l.drop (i + 1) := by
  have : rgt l (x, y) i = true := by simp [rgt, h1, h2]
  simp [md2, aft, this, h1]
/-- Concat of three slices, written out. -/
theorem concat3_any {A1 A2 A3 : Option Addr} {n1 n2 n3 c1 c2 c3 : Nat} {l1 l2 l3 : List (Int × Int)} (w : World) (h1 : Exs w w.heap.size A1 n1 c1 l1) (h2 : Exs w w.heap.size A2 n2 c2 l2) (h3 : Exs w w.heap.size A3 n3 c3 l3) (hs : n1 + n2 + n3 ≤ 1000000) :
    Calls Try.prog 81 #[.slice (some ⟨w.heap.size, 0, none⟩) 3 3] (w.alloc (.cells #[.slice A1 n1 c1, .slice A2 n2 c2, .slice A3 n3 c3] 34)) (MadeE (w.alloc (.cells #[.slice A1 n1 c1, .slice A2 n2 c2, .slice A3 n3 c3] 34)) (l1 ++ (l2 ++ l3))) := by
  have hb : Below w.heap.size w (w.alloc (.cells #[.slice A1 n1 c1, .slice A2 n2 c2, .slice A3 n3 c3] 34)) := (Below.refl _ _).alloc (Nat.le_refl _) _
  have h := concat_any (some ⟨w.heap.size, 0, none⟩) 3 3 [⟨A1, n1, c1, l1⟩, ⟨A2, n2, c2, l2⟩, ⟨A3, n3, c3, l3⟩] (w.alloc (.cells #[.slice A1 n1 c1, .slice A2 n2 c2, .slice A3 n3 c3] 34))
    (by simpa [sv, Seg.v] using Row.new w [.slice A1 n1 c1, .slice A2 n2 c2, .slice A3 n3 c3] #[.slice A1 n1 c1, .slice A2 n2 c2, .slice A3 n3 c3] 34 rfl (by unfold maxLen; simp))
    (by
      intro r hr
      simp only [List.mem_cons, List.not_mem_nil, or_false] at hr
      rcases hr with rfl | rfl | rfl
      · exact h1.go hb
      · exact h2.go hb
      · exact h3.go hb) (by simp [szs]; omega)
  simpa [cat] using h
/-- The last step of the insertion. -/
theorem ins_fin {A1 A3 : Option Addr} {n1 n3 c1 c3 : Nat} {l1 l3 : List (Int × Int)} {x y : Int} (w w9 : World) (N : Nat) (hN : w9.heap.size = N) (hb : Below w.heap.size w w9) (h1 : Exs w w.heap.size A1 n1 c1 l1) (h3 : Exs w w.heap.size A3 n3 c3 l3) (hp : Pr x y) (hs : n1 + n3 ≤ 999990) :
    Calls Try.prog 81 #[.slice (some ⟨N + 1, 0, none⟩) 3 3] ((w9.alloc (.cells #[.int .i64 x, .int .i64 y] 31)).alloc (.cells #[.slice A1 n1 c1, .slice (some ⟨N, 0, none⟩) 1 1, .slice A3 n3 c3] 34))
      fun e w' => ∃ v, e = .returned v ∧ OwnE 31 w' w.heap.size v (l1 ++ ((x, y) :: l3)) ∧ Below w.heap.size w w' := by
  subst hN
  have hb1 : Below w.heap.size w (w9.alloc (.cells #[.int .i64 x, .int .i64 y] 31)) := hb.alloc hb.size _
  have hsz : (w9.alloc (.cells #[.int .i64 x, .int .i64 y] 31)).heap.size = w9.heap.size + 1 := by simp
  have hm : Exs (w9.alloc (.cells #[.int .i64 x, .int .i64 y] 31)) (w9.alloc (.cells #[.int .i64 x, .int .i64 y] 31)).heap.size (some ⟨w9.heap.size, 0, none⟩) 1 1 [(x, y)] := by
    rw [hsz]
    refine Exs.new w9 [(x, y)] _ _ 1 rfl rfl (by unfold maxLen; omega) fun z hz => ?_
    simp at hz
    subst hz
    obtain ⟨q1, q2, q3⟩ := hp
    simp only
    omega
  have H := concat3_any (w9.alloc (.cells #[.int .i64 x, .int .i64 y] 31)) ((h1.below hb1).more hb1.size) hm ((h3.below hb1).more hb1.size) (by omega)
  rw [hsz] at H
  refine H.mono ?_
  rintro e w' ⟨v, rfl, ho, hb2⟩
  have hb3 : Below w.heap.size w ((w9.alloc (.cells #[.int .i64 x, .int .i64 y] 31)).alloc (.cells #[.slice A1 n1 c1, .slice (some ⟨w9.heap.size, 0, none⟩) 1 1, .slice A3 n3 c3] 34)) := hb1.alloc hb1.size _
  exact ⟨v, rfl, by simpa using ho.down hb3.size, Below.then hb3 hb2 (Nat.le_refl _)⟩
theorem insert_ok1 (b o n c : Nat) (l : List (Int × Int)) (x y : Int) (w : World) (h : Exs w w.heap.size (some ⟨b, o, none⟩) n c l) (hn : n ≤ 999990) (hv : Va (-1) l) (hp : Pr x y) (hf : Free l (x, y)) :
    Calls Try.prog 60 #[.slice (some ⟨b, o, none⟩) n c, .agg #[.int .i64 x, .int .i64 y]] w (ResE w (ins l (x, y)) 0) := by
  have hb0 : Below w.heap.size w (w.alloc (.cells #[.int .i64 x, .int .i64 y] 31)) := (Below.refl _ _).alloc (Nat.le_refl _) _
  have H := Lib.hid (valid_any _ n c l _ (h.go hb0) (by omega))
  rw [vaB_yes hv] at H
  have HB0 := Lib.hid hb0
  have HX := Lib.hid h
  have HV := Lib.hid hv
  have HP := Lib.hid hp
  have HF := Lib.hid hf
  have hcap := h.cap
  have hsm := h.small
  have HLN := Lib.hid h.len
  unfold maxLen at hsm
  obtain ⟨p1, p2, p3⟩ := hp
  clear hb0 h hv hf
  go_enter Try.func60, Try.ntmps60
  go_wp2_with fail
  refine H.out.mono ?_
  rintro e w1 ⟨rfl, hb1⟩
  clear H
  have HE1 := Lib.hid ((Box.new (w := w) (x := x) (y := y)).go hb1)
  have HB1 := Lib.hid (Below.then HB0.out hb1 (Nat.le_refl _))
  have f0 := HE1.out.cell0
  have f1 := HE1.out.cell1
  clear hb1
  go_wp2_with fail
  refine (proper_yes x y _ HP.out).mono ?_
  rintro e w2 ⟨rfl, hb2⟩
  have HE2 := Lib.hid (HE1.out.go hb2)
  have HB2 := Lib.hid (Below.then HB1.out hb2 (Nat.le_refl _))
  clear hb2 f0 f1 HE1
  have f0 := HE2.out.cell0
  have f1 := HE2.out.cell1
  go_wp2_with fail
  refine (find_any _ n c l x w2 (HX.out.go HB2.out) (by omega) HV.out).mono ?_
  rintro e w3 ⟨i, rfl, hi, hb3⟩
  have HE3 := Lib.hid (HE2.out.go hb3)
  have HB3 := Lib.hid (Below.then HB2.out hb3 (Nat.le_refl _))
  have HI := Lib.hid hi
  have hin : i ≤ n := by have := hi.1; have := HLN.out; omega
  clear hb3 f0 f1 hi HE2 HB2 HB1 HB0
  obtain ⟨A1, hs1, hx1⟩ := cut_hi (some ⟨b, o, none⟩) n c l i hin hcap
  obtain ⟨A2, hs2, hx2⟩ := cut_lo (some ⟨b, o, none⟩) n c l i hin
  have HX1 := Lib.hid (hx1 w w.heap.size HX.out)
  have HX2 := Lib.hid (hx2 w w.heap.size HX.out)
  have d0 : ∀ m : Later w3, m.val.cell? ⟨w.heap.size, 0, none⟩ = some (.int .i64 x) := fun m => later_old m HE3.out.cell0
  have d1 : ∀ m : Later w3, m.val.cell? ⟨w.heap.size, 1, none⟩ = some (.int .i64 y) := fun m => later_old m HE3.out.cell1
  clear hx1 hx2
  go_wp2
  -- the test for an overlap
  by_cases hlt : i < n
  all_goals first
    | (obtain ⟨x', y', hx', hb, hc1, hc2⟩ := (HX.out.below HB3.out).at2 hlt
       have hge : ¬ x' < x + y := by
         have h1 := HF.out (x', y') (List.mem_of_getElem? hx')
         have h2 := HI.out.2.2 i _ (Nat.le_refl _) hx'
         simp only at h1 h2
         omega
       have hi1 : (i : Int) < (n : Int) := by omega
       have d2 : ∀ m : Later w3, m.val.cell? ⟨b, o + i * 2, none⟩ = some (.int .i64 x') := fun m => later_old m hc1
       clear hx' hc1 hc2 hb)
    | have hg : decide ((i : Int) < (n : Int)) = false := decide_eq_false (by omega)
  all_goals
    refine wp_region_later (by kernel_rfl) (by kernel_rfl) ?_
    repeat (go_big_quiet_step ((go_at_call 77; exact Calls.later (end_any x y _ HP.out))))
    refine wpQuiet_nil ?_
    rintro w4 ⟨⟨_, hq⟩, rfl⟩
    have HE4 := Lib.hid (HE3.out.go hq)
    have HB4 := Lib.hid (Below.then HB3.out hq (Nat.le_refl _))
    clear hq d0 d1 HE3 HB3
  all_goals try clear d2
  all_goals
    go_wp2
    go_quiet (fail)
    have HE5 := Lib.hid (HE4.out.below (below_drewN (Below.refl _ _) nq) HE4.out.lt)
    have HB5 := Lib.hid (below_drewN HB4.out nq)
    clear HE4 HB4
    generalize w4.drewN nq = w5 at *
    clear hs1 hs2 w1 w2 w3
    try clear hge
    -- the extent before
    have hL : i = 0 ∨ (∃ u v, 0 < i ∧ l[i - 1]? = some (u, v) ∧ u + v ≠ x) ∨ ∃ u v, 0 < i ∧ l[i - 1]? = some (u, v) ∧ u + v = x := by
      rcases Nat.eq_zero_or_pos i with h0 | h0
      · exact .inl h0
      · obtain ⟨u, v, hu, _⟩ := HX.out.at2 (k := i - 1) (by omega)
        by_cases he : u + v = x
        · exact .inr (.inr ⟨u, v, h0, hu, he⟩)
        · exact .inr (.inl ⟨u, v, h0, hu, he⟩)
    rcases hL with hi0 | ⟨u, v, hi0, hu, hne⟩ | ⟨u, v, hi0, hu, heq⟩
  all_goals first
    | (have HM := Lib.hid (left_no (l := l) (x := x) (y := y) (.inl hi0))
       have HX7 : Hid (Exs w w.heap.size A1 i c (bef l (x, y) i)) := Lib.hid (by rw [HM.out.2]; exact HX1.out)
       have hg7 : decide ((0 : Int) < (i : Int)) = false := decide_eq_false (by omega)
       have hg8 : ¬ 0 < i := by omega
       clear hi0
       go_wp2
       refine wp_region_later (by kernel_rfl) (by kernel_rfl) ?_
       repeat (go_big_quiet_step (fail))
       refine wpQuiet_nil ?_
       rintro w6 ⟨⟨_, hq⟩, rfl⟩
       have HE6 := Lib.hid (HE5.out.go hq)
       have HB6 := Lib.hid (Below.then HB5.out hq (Nat.le_refl _))
       clear hq HE5 HB5
       go_wp2
       obtain ⟨x1, hx1⟩ : ∃ z, z = x := ⟨_, rfl⟩
       obtain ⟨y1, hy1⟩ : ∃ z, z = y := ⟨_, rfl⟩
       have HM1 : Hid (md1 l (x, y) i = (x1, y1)) := Lib.hid (by rw [hx1, hy1]; exact HM.out.1)
       have HP1 : Hid (Pr x1 y1 ∧ x1 + y1 = x + y) := Lib.hid (by rw [hx1, hy1]; exact ⟨HP.out, rfl⟩)
       rw [← hx1, ← hy1] at HE6
       clear hx1 hy1 HM hg7 hg8)
    | (have HM := Lib.hid (left_no (l := l) (x := x) (y := y) (.inr ⟨u, v, hu, hne⟩))
       have HX7 : Hid (Exs w w.heap.size A1 i c (bef l (x, y) i)) := Lib.hid (by rw [HM.out.2]; exact HX1.out)
       have hne' : (u + v == x) = false := by simpa using hne
       clear hne
       obtain ⟨u', v', hu', _, hu1, hu2⟩ := (HX.out.below HB5.out).at2 (k := i - 1) (by omega)
       rw [hu] at hu'
       cases hu'
       have HPU := Lib.hid (va_at HV.out hu).1
       have hq1 := HPU.out.1
       have hq2 := HPU.out.2.1
       have hq3 := HPU.out.2.2
       simp only at hq1 hq2 hq3
       have hi2 : ((i : Int) - 1).toNat = i - 1 := by omega
       have hi3 : (0 : Int) ≤ (i : Int) - 1 := by omega
       have hi4 : (i : Int) - 1 < (n : Int) := by omega
       have hi5 : (0 : Int) < (i : Int) := by omega
       have e0 : ∀ m : Later w5, m.val.cell? ⟨b, o + (i - 1) * 2, none⟩ = some (.int .i64 u) := fun m => later_old m hu1
       have e1 : ∀ m : Later w5, m.val.cell? ⟨b, o + (i - 1) * 2 + 1, none⟩ = some (.int .i64 v) := fun m => later_old m hu2
       have e2 : ∀ m : Later w5, m.val.cell? ⟨w.heap.size, 0, none⟩ = some (.int .i64 x) := fun m => later_old m HE5.out.cell0
       clear hu1 hu2
       go_wp2
       refine wp_region_later (by kernel_rfl) (by kernel_rfl) ?_
       repeat (go_big_quiet_step ((go_at_call 77; exact Calls.later (end_any u v _ HPU.out))))
       refine wpQuiet_nil ?_
       rintro w6 ⟨⟨_, hq⟩, rfl⟩
       have HE6 := Lib.hid (HE5.out.go hq)
       have HB6 := Lib.hid (Below.then HB5.out hq (Nat.le_refl _))
       clear hq HE5 HB5 e0 e1 e2
       go_wp2
       obtain ⟨x1, hx1⟩ : ∃ z, z = x := ⟨_, rfl⟩
       obtain ⟨y1, hy1⟩ : ∃ z, z = y := ⟨_, rfl⟩
       have HM1 : Hid (md1 l (x, y) i = (x1, y1)) := Lib.hid (by rw [hx1, hy1]; exact HM.out.1)
       have HP1 : Hid (Pr x1 y1 ∧ x1 + y1 = x + y) := Lib.hid (by rw [hx1, hy1]; exact ⟨HP.out, rfl⟩)
       rw [← hx1, ← hy1] at HE6
       clear hx1 hy1 HM hne' hi2 hi3 hi4 hi5)
    | (have HM := Lib.hid (left_yes (l := l) (y := y) hi0 hu heq)
       obtain ⟨A3, hs3, hx3⟩ := cut_hi (some ⟨b, o, none⟩) n c l (i - 1) (by omega) hcap
       have HX7 : Hid (Exs w w.heap.size A3 (i - 1) c (bef l (x, y) i)) := Lib.hid (by rw [HM.out.2]; exact hx3 w w.heap.size HX.out)
       have hq' : (u + v == x) = true := by simpa using heq
       have hux : u < x := by
         have := (va_at HV.out hu).1.2.1
         simp only at this
         omega
       have hi6 : ((i - 1 : Nat) : Int) = (i : Int) - 1 := by omega
       rw [hi6] at hs3
       clear heq hi6 hx3
       obtain ⟨u', v', hu', _, hu1, hu2⟩ := (HX.out.below HB5.out).at2 (k := i - 1) (by omega)
       rw [hu] at hu'
       cases hu'
       have HPU := Lib.hid (va_at HV.out hu).1
       have hq1 := HPU.out.1
       have hq2 := HPU.out.2.1
       have hq3 := HPU.out.2.2
       simp only at hq1 hq2 hq3
       have hi2 : ((i : Int) - 1).toNat = i - 1 := by omega
       have hi3 : (0 : Int) ≤ (i : Int) - 1 := by omega
       have hi4 : (i : Int) - 1 < (n : Int) := by omega
       have hi5 : (0 : Int) < (i : Int) := by omega
       have e0 : ∀ m : Later w5, m.val.cell? ⟨b, o + (i - 1) * 2, none⟩ = some (.int .i64 u) := fun m => later_old m hu1
       have e1 : ∀ m : Later w5, m.val.cell? ⟨b, o + (i - 1) * 2 + 1, none⟩ = some (.int .i64 v) := fun m => later_old m hu2
       have e2 : ∀ m : Later w5, m.val.cell? ⟨w.heap.size, 0, none⟩ = some (.int .i64 x) := fun m => later_old m HE5.out.cell0
       clear hu1 hu2
       go_wp2
       refine wp_region_later (by kernel_rfl) (by kernel_rfl) ?_
       repeat (go_big_quiet_step ((go_at_call 77; exact Calls.later (end_any u v _ HPU.out))))
       refine wpQuiet_nil ?_
       rintro w6 ⟨⟨_, hq⟩, rfl⟩
       have HE6 := Lib.hid (HE5.out.go hq)
       have HB6 := Lib.hid (Below.then HB5.out hq (Nat.le_refl _))
       have e0 : ∀ m : Later w6, m.val.cell? ⟨b, o + (i - 1) * 2, none⟩ = some (.int .i64 u) := fun m => (m.2.cell (p := ⟨b, o + (i - 1) * 2, none⟩) (by have := lt_of_some (e0 ⟨w5, Below.refl _ _⟩); have := hq.size; simp only at *; omega)).trans (e0 ⟨w6, hq⟩)
       have e2 : ∀ m : Later w6, m.val.cell? ⟨w.heap.size, 0, none⟩ = some (.int .i64 x) := fun m => later_old m HE6.out.cell0
       have e3 : ∀ m : Later w6, m.val.cell? ⟨w.heap.size, 1, none⟩ = some (.int .i64 y) := fun m => later_old m HE6.out.cell1
       clear hq HE5 HB5
       go_wp2
       refine wp_region_later_tail 9 (by kernel_rfl) (by kernel_rfl) ?_
       simp only [List.take_succ_cons, List.take_zero, List.drop_succ_cons, List.drop_zero]
       repeat (go_big_quiet_step (first | (go_at_call 77; exact Calls.later (end_any x y _ HP.out)) | (go_at_call 80; exact Calls.later (between_any u (x + y) _ (by omega) (by omega) (by omega) (by omega)))))
       refine wpQuiet_nil ?_
       rintro w7 ⟨⟨_, hq⟩, rfl⟩
       have HE7 := Lib.hid (HE6.out.go hq)
       have HB7 := Lib.hid (Below.then HB6.out hq (Nat.le_refl _))
       have g0 := HE7.out.cell0
       have g1 := HE7.out.cell1
       have g2 := HE7.out.fr0
       have g3 := HE7.out.fr1
       clear hq HE6 HB6 e0 e1 e2 e3
       go_wp2
       have HE8 := Lib.hid (HE7.out.set u (x + y - u))
       have HB8 := Lib.hid ((HB7.out.setCell (p := ⟨w.heap.size, 0, none⟩) (Nat.le_refl _) (.int .i64 u)).setCell (p := ⟨w.heap.size, 1, none⟩) (Nat.le_refl _) (.int .i64 (x + y - u)))
       obtain ⟨x1, hx1⟩ : ∃ z, z = u := ⟨_, rfl⟩
       obtain ⟨y1, hy1⟩ : ∃ z, z = x + y - u := ⟨_, rfl⟩
       have HM1 : Hid (md1 l (x, y) i = (x1, y1)) := Lib.hid (by rw [hx1, hy1]; exact HM.out.1)
       have HP1 : Hid (Pr x1 y1 ∧ x1 + y1 = x + y) := Lib.hid (by rw [hx1, hy1]; exact ⟨⟨hq1, by omega, by omega⟩, by omega⟩)
       generalize (w7.setCell ⟨w.heap.size, 0, none⟩ (.int .i64 u)).setCell ⟨w.heap.size, 1, none⟩ (.int .i64 (x + y - u)) = w6 at *
       have HE6 : Hid (Box w6 w.heap.size x1 y1) := Lib.hid (by rw [hx1, hy1]; exact HE8.out)
       have HB6 := HB8
       clear hx1 hy1 HM hq' hi2 hi3 hi4 hi5 HE8 HB8 g0 g1 g2 g3 HE7 HB7 hs3 e0 e2)
  all_goals
    try clear HX1
    have r1 := HP1.out.1.1
    have r2 := HP1.out.1.2.1
    have r3 := HP1.out.1.2.2
    have d0 : ∀ m : Later w6, m.val.cell? ⟨w.heap.size, 0, none⟩ = some (.int .i64 x1) := fun m => later_old m HE6.out.cell0
    have d1 : ∀ m : Later w6, m.val.cell? ⟨w.heap.size, 1, none⟩ = some (.int .i64 y1) := fun m => later_old m HE6.out.cell1
    -- the extent behind
    have hR : ¬ i < n ∨ (∃ u v, i < n ∧ l[i]? = some (u, v) ∧ u ≠ x1 + y1) ∨ ∃ u v, i < n ∧ l[i]? = some (u, v) ∧ u = x1 + y1 := by
      by_cases h0 : i < n
      · obtain ⟨u, v, hu, _⟩ := HX.out.at2 (k := i) h0
        by_cases he : u = x1 + y1
        · exact .inr (.inr ⟨u, v, h0, hu, he⟩)
        · exact .inr (.inl ⟨u, v, h0, hu, he⟩)
      · exact .inl h0
    rcases hR with hj | ⟨u, v, hj, hu, hne⟩ | ⟨u, v, hj, hu, heq⟩
  all_goals first
    | exact absurd hlt hj
    | exact absurd hj hlt
    | (have HM2 := Lib.hid (right_no (l := l) (x := x1) (y := y1) (i := i) fun u v huv => by
         have := (List.getElem?_eq_some_iff.1 huv).1
         have := HLN.out
         omega)
       have HX8 : Hid (Exs w w.heap.size A2 (n - i) (c - i) (aft l (x1, y1) i)) := Lib.hid (by rw [HM2.out.2]; exact HX2.out)
       have hg9 : decide ((i : Int) < (n : Int)) = false := decide_eq_false (by omega)
       refine wp_region_later (by kernel_rfl) (by kernel_rfl) ?_
       repeat (go_big_quiet_step (fail))
       refine wpQuiet_nil ?_
       rintro w9 ⟨⟨_, hq⟩, rfl⟩
       have HE9 := Lib.hid (HE6.out.go hq)
       have HB9 := Lib.hid (Below.then HB6.out hq (Nat.le_refl _))
       clear hq HE6 HB6
       obtain ⟨x2, hx2⟩ : ∃ z, z = x1 := ⟨_, rfl⟩
       obtain ⟨y2, hy2⟩ : ∃ z, z = y1 := ⟨_, rfl⟩
       have HM3 : Hid (md2 l (x1, y1) i = (x2, y2) ∧ Pr x2 y2) := Lib.hid (by rw [hx2, hy2]; exact ⟨HM2.out.1, HP1.out.1⟩)
       rw [← hx2, ← hy2] at HE9
       clear hx2 hy2 HM2
       have g0 := HE9.out.cell0
       have g1 := HE9.out.cell1
       go_wp2_with fail
       refine (ins_fin w _ _ (by simp) HB9.out HX7.out HX8.out HM3.out.2 (by omega)).mono ?_
       rintro e w' ⟨v', rfl, ho, hb'⟩
       have HO := Lib.hid ho
       have HBB := Lib.hid hb'
       clear ho hb'
       have HL : Hid (ins l (x, y) = bef l (x, y) i ++ ((x2, y2) :: aft l (x1, y1) i)) := Lib.hid (by
         rw [← pin_eq HV.out p2 HI.out HF.out]
         unfold pin
         rw [HM1.out, HM3.out.1])
       go_wp2
       go_ret2
       exact ⟨_, rfl, by rw [HL.out]; exact HO.out, HBB.out⟩)
    | (have HM2 := Lib.hid (right_no (l := l) (x := x1) (y := y1) (i := i) fun u' v' huv => by
         rw [hu] at huv
         cases huv
         exact hne)
       have HX8 : Hid (Exs w w.heap.size A2 (n - i) (c - i) (aft l (x1, y1) i)) := Lib.hid (by rw [HM2.out.2]; exact HX2.out)
       have hne' : (u == x1 + y1) = false := by simpa using hne
       clear hne
       obtain ⟨u', v', hu', _, hu1, hu2⟩ := (HX.out.below HB6.out).at2 (k := i) hj
       rw [hu] at hu'
       cases hu'
       have HPU := Lib.hid (va_at HV.out hu).1
       have hq1 := HPU.out.1
       have hq2 := HPU.out.2.1
       have hq3 := HPU.out.2.2
       simp only at hq1 hq2 hq3
       have hi2 : (i : Int) < (n : Int) := by omega
       have e0 : ∀ m : Later w6, m.val.cell? ⟨b, o + i * 2, none⟩ = some (.int .i64 u) := fun m => later_old m hu1
       have e1 : ∀ m : Later w6, m.val.cell? ⟨b, o + i * 2 + 1, none⟩ = some (.int .i64 v) := fun m => later_old m hu2
       refine wp_region_later (by kernel_rfl) (by kernel_rfl) ?_
       repeat (go_big_quiet_step ((go_at_call 77; exact Calls.later (end_any x1 y1 _ HP1.out.1))))
       refine wpQuiet_nil ?_
       rintro w9 ⟨⟨_, hq⟩, rfl⟩
       have HE9 := Lib.hid (HE6.out.go hq)
       have HB9 := Lib.hid (Below.then HB6.out hq (Nat.le_refl _))
       clear hq HE6 HB6 e0 e1 hu1 hu2
       obtain ⟨x2, hx2⟩ : ∃ z, z = x1 := ⟨_, rfl⟩
       obtain ⟨y2, hy2⟩ : ∃ z, z = y1 := ⟨_, rfl⟩
       have HM3 : Hid (md2 l (x1, y1) i = (x2, y2) ∧ Pr x2 y2) := Lib.hid (by rw [hx2, hy2]; exact ⟨HM2.out.1, HP1.out.1⟩)
       rw [← hx2, ← hy2] at HE9
       clear hx2 hy2 HM2 hne' d0 d1
       have g0 := HE9.out.cell0
       have g1 := HE9.out.cell1
       go_wp2_with fail
       refine (ins_fin w _ _ (by simp) HB9.out HX7.out HX8.out HM3.out.2 (by omega)).mono ?_
       rintro e w' ⟨v', rfl, ho, hb'⟩
       have HO := Lib.hid ho
       have HBB := Lib.hid hb'
       clear ho hb'
       have HL : Hid (ins l (x, y) = bef l (x, y) i ++ ((x2, y2) :: aft l (x1, y1) i)) := Lib.hid (by
         rw [← pin_eq HV.out p2 HI.out HF.out]
         unfold pin
         rw [HM1.out, HM3.out.1])
       go_wp2
       go_ret2
       exact ⟨_, rfl, by rw [HL.out]; exact HO.out, HBB.out⟩)
    | (have HM2 := Lib.hid (right_yes (l := l) (x := x1) (y := y1) hu heq)
       obtain ⟨A4, hs4, hx4⟩ := cut_lo (some ⟨b, o, none⟩) n c l (i + 1) (by omega)
       have HX8 : Hid (Exs w w.heap.size A4 (n - (i + 1)) (c - (i + 1)) (aft l (x1, y1) i)) := Lib.hid (by rw [HM2.out.2]; exact hx4 w w.heap.size HX.out)
       have hq' : (u == x1 + y1) = true := by simpa using heq
       have hux : u = x1 + y1 := heq
       have hux1 : x1 < u := by omega
       have hi6 : ((i + 1 : Nat) : Int) = (i : Int) + 1 := by omega
       rw [hi6] at hs4
       clear heq hi6 hx4 hux
       obtain ⟨u', v', hu', _, hu1, hu2⟩ := (HX.out.below HB6.out).at2 (k := i) hj
       rw [hu] at hu'
       cases hu'
       have HPU := Lib.hid (va_at HV.out hu).1
       have hq1 := HPU.out.1
       have hq2 := HPU.out.2.1
       have hq3 := HPU.out.2.2
       simp only at hq1 hq2 hq3
       have hi2 : (i : Int) < (n : Int) := by omega
       have e0 : ∀ m : Later w6, m.val.cell? ⟨b, o + i * 2, none⟩ = some (.int .i64 u) := fun m => later_old m hu1
       have e1 : ∀ m : Later w6, m.val.cell? ⟨b, o + i * 2 + 1, none⟩ = some (.int .i64 v) := fun m => later_old m hu2
       refine wp_region_later (by kernel_rfl) (by kernel_rfl) ?_
       repeat (go_big_quiet_step ((go_at_call 77; exact Calls.later (end_any x1 y1 _ HP1.out.1))))
       refine wpQuiet_nil ?_
       rintro w7 ⟨⟨_, hq⟩, rfl⟩
       have HE7 := Lib.hid (HE6.out.go hq)
       have HB7 := Lib.hid (Below.then HB6.out hq (Nat.le_refl _))
       have k0 : ∀ m : Later w7, m.val.cell? ⟨b, o + i * 2, none⟩ = some (.int .i64 u) := fun m => later_old m (e0 ⟨w7, hq⟩)
       have k1 : ∀ m : Later w7, m.val.cell? ⟨b, o + i * 2 + 1, none⟩ = some (.int .i64 v) := fun m => later_old m (e1 ⟨w7, hq⟩)
       have k2 : ∀ m : Later w7, m.val.cell? ⟨w.heap.size, 0, none⟩ = some (.int .i64 x1) := fun m => later_old m HE7.out.cell0
       clear hq HE6 HB6 e0 e1 hu1 hu2 d0 d1
       go_wp2
       refine wp_region_later_tail 8 (by kernel_rfl) (by kernel_rfl) ?_
       simp only [List.take_succ_cons, List.take_zero, List.drop_succ_cons, List.drop_zero]
       repeat (go_big_quiet_step (first | (go_at_call 77; exact Calls.later (end_any u v _ HPU.out)) | (go_at_call 80; exact Calls.later (between_any x1 (u + v) _ (by omega) (by omega) (by omega) (by omega)))))
       refine wpQuiet_nil ?_
       rintro w8 ⟨⟨_, hq⟩, rfl⟩
       have HE8 := Lib.hid (HE7.out.go hq)
       have HB8 := Lib.hid (Below.then HB7.out hq (Nat.le_refl _))
       have g0 := HE8.out.cell0
       have g1 := HE8.out.cell1
       have g2 := HE8.out.fr0
       have g3 := HE8.out.fr1
       clear hq HE7 HB7 k0 k1 k2
       go_wp2_with fail
       obtain ⟨x2, hx2⟩ : ∃ z, z = x1 := ⟨_, rfl⟩
       obtain ⟨y2, hy2⟩ : ∃ z, z = u + v - x1 := ⟨_, rfl⟩
       have HM3 : Hid (md2 l (x1, y1) i = (x2, y2) ∧ Pr x2 y2) := Lib.hid (by rw [hx2, hy2]; exact ⟨HM2.out.1, ⟨r1, by omega, by omega⟩⟩)
       have HB9 := Lib.hid ((HB8.out.setCell (p := ⟨w.heap.size, 0, none⟩) (Nat.le_refl _) (.int .i64 x1)).setCell (p := ⟨w.heap.size, 1, none⟩) (Nat.le_refl _) (.int .i64 (u + v - x1)))
       rw [← hy2, ← hx2] at HB9 ⊢
       refine (ins_fin w _ _ (by simp) HB9.out HX7.out HX8.out HM3.out.2 (by omega)).mono ?_
       rintro e w' ⟨v', rfl, ho, hb'⟩
       have HO := Lib.hid ho
       have HBB := Lib.hid hb'
       clear ho hb'
       have HL : Hid (ins l (x, y) = bef l (x, y) i ++ ((x2, y2) :: aft l (x1, y1) i)) := Lib.hid (by
         rw [← pin_eq HV.out p2 HI.out HF.out]
         unfold pin
         rw [HM1.out, HM3.out.1])
       go_wp2
       go_ret2
       exact ⟨_, rfl, by rw [HL.out]; exact HO.out, HBB.out⟩)

theorem insert_ok0 (A : Option Addr) (c : Nat) (x y : Int) (w : World) (h : Exs w w.heap.size A 0 c []) (hp : Pr x y) :
    Calls Try.prog 60 #[.slice A 0 c, .agg #[.int .i64 x, .int .i64 y]] w (ResE w [(x, y)] 0) := by
  have hb0 : Below w.heap.size w (w.alloc (.cells #[.int .i64 x, .int .i64 y] 31)) := (Below.refl _ _).alloc (Nat.le_refl _) _
  have H := Lib.hid (valid_any _ 0 c [] _ (h.go hb0) (by omega))
  rw [vaB_yes (show Va (-1) [] from trivial)] at H
  have HB0 := Lib.hid hb0
  have HX := Lib.hid h
  have HP := Lib.hid hp
  have hcap := h.cap
  have hsm := h.small
  unfold maxLen at hsm
  obtain ⟨p1, p2, p3⟩ := hp
  clear hb0 h
  go_enter Try.func60, Try.ntmps60
  go_wp2_with fail
  refine H.out.mono ?_
  rintro e w1 ⟨rfl, hb1⟩
  clear H
  have HE1 := Lib.hid ((Box.new (w := w) (x := x) (y := y)).go hb1)
  have HB1 := Lib.hid (Below.then HB0.out hb1 (Nat.le_refl _))
  have f0 := HE1.out.cell0
  have f1 := HE1.out.cell1
  clear hb1
  go_wp2_with fail
  refine (proper_yes x y _ HP.out).mono ?_
  rintro e w2 ⟨rfl, hb2⟩
  have HE2 := Lib.hid (HE1.out.go hb2)
  have HB2 := Lib.hid (Below.then HB1.out hb2 (Nat.le_refl _))
  clear hb2 f0 f1 HE1
  have f0 := HE2.out.cell0
  have f1 := HE2.out.cell1
  go_wp2_with fail
  refine (find_any _ 0 c [] x w2 (HX.out.go HB2.out) (by omega) trivial).mono ?_
  rintro e w3 ⟨i, rfl, hi, hb3⟩
  have HE3 := Lib.hid (HE2.out.go hb3)
  have HB3 := Lib.hid (Below.then HB2.out hb3 (Nat.le_refl _))
  obtain rfl : i = 0 := by have := hi.1; simpa using this
  clear hb3 f0 f1 hi HE2 HB2 HB1 HB0
  obtain ⟨A1, hs1, hx1⟩ := cut_hi A 0 c [] 0 (Nat.le_refl _) hcap
  obtain ⟨A2, hs2, hx2⟩ := cut_lo A 0 c [] 0 (Nat.le_refl _)
  have HX1 := Lib.hid (hx1 w w.heap.size HX.out)
  have HX2 := Lib.hid (hx2 w w.heap.size HX.out)
  simp only [Int.cast_ofNat_Int, Nat.sub_zero, List.take_zero, List.drop_zero] at hs1 hs2 HX1 HX2
  clear hx1 hx2
  go_wp2
  refine wp_region_later (by kernel_rfl) (by kernel_rfl) ?_
  repeat (go_big_quiet_step (fail))
  refine wpQuiet_nil ?_
  rintro w4 ⟨⟨_, hq⟩, rfl⟩
  have HE4 := Lib.hid (HE3.out.go hq)
  have HB4 := Lib.hid (Below.then HB3.out hq (Nat.le_refl _))
  clear hq HE3 HB3
  go_wp2
  go_quiet (fail)
  have HE5 := Lib.hid (HE4.out.below (below_drewN (Below.refl _ _) nq) HE4.out.lt)
  have HB5 := Lib.hid (below_drewN HB4.out nq)
  clear HE4 HB4
  generalize w4.drewN nq = w5 at *
  clear hs1 hs2
  go_wp2
  refine wp_region_later (by kernel_rfl) (by kernel_rfl) ?_
  repeat (go_big_quiet_step (fail))
  refine wpQuiet_nil ?_
  rintro w6 ⟨⟨_, hq⟩, rfl⟩
  have HE6 := Lib.hid (HE5.out.go hq)
  have HB6 := Lib.hid (Below.then HB5.out hq (Nat.le_refl _))
  clear hq HE5 HB5
  go_wp2
  refine wp_region_later (by kernel_rfl) (by kernel_rfl) ?_
  repeat (go_big_quiet_step (fail))
  refine wpQuiet_nil ?_
  rintro w7 ⟨⟨_, hq⟩, rfl⟩
  have HE7 := Lib.hid (HE6.out.go hq)
  have HB7 := Lib.hid (Below.then HB6.out hq (Nat.le_refl _))
  clear hq HE6 HB6
  have g0 := HE7.out.cell0
  have g1 := HE7.out.cell1
  go_wp2_with fail
  refine (ins_fin w _ _ (by simp) HB7.out HX1.out HX2.out HP.out (by omega)).mono ?_
  rintro e w' ⟨v', rfl, ho, hb'⟩
  have HO := Lib.hid ho
  have HBB := Lib.hid hb'
  clear ho hb'
  go_wp2
  go_ret2
  exact ⟨_, rfl, HO.out, HBB.out⟩

theorem insert_ok (A : Option Addr) (n c : Nat) (l : List (Int × Int)) (x y : Int) (w : World) (h : Exs w w.heap.size A n c l) (hn : n ≤ 999990) (hv : Va (-1) l) (hp : Pr x y) (hf : Free l (x, y)) :
    Calls Try.prog 60 #[.slice A n c, .agg #[.int .i64 x, .int .i64 y]] w (ResE w (ins l (x, y)) 0) := by
  rcases Nat.eq_zero_or_pos n with rfl | h0
  · have : l = [] := List.eq_nil_of_length_eq_zero h.len
    subst this
    exact insert_ok0 A c x y w h hp
  · obtain ⟨b, o, _, _, _, rfl, _⟩ := h.at_ h0
    exact insert_ok1 b o n c l x y w h hn hv hp hf

open Classical in
/-- What an insertion answers: the new list and the number of the error. -/
noncomputable def insR (l : List (Int × Int)) (e : Int × Int) : List (Int × Int) × Int :=
  if Va (-1) l ∧ Pr e.1 e.2 then (if Free l e then (ins l e, 0) else ([], 5)) else ([], 1)
theorem insert_any (A : Option Addr) (n c : Nat) (l : List (Int × Int)) (x y : Int) (w : World) (h : Exs w w.heap.size A n c l) (hn : n ≤ 999990)
    (x0 : -9223372036854775808 ≤ x) (x1 : x ≤ 9223372036854775807) (y0 : -9223372036854775808 ≤ y) (y1 : y ≤ 9223372036854775807) :
    Calls Try.prog 60 #[.slice A n c, .agg #[.int .i64 x, .int .i64 y]] w (ResE w (insR l (x, y)).1 (insR l (x, y)).2) := by
  unfold insR
  by_cases hv : Va (-1) l
  · by_cases hp : Pr x y
    · rw [if_pos ⟨hv, hp⟩]
      by_cases hf : Free l (x, y)
      · rw [if_pos hf]
        exact insert_ok A n c l x y w h hn hv hp hf
      · rw [if_neg hf]
        exact insert_over A n c l x y w h hn hv hp hf
    · rw [if_neg (fun hh => hp hh.2)]
      exact insert_arg A n c l x y w h hn x0 x1 y0 y1 (.inr hp)
  · rw [if_neg (fun hh => hv hh.1)]
    exact insert_arg A n c l x y w h hn x0 x1 y0 y1 (.inl hv)
end Go.Proofs.Ytfchccgajcjbbaa
