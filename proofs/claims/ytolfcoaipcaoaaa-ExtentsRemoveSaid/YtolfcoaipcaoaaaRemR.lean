/-
  Contract of the reference's Remove: what it returns is what the plain functions of the text Set say. Conditions: the numbers fit into 64 bits; the list has at most a thousand extents.
-/
import Derived.Test.YtolfcoaipcaoaaaRem
import Derived.Test.YtolfcoaipcaoaaaTape
namespace Go.Proofs.Ytolfcoaipcaoaaa
open Go.ChangeShapes Go.WideShapes Go.ChangeAt Go.RowKit
set_option maxHeartbeats 1600000
set_option maxRecDepth 100000

theorem removeR_arg (A : Option Addr) (n c : Nat) (l : List (Int × Int)) (x y : Int) (w : World) (h : Exs w w.heap.size A n c l) (hn : n ≤ 1000)
    (x0 : -9223372036854775808 ≤ x) (x1 : x ≤ 9223372036854775807) (y0 : -9223372036854775808 ≤ y) (y1 : y ≤ 9223372036854775807) (hbad : ¬ Va (-1) l ∨ ¬ Pr x y) :
    Calls Try.prog 25 #[.slice A n c, .agg #[.int .i64 x, .int .i64 y]] w (ResE w [] 1) := by
  have hb0 : Below w.heap.size w (w.alloc (.cells #[.int .i64 x, .int .i64 y] 31)) := (Below.refl _ _).alloc (Nat.le_refl _) _
  have H := Lib.hid (validR_any A n c l _ (h.go hb0) (by omega))
  have HB0 := Lib.hid hb0
  clear hb0 h
  by_cases hv : Va (-1) l
  · have hp : ¬ Pr x y := by
      rcases hbad with h | h
      · exact absurd hv h
      · exact h
    have HP := Lib.hid hp
    rw [vaB_yes hv] at H
    clear hbad hv hp
    go_enter Try.func25, Try.ntmps25
    go_wp2_with fail
    refine H.out.mono ?_
    rintro e w1 ⟨rfl, hb1⟩
    clear H
    have HE1 := Lib.hid ((Box.new (w := w) (x := x) (y := y)).go hb1)
    have f0 := HE1.out.cell0
    have f1 := HE1.out.cell1
    have HB1 := Lib.hid (Below.then HB0.out hb1 (Nat.le_refl _))
    clear hb1
    go_wp2_with fail
    refine (properR_no x y _ HP.out x0 x1 y0 y1).mono ?_
    rintro e w2 ⟨rfl, hb2⟩
    go_wp2
    go_ret2
    exact ⟨_, rfl, OwnE.nil _ _ _, Below.then HB1.out hb2 (Nat.le_refl _)⟩
  · rw [vaB_no hv] at H
    clear hbad hv
    go_enter Try.func25, Try.ntmps25
    go_wp2_with fail
    refine H.out.mono ?_
    rintro e w1 ⟨rfl, hb1⟩
    clear H
    go_wp2
    go_ret2
    exact ⟨_, rfl, OwnE.nil _ _ _, Below.then HB0.out hb1 (Nat.le_refl _)⟩

/-- The state of the loop: the row so far, the extent. -/
structure St1 (w wr : World) (v : Value) (l : List (Int × Int)) (x y : Int) : Prop where
  row : OwnE 31 wr (w.heap.size + 1) v l
  box : Box wr w.heap.size x y
  below : Below w.heap.size w wr
theorem St1.make {w wr : World} {v : Value} {l : List (Int × Int)} {x y : Int} (h : St1 w wr v l x y) (ob : Obj) : St1 w (wr.alloc ob) v l x y :=
  ⟨h.row.alloc ob, h.box.go ((Below.refl _ _).alloc (Nat.le_refl _) ob), h.below.alloc h.below.size ob⟩
theorem St1.app {w wr w' : World} {v v' : Value} {l l' : List (Int × Int)} {x y : Int} (h : St1 w wr v l x y) (ho : OwnE 31 w' (w.heap.size + 1) v' l') (hb : Below (w.heap.size + 1) wr w') : St1 w w' v' l' x y :=
  ⟨ho, h.box.below hb (by omega), h.below.trans (hb.mono (by omega))⟩
/-- The extents so far have one that contains e. -/
def anyIn (l : List (Int × Int)) (e : Int × Int) : Bool := l.any fun z => inn z e
theorem anyIn_take {l : List (Int × Int)} {e : Int × Int} {k : Nat} {z : Int × Int} (hz : l[k]? = some z) : anyIn (l.take (k + 1)) e = (anyIn (l.take k) e || inn z e) := by
  rw [take_one hz]
  simp [anyIn]
theorem btw_lt {a b : Int} (h : a < b) : btw a b = [(a, b - a)] := by
  unfold btw
  rw [if_neg (by omega)]
theorem btw_same {a b : Int} (h : a = b) : btw a b = [] := by
  unfold btw
  rw [if_pos h]

theorem removeR_in (A : Option Addr) (n c : Nat) (l : List (Int × Int)) (x y : Int) (w : World) (h : Exs w w.heap.size A n c l) (hn : n ≤ 1000) (hv : Va (-1) l) (hp : Pr x y) :
    Calls Try.prog 25 #[.slice A n c, .agg #[.int .i64 x, .int .i64 y]] w (ResE w (remR l (x, y)).1 (remR l (x, y)).2) := by
  have HR0 : Hid (Has l (x, y) → remR l (x, y) = (rem l (x, y), 0)) := Lib.hid fun hf => by unfold remR; rw [if_pos ⟨hv, hp⟩, if_pos hf]
  have HR1 : Hid (¬ Has l (x, y) → remR l (x, y) = ([], 6)) := Lib.hid fun hf => by unfold remR; rw [if_pos ⟨hv, hp⟩, if_neg hf]
  generalize remR l (x, y) = R at *
  obtain ⟨i0, hi, hz0, hz1, hz2⟩ := info_parts infoE
  have hb0 : Below w.heap.size w (w.alloc (.cells #[.int .i64 x, .int .i64 y] 31)) := (Below.refl _ _).alloc (Nat.le_refl _) _
  have H := Lib.hid (validR_any _ n c l _ (h.go hb0) (by omega))
  rw [vaB_yes hv] at H
  have HB0 := Lib.hid hb0
  have HX := Lib.hid h
  have HV := Lib.hid hv
  have HP := Lib.hid hp
  have hcap := h.cap
  have hsm := h.small
  have HLN := Lib.hid h.len
  unfold maxLen at hsm
  obtain ⟨p1, p2, p3⟩ := hp
  clear hb0 h hv
  go_enter Try.func25, Try.ntmps25
  go_wp2_with fail
  refine H.out.mono ?_
  rintro e w1 ⟨rfl, hb1⟩
  clear H
  have HE1 := Lib.hid ((Box.new (w := w) (x := x) (y := y)).go hb1)
  have HB1 := Lib.hid (Below.then HB0.out hb1 (Nat.le_refl _))
  have f0 := HE1.out.cell0
  have f1 := HE1.out.cell1
  clear hb1
  go_wp2_with fail
  refine (properR_yes x y _ HP.out).mono ?_
  rintro e w2 ⟨rfl, hb2⟩
  have HE2 := Lib.hid (HE1.out.go hb2)
  have HB2 := Lib.hid (Below.then HB1.out hb2 (Nat.le_refl _))
  clear hb2 f0 f1 HE1 HB1 HB0
  go_wp2
  go_loopw [6, 7, 8] (fun v fv iv wq => ∃ (j : Nat) (fb : Bool), j ≤ n ∧ iv = .int .i64 j ∧ fv = .bool fb ∧ Hid (fb = anyIn (l.take j) (x, y) ∧ St1 w wq v (rem (l.take j) (x, y)) x y)) (fun _ _ iv _ => n - (intOf iv).toNat)
  case atStart => exact ⟨0, false, by omega, rfl, rfl, Lib.hid ⟨rfl, OwnE.nil _ _ _, HE2.out, HB2.out⟩⟩
  case round =>
    obtain ⟨j, fb, hj, rfl, rfl, hh⟩ := hrel
    by_cases hjn : j < n
    · obtain ⟨b, o, u, v, hu, rfl, hb, hc1, hc2, _⟩ := (HX.out.below hh.out.2.below).at_ hjn
      have HPU := Lib.hid (va_at HV.out hu).1
      have HS := Lib.hid (rem_take (e := (x, y)) hu)
      have HA := Lib.hid (anyIn_take (e := (x, y)) hu)
      have HFB := Lib.hid hh.out.1
      have HST := Lib.hid hh.out.2
      have hl2 : (rem (l.take j) (x, y)).length ≤ 2 * j := by
        have := rem_len (l := l.take j) (e := (x, y))
        rw [List.length_take] at this
        omega
      generalize rem (l.take j) (x, y) = Lr at *
      have u1 := HPU.out.1
      have u2 := HPU.out.2.1
      have u3 := HPU.out.2.2
      simp only at u1 u2 u3
      have e0 := HST.out.box.cell0
      have e1 := HST.out.box.cell1
      have hsz := HST.out.box.lt
      have hj1 : (j : Int) < (n : Int) := by omega
      have HOB : Hid (∀ g, u6.ownBlock = some g → g < wr.heap.size) := Lib.hid fun g hg => (World.ownsRow.lt HST.out.row.1 g hg).2
      clear hu hb hh
      by_cases hin : u ≤ x ∧ x + y ≤ u + v
      · obtain ⟨n1, n2⟩ := hin
        have HI : Hid (inn (u, v) (x, y) = true) := Lib.hid (by simp [inn, n1, n2])
        have HN : Hid (rem (l.take (j + 1)) (x, y) = Lr ++ (btw u x ++ btw (x + y) (u + v)) ∧ true = anyIn (l.take (j + 1)) (x, y)) := Lib.hid (by rw [HS.out, HA.out, HI.out]; simp [pcs])
        have HL1 := Lib.hid (HST.out.make (.cells #[.int .i64 u, .int .i64 v] 31))
        by_cases c1 : u < x
        · have HL := Lib.hid (HL1.out.make (.cells #[.int .i64 u, .int .i64 (x - u)] 31))
          have HB1 := Lib.hid (btw_lt c1)
          by_cases c2 : x + y < u + v
          · have HB2 := Lib.hid (btw_lt c2)
            have q1 : u + v - x - y = u + v - (x + y) := by omega
            have HQ := Lib.hid q1
            clear q1
            go_wp2_with (at_builtin; first
              | (refine wpList_appE _ rfl (.tmp 55) (.tmp 64) 22 rfl Try.underlying22 hi hz0 rfl hz1 (by omega) HL.out.row rfl (Exs.newAt _ (wr.heap.size + 1) (by simp) [(u, x - u)] _ _ 1 rfl rfl (by unfold maxLen; omega) (fun z hz => by simp at hz; subst hz; simp only; omega)) rfl (by omega) (by simp; omega) ?_
                 intro v2 w5 ho5 hb5 hg5
                 have HST5 := Lib.hid (HL.out.app ho5 hb5)
                 have f0 : w5.cell? ⟨wr.heap.size, 0, none⟩ = some (.int .i64 u) := hg5.1.cell (cell_under (cell_alloc rfl) _) (fun hq => by have := HOB.out _ hq.symm; simp only at this; omega)
                 have f1 : w5.cell? ⟨wr.heap.size, 1, none⟩ = some (.int .i64 v) := hg5.1.cell (cell_under (cell_alloc rfl) _) (fun hq => by have := HOB.out _ hq.symm; simp only at this; omega)
                 have g0 := HST5.out.box.cell0
                 have g1 := HST5.out.box.cell1
                 have hsz5 := HST5.out.box.lt
                 clear ho5 hb5 hg5)
              | (refine wpList_appE _ rfl (.tmp 77) (.tmp 95) 22 rfl Try.underlying22 hi hz0 rfl hz1 (by omega) (HST5.out.make _).row rfl (Exs.newAt _ (w5.heap.size) (by simp) [(x + y, u + v - x - y)] _ _ 1 rfl rfl (by unfold maxLen; omega) (fun z hz => by simp at hz; subst hz; simp only; omega)) rfl (by simp; omega) (by simp; omega) ?_
                 intro v3 w6 ho6 hb6 hg6))
            have hst := (HST5.out.make _).app ho6 hb6
            refine ⟨⟨j + 1, true, by omega, by go_num, rfl, Lib.hid ⟨HN.out.2, by rw [HN.out.1, HB1.out, HB2.out, ← HQ.out]; simpa using hst⟩⟩, by simp [intOf]; omega⟩
          · have HB2 : Hid (btw (x + y) (u + v) = []) := Lib.hid (btw_same (by omega))
            go_wp2_with (at_builtin; first
              | (refine wpList_appE _ rfl (.tmp 55) (.tmp 64) 22 rfl Try.underlying22 hi hz0 rfl hz1 (by omega) HL.out.row rfl (Exs.newAt _ (wr.heap.size + 1) (by simp) [(u, x - u)] _ _ 1 rfl rfl (by unfold maxLen; omega) (fun z hz => by simp at hz; subst hz; simp only; omega)) rfl (by omega) (by simp; omega) ?_
                 intro v2 w5 ho5 hb5 hg5
                 have HST5 := Lib.hid (HL.out.app ho5 hb5)
                 have f0 : w5.cell? ⟨wr.heap.size, 0, none⟩ = some (.int .i64 u) := hg5.1.cell (cell_under (cell_alloc rfl) _) (fun hq => by have := HOB.out _ hq.symm; simp only at this; omega)
                 have f1 : w5.cell? ⟨wr.heap.size, 1, none⟩ = some (.int .i64 v) := hg5.1.cell (cell_under (cell_alloc rfl) _) (fun hq => by have := HOB.out _ hq.symm; simp only at this; omega)
                 have g0 := HST5.out.box.cell0
                 have g1 := HST5.out.box.cell1
                 clear ho5 hb5 hg5))
            refine ⟨⟨j + 1, true, by omega, by go_num, rfl, Lib.hid ⟨HN.out.2, by rw [HN.out.1, HB1.out, HB2.out]; simpa using HST5.out⟩⟩, by simp [intOf]; omega⟩
        · have HB1 : Hid (btw u x = []) := Lib.hid (btw_same (by omega))
          by_cases c2 : x + y < u + v
          · have HB2 := Lib.hid (btw_lt c2)
            have HL := Lib.hid (HL1.out.make (.cells #[.int .i64 (x + y), .int .i64 (u + v - x - y)] 31))
            have q1 : u + v - x - y = u + v - (x + y) := by omega
            have HQ := Lib.hid q1
            clear q1
            go_wp2_with (at_builtin; go_must (refine wpList_appE _ rfl (.tmp 77) (.tmp 95) 22 rfl Try.underlying22 hi hz0 rfl hz1 (by omega) HL.out.row rfl (Exs.newAt _ (wr.heap.size + 1) (by simp) [(x + y, u + v - x - y)] _ _ 1 rfl rfl (by unfold maxLen; omega) (fun z hz => by simp at hz; subst hz; simp only; omega)) rfl (by omega) (by simp; omega) ?_); intro v3 w6 ho6 hb6 hg6)
            have hst := HL.out.app ho6 hb6
            refine ⟨⟨j + 1, true, by omega, by go_num, rfl, Lib.hid ⟨HN.out.2, by rw [HN.out.1, HB1.out, HB2.out, ← HQ.out]; simpa using hst⟩⟩, by simp [intOf]; omega⟩
          · have HB2 : Hid (btw (x + y) (u + v) = []) := Lib.hid (btw_same (by omega))
            go_wp2
            refine ⟨⟨j + 1, true, by omega, by go_num, rfl, Lib.hid ⟨HN.out.2, by rw [HN.out.1, HB1.out, HB2.out]; simpa using HL1.out⟩⟩, by simp [intOf]; omega⟩
      · have HI : Hid (inn (u, v) (x, y) = false) := Lib.hid (by simp [inn]; omega)
        have HN : Hid (rem (l.take (j + 1)) (x, y) = Lr ++ [(u, v)] ∧ fb = anyIn (l.take (j + 1)) (x, y)) := Lib.hid (by rw [HS.out, HA.out, HI.out, HFB.out]; simp)
        have HL := Lib.hid ((HST.out.make (.cells #[.int .i64 u, .int .i64 v] 31)).make (.cells #[.int .i64 u, .int .i64 v] 31))
        by_cases hxu : x < u
        · clear hin
          go_wp2_with (at_builtin; go_must (refine wpList_appE _ rfl (.tmp 46) (.tmp 48) 22 rfl Try.underlying22 hi hz0 rfl hz1 (by omega) HL.out.row rfl (Exs.newAt _ (wr.heap.size + 1) (by simp) [(u, v)] _ _ 1 rfl rfl (by unfold maxLen; omega) (fun z hz => by simp at hz; subst hz; simp only; omega)) rfl (by omega) (by simp; omega) ?_); intro v2 w5 ho5 hb5 hg5)
          have hst := HL.out.app ho5 hb5
          refine ⟨⟨j + 1, fb, by omega, by go_num, rfl, Lib.hid ⟨HN.out.2, by rw [HN.out.1]; exact hst⟩⟩, by simp [intOf]; omega⟩
        · have hxv : u + v < x + y := by omega
          clear hin
          go_wp2_with (at_builtin; go_must (refine wpList_appE _ rfl (.tmp 46) (.tmp 48) 22 rfl Try.underlying22 hi hz0 rfl hz1 (by omega) HL.out.row rfl (Exs.newAt _ (wr.heap.size + 1) (by simp) [(u, v)] _ _ 1 rfl rfl (by unfold maxLen; omega) (fun z hz => by simp at hz; subst hz; simp only; omega)) rfl (by omega) (by simp; omega) ?_); intro v2 w5 ho5 hb5 hg5)
          have hst := HL.out.app ho5 hb5
          refine ⟨⟨j + 1, fb, by omega, by go_num, rfl, Lib.hid ⟨HN.out.2, by rw [HN.out.1]; exact hst⟩⟩, by simp [intOf]; omega⟩
    · have HF : Hid (fb = anyIn l (x, y) ∧ rem (l.take j) (x, y) = rem l (x, y)) := Lib.hid (by
        have h1 := hh.out.1
        rw [List.take_of_length_le (by rw [HLN.out]; omega)] at h1 ⊢
        exact ⟨h1, rfl⟩)
      have HST := Lib.hid hh.out.2
      clear hh
      cases fb with
      | false =>
        have HNF : Hid (R = ([], 6)) := Lib.hid (HR1.out fun hf => by
          have h1 := has_any.1 hf
          have h2 := HF.out.1
          unfold anyIn at h2
          rw [h1] at h2
          cases h2)
        go_wp2
        go_ret2
        rw [HNF.out]
        exact ⟨_, rfl, OwnE.nil _ _ _, HST.out.below⟩
      | true =>
        have HOK : Hid (R = (rem l (x, y), 0)) := Lib.hid (HR0.out (has_any.2 HF.out.1.symm))
        go_wp2
        go_ret2
        rw [HOK.out, ← HF.out.2]
        exact ⟨_, rfl, HST.out.row.down (by omega), HST.out.below⟩

theorem removeR_any (A : Option Addr) (n c : Nat) (l : List (Int × Int)) (x y : Int) (w : World) (h : Exs w w.heap.size A n c l) (hn : n ≤ 1000)
    (x0 : -9223372036854775808 ≤ x) (x1 : x ≤ 9223372036854775807) (y0 : -9223372036854775808 ≤ y) (y1 : y ≤ 9223372036854775807) :
    Calls Try.prog 25 #[.slice A n c, .agg #[.int .i64 x, .int .i64 y]] w (ResE w (remR l (x, y)).1 (remR l (x, y)).2) := by
  by_cases hv : Va (-1) l
  · by_cases hp : Pr x y
    · exact removeR_in A n c l x y w h hn hv hp
    · unfold remR
      rw [if_neg (fun hh => hp hh.2)]
      exact removeR_arg A n c l x y w h hn x0 x1 y0 y1 (.inr hp)
  · unfold remR
    rw [if_neg (fun hh => hv hh.1)]
    exact removeR_arg A n c l x y w h hn x0 x1 y0 y1 (.inl hv)
end Go.Proofs.Ytolfcoaipcaoaaa
