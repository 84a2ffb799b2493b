/-
  Contract of the reference's Insert: what it returns is what the plain functions of the text Set say. Conditions: the numbers fit into 64 bits; the list has at most a thousand extents.
-/
import Derived.Test.YtfchccgajcjbbaaInsOk
import Derived.Test.YtfchccgajcjbbaaMem
namespace Go.Proofs.Ytfchccgajcjbbaa
open Go.ChangeShapes Go.WideShapes Go.ChangeAt Go.RowKit
set_option maxHeartbeats 1600000
set_option maxRecDepth 100000

theorem insertR_arg (A : Option Addr) (n c : Nat) (l : List (Int × Int)) (x y : Int) (w : World) (h : Exs w w.heap.size A n c l) (hn : n ≤ 1000)
    (x0 : -9223372036854775808 ≤ x) (x1 : x ≤ 9223372036854775807) (y0 : -9223372036854775808 ≤ y) (y1 : y ≤ 9223372036854775807) (hbad : ¬ Va (-1) l ∨ ¬ Pr x y) :
    Calls Try.prog 56 #[.slice A n c, .agg #[.int .i64 x, .int .i64 y]] w (ResE w [] 1) := by
  have hb0 : Below w.heap.size w (w.alloc (.cells #[.int .i64 x, .int .i64 y] 31)) := (Below.refl _ _).alloc (Nat.le_refl _) _
  have H := Lib.hid (validR_any A n c l _ (h.go hb0) (by omega))
  have HB0 := Lib.hid hb0
  clear hb0 h
  by_cases hv : Va (-1) l
  · have hp : ¬ Pr x y := by
      rcases hbad with h | h
      · exact absurd hv h
      · exact h
    have HP := Lib.hid hp
    rw [vaB_yes hv] at H
    clear hbad hv hp
    go_enter Try.func56, Try.ntmps56
    go_wp2_with fail
    refine H.out.mono ?_
    rintro e w1 ⟨rfl, hb1⟩
    clear H
    have HE1 := Lib.hid ((Box.new (w := w) (x := x) (y := y)).go hb1)
    have f0 := HE1.out.cell0
    have f1 := HE1.out.cell1
    have HB1 := Lib.hid (Below.then HB0.out hb1 (Nat.le_refl _))
    clear hb1
    go_wp2_with fail
    refine (properR_no x y _ HP.out x0 x1 y0 y1).mono ?_
    rintro e w2 ⟨rfl, hb2⟩
    go_wp2
    go_ret2
    exact ⟨_, rfl, OwnE.nil _ _ _, Below.then HB1.out hb2 (Nat.le_refl _)⟩
  · rw [vaB_no hv] at H
    clear hbad hv
    go_enter Try.func56, Try.ntmps56
    go_wp2_with fail
    refine H.out.mono ?_
    rintro e w1 ⟨rfl, hb1⟩
    clear H
    go_wp2
    go_ret2
    exact ⟨_, rfl, OwnE.nil _ _ _, Below.then HB0.out hb1 (Nat.le_refl _)⟩

theorem meet_no {l : List (Int × Int)} {x y : Int} {k : Nat} {u v : Int} (hp : Pr x y) (hu : Pr u v) (h : ∀ j z, j < k → l[j]? = some z → z.1 + z.2 ≤ x ∨ x + y ≤ z.1) (hx : l[k]? = some (u, v)) (hm : meetB u v x y = false) :
    ∀ j z, j < k + 1 → l[j]? = some z → z.1 + z.2 ≤ x ∨ x + y ≤ z.1 := by
  intro j z hj hz
  by_cases he : j = k
  · subst he
    rw [hx] at hz
    cases hz
    obtain ⟨_, p2, _⟩ := hp
    obtain ⟨_, u2, _⟩ := hu
    simp [meetB] at hm
    simp only
    omega
  · exact h j z (by omega) hz

/-- Two rows of the call's own that share no memory: an append to one leaves the other. -/
theorem apart_step {t : TypeId} {w1 w2 : World} {base : Nat} {vl vr vl' : Value} {l : List (Int × Int)} (hO : OwnE t w1 base vr l) (hg : w1.grownBy w2 vl.ownBlock ∧ (vl'.ownBlock = vl.ownBlock ∨ vl'.ownBlock = some w1.heap.size))
    (hap : ∀ g, vl.ownBlock = some g → vr.ownBlock ≠ some g) : OwnE t w2 base vr l ∧ ∀ g, vl'.ownBlock = some g → vr.ownBlock ≠ some g := by
  refine ⟨hO.kept hg.1 ?_, fun g hgg hr => ?_⟩
  · cases hv : vl.ownBlock with
    | none => cases vr.ownBlock with
      | none => exact .inl rfl
      | some g => exact .inr (by simp)
    | some g => exact .inr (hap g hv)
  · rcases hg.2 with h | h
    · exact hap g (h.symm.trans hgg) hr
    · have := (World.ownsRow.lt hO.1 g hr).2
      rw [h] at hgg
      cases hgg
      omega
theorem apart_comm {vl vr : Value} (h : ∀ g, vl.ownBlock = some g → vr.ownBlock ≠ some g) : ∀ g, vr.ownBlock = some g → vl.ownBlock ≠ some g := fun g hr hl => h g hl hr

/-- The state of the second loop. -/
structure Sta (w wr : World) (vl vr : Value) (s : List (Int × Int) × (Int × Int) × List (Int × Int)) : Prop where
  left : OwnE 31 wr (w.heap.size + 1) vl s.1
  right : OwnE 31 wr (w.heap.size + 1) vr s.2.2
  box : Box wr w.heap.size s.2.1.1 s.2.1.2
  below : Below w.heap.size w wr
  apart : ∀ g, vl.ownBlock = some g → vr.ownBlock ≠ some g

/-- A store into the block of the extent leaves the rest. -/
theorem Box.set1 {w : World} {b : Nat} {x y : Int} (h : Box w b x y) (y' : Int) : Box (w.setCell ⟨b, 1, none⟩ (.int .i64 y')) b x y' := heap_setCell_same w b 1 _ _ _ h
theorem Sta.make {w wr : World} {vl vr : Value} {s : List (Int × Int) × (Int × Int) × List (Int × Int)} (h : Sta w wr vl vr s) (ob : Obj) : Sta w (wr.alloc ob) vl vr s :=
  ⟨h.left.alloc ob, h.right.alloc ob, h.box.go ((Below.refl _ _).alloc (Nat.le_refl _) ob), h.below.alloc h.below.size ob, h.apart⟩
theorem Sta.put {w wr : World} {vl vr : Value} {s : List (Int × Int) × (Int × Int) × List (Int × Int)} (h : Sta w wr vl vr s) (x y : Int) :
    Sta w ((wr.setCell ⟨w.heap.size, 0, none⟩ (.int .i64 x)).setCell ⟨w.heap.size, 1, none⟩ (.int .i64 y)) vl vr (s.1, (x, y), s.2.2) :=
  ⟨(h.left.apart (a := ⟨w.heap.size, 0, none⟩) (by simp) _).apart (a := ⟨w.heap.size, 1, none⟩) (by simp) _, (h.right.apart (a := ⟨w.heap.size, 0, none⟩) (by simp) _).apart (a := ⟨w.heap.size, 1, none⟩) (by simp) _, h.box.set x y,
    (h.below.setCell (p := ⟨w.heap.size, 0, none⟩) (Nat.le_refl _) _).setCell (p := ⟨w.heap.size, 1, none⟩) (Nat.le_refl _) _, h.apart⟩
theorem Sta.put1 {w wr : World} {vl vr : Value} {s : List (Int × Int) × (Int × Int) × List (Int × Int)} (h : Sta w wr vl vr s) (y : Int) :
    Sta w (wr.setCell ⟨w.heap.size, 1, none⟩ (.int .i64 y)) vl vr (s.1, (s.2.1.1, y), s.2.2) :=
  ⟨h.left.apart (a := ⟨w.heap.size, 1, none⟩) (by simp) _, h.right.apart (a := ⟨w.heap.size, 1, none⟩) (by simp) _, h.box.set1 y, h.below.setCell (p := ⟨w.heap.size, 1, none⟩) (Nat.le_refl _) _, h.apart⟩

theorem insertR_in (A : Option Addr) (n c : Nat) (l : List (Int × Int)) (x y : Int) (w : World) (h : Exs w w.heap.size A n c l) (hn : n ≤ 1000) (hv : Va (-1) l) (hp : Pr x y) :
    Calls Try.prog 56 #[.slice A n c, .agg #[.int .i64 x, .int .i64 y]] w (ResE w (insR l (x, y)).1 (insR l (x, y)).2) := by
  have HR0 : Hid (Free l (x, y) → insR l (x, y) = (ins l (x, y), 0)) := Lib.hid fun hf => by unfold insR; rw [if_pos ⟨hv, hp⟩, if_pos hf]
  have HR1 : Hid (¬ Free l (x, y) → insR l (x, y) = ([], 5)) := Lib.hid fun hf => by unfold insR; rw [if_pos ⟨hv, hp⟩, if_neg hf]
  generalize insR l (x, y) = R at *
  have hb0 : Below w.heap.size w (w.alloc (.cells #[.int .i64 x, .int .i64 y] 31)) := (Below.refl _ _).alloc (Nat.le_refl _) _
  have H := Lib.hid (validR_any _ n c l _ (h.go hb0) (by omega))
  rw [vaB_yes hv] at H
  have HB0 := Lib.hid hb0
  have HX := Lib.hid h
  have HV := Lib.hid hv
  have HP := Lib.hid hp
  have hcap := h.cap
  have hsm := h.small
  have HLN := Lib.hid h.len
  unfold maxLen at hsm
  obtain ⟨p1, p2, p3⟩ := hp
  clear hb0 h hv
  obtain ⟨i0, hi, hz0, hz1, hz2⟩ := info_parts infoE
  go_enter Try.func56, Try.ntmps56
  go_wp2_with fail
  refine H.out.mono ?_
  rintro e w1 ⟨rfl, hb1⟩
  clear H
  have HE1 := Lib.hid ((Box.new (w := w) (x := x) (y := y)).go hb1)
  have HB1 := Lib.hid (Below.then HB0.out hb1 (Nat.le_refl _))
  have f0 := HE1.out.cell0
  have f1 := HE1.out.cell1
  clear hb1
  go_wp2_with fail
  refine (properR_yes x y _ HP.out).mono ?_
  rintro e w2 ⟨rfl, hb2⟩
  have HE2 := Lib.hid (HE1.out.go hb2)
  have HB2 := Lib.hid (Below.then HB1.out hb2 (Nat.le_refl _))
  clear hb2 f0 f1 HE1 HB1 HB0
  go_wp2
  go_loopw [6] (fun i wr => ∃ (k : Nat), k ≤ n ∧ i = .int .i64 k ∧ Hid ((∀ j z, j < k → l[j]? = some z → z.1 + z.2 ≤ x ∨ x + y ≤ z.1) ∧ Box wr w.heap.size x y ∧ Below w.heap.size w wr)) (fun i _ => n - (intOf i).toNat)
  case atStart => exact ⟨0, by omega, rfl, Lib.hid ⟨fun j z hj => by omega, HE2.out, HB2.out⟩⟩
  case round =>
    obtain ⟨k, hk, rfl, hh⟩ := hrel
    by_cases hlt : k < n
    · obtain ⟨b, o, u, v, hu, rfl, hb, hc1, hc2, _⟩ := (HX.out.below hh.out.2.2).at_ hlt
      have HPU := Lib.hid (va_at HV.out hu).1
      have HU := Lib.hid hu
      have d0 : ∀ m : Later wr, m.val.cell? ⟨w.heap.size, 0, none⟩ = some (.int .i64 x) := fun m => later_old m hh.out.2.1.cell0
      have d1 : ∀ m : Later wr, m.val.cell? ⟨w.heap.size, 1, none⟩ = some (.int .i64 y) := fun m => later_old m hh.out.2.1.cell1
      have d2 : ∀ m : Later wr, m.val.cell? ⟨b, o + k * 2, none⟩ = some (.int .i64 u) := fun m => later_old m hc1
      have d3 : ∀ m : Later wr, m.val.cell? ⟨b, o + k * 2 + 1, none⟩ = some (.int .i64 v) := fun m => later_old m hc2
      have hlt' : (k : Int) < (n : Int) := by omega
      clear hu hc1 hc2
      obtain ⟨mb, hmb⟩ : ∃ mb, mb = meetB u v x y := ⟨_, rfl⟩
      have HM := Lib.hid (fun w => meets_any u v x y w HPU.out HP.out)
      rw [← hmb] at HM
      have HMB := Lib.hid hmb
      clear hmb
      go_wp2
      cases mb with
      | false =>
        refine wp_region_later (by kernel_rfl) (by kernel_rfl) ?_
        repeat (go_big_quiet_step ((go_at_call 71; exact Calls.later (HM.out _))))
        refine wpQuiet_nil ?_
        rintro w4 ⟨⟨_, hq⟩, rfl⟩
        go_wp2
        go_roundw
        case rel => exact ⟨k + 1, by omega, by go_num, Lib.hid ⟨meet_no HP.out HPU.out hh.out.1 HU.out HMB.out.symm, hh.out.2.1.go hq, Below.then hh.out.2.2 hq (Nat.le_refl _)⟩⟩
        case measure => simp [intOf]; omega
      | true =>
        have HNF : Hid (R = ([], 5)) := Lib.hid (HR1.out fun hf => by
          have h1 := hf (u, v) (List.mem_of_getElem? HU.out)
          have h2 := HMB.out.symm
          simp [meetB] at h2
          simp only at h1
          omega)
        refine wp_region_later (by kernel_rfl) (by kernel_rfl) ?_
        repeat (go_big_quiet_step ((go_at_call 71; exact Calls.later (HM.out _))))
        refine wpQuiet_nil ?_
        rintro w4 ⟨⟨_, hq⟩, rfl⟩
        go_wp2
        go_ret2
        rw [HNF.out]
        exact ⟨_, rfl, OwnE.nil _ _ _, Below.then hh.out.2.2 hq (Nat.le_refl _)⟩
    · have HF : Hid (Free l (x, y)) := Lib.hid fun z hz => by
        obtain ⟨j, hj⟩ := List.mem_iff_getElem?.1 hz
        have := (List.getElem?_eq_some_iff.1 hj).1
        have := HLN.out
        exact hh.out.1 j z (by omega) hj
      have HE := Lib.hid hh.out.2.1
      have HB := Lib.hid hh.out.2.2
      have hnk : ¬ (k : Int) < (n : Int) := by omega
      clear hh HE2 HB2
      go_wp2
      go_loopw [7, 8, 9] (fun vl vr iv wq => ∃ (j : Nat), j ≤ n ∧ iv = .int .i64 j ∧ Hid (Sta w wq vl vr (rin (l.take j) (x, y)))) (fun _ _ iv _ => n - (intOf iv).toNat)
      case atStart => exact ⟨0, by omega, rfl, Lib.hid ⟨OwnE.nil _ _ _, OwnE.nil _ _ _, HE.out, HB.out, fun g hg => by simp [Value.ownBlock] at hg⟩⟩
      case round =>
        obtain ⟨j, hj, rfl, hh⟩ := hrel
        by_cases hjn : j < n
        · obtain ⟨b, o, u, v, hu, rfl, hb, hc1, hc2, _⟩ := (HX.out.below hh.out.below).at_ hjn
          have HPU := Lib.hid (va_at HV.out hu).1
          have HS := Lib.hid (rin_take (e := (x, y)) hu)
          have HPE := Lib.hid (rin_pr (l := l) (e := (x, y)) (k := j) HP.out (fun z hz => (va_pr HV.out z hz).2))
          have HLE := Lib.hid (rin_len (l := l) (e := (x, y)) (k := j))
          obtain ⟨⟨Lf, ⟨ex, ey⟩, Rt⟩, hs⟩ : ∃ s, s = rin (l.take j) (x, y) := ⟨_, rfl⟩
          rw [← hs] at hh HS HPE HLE
          have q1 := HPE.out.1
          have q2 := HPE.out.2.1
          have q3 := HPE.out.2.2
          have u1 := HPU.out.1
          have u2 := HPU.out.2.1
          have u3 := HPU.out.2.2
          have len1 := HLE.out
          simp only at q1 q2 q3 u1 u2 u3 len1
          have e0 := hh.out.box.cell0
          have e1 := hh.out.box.cell1
          have e2 := hh.out.box.fr0
          have e3 := hh.out.box.fr1
          have hsz := hh.out.box.lt
          simp only at e0 e1 e2 e3 hsz
          have hj1 : (j : Int) < (n : Int) := by omega
          have hne : ¬ w.heap.size = wr.heap.size := by omega
          clear hs hu hb
          by_cases c1 : u + v = ex
          · have c1' : (u + v == ex) = true := by simpa using c1
            have HN : Hid (rin (l.take (j + 1)) (x, y) = (Lf, (u, v + ey), Rt)) := Lib.hid (by rw [HS.out]; simp [rst, c1])
            clear c1
            go_wp2
            refine ⟨⟨j + 1, by omega, by go_num, Lib.hid (by rw [HN.out]; exact (hh.out.put u (v + ey)).make _)⟩, by simp [intOf]; omega⟩
          · have c1' : (u + v == ex) = false := by simpa using c1
            by_cases c2 : ex + ey = u
            · have c2' : (ex + ey == u) = true := by simpa using c2
              have HN : Hid (rin (l.take (j + 1)) (x, y) = (Lf, (ex, ey + v), Rt)) := Lib.hid (by rw [HS.out]; simp [rst, c1, c2])
              clear c1 c2
              go_wp2
              refine ⟨⟨j + 1, by omega, by go_num, Lib.hid (by rw [HN.out]; exact (hh.out.put1 (ey + v)).make _)⟩, by simp [intOf]; omega⟩
            · have c2' : (ex + ey == u) = false := by simpa using c2
              by_cases c3 : u < ex
              · have HN : Hid (rin (l.take (j + 1)) (x, y) = (Lf ++ [(u, v)], (ex, ey), Rt)) := Lib.hid (by rw [HS.out]; simp [rst, c1, c2, c3])
                have HL := Lib.hid ((hh.out.make (.cells #[.int .i64 u, .int .i64 v] 31)).make (.cells #[.int .i64 u, .int .i64 v] 31))
                clear c1 c2
                go_wp2_with (at_builtin; go_must (refine wpList_appE _ rfl (.tmp 83) (.tmp 85) 34 rfl Try.underlying34 hi hz0 rfl hz1 (by omega) HL.out.left rfl (Exs.newAt _ (wr.heap.size + 1) (by simp) [(u, v)] _ _ 1 rfl rfl (by unfold maxLen; omega) (fun z hz => by simp at hz; subst hz; simp only; omega)) rfl (by simp only; omega) (by simp; omega) ?_); intro v2 w5 ho5 hb5 hg5)
                have hst : Sta w w5 v2 u8 (Lf ++ [(u, v)], (ex, ey), Rt) := by
                  obtain ⟨k1, k2⟩ := apart_step HL.out.right hg5 HL.out.apart
                  exact ⟨ho5, k1, HL.out.box.below hb5 (by omega), HL.out.below.trans (hb5.mono (by omega)), k2⟩
                refine ⟨⟨j + 1, by omega, by go_num, Lib.hid (by rw [HN.out]; exact hst)⟩, by simp [intOf]; omega⟩
              · have HN : Hid (rin (l.take (j + 1)) (x, y) = (Lf, (ex, ey), Rt ++ [(u, v)])) := Lib.hid (by rw [HS.out]; simp [rst, c1, c2, c3])
                have HL := Lib.hid ((hh.out.make (.cells #[.int .i64 u, .int .i64 v] 31)).make (.cells #[.int .i64 u, .int .i64 v] 31))
                clear c1 c2
                go_wp2_with (at_builtin; go_must (refine wpList_appE _ rfl (.tmp 41) (.tmp 43) 34 rfl Try.underlying34 hi hz0 rfl hz1 (by omega) HL.out.right rfl (Exs.newAt _ (wr.heap.size + 1) (by simp) [(u, v)] _ _ 1 rfl rfl (by unfold maxLen; omega) (fun z hz => by simp at hz; subst hz; simp only; omega)) rfl (by simp only; omega) (by simp; omega) ?_); intro v2 w5 ho5 hb5 hg5)
                have hst : Sta w w5 u7 v2 (Lf, (ex, ey), Rt ++ [(u, v)]) := by
                  obtain ⟨k1, k2⟩ := apart_step HL.out.left hg5 (apart_comm HL.out.apart)
                  exact ⟨k1, ho5, HL.out.box.below hb5 (by omega), HL.out.below.trans (hb5.mono (by omega)), apart_comm k2⟩
                refine ⟨⟨j + 1, by omega, by go_num, Lib.hid (by rw [HN.out]; exact hst)⟩, by simp [intOf]; omega⟩
        · have HPE := Lib.hid (rin_pr (l := l) (e := (x, y)) (k := j) HP.out (fun z hz => (va_pr HV.out z hz).2))
          have HLE := Lib.hid (rin_len (l := l) (e := (x, y)) (k := j))
          have HEQ : Hid ((rin (l.take j) (x, y)).1 ++ [(rin (l.take j) (x, y)).2.1] ++ (rin (l.take j) (x, y)).2.2 = ins l (x, y)) := Lib.hid (by
            rw [List.take_of_length_le (by rw [HLN.out]; omega)]
            exact rin_eq HV.out p2 HF.out)
          have HRR := Lib.hid (HR0.out HF.out)
          obtain ⟨⟨Lf, ⟨ex, ey⟩, Rt⟩, hs⟩ : ∃ s, s = rin (l.take j) (x, y) := ⟨_, rfl⟩
          rw [← hs] at hh HEQ HPE HLE
          have q1 := HPE.out.1
          have q2 := HPE.out.2.1
          have q3 := HPE.out.2.2
          have len1 := HLE.out
          simp only at q1 q2 q3 len1 HEQ
          have e0 := hh.out.box.cell0
          have e1 := hh.out.box.cell1
          have hsz := hh.out.box.lt
          simp only at e0 e1 hsz
          have HL := Lib.hid (hh.out.make (.cells #[.int .i64 ex, .int .i64 ey] 31))
          clear hs
          go_wp2_with (at_builtin; first
            | (refine wpList_appE _ rfl (.tmp 87) (.tmp 89) 34 rfl Try.underlying34 hi hz0 rfl hz1 (by omega) HL.out.left rfl (Exs.new wr [(ex, ey)] _ _ 1 rfl rfl (by unfold maxLen; omega) (fun z hz => by simp at hz; subst hz; simp only; omega)) rfl (by simp only; omega) (by simp; omega) ?_
               intro v2 w5 ho5 hb5 hg5
               obtain ⟨k1, k2⟩ := apart_step HL.out.right hg5 HL.out.apart
               obtain ⟨A6, n6, c6, rfl, hx6⟩ := k1.shape
               have hn6 := hx6.len
               simp only at hn6
               have HO5 := Lib.hid ho5
               have HB5 := Lib.hid (HL.out.below.trans (hb5.mono (by omega)))
               have HX6 := Lib.hid hx6
               have hz5 : w.heap.size + 1 ≤ w5.heap.size := by have := hb5.size; simp at this; omega
               have hn7 : n6 ≤ 1000 := by omega
               clear ho5 hb5 hg5 k1 k2 hx6 hn6)
            | (refine wpList_appE _ rfl (.tmp 90) (.tmp 91) 34 rfl Try.underlying34 hi hz0 rfl hz1 (by omega) HO5.out rfl HX6.out rfl (by simp only [List.length_append, List.length_singleton]; omega) hz5 ?_
               intro v3 w6 ho6 hb6 hg6
               clear hg6))
          go_ret2
          rw [HRR.out, ← HEQ.out]
          exact ⟨_, rfl, ho6.down (by omega), HB5.out.trans (hb6.mono (by omega))⟩

theorem insertR_any (A : Option Addr) (n c : Nat) (l : List (Int × Int)) (x y : Int) (w : World) (h : Exs w w.heap.size A n c l) (hn : n ≤ 1000)
    (x0 : -9223372036854775808 ≤ x) (x1 : x ≤ 9223372036854775807) (y0 : -9223372036854775808 ≤ y) (y1 : y ≤ 9223372036854775807) :
    Calls Try.prog 56 #[.slice A n c, .agg #[.int .i64 x, .int .i64 y]] w (ResE w (insR l (x, y)).1 (insR l (x, y)).2) := by
  by_cases hv : Va (-1) l
  · by_cases hp : Pr x y
    · exact insertR_in A n c l x y w h hn hv hp
    · unfold insR
      rw [if_neg (fun hh => hp hh.2)]
      exact insertR_arg A n c l x y w h hn x0 x1 y0 y1 (.inr hp)
  · unfold insR
    rw [if_neg (fun hh => hv hh.1)]
    exact insertR_arg A n c l x y w h hn x0 x1 y0 y1 (.inl hv)
end Go.Proofs.Ytfchccgajcjbbaa
