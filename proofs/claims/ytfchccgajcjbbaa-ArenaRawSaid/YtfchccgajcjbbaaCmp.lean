/-
  Contracts of Complement, of package extents and of the reference: what they return is what the plain functions of the text Set say. Conditions: the number fits into 64 bits; the list has at most a thousand extents.
-/
import Derived.Test.YtfchccgajcjbbaaInsOk
import Derived.Test.YtfchccgajcjbbaaMem
namespace Go.Proofs.Ytfchccgajcjbbaa
open Go.ChangeShapes Go.WideShapes Go.ChangeAt Go.RowKit
set_option maxHeartbeats 1600000
set_option maxRecDepth 100000

/-- As appBtw_any, and what else is there stays. -/
def AppE (v : Value) (l : List (Int × Int)) (base : Nat) (w : World) (e : Ending) (w' : World) : Prop :=
  ∃ v', e = .returned v' ∧ OwnE 31 w' base v' l ∧ Below base w w' ∧ ∀ (g o : Nat) (u : Value), w.cell? ⟨g, o, none⟩ = some u → v.ownBlock ≠ some g → w'.cell? ⟨g, o, none⟩ = some u
theorem appBtw_kept (v : Value) (xs : List (Int × Int)) (base : Nat) (a b : Int) (w : World) (ho : OwnE 31 w base v xs) (hbase : base ≤ w.heap.size) (hn : xs.length ≤ 1000000)
    (a0 : 0 ≤ a) (a1 : a ≤ 1048576) (b0 : 0 ≤ b) (b1 : b ≤ 1048576) :
    Calls Try.prog 76 #[v, .int .i64 a, .int .i64 b] w (AppE v (xs ++ btw a b) base w) := by
  obtain ⟨i0, hi, hz0, hz1, hz2⟩ := info_parts infoE
  have HO := Lib.hid ho
  clear ho
  by_cases hab : a = b
  · subst hab
    have HE : Hid (xs ++ btw a a = xs) := Lib.hid (by simp [btw])
    go_enter Try.func76, Try.ntmps76
    go_wp2
    go_ret
    exact ⟨_, rfl, by rw [HE.out]; exact HO.out, Below.refl _ _, fun _ _ _ h _ => h⟩
  · have HE : Hid (btw a b = [(a, b - a)]) := Lib.hid (by simp [btw, hab])
    have hne : (a == b) = false := by simpa using hab
    have H := Lib.hid (between_any a b w a0 a1 b0 b1)
    clear hab
    go_enter Try.func76, Try.ntmps76
    go_wp2_with fail
    refine H.out.mono ?_
    rintro e w1 ⟨rfl, hb1⟩
    have HO1 := Lib.hid (HO.out.below hb1)
    have hbz : base ≤ w1.heap.size := Nat.le_trans hbase hb1.size
    clear H
    go_wp2_with (at_builtin; go_must (refine wpList_appE _ rfl (.tmp 11) (.tmp 15) 34 rfl Try.underlying34 hi hz0 rfl hz1 (by omega) (HO1.out.alloc _) rfl (Exs.new w1 [(a, b - a)] _ _ 1 rfl rfl (by unfold maxLen; omega) (fun x hx => by simp at hx; subst hx; simp only; omega)) rfl (by omega) (by simp; omega) ?_); intro v2 w2 ho2 hb2 hg2)
    go_ret
    exact ⟨_, rfl, by rw [HE.out]; exact ho2, (hb1.mono hbase).trans (((Below.refl _ _).alloc hbz _).trans hb2), fun g o u hc hg => hg2.1.cell (cell_under ((hb1.cell (p := ⟨g, o, none⟩) (lt_of_some hc)).trans hc) _) (fun hh => hg hh.symm)⟩

open Classical in
/-- What a complement answers: the new list and the number of the error. -/
noncomputable def cmpR (l : List (Int × Int)) (size : Int) : List (Int × Int) × Int :=
  if Va (-1) l ∧ 0 ≤ size ∧ size ≤ 1048576 ∧ lst 0 l ≤ size then (cmp 0 l size, 0) else ([], 1)
theorem lst_bd {l : List (Int × Int)} (hv : Va (-1) l) (k : Nat) : 0 ≤ lst 0 (l.take k) ∧ lst 0 (l.take k) ≤ 1048576 := by
  have hk := va_take hv k
  cases h : l.take k with
  | nil => simp [lst]
  | cons x m =>
    rw [h] at hk
    rw [lst_any (p := 0) (q := -1) (by simp)]
    rcases va_lst_max hk with h0 | h0
    · cases h0
    · refine ⟨?_, h0⟩
      obtain ⟨h1, h2, h3, h4, h5⟩ := hk
      have := va_lst h5
      simp only [lst]
      omega
theorem lst_next {l : List (Int × Int)} (hv : Va (-1) l) {k : Nat} {x : Int × Int} (hx : l[k]? = some x) : lst 0 (l.take k) ≤ x.1 := by
  have h1 := va_at hv hx
  cases h : l.take k with
  | nil => exact h1.1.1
  | cons y m =>
    have h2 := h1.2
    rw [h] at h2
    rw [lst_any (p := 0) (q := -1) (by simp)]
    omega

theorem cmp_arg (A : Option Addr) (n c : Nat) (l : List (Int × Int)) (size : Int) (w : World) (h : Exs w w.heap.size A n c l) (hn : n ≤ 1000) (hbad : ¬ (Va (-1) l ∧ 0 ≤ size ∧ size ≤ 1048576)) :
    Calls Try.prog 59 #[.slice A n c, .int .i64 size] w (ResE w [] 1) := by
  have H := Lib.hid (valid_any A n c l _ h (by omega))
  clear h
  by_cases hv : Va (-1) l
  · rw [vaB_yes hv] at H
    have hs : size < 0 ∨ 1048576 < size := by
      rcases Int.lt_or_le size 0 with h1 | h1
      · exact .inl h1
      · rcases Int.lt_or_le 1048576 size with h2 | h2
        · exact .inr h2
        · exact absurd ⟨hv, h1, h2⟩ hbad
    clear hbad hv
    rcases hs with hs | hs
    · go_enter Try.func59, Try.ntmps59
      go_wp2_with fail
      refine H.out.mono ?_
      rintro e w1 ⟨rfl, hb1⟩
      clear H
      go_wp2
      go_ret2
      exact ⟨_, rfl, OwnE.nil _ _ _, hb1⟩
    · have hs' : ¬ size < 0 := by omega
      go_enter Try.func59, Try.ntmps59
      go_wp2_with fail
      refine H.out.mono ?_
      rintro e w1 ⟨rfl, hb1⟩
      clear H
      go_wp2
      go_ret2
      exact ⟨_, rfl, OwnE.nil _ _ _, hb1⟩
  · rw [vaB_no hv] at H
    clear hbad hv
    go_enter Try.func59, Try.ntmps59
    go_wp2_with fail
    refine H.out.mono ?_
    rintro e w1 ⟨rfl, hb1⟩
    clear H
    go_wp2
    go_ret2
    exact ⟨_, rfl, OwnE.nil _ _ _, hb1⟩

theorem cmp_in (A : Option Addr) (n c : Nat) (l : List (Int × Int)) (size : Int) (w : World) (h : Exs w w.heap.size A n c l) (hn : n ≤ 1000) (hv : Va (-1) l) (hs0 : 0 ≤ size) (hs1 : size ≤ 1048576) :
    Calls Try.prog 59 #[.slice A n c, .int .i64 size] w (ResE w (cmpR l size).1 (cmpR l size).2) := by
  have HR0 : Hid (lst 0 l ≤ size → cmpR l size = (cmp 0 l size, 0)) := Lib.hid fun hf => by unfold cmpR; rw [if_pos ⟨hv, hs0, hs1, hf⟩]
  have HR1 : Hid (size < lst 0 l → cmpR l size = ([], 1)) := Lib.hid fun hf => by unfold cmpR; rw [if_neg fun hh => by have := hh.2.2.2; omega]
  generalize cmpR l size = R at *
  have H := Lib.hid (valid_any A n c l _ h (by omega))
  rw [vaB_yes hv] at H
  have HX := Lib.hid h
  have HV := Lib.hid hv
  have hcap := h.cap
  have hsm := h.small
  have HLN := Lib.hid h.len
  unfold maxLen at hsm
  clear h hv
  have hs2 : ¬ size < 0 := by omega
  have hs3 : ¬ 1048576 < size := by omega
  go_enter Try.func59, Try.ntmps59
  go_wp2_with fail
  refine H.out.mono ?_
  rintro e w1 ⟨rfl, hb1⟩
  have HB1 := Lib.hid hb1
  clear H hb1
  go_wp2
  go_loopw [6, 7, 23] (fun v lv iv wq => ∃ (j : Nat) (la : Int), j ≤ n ∧ iv = .int .i64 j ∧ lv = .int .i64 la ∧ 0 ≤ la ∧ la ≤ 1048576 ∧ Hid (la = lst 0 (l.take j) ∧ OwnE 31 wq w.heap.size v (gaps 0 (l.take j)) ∧ Below w.heap.size w wq)) (fun _ _ iv _ => n - (intOf iv).toNat)
  case atStart => exact ⟨0, 0, by omega, rfl, rfl, by omega, by omega, Lib.hid ⟨rfl, OwnE.nil _ _ _, HB1.out⟩⟩
  case round =>
    obtain ⟨j, la, hj, rfl, rfl, hl0, hl1, hh⟩ := hrel
    have HLA := Lib.hid hh.out.1
    have HO := Lib.hid hh.out.2.1
    have HB := Lib.hid hh.out.2.2
    have hgl : (gaps 0 (l.take j)).length ≤ j := by
      have := gaps_len (l := l.take j) (p := 0)
      rw [List.length_take] at this
      omega
    clear hh
    by_cases hjn : j < n
    · obtain ⟨b, o, u, v, hu, rfl, hb, hc1, hc2, _⟩ := (HX.out.below HB.out).at_ hjn
      have HPU := Lib.hid (va_at HV.out hu).1
      have HG := Lib.hid (gaps_take hu 0)
      have HLS := Lib.hid (lst_take hu 0)
      have u1 := HPU.out.1
      have u2 := HPU.out.2.1
      have u3 := HPU.out.2.2
      simp only at u1 u2 u3
      have HOB : Hid (∀ g, u6.ownBlock = some g → g < wr.heap.size) := Lib.hid fun g hg => (World.ownsRow.lt HO.out.1 g hg).2
      generalize gaps 0 (l.take j) = Lr at *
      have hj1 : (j : Int) < (n : Int) := by omega
      have hbz := HB.out.size
      clear hu hb
      go_wp2_with fail
      refine (appBtw_kept u6 Lr w.heap.size la u _ (HO.out.alloc _) (by simp; omega) (by omega) hl0 hl1 (by omega) (by omega)).mono ?_
      rintro e w3 ⟨v3, rfl, ho3, hb3, hk3⟩
      have f0 : w3.cell? ⟨wr.heap.size, 0, none⟩ = some (.int .i64 u) := hk3 _ _ _ (cell_alloc rfl) (fun hh => by have := HOB.out _ hh; omega)
      have f1 : w3.cell? ⟨wr.heap.size, 1, none⟩ = some (.int .i64 v) := hk3 _ _ _ (cell_alloc rfl) (fun hh => by have := HOB.out _ hh; omega)
      have HO3 := Lib.hid ho3
      have HB3 := Lib.hid ((HB.out.alloc HB.out.size _).trans hb3)
      clear ho3 hb3 hk3
      go_wp2_with fail
      refine (end_any u v w3 HPU.out).mono ?_
      rintro e w4 ⟨rfl, hb4⟩
      have HO4 := Lib.hid (HO3.out.below hb4)
      have HB4 := Lib.hid (HB3.out.trans (hb4.mono HB3.out.size))
      clear hb4
      go_wp2
      go_roundw
      case rel => exact ⟨j + 1, u + v, by omega, by go_num, rfl, by omega, by omega, Lib.hid ⟨by rw [HLS.out], by rw [HG.out, ← HLA.out]; exact HO4.out, HB4.out⟩⟩
      case measure => simp [intOf]; omega
    · have HF : Hid (la = lst 0 l ∧ gaps 0 (l.take j) = gaps 0 l) := Lib.hid (by
        have h1 := HLA.out
        rw [List.take_of_length_le (by rw [HLN.out]; omega)] at h1 ⊢
        exact ⟨h1, rfl⟩)
      have hnj : ¬ (j : Int) < (n : Int) := by omega
      rw [HF.out.2] at HO hgl
      by_cases hle : la ≤ size
      · have HOK := Lib.hid (HR0.out (by rw [← HF.out.1]; exact hle))
        have hle' : ¬ size < la := by omega
        go_wp2_with fail
        refine (appBtw_kept u6 _ w.heap.size la size wr HO.out HB.out.size (by omega) hl0 hl1 hs0 hs1).mono ?_
        rintro e w3 ⟨v3, rfl, ho3, hb3, _⟩
        have HO3 := Lib.hid ho3
        have HB3 := Lib.hid (HB.out.trans hb3)
        clear ho3 hb3
        go_wp2
        go_ret2
        rw [HOK.out]
        exact ⟨_, rfl, by unfold cmp; rw [← HF.out.1]; exact HO3.out, HB3.out⟩
      · have HNO := Lib.hid (HR1.out (by rw [← HF.out.1]; omega))
        have hle' : size < la := by omega
        go_wp2
        go_ret2
        rw [HNO.out]
        exact ⟨_, rfl, OwnE.nil _ _ _, HB.out⟩

theorem cmp_any (A : Option Addr) (n c : Nat) (l : List (Int × Int)) (size : Int) (w : World) (h : Exs w w.heap.size A n c l) (hn : n ≤ 1000) :
    Calls Try.prog 59 #[.slice A n c, .int .i64 size] w (ResE w (cmpR l size).1 (cmpR l size).2) := by
  by_cases hv : Va (-1) l ∧ 0 ≤ size ∧ size ≤ 1048576
  · exact cmp_in A n c l size w h hn hv.1 hv.2.1 hv.2.2
  · unfold cmpR
    rw [if_neg fun hh => hv ⟨hh.1, hh.2.1, hh.2.2.1⟩]
    exact cmp_arg A n c l size w h hn hv

theorem cmpR_arg (A : Option Addr) (n c : Nat) (l : List (Int × Int)) (size : Int) (w : World) (h : Exs w w.heap.size A n c l) (hn : n ≤ 1000) (hbad : ¬ (Va (-1) l ∧ 0 ≤ size ∧ size ≤ 1048576)) :
    Calls Try.prog 57 #[.slice A n c, .int .i64 size] w (ResE w [] 1) := by
  have H := Lib.hid (validR_any A n c l _ h (by omega))
  clear h
  by_cases hv : Va (-1) l
  · rw [vaB_yes hv] at H
    have hs : size < 0 ∨ 1048576 < size := by
      rcases Int.lt_or_le size 0 with h1 | h1
      · exact .inl h1
      · rcases Int.lt_or_le 1048576 size with h2 | h2
        · exact .inr h2
        · exact absurd ⟨hv, h1, h2⟩ hbad
    clear hbad hv
    rcases hs with hs | hs
    · go_enter Try.func57, Try.ntmps57
      go_wp2_with fail
      refine H.out.mono ?_
      rintro e w1 ⟨rfl, hb1⟩
      clear H
      go_wp2
      go_ret2
      exact ⟨_, rfl, OwnE.nil _ _ _, hb1⟩
    · have hs' : ¬ size < 0 := by omega
      go_enter Try.func57, Try.ntmps57
      go_wp2_with fail
      refine H.out.mono ?_
      rintro e w1 ⟨rfl, hb1⟩
      clear H
      go_wp2
      go_ret2
      exact ⟨_, rfl, OwnE.nil _ _ _, hb1⟩
  · rw [vaB_no hv] at H
    clear hbad hv
    go_enter Try.func57, Try.ntmps57
    go_wp2_with fail
    refine H.out.mono ?_
    rintro e w1 ⟨rfl, hb1⟩
    clear H
    go_wp2
    go_ret2
    exact ⟨_, rfl, OwnE.nil _ _ _, hb1⟩

theorem cmpR_in (A : Option Addr) (n c : Nat) (l : List (Int × Int)) (size : Int) (w : World) (h : Exs w w.heap.size A n c l) (hn : n ≤ 1000) (hv : Va (-1) l) (hs0 : 0 ≤ size) (hs1 : size ≤ 1048576) :
    Calls Try.prog 57 #[.slice A n c, .int .i64 size] w (ResE w (cmpR l size).1 (cmpR l size).2) := by
  obtain ⟨i0, hi, hz0, hz1, hz2⟩ := info_parts infoE
  have HR0 : Hid (lst 0 l ≤ size → cmpR l size = (cmp 0 l size, 0)) := Lib.hid fun hf => by unfold cmpR; rw [if_pos ⟨hv, hs0, hs1, hf⟩]
  have HR1 : Hid (size < lst 0 l → cmpR l size = ([], 1)) := Lib.hid fun hf => by unfold cmpR; rw [if_neg fun hh => by have := hh.2.2.2; omega]
  generalize cmpR l size = R at *
  have H := Lib.hid (validR_any A n c l _ h (by omega))
  rw [vaB_yes hv] at H
  have HX := Lib.hid h
  have HV := Lib.hid hv
  have hcap := h.cap
  have hsm := h.small
  have HLN := Lib.hid h.len
  unfold maxLen at hsm
  clear h hv
  have hs2 : ¬ size < 0 := by omega
  have hs3 : ¬ 1048576 < size := by omega
  go_enter Try.func57, Try.ntmps57
  go_wp2_with fail
  refine H.out.mono ?_
  rintro e w1 ⟨rfl, hb1⟩
  have HB1 := Lib.hid hb1
  clear H hb1
  go_wp2
  go_loopw [6, 7, 8] (fun v lv iv wq => ∃ (j : Nat) (la : Int), j ≤ n ∧ iv = .int .i64 j ∧ lv = .int .i64 la ∧ 0 ≤ la ∧ la ≤ size ∧ Hid (la = lst 0 (l.take j) ∧ OwnE 31 wq w.heap.size v (gaps 0 (l.take j)) ∧ Below w.heap.size w wq)) (fun _ _ iv _ => n - (intOf iv).toNat)
  case atStart => exact ⟨0, 0, by omega, rfl, rfl, by omega, by omega, Lib.hid ⟨rfl, OwnE.nil _ _ _, HB1.out⟩⟩
  case round =>
    obtain ⟨j, la, hj, rfl, rfl, hl0, hl1, hh⟩ := hrel
    have HLA := Lib.hid hh.out.1
    have HO := Lib.hid hh.out.2.1
    have HB := Lib.hid hh.out.2.2
    have hgl : (gaps 0 (l.take j)).length ≤ j := by
      have := gaps_len (l := l.take j) (p := 0)
      rw [List.length_take] at this
      omega
    clear hh
    by_cases hjn : j < n
    · obtain ⟨b, o, u, v, hu, rfl, hb, hc1, hc2, _⟩ := (HX.out.below HB.out).at_ hjn
      have HPU := Lib.hid (va_at HV.out hu).1
      have HG := Lib.hid (gaps_take hu 0)
      have HLS := Lib.hid (lst_take hu 0)
      have hlu : la ≤ u := by rw [HLA.out]; exact lst_next HV.out hu
      have HU := Lib.hid hu
      have u1 := HPU.out.1
      have u2 := HPU.out.2.1
      have u3 := HPU.out.2.2
      simp only at u1 u2 u3
      generalize gaps 0 (l.take j) = Lr at *
      have hj1 : (j : Int) < (n : Int) := by omega
      have hbz := HB.out.size
      clear hu hb
      by_cases hbig : size < u + v
      · have HNO : Hid (R = ([], 1)) := Lib.hid (HR1.out (by
          have h1 := va_lst_le HV.out (u, v) (List.mem_of_getElem? HU.out)
          have h2 : l ≠ [] := fun h0 => by
            have := HU.out
            rw [h0] at this
            simp at this
          rw [lst_any (p := 0) (q := -1) h2]
          simp only at h1
          omega))
        go_wp2
        go_quiet (fail)
        go_wp2
        go_ret2
        rw [HNO.out]
        exact ⟨_, rfl, OwnE.nil _ _ _, below_drewN HB.out _⟩
      · have hj2 : (0 : Int) ≤ (j : Int) := by omega
        go_wp2
        go_quiet (fail)
        have HO1 := Lib.hid (HO.out.drewN nq)
        have HB1 := Lib.hid (below_drewN HB.out nq)
        have g1 : (wr.drewN nq).cell? ⟨b, o + j * 2, none⟩ = some (.int .i64 u) := hc1
        have g2 : (wr.drewN nq).cell? ⟨b, o + j * 2 + 1, none⟩ = some (.int .i64 v) := hc2
        have hz : w.heap.size ≤ (wr.drewN nq).heap.size := hbz
        generalize wr.drewN nq = w2 at *
        clear hc1 hc2
        by_cases hgt : la < u
        · have HBT : Hid (btw la u = [(la, u - la)]) := Lib.hid (by simp [btw]; omega)
          go_wp2_with (at_builtin; go_must (refine wpList_appE _ rfl (.tmp 46) (.tmp 56) 34 rfl Try.underlying34 hi hz0 rfl hz1 (by omega) (HO1.out.alloc _) rfl (Exs.new w2 [(la, u - la)] _ _ 1 rfl rfl (by unfold maxLen; omega) (fun x hx => by simp at hx; subst hx; simp only; omega)) rfl (by omega) (by simp; omega) ?_); intro v3 w3 ho3 hb3 hg3)
          have HO3 := Lib.hid ho3
          have HB3 := Lib.hid ((HB1.out.alloc HB1.out.size _).trans hb3)
          have k1 : w3.cell? ⟨b, o + j * 2, none⟩ = some (.int .i64 u) := by
            have := (HX.out.below HB3.out).at_ hjn
            obtain ⟨b', o', u', v', hu', e', _, k1, k2, _⟩ := this
            cases e'
            rw [HU.out] at hu'
            cases hu'
            exact k1
          have k2 : w3.cell? ⟨b, o + j * 2 + 1, none⟩ = some (.int .i64 v) := by
            have := (HX.out.below HB3.out).at_ hjn
            obtain ⟨b', o', u', v', hu', e', _, k1, k2, _⟩ := this
            cases e'
            rw [HU.out] at hu'
            cases hu'
            exact k2
          clear ho3 hb3 hg3 g1 g2
          go_quiet (fail)
          go_wp2
          go_roundw
          case rel => exact ⟨j + 1, u + v, by omega, by go_num, rfl, by omega, by omega, Lib.hid ⟨by rw [HLS.out], by rw [HG.out, ← HLA.out, HBT.out]; exact HO3.out.drewN _, below_drewN HB3.out _⟩⟩
          case measure => simp [intOf]; omega
        · have HBT : Hid (btw la u = []) := Lib.hid (by simp [btw]; omega)
          go_wp2
          go_quiet (fail)
          go_wp2
          go_roundw
          case rel => exact ⟨j + 1, u + v, by omega, by go_num, rfl, by omega, by omega, Lib.hid ⟨by rw [HLS.out], by rw [HG.out, ← HLA.out, HBT.out, List.append_nil]; exact HO1.out.drewN _, below_drewN HB1.out _⟩⟩
          case measure => simp [intOf]; omega
    · have HF : Hid (la = lst 0 l ∧ gaps 0 (l.take j) = gaps 0 l) := Lib.hid (by
        have h1 := HLA.out
        rw [List.take_of_length_le (by rw [HLN.out]; omega)] at h1 ⊢
        exact ⟨h1, rfl⟩)
      have hnj : ¬ (j : Int) < (n : Int) := by omega
      rw [HF.out.2] at HO hgl
      have HOK := Lib.hid (HR0.out (by rw [← HF.out.1]; exact hl1))
      have hbz := HB.out.size
      by_cases hlt : la < size
      · have HBT : Hid (btw la size = [(la, size - la)]) := Lib.hid (by simp [btw]; omega)
        go_wp2_with (at_builtin; go_must (refine wpList_appE _ rfl (.tmp 72) (.tmp 78) 34 rfl Try.underlying34 hi hz0 rfl hz1 (by omega) (HO.out.alloc _) rfl (Exs.new wr [(la, size - la)] _ _ 1 rfl rfl (by unfold maxLen; omega) (fun x hx => by simp at hx; subst hx; simp only; omega)) rfl (by omega) (by simp; omega) ?_); intro v3 w3 ho3 hb3 hg3)
        go_ret2
        rw [HOK.out]
        exact ⟨_, rfl, by unfold cmp; rw [← HF.out.1, HBT.out]; exact ho3, (HB.out.alloc HB.out.size _).trans hb3⟩
      · have HBT : Hid (btw la size = []) := Lib.hid (by simp [btw]; omega)
        go_wp2
        go_ret2
        rw [HOK.out]
        exact ⟨_, rfl, by unfold cmp; rw [← HF.out.1, HBT.out, List.append_nil]; exact HO.out, HB.out⟩

theorem cmpR_any (A : Option Addr) (n c : Nat) (l : List (Int × Int)) (size : Int) (w : World) (h : Exs w w.heap.size A n c l) (hn : n ≤ 1000) :
    Calls Try.prog 57 #[.slice A n c, .int .i64 size] w (ResE w (cmpR l size).1 (cmpR l size).2) := by
  by_cases hv : Va (-1) l ∧ 0 ≤ size ∧ size ≤ 1048576
  · exact cmpR_in A n c l size w h hn hv.1 hv.2.1 hv.2.2
  · unfold cmpR
    rw [if_neg fun hh => hv ⟨hh.1, hh.2.1, hh.2.2.1⟩]
    exact cmpR_arg A n c l size w h hn hv
end Go.Proofs.Ytfchccgajcjbbaa
