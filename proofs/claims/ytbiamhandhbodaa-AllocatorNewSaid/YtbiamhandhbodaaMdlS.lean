/-
  Contract of the model's Sorted: its extents in ascending order of Off. Conditions: at most nine hundred extents.
-/
import Derived.Test.YtbiamhandhbodaaMdlF
namespace Go.Proofs.Ytbiamhandhbodaa
open Go.ChangeShapes Go.WideShapes Go.ChangeAt Go.RowKit
set_option maxHeartbeats 4000000
set_option maxRecDepth 100000

theorem srt_put {S : List (Int × Int)} {x : Int × Int} {k : Nat} (hS : S.Pairwise fun a b => a.1 ≤ b.1) (hlo : k = 0 ∨ ∃ d, S[k - 1]? = some d ∧ d.1 ≤ x.1) (hhi : ∀ y ∈ S.drop k, x.1 < y.1) :
    (S.take k ++ x :: S.drop k).Pairwise fun a b => a.1 ≤ b.1 := by
  have h1 := hS
  rw [← List.take_append_drop k S, List.pairwise_append] at h1
  obtain ⟨a1, a2, a3⟩ := h1
  rw [List.pairwise_append, List.pairwise_cons]
  refine ⟨a1, ⟨fun y hy => by have := hhi y hy; omega, a2⟩, fun y hy z hz => ?_⟩
  rcases List.mem_cons.1 hz with rfl | hz
  · obtain ⟨j, hj⟩ := List.mem_iff_getElem?.1 hy
    rw [List.getElem?_take] at hj
    split at hj
    · rename_i hlt
      rcases hlo with rfl | ⟨d, hd, hdx⟩
      · omega
      · by_cases he : j = k - 1
        · subst he
          rw [hd] at hj
          cases hj
          exact hdx
        · obtain ⟨g1, rfl⟩ := List.getElem?_eq_some_iff.1 hj
          obtain ⟨g2, rfl⟩ := List.getElem?_eq_some_iff.1 hd
          have := List.pairwise_iff_getElem.1 hS j (k - 1) g1 g2 (by omega)
          omega
    · cases hj
  · exact a3 y hy z hz
/-- A pair written into a row of the call's own. -/
theorem OwnE.store2 {t : TypeId} {w : World} {base g n cap i : Nat} {l : List (Int × Int)} (h : OwnE t w base (.slice (some ⟨g, 0, none⟩) n cap) l) (hi : i < l.length) (a b : Int) (hf : Fits [(a, b)]) :
    OwnE t ((w.setCell ⟨g, i * 2, none⟩ (.int .i64 a)).setCell ⟨g, i * 2 + 1, none⟩ (.int .i64 b)) base (.slice (some ⟨g, 0, none⟩) n cap) (l.set i (a, b)) := by
  obtain ⟨g', cap', cur, R, e, hb, hgw, hg, hnc, hm, hs, hc⟩ := h.opn (by omega)
  cases e
  obtain ⟨d, hd⟩ : ∃ d, l[i]? = some d := ⟨_, List.getElem?_eq_getElem hi⟩
  have hlt : (ev (l.take i)).length = i * 2 := by rw [ev_len, List.length_take]; omega
  have hl1 : cur.toList = ev (l.take i) ++ ([.int .i64 d.1, .int .i64 d.2] ++ (ev (l.drop (i + 1)) ++ R)) := by
    rw [hc, ev_split i, drop_one hd]
    simp [ev]
  have hl2 := ovw_list (vs := [.int .i64 a, .int .i64 b]) hl1 hlt rfl
  have hset : l.set i (a, b) = l.take i ++ (a, b) :: l.drop (i + 1) := by rw [List.set_eq_take_append_cons_drop, if_pos hi]
  have hh := heap_setCells (o := i * 2) (vs := [.int .i64 a, .int .i64 b]) hg
  refine OwnE.shut (cur := ovw cur (i * 2) [.int .i64 a, .int .i64 b]) (R := R) hb hh (by simpa using hnc) hm (by rw [ovw_size]; exact hs) ?_ ?_ (by simp)
  · rw [hl2, hset, ← ev_app]
    simp [ev]
  · rw [hset]
    exact (h.2.take i).app fun z hz => by
      rcases List.mem_cons.1 hz with rfl | hz
      · exact hf _ (by simp)
      · exact h.2.drop _ z hz
theorem swap_eq {S : List (Int × Int)} {x d : Int × Int} {j : Nat} (hd : S[j]? = some d) : ((S.take (j + 1) ++ x :: S.drop (j + 1)).set j x).set (j + 1) d = S.take j ++ x :: S.drop j := by
  have hj : j < S.length := (List.getElem?_eq_some_iff.1 hd).1
  rw [drop_one hd, take_one hd]
  have hl : (S.take j).length = j := by rw [List.length_take]; omega
  generalize S.take j = P at hl
  subst hl
  rw [List.append_assoc, List.set_append_right _ _ (Nat.le_refl _), Nat.sub_self]
  simp only [List.singleton_append, List.set_cons_zero]
  rw [List.set_append_right _ _ (by omega), show P.length + 1 - P.length = 1 by omega]
  rfl

theorem sortedR_any (c : Nat → Nat) (k q : Nat) (n : Int) (F A U : List (Int × Int)) (w : World) (h : Mdl w c k q n U) (hv : Gd n F A) (hp : A.Perm U) (hU : U.length ≤ 900) :
    Calls Try.prog 27 #[.pointer (some ⟨q, 0, none⟩)] w (MadeE w A) := by
  obtain ⟨i0, hi0, hz0, hz1, hz2⟩ := info_parts infoE
  obtain ⟨Au, nu, cu, hc0, hc1, hx⟩ := h.open_
  have HX := Lib.hid hx
  have HC1 := Lib.hid hc1
  have hcap := hx.cap
  have hsm := hx.small
  unfold maxLen at hsm
  have hnu : nu ≤ 900 := by have := hx.len; omega
  have HS := Lib.hid (fun (S : List (Int × Int)) (h1 : S.Perm U) h2 => sort_eq hv hp h1 h2)
  clear h hc0 hc1 hx hp hv
  go_enter Try.func27, Try.ntmps27
  go_wp2
  go_loopw [3, 4] (fun sv iv wr => ∃ (i : Nat) (A' : Option Addr) (c' : Nat) (S : List (Int × Int)), i ≤ nu ∧ iv = .int .i64 i ∧ sv = .slice A' i c' ∧ Hid (OwnE 39 wr w.heap.size (.slice A' i c') S ∧ S.Perm (U.take i) ∧ (S.Pairwise fun a b => a.1 ≤ b.1) ∧ Below w.heap.size w wr)) (fun _ iv _ => nu - (intOf iv).toNat)
  case atStart => exact ⟨0, none, 0, [], by omega, rfl, rfl, Lib.hid ⟨OwnE.nil _ _ _, by simp, List.Pairwise.nil, Below.refl _ _⟩⟩
  case round =>
    obtain ⟨i, A', c', S, hi, rfl, rfl, hh⟩ := hrel
    have hcr : wr.cell? ⟨q, 1, none⟩ = some (.slice Au nu cu) := (hh.out.2.2.2.cell (p := ⟨q, 1, none⟩) (lt_of_some HC1.out)).trans HC1.out
    by_cases hlt : i < nu
    · obtain ⟨b, o, u, v, hu, rfl, hb, hc1, hc2, x0, x1, y0, y1⟩ := (HX.out.below hh.out.2.2.2).at_ hlt
      have hlt' : (i : Int) < (nu : Int) := by omega
      have hSl := hh.out.1.exs.len
      have HO := Lib.hid hh.out.1
      have HP := Lib.hid hh.out.2.1
      have HPW := Lib.hid hh.out.2.2.1
      have HB := Lib.hid hh.out.2.2.2
      have HU := Lib.hid hu
      have hbz := hh.out.2.2.2.size
      have hA' := hh.out.1.exs.cap
      have hA2 := hh.out.1.exs.small
      unfold maxLen at hA2
      clear hh hu
      go_wp2_with (at_builtin; go_must (refine wpList_appE _ rfl (.tmp 17) (.tmp 25) 29 rfl Try.underlying29 hi0 hz0 rfl hz1 (by omega) (HO.out.alloc _) rfl (Exs.new wr [(u, v)] _ _ 1 rfl rfl (by unfold maxLen; omega) (fun z hz => by simp at hz; subst hz; simp only; omega)) rfl (by omega) (by simp; omega) ?_); intro v3 w3 ho3 hb3 hg3)
      have hlen : (S ++ [(u, v)]).length = i + 1 := by simp; omega
      obtain ⟨g, cap, cur, R, e3, hg1, hg2, hg3', hg4, hg5, hg6, hg7⟩ := ho3.opn (by simp)
      rw [hlen] at e3 hg4
      subst e3
      have hgx := hg5
      unfold maxLen at hgx
      have HO3 := Lib.hid ho3
      have HB3 := Lib.hid ((HB.out.alloc hbz (.cells #[.int .i64 u, .int .i64 v] 39)).trans hb3)
      clear ho3 hb3 hg3 hg3' hg5 hg6 hg7 hlen HO HB hc1 hc2 hcr
      go_wp2
      go_loopw [5] (fun kv wq => ∃ (k : Nat), k ≤ i ∧ kv = .int .i64 k ∧ Hid (OwnE 39 wq w.heap.size (.slice (some ⟨g, 0, none⟩) (i + 1) cap) (S.take k ++ (u, v) :: S.drop k) ∧ (∀ y ∈ S.drop k, u < y.1) ∧ Below w.heap.size w wq)) (fun kv _ => (intOf kv).toNat)
      case atStart => exact ⟨i, by omega, rfl, Lib.hid ⟨by rw [List.take_of_length_le (by omega), List.drop_eq_nil_of_le (by omega)]; exact HO3.out, by rw [List.drop_eq_nil_of_le (by omega)]; simp, HB3.out⟩⟩
      case round =>
        obtain ⟨k, hk, rfl, hh⟩ := hrel
        rcases Nat.eq_zero_or_pos k with hk0 | hk0
        · subst hk0
          have HF := Lib.hid hh.out
          clear hh
          go_wp2
          go_quiet (fail)
          go_wp2
          go_roundw
          case rel => exact ⟨i + 1, some ⟨g, 0, none⟩, cap, (u, v) :: S, by omega, by go_num, rfl, Lib.hid ⟨by simpa using HF.out.1.drewN _, by
            rw [take_one HU.out]
            exact (List.Perm.cons _ HP.out).trans (List.perm_append_comm (l₁ := [(u, v)])), by
            have := srt_put (k := 0) (x := (u, v)) HPW.out (.inl rfl) HF.out.2.1
            simpa using this, below_drewN HF.out.2.2 _⟩⟩
          case measure => simp [intOf]; omega
        · obtain ⟨j, hj⟩ : ∃ j, k = j + 1 := ⟨k - 1, by omega⟩
          have E1 : (k : Int) - 1 = (j : Int) := by omega
          have E2 : IntKind.i64.wrap (j : Int) = (j : Int) := by rw [IntKind.wrap_i64]; omega
          have hjS : j < S.length := by omega
          obtain ⟨d, hd⟩ : ∃ d, S[j]? = some d := ⟨_, List.getElem?_eq_getElem hjS⟩
          have hlL : (S.take k ++ (u, v) :: S.drop k).length = i + 1 := hh.out.1.exs.len
          have hLj : (S.take k ++ (u, v) :: S.drop k)[j]? = some d := by
            rw [List.getElem?_append_left (by rw [List.length_take]; omega), List.getElem?_take, if_pos (by omega), hd]
          have hLk : (S.take k ++ (u, v) :: S.drop k)[k]? = some (u, v) := by
            rw [List.getElem?_append_right (by rw [List.length_take]; omega), List.length_take, show k - min k S.length = 0 by omega]
            rfl
          obtain ⟨b1, o1, d1, d2, hd', hA1, _, a0, a1, d10, d11, d20, d21⟩ := hh.out.1.exs.at_ (k := j) (by omega)
          cases hA1
          rw [hLj] at hd'
          cases hd'
          obtain ⟨b2, o2, u1, u2, hu', hA2, _, a2, a3, _⟩ := hh.out.1.exs.at_ (k := k) (by omega)
          cases hA2
          rw [hLk] at hu'
          cases hu'
          simp only [Nat.zero_add] at a0 a1 a2 a3
          have hk1 : (0 : Int) < (k : Int) := by omega
          have hki : (k : Int) < (i : Int) + 1 := by omega
          have hji : (j : Int) < (i : Int) + 1 := by omega
          have dk : decide ((0 : Int) < (k : Int)) = true := decide_eq_true hk1
          have HLJ := Lib.hid hLj
          have HD := Lib.hid hd
          have HJ := Lib.hid hj
          have HLL := Lib.hid hlL
          clear hLj hLk hd hj hlL
          by_cases hud : u < d1
          · have du : decide (u < d1) = true := decide_eq_true hud
            have HF := Lib.hid hh.out
            clear hh
            go_wp2
            go_quiet (fail)
            have HF1 := Lib.hid (HF.out.1.drewN nq)
            have HB1 := Lib.hid (below_drewN HF.out.2.2 nq)
            have l0 : (wr.drewN nq).cell? ⟨g, j * 2, none⟩ = some (.int .i64 d1) := a0
            have l1 : (wr.drewN nq).cell? ⟨g, j * 2 + 1, none⟩ = some (.int .i64 d2) := a1
            have l2 : (wr.drewN nq).cell? ⟨g, k * 2, none⟩ = some (.int .i64 u) := a2
            have l3 : (wr.drewN nq).cell? ⟨g, k * 2 + 1, none⟩ = some (.int .i64 v) := a3
            generalize wr.drewN nq = w2 at *
            clear a0 a1 a2 a3
            have fz : ∀ m, w2.frozen? ⟨g, m, none⟩ = false := by
              obtain ⟨g', cap', cur', R', e', _, _, hh', _⟩ := HF1.out.opn (by rw [HLL.out]; omega)
              simp only [Value.slice.injEq, Option.some.injEq, Addr.mk.injEq] at e'
              obtain ⟨⟨rfl, _⟩, _⟩ := e'
              exact fun m => frozen_of_row w2 g m _ _ hh'
            have fz0 := fz (j * 2)
            have fz1 := fz (j * 2 + 1)
            have fz2 := fz (k * 2)
            have fz3 := fz (k * 2 + 1)
            have m2 : ((w2.drew.setCell ⟨g, j * 2, none⟩ (.int .i64 u)).setCell ⟨g, j * 2 + 1, none⟩ (.int .i64 v)).cell? ⟨g, k * 2, none⟩ = some (.int .i64 u) := by
              rw [World.cell?_setCell_other, World.cell?_setCell_other]
              · exact l2
              all_goals (have := HJ.out; first | (simp; done) | (simp; omega))
            go_wp2
            go_region
            have ho4 := ((HF1.out.store2 (i := j) (by rw [HLL.out]; omega) u v (fun z hz => by simp at hz; subst hz; simp only; omega)).store2 (i := k) (by simp only [List.length_set]; rw [HLL.out]; omega) d1 d2 (fun z hz => by simp at hz; subst hz; simp only; omega)).drewN 1
            rw [show ((S.take k ++ (u, v) :: S.drop k).set j (u, v)).set k (d1, d2) = S.take j ++ (u, v) :: S.drop j by rw [HJ.out]; exact swap_eq HD.out] at ho4
            have HO4 := Lib.hid ho4
            have HB4 := Lib.hid (below_drewN ((((HB1.out.setCell (p := ⟨g, j * 2, none⟩) hg1 (.int .i64 u)).setCell (p := ⟨g, j * 2 + 1, none⟩) hg1 (.int .i64 v)).setCell (p := ⟨g, k * 2, none⟩) hg1 (.int .i64 d1)).setCell (p := ⟨g, k * 2 + 1, none⟩) hg1 (.int .i64 d2)) 1)
            have HHI : Hid (∀ y ∈ S.drop j, u < y.1) := Lib.hid (fun y hy => by
              rw [drop_one HD.out, ← HJ.out] at hy
              rcases List.mem_cons.1 hy with rfl | hy
              · exact hud
              · exact HF.out.2.1 y hy)
            clear ho4 m2 l0 l1 l2 l3 fz fz0 fz1 fz2 fz3
            go_wp2
            go_roundw
            case rel => exact ⟨j, by have := HJ.out; omega, rfl, Lib.hid ⟨HO4.out, HHI.out, HB4.out⟩⟩
            case measure => have := HJ.out; simp [intOf]; omega
          · have du : decide (u < d1) = false := decide_eq_false hud
            have HF := Lib.hid hh.out
            clear hh
            go_wp2
            go_quiet (fail)
            go_wp2
            go_roundw
            case rel => exact ⟨i + 1, some ⟨g, 0, none⟩, cap, S.take k ++ (u, v) :: S.drop k, by omega, by go_num, rfl, Lib.hid ⟨HF.out.1.drewN _, by
              rw [take_one HU.out]
              exact perm_put HP.out, srt_put HPW.out (.inr ⟨_, by rw [HJ.out, Nat.add_sub_cancel]; exact HD.out, by simp only; omega⟩) HF.out.2.1, below_drewN HF.out.2.2 _⟩⟩
            case measure => simp [intOf]; omega
    · obtain rfl : i = nu := by omega
      have hlt' : ¬ (i : Int) < (i : Int) := by omega
      have HT : Hid (U.take i = U) := Lib.hid (List.take_of_length_le (by have := HX.out.len; omega))
      rw [HT.out] at hh
      go_wp2
      go_ret
      exact ⟨_, rfl, by rw [← HS.out S hh.out.2.1 hh.out.2.2.1]; exact hh.out.1, hh.out.2.2.2⟩
end Go.Proofs.Ytbiamhandhbodaa
