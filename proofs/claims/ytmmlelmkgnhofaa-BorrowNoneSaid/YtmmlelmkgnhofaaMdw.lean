/-
  Contracts of the model's Lend, Release, Access, EndObject and EndHolder. Conditions: at most a hundred thousand borrows.
-/
import Derived.Test.YtmmlelmkgnhofaaMdp
namespace Go.Proofs.Ytmmlelmkgnhofaa
open Go.ChangeShapes Go.WideShapes Go.ChangeAt Go.RowKit
set_option linter.unusedVariables false
set_option linter.unusedSimpArgs false
set_option maxHeartbeats 4000000
set_option maxRecDepth 100000

section
variable {w w' w1 w2 : World} {c c' : Nat → Nat} {j k p N : Nat} {L L' : List Bo} {o h m a : Int} {b z : Bo}
theorem MdE.later {r : Value} {e : Ending} (hk : Kept c k w w1) (h : MdE w1 (rc c w.heap.size k) k p r L' e w2) : MdE w c k p r L' e w2 := by
  obtain ⟨h1, h2, h3⟩ := h
  rw [rc_rc hk.size] at h2
  exact ⟨h1, h2, hk.then (fun g hg => rc_old hg) h3⟩
/-- Without a change. -/
theorem Mlb.stay (H : Mlb w c k p L) (hb : Below w.heap.size w w1) (r : Value) : MdE w c k p r L (.returned r) w1 := ⟨rfl, H.later hb, Kept.ofBelow hb⟩
theorem first_bo {A : Option Addr} {n cap : Nat} {l : List Bo} (h : Kws bo4 w w.heap.size A n cap l) : (l = [] ∧ n = 0) ∨ ∃ x b ob, l[0]? = some x ∧ A = some ⟨b, ob, none⟩ ∧ 0 < n ∧ w.cell? ⟨b, ob + 2, none⟩ = some (.int .i64 x.m) := by
  rcases Nat.eq_zero_or_pos n with e | e
  · exact .inl ⟨List.eq_nil_of_length_eq_zero (h.len.trans e), e⟩
  · obtain ⟨b, ob, x, h1, h2, _, _, _, h5, _⟩ := h.bo e
    rw [Nat.zero_mul, Nat.add_zero] at h5
    exact .inr ⟨x, b, ob, h1, h2, e, h5⟩
theorem md_first {x : Bo} (h : (ofL o L)[0]? = some x) : md o L = x.m := by
  unfold md
  cases e : ofL o L with
  | nil => rw [e] at h; simp at h
  | cons y r =>
    rw [e] at h
    simp at h
    rw [h]
theorem lendR_any (H : Mlb w c k p L) (hW : Wl N L) (hN : N ≤ 100000) : Calls Try.prog 17 #[.pointer (some ⟨p, 0, none⟩), .int .i64 o, .int .i64 h, .int .i64 m] w (MdE w c k p (.int .i64 (lendE o m L)) (lendL o h m L)) := by
  by_cases hm : m = 1 ∨ m = 2
  · have hlL := hW.len
    have HO := Lib.hid (ofR_any (o := o) H.r (by omega))
    have HM := Lib.hid H
    have HW := Lib.hid hW
    unfold MkB at HO
    by_cases hx : md o L = 2 ∨ (m = 2 ∧ md o L ≠ 0)
    · -- it is lent
      have e1 : lendE o m L = 14 := by unfold lendE; rw [if_neg (by omega), if_pos hx]
      have e2 : lendL o h m L = L := by unfold lendL; rw [e1, if_neg (by omega)]
      rw [e1, e2]
      have HP : Hid (0 < (ofL o L).length) := Lib.hid (md_ne hW (by omega))
      clear H hW e1 e2
      have hmx : m = 2 ∨ (m = 1 ∧ md o L = 2) := by omega
      clear hm hx
      rcases hmx with rfl | ⟨rfl, h2⟩
      · go_enter Try.func17, Try.ntmps17
        go_wp2_with fail
        refine HO.out.mono ?_
        rintro e w1 ⟨v, rfl, ho, hb⟩
        obtain ⟨A, n, cap, rfl, hk⟩ := ho.shape
        have hn : (0 : Int) < (n : Int) := by have := HP.out; have := hk.len; omega
        have hd : decide ((0 : Int) < (n : Int)) = true := decide_eq_true hn
        have HB := Lib.hid hb
        clear ho hb hk HO
        go_wp2
        go_ret
        exact HM.out.stay HB.out _
      · have H2 := Lib.hid h2
        clear h2
        go_enter Try.func17, Try.ntmps17
        go_wp2_with fail
        refine HO.out.mono ?_
        rintro e w1 ⟨v, rfl, ho, hb⟩
        obtain ⟨A, n, cap, rfl, hk⟩ := ho.shape
        rcases first_bo hk with ⟨h1, _⟩ | ⟨x, b, ob, h1, rfl, hn0, hc⟩
        · have := HP.out
          rw [h1] at this
          simp at this
        have hn : (0 : Int) < (n : Int) := by omega
        have hd : decide ((0 : Int) < (n : Int)) = true := decide_eq_true hn
        have hx2 : (x.m == 2) = true := by rw [← md_first h1, H2.out]; rfl
        have hcap := hk.cap
        have hsm := hk.small
        unfold maxLen at hsm
        have HB := Lib.hid hb
        clear ho hb hk HO h1
        go_wp2
        go_ret
        exact HM.out.stay HB.out _
    · have e1 : lendE o m L = 0 := by unfold lendE; rw [if_neg (by omega), if_neg hx]
      have e2 : lendL o h m L = putL ⟨o, h, m, cnt o h L + 1⟩ L := by unfold lendL; rw [e1, if_pos rfl]
      rw [e1, e2]
      have hmx : (m = 1 ∧ md o L ≠ 2) ∨ (m = 2 ∧ md o L = 0) := by omega
      have hcb := cnt_le (o := o) (h := h) hW
      have hcv : (boV (hasL o h L)).c = cnt o h L := by unfold cnt boV; cases hasL o h L <;> rfl
      have HHO : Hid (∀ W, Below w.heap.size w W → Calls Try.prog 29 #[.pointer (some ⟨p, 0, none⟩), .int .i64 o, .int .i64 h] W (HoE W (hasL o h L))) := Lib.hid (fun W hWb => holdsR_any (H.r.go hWb) (by omega))
      unfold HoE boA at HHO
      have HPU : Hid (∀ W, Below w.heap.size w W → Calls Try.prog 37 #[.pointer (some ⟨p, 0, none⟩), boA ⟨o, h, m, cnt o h L + 1⟩] W (MdE W (rc c w.heap.size k) k p (.tuple #[]) (putL ⟨o, h, m, cnt o h L + 1⟩ L))) := Lib.hid (fun W hWb => put_any (H.later hWb) hW.srt (by omega))
      have HNL : Hid (md o L = 0 → (ofL o L).length = 0) := Lib.hid (fun e => by rw [md_none e hW.mo]; rfl)
      have HCV := Lib.hid hcv
      generalize hasL o h L = r at *
      generalize cnt o h L = y at *
      generalize hV : boV r = v0 at *
      obtain ⟨v1, v2, v3, v4⟩ := v0
      obtain rfl : v4 = y := HCV.out
      unfold boA at HPU
      simp only at HHO HPU
      have hy0 : -9223372036854775808 ≤ v4 + 1 := by omega
      have hy1 : v4 + 1 ≤ 9223372036854775807 := by omega
      clear H hW e1 e2 hm hx hcv HCV hV
      rcases hmx with ⟨rfl, h2⟩ | ⟨rfl, h2⟩
      · have H2 := Lib.hid h2
        clear h2 HNL
        go_enter Try.func17, Try.ntmps17
        go_wp2_with fail
        refine HO.out.mono ?_
        rintro e w1 ⟨v, rfl, ho, hb⟩
        obtain ⟨A, n, cap, rfl, hk⟩ := ho.shape
        have hcap := hk.cap
        have hsm := hk.small
        unfold maxLen at hsm
        have HB := Lib.hid hb
        rcases first_bo hk with ⟨_, rfl⟩ | ⟨x, b, ob, h1, rfl, hn0, hc⟩
        · clear ho hb hk HO H2
          go_wp2_with fail
          refine (HHO.out _ HB.out).mono ?_
          rintro e w2 ⟨rfl, hb2⟩
          have HB3 := Lib.hid ((Below.then HB.out hb2 (Nat.le_refl _)).alloc (Below.then HB.out hb2 (Nat.le_refl _)).size (.cells #[.int .i64 v1, .int .i64 v2, .int .i64 v3, .int .i64 v4] 47))
          have HPX := Lib.hid (HPU.out _ HB3.out)
          unfold MdE at HPX
          clear hb2 HHO HPU HB
          go_wp2_with fail
          refine HPX.out.mono ?_
          rintro e w4 ⟨rfl, q1, q2⟩
          have HQ := Lib.hid (MdE.later (r := .int .i64 0) (e := .returned (.int .i64 0)) (Kept.ofBelow HB3.out) ⟨rfl, q1, q2⟩)
          clear q1 q2 HPX HB3
          go_wp2
          go_ret
          exact HQ.out
        · have hn : (0 : Int) < (n : Int) := by omega
          have hd : decide ((0 : Int) < (n : Int)) = true := decide_eq_true hn
          have hx2 : (x.m == 2) = false := by have := md_first h1; have := H2.out; simp; omega
          clear ho hb hk HO H2 h1
          go_wp2_with fail
          refine (HHO.out _ HB.out).mono ?_
          rintro e w2 ⟨rfl, hb2⟩
          have HB3 := Lib.hid ((Below.then HB.out hb2 (Nat.le_refl _)).alloc (Below.then HB.out hb2 (Nat.le_refl _)).size (.cells #[.int .i64 v1, .int .i64 v2, .int .i64 v3, .int .i64 v4] 47))
          have HPX := Lib.hid (HPU.out _ HB3.out)
          unfold MdE at HPX
          clear hb2 HHO HPU HB hc
          go_wp2_with fail
          refine HPX.out.mono ?_
          rintro e w4 ⟨rfl, q1, q2⟩
          have HQ := Lib.hid (MdE.later (r := .int .i64 0) (e := .returned (.int .i64 0)) (Kept.ofBelow HB3.out) ⟨rfl, q1, q2⟩)
          clear q1 q2 HPX HB3
          go_wp2
          go_ret
          exact HQ.out
      · have H2 := Lib.hid (HNL.out h2)
        clear h2 HNL
        go_enter Try.func17, Try.ntmps17
        go_wp2_with fail
        refine HO.out.mono ?_
        rintro e w1 ⟨v, rfl, ho, hb⟩
        obtain ⟨A, n, cap, rfl, hk⟩ := ho.shape
        obtain rfl : n = 0 := by have := hk.len; have := H2.out; omega
        have HB := Lib.hid hb
        clear ho hb hk HO H2
        go_wp2_with fail
        refine (HHO.out _ HB.out).mono ?_
        rintro e w2 ⟨rfl, hb2⟩
        have HB3 := Lib.hid ((Below.then HB.out hb2 (Nat.le_refl _)).alloc (Below.then HB.out hb2 (Nat.le_refl _)).size (.cells #[.int .i64 v1, .int .i64 v2, .int .i64 v3, .int .i64 v4] 47))
        have HPX := Lib.hid (HPU.out _ HB3.out)
        unfold MdE at HPX
        clear hb2 HHO HPU HB
        go_wp2_with fail
        refine HPX.out.mono ?_
        rintro e w4 ⟨rfl, q1, q2⟩
        have HQ := Lib.hid (MdE.later (r := .int .i64 0) (e := .returned (.int .i64 0)) (Kept.ofBelow HB3.out) ⟨rfl, q1, q2⟩)
        clear q1 q2 HPX HB3
        go_wp2
        go_ret
        exact HQ.out
  · have e1 : lendE o m L = 1 := by unfold lendE; rw [if_pos hm]
    have e2 : lendL o h m L = L := by unfold lendL; rw [e1, if_neg (by omega)]
    rw [e1, e2]
    have h1 : (m != 1) = true := by simp; omega
    have h2 : (m != 2) = true := by simp; omega
    have HM := Lib.hid H
    clear hm H hW e1 e2
    go_enter Try.func17, Try.ntmps17
    go_wp2
    go_ret
    exact HM.out.stay (Below.refl _ _) _
theorem releaseR_any (H : Mlb w c k p L) (hW : Wl N L) (hN : N ≤ 100000) : Calls Try.prog 19 #[.pointer (some ⟨p, 0, none⟩), .int .i64 o, .int .i64 h] w (MdE w c k p (.int .i64 (relE o h L)) (relL o h L)) := by
  have hlL := hW.len
  have HHO := Lib.hid (holdsR_any (o := o) (h := h) H.r (by omega))
  have HM := Lib.hid H
  unfold HoE at HHO
  cases hr : hasL o h L with
  | none =>
    rw [hr] at HHO
    have e1 : relE o h L = 13 := by unfold relE; rw [hr]; rfl
    have e2 : relL o h L = L := by unfold relL; rw [hr]
    rw [e1, e2]
    simp only [boV, boA, Option.isSome_none] at HHO
    clear H hW e1 e2 hr
    go_enter Try.func19, Try.ntmps19
    go_wp2_with fail
    refine HHO.out.mono ?_
    rintro e w2 ⟨rfl, hb2⟩
    have HB3 := Lib.hid (hb2.alloc hb2.size (.cells #[.int .i64 0, .int .i64 0, .int .i64 0, .int .i64 0] 47))
    clear hb2 HHO
    go_wp2
    go_ret
    exact HM.out.stay HB3.out _
  | some z =>
    rw [hr] at HHO
    have e1 : relE o h L = 0 := by unfold relE; rw [hr]; rfl
    rw [e1]
    obtain ⟨z1, z2, z3, z4, z5, z6⟩ := hW.has_cnt hr
    obtain ⟨zo, zh, zm, zc⟩ := z
    simp only at z2 z3 z4 z5
    subst z2 z3
    simp only [boV, boA, Option.isSome_some] at HHO
    have hc0 : -9223372036854775808 ≤ zc - 1 := by omega
    have hc1 : zc - 1 ≤ 9223372036854775807 := by omega
    by_cases hz : zc = 1
    · have e2 : relL zo zh L = remL zo zh L := by unfold relL; rw [hr]; exact if_pos hz
      rw [e2]
      have HWI : Hid (∀ W, Below w.heap.size w W → Calls Try.prog 39 #[.pointer (some ⟨p, 0, none⟩), .int .i64 zo, .int .i64 zh] W (MkB W (remL zo zh L))) := Lib.hid (fun W hWb => without_any (H.r.go hWb) (by omega))
      unfold MkB at HWI
      have hq : (zc - 1 == 0) = true := by simp; omega
      clear H hW e1 e2 hr z1 z6 hz
      go_enter Try.func19, Try.ntmps19
      go_wp2_with fail
      refine HHO.out.mono ?_
      rintro e w2 ⟨rfl, hb2⟩
      have HB4 := Lib.hid (hb2.alloc hb2.size (.cells #[.int .i64 zo, .int .i64 zh, .int .i64 zm, .int .i64 (zc - 1)] 47))
      clear hb2 HHO
      go_wp2_with fail
      refine (HWI.out _ HB4.out).mono ?_
      rintro e w5 ⟨v, rfl, ho, hb5⟩
      obtain ⟨A, n, cap, rfl, hk⟩ := ho.shape
      have HB5 := Lib.hid (Below.then HB4.out hb5 (Nat.le_refl _))
      have HPU := Lib.hid (Mlb.put HM.out HB5.out (ho.down HB4.out.size))
      have hpw : ∃ v0, w5.heap[p]? = some (.cells #[v0] 28 (0, 0)) := by
        obtain ⟨_, A, n, cap, h2, _⟩ := HM.out
        exact ⟨_, (HB5.out.block p HM.out.lt).trans h2⟩
      obtain ⟨v0, hpw⟩ := hpw
      have k0 := cell_of_row w5 p 0 _ _ _ hpw
      have f0 := frozen_of_row w5 p 0 _ _ hpw
      clear ho hb5 hk HWI hpw HB4 HB5
      go_wp2
      go_ret
      exact ⟨rfl, HPU.out⟩
    · have e2 : relL zo zh L = putL ⟨zo, zh, zm, zc - 1⟩ L := by unfold relL; rw [hr]; exact if_neg hz
      rw [e2]
      have HPU : Hid (∀ W, Below w.heap.size w W → Calls Try.prog 37 #[.pointer (some ⟨p, 0, none⟩), boA ⟨zo, zh, zm, zc - 1⟩] W (MdE W (rc c w.heap.size k) k p (.tuple #[]) (putL ⟨zo, zh, zm, zc - 1⟩ L))) := Lib.hid (fun W hWb => put_any (H.later hWb) hW.srt (by omega))
      unfold boA at HPU
      have hq : (zc - 1 == 0) = false := by simp; omega
      clear H hW e1 e2 hr z1 z6 hz
      go_enter Try.func19, Try.ntmps19
      go_wp2_with fail
      refine HHO.out.mono ?_
      rintro e w2 ⟨rfl, hb2⟩
      have HB4 := Lib.hid (hb2.alloc hb2.size (.cells #[.int .i64 zo, .int .i64 zh, .int .i64 zm, .int .i64 (zc - 1)] 47))
      have HPX := Lib.hid (HPU.out _ HB4.out)
      unfold MdE at HPX
      clear hb2 HHO HPU
      go_wp2_with fail
      refine HPX.out.mono ?_
      rintro e w4 ⟨rfl, q1, q2⟩
      have HQ := Lib.hid (MdE.later (r := .int .i64 0) (e := .returned (.int .i64 0)) (Kept.ofBelow HB4.out) ⟨rfl, q1, q2⟩)
      clear q1 q2 HPX HB4
      go_wp2
      go_ret
      exact HQ.out
end
end Go.Proofs.Ytmmlelmkgnhofaa
