/-
  Contracts of the landed table's list of its live entries and of the model's All. Conditions: at most 4096 slots.
-/
import Derived.Test.YtaoojgnkbcoggaaHiw
namespace Go.Proofs.Ytaoojgnkbcoggaa
open Go.ChangeShapes Go.WideShapes Go.RowKit
set_option linter.unusedVariables false
set_option linter.unusedSimpArgs false
set_option maxHeartbeats 8000000
set_option maxRecDepth 100000

/-- A list of entries of the call's own. -/
def EnL (w : World) (l : List En) (e : Ending) (w' : World) : Prop := ∃ v, e = .returned v ∧ OwnK en5 44 w' w.heap.size v l ∧ Below w.heap.size w w'
theorem z_ok : okW 0 = false := by decide
theorem u64_0 : U64 0 := ⟨by omega, by omega⟩
theorem en_new (w : World) (h o t f l : Int) : Kws en5 (w.alloc (.cells #[.int .u64 h, .int .i64 o, .int .i64 t, .int .i64 f, .int .i64 l] 44)) (w.heap.size + 1) (some ⟨w.heap.size, 0, none⟩) 1 1 [⟨h, o, t, f, l⟩] :=
  Kws.new (E := en5) w [⟨h, o, t, f, l⟩] _ _ 1 rfl rfl (by unfold maxLen; omega)
theorem liveT_any (w : World) (c : Nat → Nat) (k p N : Nat) (t : Ht) (H : Htb w c k p t) (hW : t.Wf N) (hN : N ≤ 4096) :
    Calls Try.prog 60 #[.pointer (some ⟨p, 0, none⟩)] w (EnL w t.all) := by
  obtain ⟨A, n, cap, d, q, q0, q1, hk, hS⟩ := Inn.cells H
  obtain ⟨i0, hi, hz0, hz1, hz2⟩ := info_parts infoEn
  have hn : n = N := by have := hk.len; rw [Ht.pe_len, hW.el] at this; omega
  subst hn
  have hcap := hk.cap
  have hsm := hk.small
  unfold maxLen at hsm
  have HK := Lib.hid hk
  have HW := Lib.hid hW
  have HA : Hid (t.all = t.upto n) := Lib.hid (by unfold Ht.all; rw [hW.el])
  clear H hS hk hW
  go_enter Try.func60, Try.ntmps60
  go_wp2
  go_loopw [3, 13] (fun lv kv wr => ∃ i : Nat, i ≤ n ∧ kv = .int .i64 i ∧ ∃ A' n' c', lv = .slice A' n' c' ∧ Hid (OwnK en5 44 wr w.heap.size (.slice A' n' c') (t.upto i) ∧ Below w.heap.size w wr)) (fun _ kv _ => n - (intOf kv).toNat)
  case atStart => exact ⟨0, by omega, rfl, none, 0, 0, rfl, Lib.hid ⟨OwnK.nil _ _ _ _, Below.refl _ _⟩⟩
  case round =>
    obtain ⟨i, hin', rfl, A', n', c', rfl, hh⟩ := hrel
    have HO := Lib.hid hh.out.1
    have HB := Lib.hid hh.out.2
    clear hh
    by_cases hin : i < n
    · have hi1 : (i : Int) < (n : Int) := by omega
      obtain ⟨b, o, x, hx, rfl, hbb, g0, g1, g2, g3, g4⟩ := (HK.out.below HB.out).en_at hin
      have HX : Hid (x = if t.lv i = true then t.en i else En.z) := Lib.hid (by
        rw [Ht.pe_at (by rw [HW.out.el]; exact hin)] at hx
        exact (Option.some.inj hx).symm)
      have HUN := Lib.hid (Ht.upto_next (t := t) (n := i))
      have HLE := Lib.hid (Ht.upto_len (t := t) (n := i))
      have hwb := HB.out.size
      have HB1 := Lib.hid (HB.out.alloc hwb (.cells #[.int .u64 x.h, .int .i64 x.o, .int .i64 x.t, .int .i64 x.f, .int .i64 x.l] 44))
      have HO1 := Lib.hid (HO.out.alloc (.cells #[.int .u64 x.h, .int .i64 x.o, .int .i64 x.t, .int .i64 x.f, .int .i64 x.l] 44))
      have HE1 := Lib.hid (EnB.new (w := wr) (h := x.h) (o := x.o) (t := x.t) (f := x.f) (l := x.l))
      cases hlv : t.lv i
      · rw [hlv] at HX HUN
        have HV : Hid (∀ W, Calls Try.prog 65 #[.int .u64 x.h] W fun e w' => e = .returned (.bool false) ∧ W = w') := Lib.hid (fun W => by
          have e : x.h = 0 := by rw [HX.out]; rfl
          rw [e]
          have := valid_any 0 u64_0 W
          rwa [z_ok] at this)
        clear hx hbb hlv
        go_wp2_with fail
        generalize wr.alloc (.cells #[.int .u64 x.h, .int .i64 x.o, .int .i64 x.t, .int .i64 x.f, .int .i64 x.l] 44) = w1 at *
        refine (HV.out _).mono ?_
        rintro e w2 ⟨rfl, rfl⟩
        go_wp2
        go_roundw
        case rel => exact ⟨i + 1, by omega, by go_num, _, _, _, rfl, Lib.hid ⟨by rw [HUN.out]; simpa using HO1.out, HB1.out⟩⟩
        case measure => simp [intOf]; omega
      · rw [hlv, if_pos rfl] at HX
        rw [hlv, if_pos rfl] at HUN
        obtain ⟨v1, v2, v3⟩ := HW.out.valid (by omega) hlv
        have HV : Hid (∀ W, Calls Try.prog 65 #[.int .u64 x.h] W fun e w' => e = .returned (.bool true) ∧ W = w') := Lib.hid (fun W => by
          rw [HX.out]
          have := valid_any _ v2 W
          rwa [v1] at this)
        have hwz : (wr.alloc (.cells #[.int .u64 x.h, .int .i64 x.o, .int .i64 x.t, .int .i64 x.f, .int .i64 x.l] 44)).heap.size = wr.heap.size + 1 := by simp
        clear hx hbb hlv v1 v2 v3
        go_wp2_with fail
        generalize wr.alloc (.cells #[.int .u64 x.h, .int .i64 x.o, .int .i64 x.t, .int .i64 x.f, .int .i64 x.l] 44) = w1 at *
        refine (HV.out _).mono ?_
        rintro e w2 ⟨rfl, rfl⟩
        obtain ⟨c0, c1, c2, c3, c4⟩ := HE1.out.cells
        have HO2 := Lib.hid (HO1.out.alloc (.cells #[.int .u64 x.h, .int .i64 x.o, .int .i64 x.t, .int .i64 x.f, .int .i64 x.l] 44))
        have HY2 := Lib.hid (en_new w1 x.h x.o x.t x.f x.l)
        rw [hwz] at HY2
        have HB2 := Lib.hid (HB1.out.alloc (by omega) (.cells #[.int .u64 x.h, .int .i64 x.o, .int .i64 x.t, .int .i64 x.f, .int .i64 x.l] 44))
        go_wp2_with (at_builtin; go_must (refine wpList_appK _ rfl (.tmp 20) (.tmp 22) 55 rfl Try.underlying55 hi hz0 rfl hz1 (by omega) HO2.out rfl HY2.out rfl (by have := HLE.out; omega) (by simp; omega) ?_); intro v3 w3 ho3 hb3 hg3; obtain ⟨A3, n3, c3, rfl, hx3⟩ := ho3.shape; have HO3 := Lib.hid ho3; have HB3 := Lib.hid (HB2.out.trans hb3); clear ho3 hb3 hg3 hx3)
        go_roundw
        case rel => exact ⟨i + 1, by omega, by go_num, _, _, _, rfl, Lib.hid ⟨by rw [HUN.out, ← HX.out]; exact HO3.out, HB3.out⟩⟩
        case measure => simp [intOf]; omega
    · obtain rfl : i = n := by omega
      have hii : ¬ (i : Int) < (i : Int) := by omega
      go_wp2
      go_ret
      exact ⟨_, rfl, by rw [HA.out]; exact HO.out, HB.out⟩
theorem Ht.lv_at {t : Ht} {N i : Nat} (H : t.Wf N) (hi : i < N) : t.s.live[i]? = some (t.lv i) := by
  unfold Ht.lv
  rw [List.getD_eq_getElem?_getD, List.getElem?_eq_getElem (by rw [H.gs.ll]; exact hi)]
  rfl
theorem allM_any (w : World) (c : Nat → Nat) (k p N : Nat) (t : Ht) (H : Hmb w c k p t) (hW : t.Wf N) (hN : N ≤ 4096) :
    Calls Try.prog 31 #[.pointer (some ⟨p, 0, none⟩)] w (EnL w t.all) := by
  obtain ⟨A, n, cap, d, q, q0, q1, hk, hS⟩ := Inn.cells H
  obtain ⟨A1, n1, c1, A2, n2, c2, A3, n3, c3, _, _, s2, _, _, _, k2, _⟩ := hS.cells
  obtain ⟨i0, hi, hz0, hz1, hz2⟩ := info_parts infoEn
  have hn : n = N := by have := hk.len; rw [hW.el] at this; omega
  subst hn
  have hn2 : n2 = n := by have := k2.len; rw [hW.gs.ll] at this; omega
  subst hn2
  have hcap := hk.cap
  have hsm := hk.small
  have hcap2 := k2.cap
  have hsm2 := k2.small
  unfold maxLen at hsm hsm2
  have HK := Lib.hid hk
  have HK2 := Lib.hid k2
  have HW := Lib.hid hW
  have HA : Hid (t.all = t.upto n2) := Lib.hid (by unfold Ht.all; rw [hW.el])
  have hp := lt_of_some q0
  have hp1 := lt_of_some q1
  have hp2 := lt_of_some s2
  clear H hS hk hW k2
  go_enter Try.func31, Try.ntmps31
  go_wp2
  go_loopw [3, 4] (fun lv kv wr => ∃ i : Nat, i ≤ n2 ∧ kv = .int .i64 i ∧ ∃ A' n' c', lv = .slice A' n' c' ∧ Hid (OwnK en5 44 wr w.heap.size (.slice A' n' c') (t.upto i) ∧ Below w.heap.size w wr)) (fun _ kv _ => n2 - (intOf kv).toNat)
  case atStart => exact ⟨0, by omega, rfl, none, 0, 0, rfl, Lib.hid ⟨OwnK.nil _ _ _ _, Below.refl _ _⟩⟩
  case round =>
    obtain ⟨i, hin', rfl, A', n', c', rfl, hh⟩ := hrel
    have HO := Lib.hid hh.out.1
    have HB := Lib.hid hh.out.2
    have r0 := (hh.out.2.cell (p := ⟨p, 0, none⟩) hp).trans q0
    have r1 := (hh.out.2.cell (p := ⟨p, 1, none⟩) hp1).trans q1
    have r2 := (hh.out.2.cell (p := ⟨q, 2, none⟩) hp2).trans s2
    clear hh
    by_cases hin : i < n2
    · have hi1 : (i : Int) < (n2 : Int) := by omega
      obtain ⟨b, o, x, hx, rfl, hbb, g0, g1, g2, g3, g4⟩ := (HK.out.below HB.out).en_at hin
      obtain ⟨b2, o2, y, hy, rfl, hbb2, g5⟩ := (HK2.out.below HB.out).bool_at hin
      obtain rfl : y = t.lv i := by
        rw [Ht.lv_at HW.out hin] at hy
        exact (Option.some.inj hy).symm
      have HX : Hid (x = t.en i) := Lib.hid (by
        rw [Ht.en_at (by rw [HW.out.el]; exact hin)] at hx
        exact (Option.some.inj hx).symm)
      have HUN := Lib.hid (Ht.upto_next (t := t) (n := i))
      have HLE := Lib.hid (Ht.upto_len (t := t) (n := i))
      have hwb := HB.out.size
      cases hlv : t.lv i
      · rw [hlv] at HUN g5
        clear hx hbb hlv hy hbb2
        go_wp2
        go_roundw
        case rel => exact ⟨i + 1, by omega, by go_num, _, _, _, rfl, Lib.hid ⟨by rw [HUN.out]; simpa using HO.out, HB.out⟩⟩
        case measure => simp [intOf]; omega
      · rw [hlv, if_pos rfl] at HUN
        rw [hlv] at g5
        have HO2 := Lib.hid (HO.out.alloc (.cells #[.int .u64 x.h, .int .i64 x.o, .int .i64 x.t, .int .i64 x.f, .int .i64 x.l] 44))
        have HY2 := Lib.hid (en_new wr x.h x.o x.t x.f x.l)
        have HB2 := Lib.hid (HB.out.alloc hwb (.cells #[.int .u64 x.h, .int .i64 x.o, .int .i64 x.t, .int .i64 x.f, .int .i64 x.l] 44))
        clear hx hbb hlv hy hbb2
        go_wp2_with (at_builtin; go_must (refine wpList_appK _ rfl (.tmp 24) (.tmp 32) 55 rfl Try.underlying55 hi hz0 rfl hz1 (by omega) HO2.out rfl HY2.out rfl (by have := HLE.out; omega) (by simp; omega) ?_); intro v3 w3 ho3 hb3 hg3; obtain ⟨A3, n3, c3, rfl, hx3⟩ := ho3.shape; have HO3 := Lib.hid ho3; have HB3 := Lib.hid (HB2.out.trans hb3); clear ho3 hb3 hg3 hx3)
        go_roundw
        case rel => exact ⟨i + 1, by omega, by go_num, _, _, _, rfl, Lib.hid ⟨by rw [HUN.out, ← HX.out]; exact HO3.out, HB3.out⟩⟩
        case measure => simp [intOf]; omega
    · obtain rfl : i = n2 := by omega
      have hii : ¬ (i : Int) < (i : Int) := by omega
      go_wp2
      go_ret
      exact ⟨_, rfl, by rw [HA.out]; exact HO.out, HB.out⟩
end Go.Proofs.Ytaoojgnkbcoggaa
