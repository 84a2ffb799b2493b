/-
  The law ExtentsBack as a walk: it returns true and changes nothing that was there. No conditions.
-/
import Derived.Test.YtolfcoaipcaoaaaAwake
import Derived.Test.YtolfcoaipcaoaaaSetLaw
namespace Go.Proofs.Ytolfcoaipcaoaaa
open Go.ChangeShapes Go.WideShapes Go.ChangeAt Go.RowKit
set_option maxHeartbeats 1600000
set_option maxRecDepth 100000

theorem extentsBack_walk (a0 : Option Addr) (n0 c0 : Nat) (z0 : List Int) (a b : Int) (w : World)
    (h0 : IsRow .u16 w a0 n0 c0 z0) (h1 : (Lit.int .u8 a).wf = true) (h2 : (Lit.int .u8 b).wf = true) :
    Calls Try.prog 8 #[.slice a0 n0 c0, .int .u8 a, .int .u8 b] w fun e w' => e = .returned (.bool true) ∧ Below w.heap.size w w' := by
  obtain ⟨hr, hf⟩ := h0.row
  obtain ⟨a1, a2⟩ := byte_bd h1
  obtain ⟨b1, b2⟩ := byte_bd h2
  have HS := Lib.hid (set_any a0 n0 c0 _ w hr hf)
  have HV := Lib.hid (set_va (z0.take n0))
  have HLN := Lib.hid (set_len (z0.take n0))
  generalize mkSet (z0.take n0) = s at *
  clear h0 h1 h2 hr hf
  have x1 : 0 < 1 + b % 9 := by omega
  have x2 : 1 + b % 9 ≤ 9 := by omega
  go_enter Try.func8, Try.ntmps8
  go_wp2_with fail
  refine HS.out.mono ?_
  rintro e w1 ⟨v, rfl, ho, hb⟩
  obtain ⟨A1, n1, cc1, rfl, hx⟩ := ho.shape
  have hn1 : n1 ≤ 12 := by have := hx.len; have := HLN.out; omega
  have HB1 := Lib.hid hb
  have HX1 := Lib.hid hx
  clear HS ho hb hx
  go_wp2_with fail
  generalize 1 + b % 9 = lb at *
  have hb2 : Below w1.heap.size w1 (w1.alloc (.cells #[.int .i64 a, .int .i64 lb] 31)) := (Below.refl _ _).alloc (Nat.le_refl _) _
  have HE1 := Lib.hid (Box.new (w := w1) (x := a) (y := lb))
  have HX1 := Lib.hid (HX1.out.go hb2)
  have HB2 := Lib.hid (Below.then HB1.out hb2 (Nat.le_refl _))
  generalize w1.alloc (.cells #[.int .i64 a, .int .i64 lb] 31) = w2 at *
  clear hb2 HB1
  have PX : Hid (Pr a lb) := Lib.hid ⟨by omega, by omega, by omega⟩
  refine (insert_any A1 n1 cc1 s a lb w2 HX1.out (by omega) (by omega) (by omega) (by omega) (by omega)).mono ?_
  rintro e wk1 ⟨v, rfl, ho, hb⟩
  obtain ⟨AP, nP, cP, rfl, hx⟩ := ho.shape
  have HP := Lib.hid hx
  have HX1 := Lib.hid (HX1.out.go hb); have HE1 := Lib.hid (HE1.out.go hb); have HBk1 := Lib.hid (Below.then HB2.out hb (Nat.le_refl _))
  clear ho hb hx
  have f0 := HE1.out.cell0
  have f1 := HE1.out.cell1
  have hnP : nP ≤ 13 := by have := HP.out.len; have := insR_len' (l := s) (e := (a, lb)); have := HLN.out; omega
  by_cases fx : Free s (a, lb)
  · have HPX := Lib.hid (insR_free HV.out PX.out fx)
    have HBK := Lib.hid (back_ins HV.out PX.out fx)
    have HVA : Hid (vaB (ins s (a, lb)) = true) := Lib.hid (vaB_yes (ins_valid HV.out PX.out fx))
    have HTA : Hid (tot 0 (ins s (a, lb)) = tot 0 s + lb) := Lib.hid (by rw [(tot_valid (ins_valid HV.out PX.out fx)).1, (tot_valid HV.out).1, ins_sm])
    have ht0 : 0 ≤ tot 0 s := by rw [(tot_valid HV.out).1]; exact (tot_valid HV.out).2.1
    have ht1 : tot 0 s ≤ 1048577 := by rw [(tot_valid HV.out).1]; exact (tot_valid HV.out).2.2
    rw [HPX.out] at HP
    rw [HPX.out]
    simp only at HP
    generalize ins s (a, lb) = sp at *
    clear fx HPX
    go_wp2_with fail
    refine (remove_any AP nP cP sp a lb wk1 HP.out (by omega) (by omega) (by omega) (by omega) (by omega)).mono ?_
    rintro e wk2 ⟨v, rfl, ho, hb⟩
    obtain ⟨AQ, nQ, cQ, rfl, hx⟩ := ho.shape
    have HQ := Lib.hid hx
    have HX1 := Lib.hid (HX1.out.go hb); have HE1 := Lib.hid (HE1.out.go hb); have HP := Lib.hid (HP.out.go hb); have HBk2 := Lib.hid (Below.then HBk1.out hb (Nat.le_refl _))
    clear ho hb hx
    rw [HBK.out] at HQ
    rw [HBK.out]
    simp only at HQ
    clear f0 f1 HBK
    have C1 := Lib.hid (fun m : Later wk2 => Calls.later (v := .bool true) (same_yes _ _ _ _ _ _ s m.val (HQ.out.go m.2) (HX1.out.go m.2)))
    have C2 := Lib.hid (fun m : Later wk2 => Calls.later (v := .bool (vaB sp)) (valid_any _ _ _ sp m.val (HP.out.go m.2) (by omega)))
    rw [HVA.out] at C2
    have C3 := Lib.hid (fun m : Later wk2 => Calls.later (v := .int .i64 (tot 0 sp)) (total_any _ _ _ sp m.val (HP.out.go m.2) (by omega)))
    rw [HTA.out] at C3
    have C4 := Lib.hid (fun m : Later wk2 => Calls.later (v := .int .i64 (tot 0 s)) (total_any _ _ _ s m.val (HX1.out.go m.2) (by omega)))
    generalize tot 0 s = ts at *
    have d0 : ∀ m : Later wk2, m.val.cell? ⟨w1.heap.size, 1, none⟩ = some (.int .i64 lb) := fun m => later_old m HE1.out.cell1
    have s1 : IntKind.i64.wrap (ts + lb) = ts + lb := IntWalk.i64_in _ (by omega)
    clear HTA HVA
    go_wp2
    refine wp_region_later (by kernel_rfl) (by kernel_rfl) ?_
    repeat (go_big_quiet_step (first | (go_at_call 13; exact Calls.later (awake_any _)) | (go_at_call 23; with_reducible exact C1.out _) | (go_at_call 15; with_reducible exact C2.out _) | (go_at_call 19; with_reducible exact C3.out _) | (go_at_call 19; with_reducible exact C4.out _)))
    refine wpQuiet_nil ?_
    rintro wq ⟨⟨_, hq⟩, rfl⟩
    go_wp2
    go_ret
    exact ⟨rfl, Below.then HBk2.out hq (Nat.le_refl _)⟩
  · have HPX := Lib.hid (insR_not HV.out PX.out fx)
    rw [HPX.out]
    go_wp2_with fail
    refine (remove_any A1 n1 cc1 s a lb wk1 HX1.out (by omega) (by omega) (by omega) (by omega) (by omega)).mono ?_
    rintro e wk2 ⟨v, rfl, ho, hb⟩
    obtain ⟨AQ, nQ, cQ, rfl, hx⟩ := ho.shape
    have HQ := Lib.hid hx
    have HX1 := Lib.hid (HX1.out.go hb); have HE1 := Lib.hid (HE1.out.go hb); have HBk2 := Lib.hid (Below.then HBk1.out hb (Nat.le_refl _))
    clear ho hb hx
    clear f0 f1
    have f0 := HE1.out.cell0
    have f1 := HE1.out.cell1
    have hnQ : nQ ≤ 24 := by
      have h1 := HQ.out.len
      have h2 := rem_len (l := s) (e := (a, lb))
      have h3 := HLN.out
      unfold remR at h1
      split at h1
      · split at h1
        · simp only at h1; omega
        · simp at h1; omega
      · simp at h1; omega
    by_cases hh : Has s (a, lb)
    · have HQX := Lib.hid (remR_has HV.out PX.out hh)
      have HBK := Lib.hid (back_rem HV.out PX.out hh)
      rw [HQX.out] at HQ
      rw [HQX.out]
      simp only at HQ
      generalize rem s (a, lb) = sq at *
      go_wp2_with fail
      refine (insert_any AQ nQ cQ sq a lb wk2 HQ.out (by omega) (by omega) (by omega) (by omega) (by omega)).mono ?_
      rintro e wk3 ⟨v, rfl, ho, hb⟩
      obtain ⟨AD, nD, cD, rfl, hx⟩ := ho.shape
      have HD := Lib.hid hx
      have HX1 := Lib.hid (HX1.out.go hb); have HE1 := Lib.hid (HE1.out.go hb); have HQ := Lib.hid (HQ.out.go hb); have HBk3 := Lib.hid (Below.then HBk2.out hb (Nat.le_refl _))
      clear ho hb hx
      rw [HBK.out] at HD
      rw [HBK.out]
      simp only at HD
      clear f0 f1
      go_wp2_with fail
      refine (awake_any wk3).mono ?_
      rintro e wk4 ⟨rfl, hb⟩
      have HD := Lib.hid (HD.out.go hb); have HX1 := Lib.hid (HX1.out.go hb); have HBk4 := Lib.hid (Below.then HBk3.out hb (Nat.le_refl _))
      clear hb
      go_wp2_with fail
      refine (same_yes _ _ _ _ _ _ s wk4 HD.out HX1.out).mono ?_
      rintro e wk5 ⟨rfl, hb⟩
      have HD := Lib.hid (HD.out.go hb); have HX1 := Lib.hid (HX1.out.go hb); have HBk5 := Lib.hid (Below.then HBk4.out hb (Nat.le_refl _))
      clear hb
      go_wp2
      go_ret
      exact ⟨rfl, HBk5.out⟩
    · have HQX := Lib.hid (remR_not HV.out PX.out hh)
      rw [HQX.out]
      go_wp2_with fail
      refine (awake_any wk2).mono ?_
      rintro e wk3 ⟨rfl, hb⟩
      have HBk3 := Lib.hid (Below.then HBk2.out hb (Nat.le_refl _))
      clear hb
      go_wp2
      go_ret
      exact ⟨rfl, HBk3.out⟩
end Go.Proofs.Ytolfcoaipcaoaaa
