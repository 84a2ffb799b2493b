/-
  Contract of the model's End. Conditions: at most a million slots.
-/
import Derived.Test.YtaoojgnkbcoggaaGmi
namespace Go.Proofs.Ytaoojgnkbcoggaa
open Go.ChangeShapes Go.WideShapes Go.RowKit
set_option linter.unusedVariables false
set_option maxHeartbeats 4000000
set_option maxRecDepth 100000

def EnM (w : World) (c : Nat → Nat) (k m : Nat) (s : Gs) (x : Int) (e : Ending) (w' : World) : Prop :=
  e = .returned (.int .i64 (s.endV x)) ∧ Mgs w' (rc c w.heap.size k) k m (s.endN x) ∧ Kept c k w w'
theorem endM_any (w : World) (c : Nat → Nat) (k m N : Nat) (s : Gs) (x : Int) (h : Mgs w c k m s) (hW : s.Wf N) (hN : N ≤ 1000000) :
    Calls Try.prog 45 #[.pointer (some ⟨m, 0, none⟩), .int .i64 x] w (EnM w c k m s x) := by
  obtain ⟨i0, hi, hz0, hz1, hz2⟩ := info_parts infoI
  have HO := Lib.hid (ofM_any w c k m s x h (by rw [hW.gl, hW.ll]))
  have HM := Lib.hid h
  unfold EnM
  cases hx : (s.of x).2
  · have hv : s.endV x = 6 := if_neg (by rw [hx]; simp)
    have hs : s.endN x = s := if_neg (by rw [hx]; simp)
    rw [hv, hs]
    rw [hx] at HO
    clear h hW hi hz0 hv hs hx
    go_enter Try.func45, Try.ntmps45
    go_wp2_with fail
    refine HO.out.mono ?_
    rintro e w2 ⟨rfl, rfl⟩
    go_wp2
    go_ret
    exact ⟨rfl, HM.out.kept (j := k + 1) (Kept.refl) (by omega) (fun _ hg => rc_old hg), Kept.refl⟩
  · obtain ⟨hx0, hlv, hof⟩ := Gs.of_live hx
    obtain ⟨j, rfl⟩ : ∃ j : Nat, x = (j : Int) := ⟨x.toNat, by omega⟩
    rw [Int.toNat_natCast] at hlv hof
    have hj : j < N := by rw [← hW.ll]; exact (List.getElem?_eq_some_iff.1 hlv).1
    have hjg : j < s.gen.length := by rw [hW.gl]; exact hj
    have hv : s.endV (j : Int) = 0 := if_pos hx
    have hs : s.endN (j : Int) = if s.gen.getD j 0 = 4294967295 then { s with live := s.live.set j false, gone := s.gone + 1 } else { s with live := s.live.set j false, free := s.free ++ [(j : Int)] } := by
      unfold Gs.endN
      rw [if_pos hx, Int.toNat_natCast]
    rw [hx, hof] at HO
    have hfl : s.free.length ≤ N := by have h1 := hW.ct; have h2 := hW.g0; omega
    have hgo : 0 ≤ s.gone ∧ s.gone ≤ 1000000 := by have h1 := hW.ct; have h2 := hW.g0; omega
    obtain ⟨g2, cap2, b1, b2, b3, b4, b5, b6, b7⟩ := h.liveAt hlv false
    unfold maxLen at b3
    have HM1 := Lib.hid b6
    have HK1 := Lib.hid b7
    obtain ⟨g, cap, a1, a2, a3, a4, _, _, _⟩ := HM1.out.genAt (i := j) hjg 0
    unfold maxLen at a3
    simp only at a1 a4
    obtain ⟨A1, n1, c1, A2, n2, c2, A3, n3, c3, _, _, _, q3, q4, _, _, k3⟩ := HM1.out.cells
    simp only at q4 k3
    rw [hW.gl] at a1 a2
    rw [hW.ll] at b1 b2
    rw [hv, hs]
    have hjN : (j : Int) < (N : Int) := by omega
    have HN3 : Hid (n3 = s.free.length) := Lib.hid k3.len.symm
    by_cases hg : s.gen.getD j 0 = 4294967295
    · obtain ⟨f4, hM2, hK2⟩ := HM1.out.goneAt (s.gone + 1)
      have HM2 := Lib.hid hM2
      have HK2 := Lib.hid hK2
      rw [if_pos hg]
      rw [hg] at HO a4
      clear h hW b6 b7 hM2 hK2 hv hs hx hof k3 hi hz0
      go_enter Try.func45, Try.ntmps45
      go_wp2_with fail
      refine HO.out.mono ?_
      rintro e w2 ⟨rfl, rfl⟩
      go_wp2
      go_ret
      exact ⟨rfl, HM2.out.kept (j := k + 1) (Kept.refl) (by omega) (fun q hq => rc_old (by simpa [World.setCell] using hq)), HK1.out.trans HK2.out⟩
    · have HZ1 : Hid ((w.setCell ⟨g2, j, none⟩ (.bool false)).heap.size = w.heap.size) := Lib.hid (by simp [World.setCell])
      have HI := Lib.hid hi
      have HZ := Lib.hid hz0
      have hgb : (s.gen.getD j 0 == 4294967295) = false := by simpa using hg
      have HFL := Lib.hid hfl
      rw [if_neg hg]
      clear h hW b6 b7 hv hs hx hof hi hz0
      generalize s.gen.getD j 0 = gv at *
      go_enter Try.func45, Try.ntmps45
      go_wp2_with fail
      refine HO.out.mono ?_
      rintro e w2 ⟨rfl, rfl⟩
      have hz1' := HZ1.out
      have hba : Below w.heap.size (w.setCell ⟨g2, j, none⟩ (.bool false)) ((w.setCell ⟨g2, j, none⟩ (.bool false)).alloc (.cells #[] 3)) := (Below.refl _ _).alloc (by omega) _
      have HBA := Lib.hid hba
      have ho1 : OwnK int1 3 ((w.setCell ⟨g2, j, none⟩ (.bool false)).alloc (.cells #[] 3)) w.heap.size (.slice (some ⟨(w.setCell ⟨g2, j, none⟩ (.bool false)).heap.size, 0, none⟩) 0 0) [] := World.ownsRow_made _ #[] 0 (by omega) (Nat.zero_le _) rfl
      rw [hz1'] at ho1
      have HO1 := Lib.hid ho1
      have HK3 := Lib.hid (k3.alloc (.cells #[] 3))
      have q3' : ((w.setCell ⟨g2, j, none⟩ (.bool false)).alloc (.cells #[] 3)).cell? ⟨m, 3, none⟩ = some (.slice A3 n3 c3) := cell_under q3 _
      have hsz : ((w.setCell ⟨g2, j, none⟩ (.bool false)).alloc (.cells #[] 3)).heap.size = w.heap.size + 1 := by simp [World.setCell]
      clear k3 hba ho1 HM
      go_wp2_with (at_builtin; go_must (first
        | (refine wpList_appK _ rfl (.tmp 37) (.tmp 41) 67 rfl Try.underlying67 HI.out HZ.out rfl hz1 (by omega) HO1.out rfl HK3.out rfl (by have := HN3.out; have := HFL.out; simp <;> omega) (by omega) ?_
           intro v12 w12 ho12 hb12 hg12
           rw [List.nil_append] at ho12
           obtain ⟨A12, n12, c12, rfl, hx12⟩ := ho12.shape
           have HB12 := Lib.hid (HBA.out.trans hb12)
           have HO12 := Lib.hid (ho12.alloc (.cells #[.int .i64 (j : Int)] 3))
           have HY12 : Hid (Kws int1 (w12.alloc (.cells #[.int .i64 (j : Int)] 3)) (w12.heap.size + 1) (some ⟨w12.heap.size, 0, none⟩) 1 1 [(j : Int)]) := Lib.hid (Kws.new (E := int1) w12 [(j : Int)] _ _ 1 rfl rfl (by unfold maxLen; omega))
           have hz12 := HB12.out.size
           clear ho12 hb12 hg12 hx12)
        | (refine wpList_appK _ rfl (.tmp 42) (.tmp 44) 67 rfl Try.underlying67 HI.out HZ.out rfl hz1 (by omega) HO12.out rfl HY12.out rfl (by have := HFL.out; omega) (by simp; omega) ?_
           intro v14 w14 ho14 hb14 hg14
           obtain ⟨A14, n14, c14, rfl, hx14⟩ := ho14.shape
           have hbe := (HB12.out.alloc (by omega) (.cells #[.int .i64 (j : Int)] 3)).trans hb14
           have HF := Lib.hid (HM1.out.freeAt (by rw [HZ1.out]; exact hbe) (by rw [HZ1.out]; exact ho14))
           have f3 := HF.out.1
           have q4'' : w14.cell? ⟨m, 3, none⟩ = some (.slice A3 n3 c3) := ((by rw [HZ1.out]; exact hbe : Below (w.setCell ⟨g2, j, none⟩ (.bool false)).heap.size (w.setCell ⟨g2, j, none⟩ (.bool false)) w14).cell (p := ⟨m, 3, none⟩) HM1.out.lt).trans q3
           clear ho14 hb14 hg14 hx14 hbe)))
      go_ret
      rw [HZ1.out] at HF
      exact ⟨rfl, HF.out.2.1, HK1.out.trans HF.out.2.2⟩
end Go.Proofs.Ytaoojgnkbcoggaa
