/-
  The law ExtentsOffsets as a walk: it returns true and changes nothing that was there. No conditions.
-/
import Derived.Test.YtolfcoaipcaoaaaAwake
import Derived.Test.YtolfcoaipcaoaaaSetLaw
import Derived.Test.YtolfcoaipcaoaaaSeq
import Derived.Test.YtolfcoaipcaoaaaAsc
namespace Go.Proofs.Ytolfcoaipcaoaaa
open Go.ChangeShapes Go.WideShapes Go.ChangeAt Go.RowKit Go.Shelf
attribute [local go_sem] Oper.semAt_some
set_option maxHeartbeats 3200000
set_option maxRecDepth 100000

theorem extentsOffsets_walk (a0 : Option Addr) (n0 c0 : Nat) (z0 : List Int) (a1 : Option Addr) (n1 c1 : Nat) (l : List (Int × Int)) (stop : Int) (w : World)
    (h0 : IsRow .u16 w a0 n0 c0 z0) (h1 : IsExs w a1 n1 c1 l) (h2 : (Lit.int .u8 stop).wf = true) :
    Calls Try.prog 10 #[.slice a0 n0 c0, .slice a1 n1 c1, .int .u8 stop] w fun e w' => e = .returned (.bool true) ∧ Below w.heap.size w w' := by
  obtain ⟨hr, hf⟩ := h0.row
  obtain ⟨b1, b2⟩ := byte_bd h2
  have hb0 : Below w.heap.size w ((w.alloc (.cells #[.int .u8 stop] 5)).alloc (.cells #[.bool false] 4)) := ((Below.refl _ _).alloc (Nat.le_refl _) _).alloc (by simp) _
  have HR := Lib.hid (hr.go hb0)
  have HF := Lib.hid hf
  have HL := Lib.hid (Exs.go h1 hb0)
  have HB0 := Lib.hid hb0
  have hcap := h1.cap
  have hsm := h1.small
  unfold maxLen at hsm
  have HV := Lib.hid (set_va (z0.take n0))
  have HLN := Lib.hid (set_len (z0.take n0))
  have C5 := Lib.hid ((Cel.new (w := w) (t := 5) (v := .int .u8 stop)).go ((Below.refl _ _).alloc (Nat.le_refl _) (.cells #[.bool false] 4)))
  have C6 := Lib.hid (Cel.new (w := w.alloc (.cells #[.int .u8 stop] 5)) (t := 4) (v := .bool false))
  rw [show (w.alloc (.cells #[.int .u8 stop] 5)).heap.size = w.heap.size + 1 by simp] at C6
  clear h0 h1 h2 hr hf hb0
  refine (callsIn_wide (n := 6)).1 ?_
  refine callsIn_of_wp_marks Try.func10 rfl trivial ?_ rfl
  refine wpIn_wide.2 ?_
  simp only [Try.ntmps10, List.size_toArray, List.length_cons, List.length_nil, Nat.reduceAdd, Nat.reduceSub, Array.replicate_succ, Array.replicate_zero, List.push_toArray, List.append_toArray, List.nil_append, List.cons_append]
  go_wp2_with fail
  generalize (w.alloc (.cells #[.int .u8 stop] 5)).alloc (.cells #[.bool false] 4) = w0 at *
  refine (awake_any w0).mono ?_
  rintro e wk1 ⟨rfl, hb⟩
  have HR := Lib.hid (HR.out.go hb); have HL := Lib.hid (HL.out.go hb); have C5 := Lib.hid (C5.out.go hb); have C6 := Lib.hid (C6.out.go hb); have HBk1 := Lib.hid (Below.then HB0.out hb (Nat.le_refl _))
  clear hb
  go_wp2_with fail
  refine (few_any a1 n1 c1 _).mono ?_
  rintro e wf ⟨rfl, rfl⟩
  by_cases hn : n1 ≤ 20
  · rw [decide_eq_true hn]
    go_wp2_with fail
    refine (set_any a0 n0 c0 _ wk1 HR.out HF.out).mono ?_
    rintro e wk2 ⟨v, rfl, ho, hb⟩
    obtain ⟨AS, nS, cS, rfl, hx⟩ := ho.shape
    have HS := Lib.hid hx
    have HR := Lib.hid (HR.out.go hb); have HL := Lib.hid (HL.out.go hb); have C5 := Lib.hid (C5.out.go hb); have C6 := Lib.hid (C6.out.go hb); have HBk2 := Lib.hid (Below.then HBk1.out hb (Nat.le_refl _))
    clear ho hb hx
    have hnS : nS ≤ 12 := by have := HS.out.len; have := HLN.out; omega
    generalize mkSet (z0.take n0) = s at *
    have hb7 : Below wk2.heap.size wk2 (((wk2.alloc (.cells #[.slice AS nS cS] 22)).alloc (.cells #[.int .i64 (-1)] 3)).alloc (.cells #[.int .i64 0] 3)) := (((Below.refl _ _).alloc (Nat.le_refl _) _).alloc (by simp) _).alloc (by simp; omega) _
    have C7 := Lib.hid ((((Cel.new (w := wk2) (t := 22) (v := .slice AS nS cS)).go ((Below.refl _ _).alloc (Nat.le_refl _) (.cells #[.int .i64 (-1)] 3)))).go ((Below.refl _ _).alloc (Nat.le_refl _) (.cells #[.int .i64 0] 3)))
    have C8 := Lib.hid ((Cel.new (w := wk2.alloc (.cells #[.slice AS nS cS] 22)) (t := 3) (v := .int .i64 (-1))).go ((Below.refl _ _).alloc (Nat.le_refl _) (.cells #[.int .i64 0] 3)))
    have C9 := Lib.hid (Cel.new (w := (wk2.alloc (.cells #[.slice AS nS cS] 22)).alloc (.cells #[.int .i64 (-1)] 3)) (t := 3) (v := .int .i64 0))
    rw [show (wk2.alloc (.cells #[.slice AS nS cS] 22)).heap.size = wk2.heap.size + 1 by simp] at C8
    rw [show ((wk2.alloc (.cells #[.slice AS nS cS] 22)).alloc (.cells #[.int .i64 (-1)] 3)).heap.size = wk2.heap.size + 1 + 1 by simp] at C9
    have HS7 := Lib.hid (HS.out.go hb7); have HB7 := Lib.hid hb7
    have HZ7 : Hid ((((wk2.alloc (.cells #[.slice AS nS cS] 22)).alloc (.cells #[.int .i64 (-1)] 3)).alloc (.cells #[.int .i64 0] 3)).heap.size = wk2.heap.size + 3) := Lib.hid (by simp)
    go_wp2_with fail
    generalize (((wk2.alloc (.cells #[.slice AS nS cS] 22)).alloc (.cells #[.int .i64 (-1)] 3)).alloc (.cells #[.int .i64 0] 3)) = w7 at *
    clear hb7
    refine (offsets_yes AS nS cS s w7 HS7.out (by omega) HV.out).mono ?_
    rintro e w8 ⟨Bo, Ao, no, co, rfl, hco, hoo, hb8⟩
    have HB8 := Lib.hid (HB7.out.trans (hb8.mono HB7.out.size))
    have HI8 : Hid (Below wk2.heap.size wk2 w8 ∧ Cel w8 wk2.heap.size 22 (.slice AS nS cS) ∧ Cel w8 (wk2.heap.size + 1) 3 (.int .i64 (lastOf [])) ∧ Cel w8 (wk2.heap.size + 1 + 1) 3 (.int .i64 (([] : List Int).length : Int))) := Lib.hid ⟨HB8.out, C7.out.go hb8, C8.out.go hb8, C9.out.go hb8⟩
    have HW8 := Lib.hid hb8.size
    have HSQ := Lib.hid (offs_stops 5 w7.heap.size Bo Ao no co s w8 (by omega) HV.out (by have h1 := hoo.exs.len; have h2 := HS7.out.len; omega) hb8.size hco hoo)
    have HLEN := Lib.hid (offs_len HV.out)
    have HTOT := Lib.hid (tot_valid HV.out)
    clear hco hoo hb8 C7 C8 C9
    go_wp2
    refine (wpIn_wide (n := 6)).1 ?_
    refine' wpIn_rangeFunc_ownF rfl (by omega) (gf := 41) (lb := #[.pointer (some ⟨Bo, 0, none⟩)]) rfl trivial (enters_of Try.func41 (by kernel_rfl) rfl) HSQ.out Kp.t (Kp.b w8) (Below.refl _ _) (fun _ => rfl)
      (fun (pre : List Int) W => Below wk2.heap.size wk2 W ∧ Cel W wk2.heap.size 22 (.slice AS nS cS) ∧ Cel W (wk2.heap.size + 1) 3 (.int .i64 (lastOf pre)) ∧ Cel W (wk2.heap.size + 1 + 1) 3 (.int .i64 (pre.length : Int)))
      (fun _ pre _ => Bad s pre)
      (OwnFrom.and (ownFrom_below (Nat.le_refl _) HB8.out.size) (OwnFrom.and (cel_own _ _ _ _) (OwnFrom.and (cel_own _ _ _ (fun (pre : List Int) => .int .i64 (lastOf pre))) (cel_own _ _ _ (fun (pre : List Int) => .int .i64 (pre.length : Int))))))
      (fun _ => ownFrom_pure _ _)
      HI8.out _ ?assign ?body ?done ?stop
    case assign =>
      intro l x W K hK
      gi_wp2
      exact hK
    case body =>
      rintro l pre x W ⟨hB, c7, c8, c9⟩ hlen
      have HX := Lib.hid (HS.out.go hB)
      have HB := Lib.hid hB
      have H7 := Lib.hid c7
      have H8 := Lib.hid c8
      have H9 := Lib.hid c9
      have H6 := Lib.hid (C6.out.go hB)
      have HZ := Lib.hid HZ7.out
      have e7 := c7.cell
      have e8 := c8.cell
      have f8 := c8.fr
      have e9 := c9.cell
      have f9 := c9.fr
      have e6 := H6.out.cell
      have f6 := H6.out.fr
      have hct := HTOT.out.2.2
      have hln := HLEN.out
      have hpl : (pre.length : Int) < 1048577 := by omega
      have hpe : wrap64 ((pre.length : Int) + 1) = ((pre ++ [x]).length : Int) := by simp only [wrap64, List.length_append, List.length_cons, List.length_nil]; omega
      clear hB c7 c8 c9 hct hln hlen
      by_cases hx : x ≤ lastOf pre
      · have hxd : decide (x ≤ lastOf pre) = true := decide_eq_true hx
        gi_wp2
        refine ⟨trivial, ?_⟩
        gi_wp2
        exact ⟨KeepsOthers.setCell _ _ _, _, _, rfl, .inl hx⟩
      · have hxd : decide (x ≤ lastOf pre) = false := decide_eq_false hx
        gi_wp2
        refine ⟨trivial, (CallsIn.inRound l (callsIn_wide.2 (containsR_any AS nS cS s x _ HX.out (by omega)))).mono ?_⟩
        rintro e W2 ⟨rfl, hb2⟩
        clear e6 f6 e7 e8 f8 e9 f9
        have HB2 := Lib.hid hb2
        have H6 := Lib.hid (H6.out.go hb2)
        have H7 := Lib.hid (H7.out.go hb2)
        have H8 := Lib.hid (H8.out.go hb2)
        have H9 := Lib.hid (H9.out.go hb2)
        have e6 := H6.out.cell
        have f6 := H6.out.fr
        have f8 := H8.out.fr
        have e8 := H8.out.cell
        have e9 := H9.out.cell
        have f9 := H9.out.fr
        have HB := Lib.hid (HB.out.trans (hb2.mono HB.out.size))
        clear hb2
        by_cases hcn : cnt s x = true
        · rw [hcn]
          gi_wp2
          have hz := HZ7.out
          have hlp : ((pre ++ [x]).length : Int) = (pre.length : Int) + 1 := by simp
          refine ⟨(keepsOthers_below HB2.out).trans ((KeepsOthers.setCell _ _ _).trans (KeepsOthers.setCell _ _ _)), (Kp.below HB2.out).t ((Kp.set (by omega) _).t (Kp.set (by omega) _)), (HB.out.setCell (p := ⟨wk2.heap.size + 1, 0, none⟩) (by simp) _).setCell (p := ⟨wk2.heap.size + 1 + 1, 0, none⟩) (by simp; omega) _, (H7.out.other (by omega) _).other (by omega) _, ?_, ?_⟩
          · rw [lastOf_snoc]
            exact (H8.out.set _).other (by omega) _
          · rw [hlp]
            exact (H9.out.other (by omega) _).set _
        · rw [Bool.not_eq_true] at hcn
          have HCN := Lib.hid hcn
          rw [hcn]
          gi_wp2
          exact ⟨(keepsOthers_below HB2.out).trans (KeepsOthers.setCell _ _ _), _, _, rfl, .inr HCN.out⟩
    case done =>
      rintro D ys W hD rfl ⟨hB, c7, c8, c9⟩ hK
      have HKW := Lib.hid (show Df W D from hK)
      have HDw := Lib.hid (Nat.le_trans HB8.out.size hD)
      have HB := Lib.hid hB
      have H7W := Lib.hid c7
      have H9W := Lib.hid c9
      have HSWW := Lib.hid (HS.out.go hB)
      clear hK hD hB c7 c8 c9 HI8 HSQ HB8 HW8
      have ha : Below W.heap.size W (W.alloc (.cells #[.int .i64 0] 3)) := (Below.refl _ _).alloc (Nat.le_refl _) _
      have HA := Lib.hid ha
      have HSW := Lib.hid (HSWW.out.go ha)
      have HT := Lib.hid (Cel.new (w := W) (t := 3) (v := .int .i64 0))
      have e7 := (H7W.out.go ha).cell
      dsimp only
      go_wp2_with fail
      have HT9 : W.heap.size < (W.alloc (.cells #[.int .i64 0] 3)).heap.size := by simp
      generalize W.alloc (.cells #[.int .i64 0] 3) = w9 at *
      refine (offsets_yes AS nS cS s w9 HSW.out (by omega) HV.out).mono ?_
      rintro e w10 ⟨Bo2, Ao2, no2, co2, rfl, hco, hoo, hb8⟩
      have HT := Lib.hid (HT.out.go hb8)
      have HBa := Lib.hid (HA.out.trans (hb8.mono HA.out.size))
      have H6a := Lib.hid HB.out.size
      have HSQ := Lib.hid (offs_stops 5 w9.heap.size Bo2 Ao2 no2 co2 s w10 (by omega) HV.out (by have h1 := hoo.exs.len; have h2 := HSW.out.len; omega) hb8.size hco hoo)
      have HNW : Hid (W.heap.size < w9.heap.size) := Lib.hid HT9
      have HS2 : Hid (0 ≤ stop % 9 ∧ stop % 9 < 9) := Lib.hid (by omega)
      clear hco hoo hb8 ha e7
      go_wp2
      refine (wpIn_wide (n := 6)).1 ?_
      refine' wpIn_rangeFunc_ownF rfl (by omega) (gf := 41) (lb := #[.pointer (some ⟨Bo2, 0, none⟩)]) rfl trivial (enters_of Try.func41 (by kernel_rfl) rfl) HSQ.out Kp.t (Kp.b w10) (Below.refl _ _) (fun _ => rfl)
        (fun (pre : List Int) V => Below W.heap.size W V ∧ Cel V W.heap.size 3 (.int .i64 (pre.length : Int)) ∧ (pre.length : Int) ≤ stop % 9)
        (fun c (pre : List Int) V => c = .exit 2 ∧ Below W.heap.size W V ∧ Cel V W.heap.size 3 (.int .i64 (pre.length : Int)) ∧ (pre.length : Int) = stop % 9 + 1)
        (OwnFrom.and (ownFrom_below (Nat.le_refl _) HBa.out.size) (OwnFrom.and (cel_own _ _ _ (fun (pre : List Int) => .int .i64 (pre.length : Int))) (ownFrom_pure _ _)))
        (fun c => OwnFrom.and (ownFrom_pure _ (fun _ => c = .exit 2)) (OwnFrom.and (ownFrom_below (Nat.le_refl _) HBa.out.size) (OwnFrom.and (cel_own _ _ _ (fun (pre : List Int) => .int .i64 (pre.length : Int))) (ownFrom_pure _ _))))
        ⟨HBa.out, HT.out, HS2.out.1⟩ _ ?assign2 ?body2 ?done2 ?stop2
      case assign2 =>
        intro l x V K hK
        gi_wp2
        exact hK
      case body2 =>
        rintro l pre x V ⟨hB, ck, hle⟩ hlen
        have HBV := Lib.hid hB
        have HKV := Lib.hid ck
        have H5 := Lib.hid ((C5.out.go HB.out).go hB)
        have ek := ck.cell
        have fk := ck.fr
        have hne : w.heap.size ≠ W.heap.size := by have h1 := C5.out.lt; have h2 := HB.out.size; omega
        have e5 : (V.setCell ⟨W.heap.size, 0, none⟩ (.int .i64 ((pre.length : Int) + 1))).cell? ⟨w.heap.size, 0, none⟩ = some (.int .u8 stop) := (H5.out.other hne _).cell
        have HNE := Lib.hid hne
        have HLE := Lib.hid hle
        have hln := HS2.out
        have hpl : (pre.length : Int) < 10 := by omega
        clear hB ck hlen hle hln hne
        gi_wp2
        · have hs := HLE.out
          have hlp : ((pre ++ [x]).length : Int) = (pre.length : Int) + 1 := by simp
          refine ⟨KeepsOthers.setCell _ _ _, rfl, HBV.out.setCell (p := ⟨W.heap.size, 0, none⟩) (Nat.le_refl _) _, ?_, by omega⟩
          rw [hlp]
          exact HKV.out.set _
        · have hlp : ((pre ++ [x]).length : Int) = (pre.length : Int) + 1 := by simp
          refine ⟨KeepsOthers.setCell _ _ _, Kp.set HNW.out _, HBV.out.setCell (p := ⟨W.heap.size, 0, none⟩) (Nat.le_refl _) _, ?_, by omega⟩
          rw [hlp]
          exact HKV.out.set _
      case done2 =>
        rintro D2 ys V hD2 rfl ⟨hB, ck, hle⟩ hK
        obtain ⟨kv, hkv⟩ : ∃ kv : Int, kv = ((offs s).length : Int) := ⟨_, rfl⟩
        have HKM : Hid (kv = min (stop % 9 + 1) ((offs s).length : Int)) := Lib.hid (by omega)
        rw [← hkv] at ck
        have HCK := Lib.hid ck
        clear ck hle hkv
        dsimp only
        have HK2 := Lib.hid (show Df V D2 from hK)
        have HK := Lib.hid (HKW.out.go hB); have H7 := Lib.hid (H7W.out.go hB); have H9 := Lib.hid (H9W.out.go hB); have H5 := Lib.hid ((C5.out.go HB.out).go hB); have H6 := Lib.hid ((C6.out.go HB.out).go hB); have HLv := Lib.hid ((HL.out.go HB.out).go hB); have HSv := Lib.hid (HSWW.out.go hB)
        have HBv := Lib.hid (HB.out.trans (hB.mono HB.out.size))
        have HDD : Hid (D < D2 ∧ wk2.heap.size ≤ D2) := Lib.hid (by have h1 := HKW.out.lt; have h2 := HBa.out.size; have h3 := H6a.out; omega)
        clear hK hB hD2 HSQ HT HT9
        have hb : Below V.heap.size V (V.alloc (.cells #[.int .i64 0] 3)) := (Below.refl _ _).alloc (Nat.le_refl _) _
        have HK := Lib.hid (HK.out.go hb); have HK2 := Lib.hid (HK2.out.go hb); have H7 := Lib.hid (H7.out.go hb); have H9 := Lib.hid (H9.out.go hb); have H5 := Lib.hid (H5.out.go hb); have H6 := Lib.hid (H6.out.go hb); have HLv := Lib.hid (HLv.out.go hb); have HSv := Lib.hid (HSv.out.go hb); have HCK := Lib.hid (HCK.out.go hb); have HBv := Lib.hid (HBv.out.trans (hb.mono HBv.out.size))
        have HBD := Lib.hid (Cel.new (w := V) (t := 3) (v := .int .i64 0))
        clear hb
        go_wp2_with fail
        generalize V.alloc (.cells #[.int .i64 0] 3) = w11 at *
        refine (validR_any a1 n1 c1 l w11 HLv.out (by omega)).mono ?_
        rintro e w12 ⟨rfl, hb⟩
        have HK := Lib.hid (HK.out.go hb); have HK2 := Lib.hid (HK2.out.go hb); have H7 := Lib.hid (H7.out.go hb); have H9 := Lib.hid (H9.out.go hb); have H5 := Lib.hid (H5.out.go hb); have H6 := Lib.hid (H6.out.go hb); have HLv := Lib.hid (HLv.out.go hb); have HSv := Lib.hid (HSv.out.go hb); have HCK := Lib.hid (HCK.out.go hb); have HBv := Lib.hid (HBv.out.trans (hb.mono HBv.out.size))
        have HBD := Lib.hid (HBD.out.go hb)
        clear hb
        by_cases hvl : Va (-1) l
        · rw [vaB_yes hvl]
          go_wp2_with fail
          have HTL : Hid (tot 0 s = ((offs s).length : Int)) := Lib.hid (HTOT.out.1.trans HLEN.out.symm)
          have HCB : Hid (0 ≤ ((offs s).length : Int) ∧ ((offs s).length : Int) ≤ 1048577) := Lib.hid (by have h1 := HTOT.out; have h2 := HLEN.out; omega)
          have T1 := Lib.hid (fun m : Later w12 => Calls.later (v := .int .i64 (tot 0 s)) (totalR_any _ _ _ s m.val (HSv.out.go m.2) (by omega)))
          rw [HTL.out] at T1
          have HB1 := Lib.hid ((HBk2.out.trans (HBv.out.mono HBk2.out.size)))
          clear HTL HLEN
          generalize ((offs s).length : Int) = cv at *
          have d5 : ∀ m : Later w12, m.val.cell? ⟨w.heap.size, 0, none⟩ = some (.int .u8 stop) := fun m => later_old m H5.out.cell
          have d7 : ∀ m : Later w12, m.val.cell? ⟨wk2.heap.size, 0, none⟩ = some (.slice AS nS cS) := fun m => later_old m H7.out.cell
          have d9 : ∀ m : Later w12, m.val.cell? ⟨wk2.heap.size + 1 + 1, 0, none⟩ = some (.int .i64 cv) := fun m => later_old m H9.out.cell
          have d11 : ∀ m : Later w12, m.val.cell? ⟨W.heap.size, 0, none⟩ = some (.int .i64 kv) := fun m => later_old m HCK.out.cell
          have d12 : ∀ m : Later w12, m.val.cell? ⟨V.heap.size, 0, none⟩ = some (.int .i64 0) := fun m => later_old m HBD.out.cell
          have hmn : (if cv < stop % 9 + 1 then cv else stop % 9 + 1) = kv := by have := HKM.out; split <;> omega
          have hcb := HCB.out
          go_wp2_with fail
          refine wp_region_later_tail 21 (by kernel_rfl) (by kernel_rfl) ?_
          simp only [List.take_succ_cons, List.take_zero, List.drop_succ_cons, List.drop_zero]
          repeat (go_big_quiet_step (first | (go_at_call 13; exact Calls.later (awake_any _)) | (go_at_call 20; with_reducible exact T1.out _)))
          refine wpQuiet_nil ?_
          rintro wq ⟨⟨wq, hq⟩, rfl⟩
          have HQ := Lib.hid hq
          have H6q := Lib.hid (H6.out.go hq)
          have e6 := H6q.out.cell
          have f6 := H6q.out.fr
          clear hq d5 d7 d9 d11 d12 hmn
          go_wp2_with fail
          have HD1 := Lib.hid (((HK.out.go HQ.out).set ⟨w.heap.size + 1, 0, none⟩ (.bool true)))
          have HD2 := Lib.hid (((HK2.out.go HQ.out).set ⟨w.heap.size + 1, 0, none⟩ (.bool true)))
          have H6s := Lib.hid (H6q.out.set (.bool true))
          have HB2 := Lib.hid ((Below.then HB1.out HQ.out (Nat.le_refl _)).setCell (p := ⟨w.heap.size + 1, 0, none⟩) (by simp) (.bool true))
          have hwk := HBk2.out.size
          have hd1 := HDw.out
          have hd2 := HDD.out
          refine leave_one HD2.out ?_
          have HB2 := Lib.hid (HD2.out.below (by omega) HB2.out (.deferred none))
          have H6s := Lib.hid (H6s.out.put HD2.out (.deferred none))
          have HD1 := Lib.hid (HD1.out.put (by omega) (.deferred none) (D' := D2))
          refine leave_one HD1.out ?_
          have HB2 := Lib.hid (HD1.out.below (by omega) HB2.out (.deferred none))
          have hc6 := (H6s.out.put HD1.out (.deferred none)).cell
          refine ⟨.bool true, ?_, rfl, HB2.out⟩
          simp [results, Try.f10, go_sem, hc6]
        · rw [vaB_no hvl]
          go_wp2_with fail
          refine (offsets_no a1 n1 c1 l w12 HLv.out (by omega) hvl).mono ?_
          rintro e w13 ⟨rfl, hb⟩
          have HK := Lib.hid (HK.out.go hb); have HK2 := Lib.hid (HK2.out.go hb); have H7 := Lib.hid (H7.out.go hb); have H9 := Lib.hid (H9.out.go hb); have H5 := Lib.hid (H5.out.go hb); have H6 := Lib.hid (H6.out.go hb); have HLv := Lib.hid (HLv.out.go hb); have HSv := Lib.hid (HSv.out.go hb); have HCK := Lib.hid (HCK.out.go hb); have HBv := Lib.hid (HBv.out.trans (hb.mono HBv.out.size))
          have HBD := Lib.hid (HBD.out.go hb)
          clear hb
          go_wp2
          refine (wpIn_wide (n := 6)).1 ?_
          refine' wpIn_rangeFunc_ownF rfl (by omega) (gf := 39) (lb := #[]) rfl trivial (enters_of Try.func39 (by kernel_rfl) rfl) (none_stops 5 0 w13) Kp.t (Kp.b w13) (Below.refl _ _) (fun _ => rfl)
            (fun (pre : List Int) U => Below w13.heap.size w13 U) (fun c (pre : List Int) U => False)
            (ownFrom_below (Nat.le_refl _) (Nat.le_refl _)) (fun c => ownFrom_pure _ _) (Below.refl _ _) _ ?assign3 ?body3 ?done3 ?stop3
          case assign3 =>
            intro l x U K hK
            gi_wp2
            exact hK
          case body3 =>
            rintro l pre x U hU hlen
            omega
          case stop3 =>
            rintro D3 c pre U _ h _ _
            exact h.elim
          case done3 =>
            rintro D3 ys U hD3 rfl hb hK
            have HK3 := Lib.hid (show Df U D3 from hK)
            have HD3 : Hid (D < D3 ∧ D2 < D3 ∧ wk2.heap.size ≤ D3) := Lib.hid (by have h1 := HK.out.lt; have h2 := HK2.out.lt; have h3 := HDD.out.2; omega)
            have HK := Lib.hid (HK.out.go hb); have HK2 := Lib.hid (HK2.out.go hb); have H7 := Lib.hid (H7.out.go hb); have H9 := Lib.hid (H9.out.go hb); have H5 := Lib.hid (H5.out.go hb); have H6 := Lib.hid (H6.out.go hb); have HLv := Lib.hid (HLv.out.go hb); have HSv := Lib.hid (HSv.out.go hb); have HCK := Lib.hid (HCK.out.go hb); have HBv := Lib.hid (HBv.out.trans (hb.mono HBv.out.size))
            have HBD := Lib.hid (HBD.out.go hb)
            clear hb hK hD3
            dsimp only
            go_wp2_with fail
            have HTL : Hid (tot 0 s = ((offs s).length : Int)) := Lib.hid (HTOT.out.1.trans HLEN.out.symm)
            have HCB : Hid (0 ≤ ((offs s).length : Int) ∧ ((offs s).length : Int) ≤ 1048577) := Lib.hid (by have h1 := HTOT.out; have h2 := HLEN.out; omega)
            have T1 := Lib.hid (fun m : Later U => Calls.later (v := .int .i64 (tot 0 s)) (totalR_any _ _ _ s m.val (HSv.out.go m.2) (by omega)))
            rw [HTL.out] at T1
            have HB1 := Lib.hid ((HBk2.out.trans (HBv.out.mono HBk2.out.size)))
            clear HTL HLEN
            generalize ((offs s).length : Int) = cv at *
            have d5 : ∀ m : Later U, m.val.cell? ⟨w.heap.size, 0, none⟩ = some (.int .u8 stop) := fun m => later_old m H5.out.cell
            have d7 : ∀ m : Later U, m.val.cell? ⟨wk2.heap.size, 0, none⟩ = some (.slice AS nS cS) := fun m => later_old m H7.out.cell
            have d9 : ∀ m : Later U, m.val.cell? ⟨wk2.heap.size + 1 + 1, 0, none⟩ = some (.int .i64 cv) := fun m => later_old m H9.out.cell
            have d11 : ∀ m : Later U, m.val.cell? ⟨W.heap.size, 0, none⟩ = some (.int .i64 kv) := fun m => later_old m HCK.out.cell
            have d12 : ∀ m : Later U, m.val.cell? ⟨V.heap.size, 0, none⟩ = some (.int .i64 0) := fun m => later_old m HBD.out.cell
            have hmn : (if cv < stop % 9 + 1 then cv else stop % 9 + 1) = kv := by have := HKM.out; split <;> omega
            have hcb := HCB.out
            go_wp2_with fail
            refine wp_region_later_tail 21 (by kernel_rfl) (by kernel_rfl) ?_
            simp only [List.take_succ_cons, List.take_zero, List.drop_succ_cons, List.drop_zero]
            repeat (go_big_quiet_step (first | (go_at_call 13; exact Calls.later (awake_any _)) | (go_at_call 20; with_reducible exact T1.out _)))
            refine wpQuiet_nil ?_
            rintro wq ⟨⟨wq, hq⟩, rfl⟩
            have HQ := Lib.hid hq
            have H6q := Lib.hid (H6.out.go hq)
            have e6 := H6q.out.cell
            have f6 := H6q.out.fr
            clear hq d5 d7 d9 d11 d12 hmn
            go_wp2_with fail
            have HD1 := Lib.hid (((HK.out.go HQ.out).set ⟨w.heap.size + 1, 0, none⟩ (.bool true)))
            have HD2 := Lib.hid (((HK2.out.go HQ.out).set ⟨w.heap.size + 1, 0, none⟩ (.bool true)))
            have H6s := Lib.hid (H6q.out.set (.bool true))
            have HB2 := Lib.hid ((Below.then HB1.out HQ.out (Nat.le_refl _)).setCell (p := ⟨w.heap.size + 1, 0, none⟩) (by simp) (.bool true))
            have hwk := HBk2.out.size
            have hd1 := HDw.out
            have hd2 := HDD.out
            have HDc := Lib.hid (((HK3.out.go HQ.out).set ⟨w.heap.size + 1, 0, none⟩ (.bool true)))
            have hd3 := HD3.out
            refine leave_one HDc.out ?_
            have HB2 := Lib.hid (HDc.out.below (by omega) HB2.out (.deferred none))
            have H6s := Lib.hid (H6s.out.put HDc.out (.deferred none))
            have HD2 := Lib.hid (HD2.out.put (by omega) (.deferred none) (D' := D3))
            have HD1 := Lib.hid (HD1.out.put (by omega) (.deferred none) (D' := D3))
            refine leave_one HD2.out ?_
            have HB2 := Lib.hid (HD2.out.below (by omega) HB2.out (.deferred none))
            have H6s := Lib.hid (H6s.out.put HD2.out (.deferred none))
            have HD1 := Lib.hid (HD1.out.put (by omega) (.deferred none) (D' := D2))
            refine leave_one HD1.out ?_
            have HB2 := Lib.hid (HD1.out.below (by omega) HB2.out (.deferred none))
            have hc6 := (H6s.out.put HD1.out (.deferred none)).cell
            refine ⟨.bool true, ?_, rfl, HB2.out⟩
            simp [results, Try.f10, go_sem, hc6]
      case stop2 =>
        rintro D2 c pre V hD2 hp ⟨rfl, hB, ck, hle⟩ hK
        have HKM : Hid ((pre.length : Int) = min (stop % 9 + 1) ((offs s).length : Int)) := Lib.hid (by have := hp.length_le; omega)
        have HCK := Lib.hid ck
        clear ck hle hp
        generalize (pre.length : Int) = kv at HCK HKM
        refine wpIn_wide.2 ?_
        have HK2 := Lib.hid (show Df V D2 from hK)
        have HK := Lib.hid (HKW.out.go hB); have H7 := Lib.hid (H7W.out.go hB); have H9 := Lib.hid (H9W.out.go hB); have H5 := Lib.hid ((C5.out.go HB.out).go hB); have H6 := Lib.hid ((C6.out.go HB.out).go hB); have HLv := Lib.hid ((HL.out.go HB.out).go hB); have HSv := Lib.hid (HSWW.out.go hB)
        have HBv := Lib.hid (HB.out.trans (hB.mono HB.out.size))
        have HDD : Hid (D < D2 ∧ wk2.heap.size ≤ D2) := Lib.hid (by have h1 := HKW.out.lt; have h2 := HBa.out.size; have h3 := H6a.out; omega)
        clear hK hB hD2 HSQ HT HT9
        have hb : Below V.heap.size V (V.alloc (.cells #[.int .i64 0] 3)) := (Below.refl _ _).alloc (Nat.le_refl _) _
        have HK := Lib.hid (HK.out.go hb); have HK2 := Lib.hid (HK2.out.go hb); have H7 := Lib.hid (H7.out.go hb); have H9 := Lib.hid (H9.out.go hb); have H5 := Lib.hid (H5.out.go hb); have H6 := Lib.hid (H6.out.go hb); have HLv := Lib.hid (HLv.out.go hb); have HSv := Lib.hid (HSv.out.go hb); have HCK := Lib.hid (HCK.out.go hb); have HBv := Lib.hid (HBv.out.trans (hb.mono HBv.out.size))
        have HBD := Lib.hid (Cel.new (w := V) (t := 3) (v := .int .i64 0))
        clear hb
        go_wp2_with fail
        generalize V.alloc (.cells #[.int .i64 0] 3) = w11 at *
        refine (validR_any a1 n1 c1 l w11 HLv.out (by omega)).mono ?_
        rintro e w12 ⟨rfl, hb⟩
        have HK := Lib.hid (HK.out.go hb); have HK2 := Lib.hid (HK2.out.go hb); have H7 := Lib.hid (H7.out.go hb); have H9 := Lib.hid (H9.out.go hb); have H5 := Lib.hid (H5.out.go hb); have H6 := Lib.hid (H6.out.go hb); have HLv := Lib.hid (HLv.out.go hb); have HSv := Lib.hid (HSv.out.go hb); have HCK := Lib.hid (HCK.out.go hb); have HBv := Lib.hid (HBv.out.trans (hb.mono HBv.out.size))
        have HBD := Lib.hid (HBD.out.go hb)
        clear hb
        by_cases hvl : Va (-1) l
        · rw [vaB_yes hvl]
          go_wp2_with fail
          have HTL : Hid (tot 0 s = ((offs s).length : Int)) := Lib.hid (HTOT.out.1.trans HLEN.out.symm)
          have HCB : Hid (0 ≤ ((offs s).length : Int) ∧ ((offs s).length : Int) ≤ 1048577) := Lib.hid (by have h1 := HTOT.out; have h2 := HLEN.out; omega)
          have T1 := Lib.hid (fun m : Later w12 => Calls.later (v := .int .i64 (tot 0 s)) (totalR_any _ _ _ s m.val (HSv.out.go m.2) (by omega)))
          rw [HTL.out] at T1
          have HB1 := Lib.hid ((HBk2.out.trans (HBv.out.mono HBk2.out.size)))
          clear HTL HLEN
          generalize ((offs s).length : Int) = cv at *
          have d5 : ∀ m : Later w12, m.val.cell? ⟨w.heap.size, 0, none⟩ = some (.int .u8 stop) := fun m => later_old m H5.out.cell
          have d7 : ∀ m : Later w12, m.val.cell? ⟨wk2.heap.size, 0, none⟩ = some (.slice AS nS cS) := fun m => later_old m H7.out.cell
          have d9 : ∀ m : Later w12, m.val.cell? ⟨wk2.heap.size + 1 + 1, 0, none⟩ = some (.int .i64 cv) := fun m => later_old m H9.out.cell
          have d11 : ∀ m : Later w12, m.val.cell? ⟨W.heap.size, 0, none⟩ = some (.int .i64 kv) := fun m => later_old m HCK.out.cell
          have d12 : ∀ m : Later w12, m.val.cell? ⟨V.heap.size, 0, none⟩ = some (.int .i64 0) := fun m => later_old m HBD.out.cell
          have hmn : (if cv < stop % 9 + 1 then cv else stop % 9 + 1) = kv := by have := HKM.out; split <;> omega
          have hcb := HCB.out
          go_wp2_with fail
          refine wp_region_later_tail 21 (by kernel_rfl) (by kernel_rfl) ?_
          simp only [List.take_succ_cons, List.take_zero, List.drop_succ_cons, List.drop_zero]
          repeat (go_big_quiet_step (first | (go_at_call 13; exact Calls.later (awake_any _)) | (go_at_call 20; with_reducible exact T1.out _)))
          refine wpQuiet_nil ?_
          rintro wq ⟨⟨wq, hq⟩, rfl⟩
          have HQ := Lib.hid hq
          have H6q := Lib.hid (H6.out.go hq)
          have e6 := H6q.out.cell
          have f6 := H6q.out.fr
          clear hq d5 d7 d9 d11 d12 hmn
          go_wp2_with fail
          have HD1 := Lib.hid (((HK.out.go HQ.out).set ⟨w.heap.size + 1, 0, none⟩ (.bool true)))
          have HD2 := Lib.hid (((HK2.out.go HQ.out).set ⟨w.heap.size + 1, 0, none⟩ (.bool true)))
          have H6s := Lib.hid (H6q.out.set (.bool true))
          have HB2 := Lib.hid ((Below.then HB1.out HQ.out (Nat.le_refl _)).setCell (p := ⟨w.heap.size + 1, 0, none⟩) (by simp) (.bool true))
          have hwk := HBk2.out.size
          have hd1 := HDw.out
          have hd2 := HDD.out
          refine leave_one HD2.out ?_
          have HB2 := Lib.hid (HD2.out.below (by omega) HB2.out (.deferred none))
          have H6s := Lib.hid (H6s.out.put HD2.out (.deferred none))
          have HD1 := Lib.hid (HD1.out.put (by omega) (.deferred none) (D' := D2))
          refine leave_one HD1.out ?_
          have HB2 := Lib.hid (HD1.out.below (by omega) HB2.out (.deferred none))
          have hc6 := (H6s.out.put HD1.out (.deferred none)).cell
          refine ⟨.bool true, ?_, rfl, HB2.out⟩
          simp [results, Try.f10, go_sem, hc6]
        · rw [vaB_no hvl]
          go_wp2_with fail
          refine (offsets_no a1 n1 c1 l w12 HLv.out (by omega) hvl).mono ?_
          rintro e w13 ⟨rfl, hb⟩
          have HK := Lib.hid (HK.out.go hb); have HK2 := Lib.hid (HK2.out.go hb); have H7 := Lib.hid (H7.out.go hb); have H9 := Lib.hid (H9.out.go hb); have H5 := Lib.hid (H5.out.go hb); have H6 := Lib.hid (H6.out.go hb); have HLv := Lib.hid (HLv.out.go hb); have HSv := Lib.hid (HSv.out.go hb); have HCK := Lib.hid (HCK.out.go hb); have HBv := Lib.hid (HBv.out.trans (hb.mono HBv.out.size))
          have HBD := Lib.hid (HBD.out.go hb)
          clear hb
          go_wp2
          refine (wpIn_wide (n := 6)).1 ?_
          refine' wpIn_rangeFunc_ownF rfl (by omega) (gf := 39) (lb := #[]) rfl trivial (enters_of Try.func39 (by kernel_rfl) rfl) (none_stops 5 0 w13) Kp.t (Kp.b w13) (Below.refl _ _) (fun _ => rfl)
            (fun (pre : List Int) U => Below w13.heap.size w13 U) (fun c (pre : List Int) U => False)
            (ownFrom_below (Nat.le_refl _) (Nat.le_refl _)) (fun c => ownFrom_pure _ _) (Below.refl _ _) _ ?assign3 ?body3 ?done3 ?stop3
          case assign3 =>
            intro l x U K hK
            gi_wp2
            exact hK
          case body3 =>
            rintro l pre x U hU hlen
            omega
          case stop3 =>
            rintro D3 c pre U _ h _ _
            exact h.elim
          case done3 =>
            rintro D3 ys U hD3 rfl hb hK
            have HK3 := Lib.hid (show Df U D3 from hK)
            have HD3 : Hid (D < D3 ∧ D2 < D3 ∧ wk2.heap.size ≤ D3) := Lib.hid (by have h1 := HK.out.lt; have h2 := HK2.out.lt; have h3 := HDD.out.2; omega)
            have HK := Lib.hid (HK.out.go hb); have HK2 := Lib.hid (HK2.out.go hb); have H7 := Lib.hid (H7.out.go hb); have H9 := Lib.hid (H9.out.go hb); have H5 := Lib.hid (H5.out.go hb); have H6 := Lib.hid (H6.out.go hb); have HLv := Lib.hid (HLv.out.go hb); have HSv := Lib.hid (HSv.out.go hb); have HCK := Lib.hid (HCK.out.go hb); have HBv := Lib.hid (HBv.out.trans (hb.mono HBv.out.size))
            have HBD := Lib.hid (HBD.out.go hb)
            clear hb hK hD3
            dsimp only
            go_wp2_with fail
            have HTL : Hid (tot 0 s = ((offs s).length : Int)) := Lib.hid (HTOT.out.1.trans HLEN.out.symm)
            have HCB : Hid (0 ≤ ((offs s).length : Int) ∧ ((offs s).length : Int) ≤ 1048577) := Lib.hid (by have h1 := HTOT.out; have h2 := HLEN.out; omega)
            have T1 := Lib.hid (fun m : Later U => Calls.later (v := .int .i64 (tot 0 s)) (totalR_any _ _ _ s m.val (HSv.out.go m.2) (by omega)))
            rw [HTL.out] at T1
            have HB1 := Lib.hid ((HBk2.out.trans (HBv.out.mono HBk2.out.size)))
            clear HTL HLEN
            generalize ((offs s).length : Int) = cv at *
            have d5 : ∀ m : Later U, m.val.cell? ⟨w.heap.size, 0, none⟩ = some (.int .u8 stop) := fun m => later_old m H5.out.cell
            have d7 : ∀ m : Later U, m.val.cell? ⟨wk2.heap.size, 0, none⟩ = some (.slice AS nS cS) := fun m => later_old m H7.out.cell
            have d9 : ∀ m : Later U, m.val.cell? ⟨wk2.heap.size + 1 + 1, 0, none⟩ = some (.int .i64 cv) := fun m => later_old m H9.out.cell
            have d11 : ∀ m : Later U, m.val.cell? ⟨W.heap.size, 0, none⟩ = some (.int .i64 kv) := fun m => later_old m HCK.out.cell
            have d12 : ∀ m : Later U, m.val.cell? ⟨V.heap.size, 0, none⟩ = some (.int .i64 0) := fun m => later_old m HBD.out.cell
            have hmn : (if cv < stop % 9 + 1 then cv else stop % 9 + 1) = kv := by have := HKM.out; split <;> omega
            have hcb := HCB.out
            go_wp2_with fail
            refine wp_region_later_tail 21 (by kernel_rfl) (by kernel_rfl) ?_
            simp only [List.take_succ_cons, List.take_zero, List.drop_succ_cons, List.drop_zero]
            repeat (go_big_quiet_step (first | (go_at_call 13; exact Calls.later (awake_any _)) | (go_at_call 20; with_reducible exact T1.out _)))
            refine wpQuiet_nil ?_
            rintro wq ⟨⟨wq, hq⟩, rfl⟩
            have HQ := Lib.hid hq
            have H6q := Lib.hid (H6.out.go hq)
            have e6 := H6q.out.cell
            have f6 := H6q.out.fr
            clear hq d5 d7 d9 d11 d12 hmn
            go_wp2_with fail
            have HD1 := Lib.hid (((HK.out.go HQ.out).set ⟨w.heap.size + 1, 0, none⟩ (.bool true)))
            have HD2 := Lib.hid (((HK2.out.go HQ.out).set ⟨w.heap.size + 1, 0, none⟩ (.bool true)))
            have H6s := Lib.hid (H6q.out.set (.bool true))
            have HB2 := Lib.hid ((Below.then HB1.out HQ.out (Nat.le_refl _)).setCell (p := ⟨w.heap.size + 1, 0, none⟩) (by simp) (.bool true))
            have hwk := HBk2.out.size
            have hd1 := HDw.out
            have hd2 := HDD.out
            have HDc := Lib.hid (((HK3.out.go HQ.out).set ⟨w.heap.size + 1, 0, none⟩ (.bool true)))
            have hd3 := HD3.out
            refine leave_one HDc.out ?_
            have HB2 := Lib.hid (HDc.out.below (by omega) HB2.out (.deferred none))
            have H6s := Lib.hid (H6s.out.put HDc.out (.deferred none))
            have HD2 := Lib.hid (HD2.out.put (by omega) (.deferred none) (D' := D3))
            have HD1 := Lib.hid (HD1.out.put (by omega) (.deferred none) (D' := D3))
            refine leave_one HD2.out ?_
            have HB2 := Lib.hid (HD2.out.below (by omega) HB2.out (.deferred none))
            have H6s := Lib.hid (H6s.out.put HD2.out (.deferred none))
            have HD1 := Lib.hid (HD1.out.put (by omega) (.deferred none) (D' := D2))
            refine leave_one HD1.out ?_
            have HB2 := Lib.hid (HD1.out.below (by omega) HB2.out (.deferred none))
            have hc6 := (H6s.out.put HD1.out (.deferred none)).cell
            refine ⟨.bool true, ?_, rfl, HB2.out⟩
            simp [results, Try.f10, go_sem, hc6]
    case stop =>
      rintro D c pre W _ hp hb _
      exact (bad_not HV.out hp hb).elim

  · rw [decide_eq_false hn]
    go_wp2_with fail
    refine (awake_any wk1).mono ?_
    rintro e wk2 ⟨rfl, hb⟩
    have C6 := Lib.hid (C6.out.go hb); have HBk2 := Lib.hid (Below.then HBk1.out hb (Nat.le_refl _))
    clear hb
    have f0 := C6.out.cell
    have f1 := C6.out.fr
    go_wp2
    have hc6 := (C6.out.set (.bool true)).cell
    refine ⟨.bool true, ?_, rfl, HBk2.out.setCell (p := ⟨w.heap.size + 1, 0, none⟩) (by simp) _⟩
    simp [results, Try.f10, go_sem, hc6]

end Go.Proofs.Ytolfcoaipcaoaaa
