/-
  The law TyperegNone as a walk: called with any arguments of its types it returns true. No conditions.
-/
import Derived.Test.YtgddlpabgeeflaaAwt
import Derived.Test.YtgddlpabgeeflaaMde
import Derived.Test.YtgddlpabgeeflaaCell
namespace Go.Proofs.Ytgddlpabgeeflaa
open Go.ChangeShapes Go.WideShapes Go.ChangeAt Go.RowKit Go.Shelf
attribute [local go_sem] Oper.semAt_some
set_option linter.unusedVariables false
set_option maxHeartbeats 8000000
set_option maxRecDepth 100000

theorem made_chk (L : List Int) (i : Nat) : chk (typV L i).1 (typV L i).2 = 0 ∧ 0 < (typV L i).2.length ∧ (typV L i).2.length ≤ 4 := by
  obtain ⟨h1, h2⟩ := typ_ok L i
  refine ⟨(made_places h1 (by omega)).1, by omega, by omega⟩
theorem rg_first {x : Int × List (Int × Int)} (h : chk x.1 x.2 = 0) : rgV [] x = (1, 0) ∧ rgT [] x = [x] := by
  unfold rgV rgT
  simp [h]
/-- A nil registry's iterator. -/
theorem nilT_stops (d Bb n₁ : Nat) (w : World) (hc : w.cell? ⟨Bb, 0, none⟩ = some (.pointer none)) :
    SeqStopsK Fence.wide d Try.prog 28 #[.pointer (some ⟨Bb, 0, none⟩)] (fun _ : Unit => #[.int .i64 0, .agg #[.int .i64 0, .slice none 0 0]]) (Kp n₁) (fun ys => ys = []) (fun _ => False) 0 w := fun lp J Jx W hW hJ _ hY h0 => by
  have hc' : W.cell? ⟨Bb, 0, none⟩ = some (.pointer none) := (hW.cell (p := ⟨Bb, 0, none⟩) (lt_of_some hc)).trans hc
  clear hY hJ hW hc
  have H0 := Lib.hid h0
  clear h0
  refine callsIn_of_wp Try.func28 rfl trivial ?_ rfl
  simp only [Try.ntmps28, List.size_toArray, List.length_cons, List.length_nil, Nat.reduceAdd, Nat.reduceSub, Array.replicate_succ, Array.replicate_zero, List.push_toArray, List.append_toArray, List.nil_append, List.cons_append]
  gi_wp2
  refine bodyPost_ret (results_none rfl _ _ _) rfl ?_
  exact ⟨⟨_, rfl⟩, .inl ⟨[], rfl, H0.out⟩⟩
theorem typeregNone_walk (a0 : Option Addr) (len0 cap0 : Nat) (z0 : List Int) (tag : Int) (w : World) (w0 : IsRow .u16 w a0 len0 cap0 z0) (w1 : (Lit.int .i64 tag).wf = true) :
    Calls Try.prog 5 #[.slice a0 len0 cap0, .int .i64 tag] w fun e w' => e = .returned (.bool true) ∧ Below w.heap.size w w' := by
  obtain ⟨hrow, hfit⟩ := w0.row
  generalize z0.take len0 = L at *
  have HROW := Lib.hid hrow
  have HFT := Lib.hid (hfit.take 30)
  obtain ⟨hck, hl0, hl4⟩ := made_chk (L.take 30) 0
  have HTY := Lib.hid (fun b W (hW : TS W b (L.take 30) 0) => type_any b 0 (L.take 30) W hW HFT.out (by omega))
  obtain ⟨⟨n, l⟩, htv⟩ : ∃ p, typV (L.take 30) 0 = p := ⟨_, rfl⟩
  rw [htv] at HTY hck hl0 hl4
  simp only at hck hl0 hl4
  have HCK := Lib.hid hck
  clear w0 hrow hfit htv w1 hck
  have C2 := Lib.hid (Cel.new (w := w) (t := 4) (v := .bool false))
  have HB0 : Hid (Below w.heap.size w (w.alloc (.cells #[.bool false] 4))) := Lib.hid ((Below.refl _ _).alloc (Nat.le_refl _) _)
  refine (callsIn_wide (n := 6)).1 ?_
  refine callsIn_of_wp_marks Try.func5 rfl trivial ?_ rfl
  refine wpIn_wide.2 ?_
  simp only [Try.ntmps5, List.size_toArray, List.length_cons, List.length_nil, Nat.reduceAdd, Nat.reduceSub, Array.replicate_succ, Array.replicate_zero, List.push_toArray, List.append_toArray, List.nil_append, List.cons_append]
  go_wp2_with fail
  generalize (w.alloc (.cells #[.bool false] 4)) = wa at *
  refine (awake10_any wa).mono ?_
  rintro e w1 ⟨rfl, hb⟩
  have C2 := Lib.hid (C2.out.go hb)
  have HB1 := Lib.hid (Below.then HB0.out hb (Nat.le_refl _))
  clear hb HB0
  have hl1 : w.heap.size < w1.heap.size := C2.out.lt
  have HOF := Lib.hid (of_any a0 len0 cap0 L 30 w1 (HROW.out.go HB1.out) (by omega))
  go_wp2_with fail
  refine HOF.out.mono ?_
  rintro e w2 ⟨b, rfl, hts, hge, hb1⟩
  have HTS := Lib.hid hts
  have HB12 := Lib.hid hb1
  clear hts hb1 HOF HROW
  go_wp2_with fail
  refine (HTY.out b w2 HTS.out).mono ?_
  rintro e w3 ⟨A, m, c, rfl, hx, hts2, ho⟩
  have hml : l.length = m := hx.len
  have hb3 := HB12.out.trans (ho.below hge HB12.out.size)
  have hb4 : Below w1.heap.size w1 (w3.alloc (.cells #[.int .i64 n, .slice A m c] 35)) := hb3.alloc hb3.size _
  have HT4 := Lib.hid (TyB.new (w := w3) (n := n) (A := A) (m := m) (c := c))
  have HX4 := Lib.hid (hx.go ((Below.refl w3.heap.size w3).alloc (Nat.le_refl _) (.cells #[.int .i64 n, .slice A m c] 35)))
  have C4 := Lib.hid (C2.out.go hb4)
  have HB4 := Lib.hid (Below.then HB1.out hb4 (Nat.le_refl _))
  clear hx hts2 ho hb3 hb4 HTS HB12 HTY C2 HB1
  have c0 := HT4.out.cell0
  have c1 := HT4.out.cell1
  have HRN := Lib.hid (registerN_any n A m c l _ HX4.out (by omega))
  rw [if_pos HCK.out] at HRN
  go_wp2_with fail
  refine HRN.out.mono ?_
  generalize w3.alloc (.cells #[.int .i64 n, .slice A m c] 35) = w4 at *
  generalize w3.heap.size = tb at *
  rintro e w5 ⟨rfl, hb5⟩
  have HT5 := Lib.hid (HT4.out.go hb5)
  have HX5 := Lib.hid (HX4.out.go hb5)
  have C5 := Lib.hid (C4.out.go hb5)
  have HB5 := Lib.hid (Below.then HB4.out hb5 (Nat.le_refl _))
  have HRZ := Lib.hid (registerN_any 0 none 0 0 [] w5 Exs.none_ (by omega))
  rw [show (if chk 0 [] = 0 then (1 : Int) else chk 0 []) = 3 by decide] at HRZ
  clear hb5 HRN HT4 HX4 C4 HB4 c0 c1
  go_wp2_with fail
  refine HRZ.out.mono ?_
  rintro e w6 ⟨rfl, hb6⟩
  have HT6 := Lib.hid (HT5.out.go hb6)
  have HX6 := Lib.hid (HX5.out.go hb6)
  have C6 := Lib.hid (C5.out.go hb6)
  have HB6 := Lib.hid (Below.then HB5.out hb6 (Nat.le_refl _))
  clear hb6 HRZ HT5 HX5 C5 HB5
  go_wp2_with fail
  refine (lookupN_any tag w6).mono ?_
  rintro e w7 ⟨A7, m7, c7, rfl, ho7, hb7⟩
  have hb8 : Below w6.heap.size w6 ((w7.alloc (.cells #[.int .i64 0, .slice A7 m7 c7] 35)).alloc (.cells #[.pointer none] 26)) := (hb7.alloc hb7.size _).alloc (by have := hb7.size; simp <;> omega) _
  have HT8 := Lib.hid (HT6.out.go hb8)
  have HX8 := Lib.hid (HX6.out.go hb8)
  have C8 := Lib.hid (C6.out.go hb8)
  have HB8 := Lib.hid (Below.then HB6.out hb8 (Nat.le_refl _))
  have HAL := Lib.hid (allT_any none (w7.alloc (.cells #[.int .i64 0, .slice A7 m7 c7] 35)))
  rw [show (w7.alloc (.cells #[.int .i64 0, .slice A7 m7 c7] 35)).heap.size = w7.heap.size + 1 by simp] at HAL
  have HC8 : Hid (((w7.alloc (.cells #[.int .i64 0, .slice A7 m7 c7] 35)).alloc (.cells #[.pointer none] 26)).cell? ⟨w7.heap.size + 1, 0, none⟩ = some (.pointer none)) := Lib.hid (by
    have h := cell_alloc (w := w7.alloc (.cells #[.int .i64 0, .slice A7 m7 c7] 35)) (cs := #[.pointer none]) (t := 26) (i := 0) (v := .pointer none) rfl
    rwa [show (w7.alloc (.cells #[.int .i64 0, .slice A7 m7 c7] 35)).heap.size = w7.heap.size + 1 by simp] at h)
  clear ho7 hb7 hb8 HT6 HX6 C6 HB6
  go_wp2_with fail
  refine HAL.out.mono ?_
  rintro e w8 ⟨rfl, hw8⟩
  rw [← hw8] at HT8 HX8 C8 HB8 HC8
  clear hw8 HAL
  have HZ8 : Hid (w.heap.size ≤ w8.heap.size) := Lib.hid HB8.out.size
  have HSQ := Lib.hid (nilT_stops 5 (w7.heap.size + 1) 0 w8 HC8.out)
  go_wp2
  refine (wpIn_wide (n := 6)).1 ?_
  refine' wpIn_rangeFunc_ownF rfl (by omega) (gf := 28) (lb := #[.pointer (some ⟨w7.heap.size + 1, 0, none⟩)]) rfl trivial (enters_of Try.func28 (by kernel_rfl) rfl) HSQ.out Kp.t (Kp.b w8) (Below.refl _ _) (fun _ => rfl)
    (fun (pre : List Unit) W => Below w8.heap.size w8 W)
    (fun _ (pre : List Unit) _ => False)
    (ownFrom_below (Nat.le_refl _) (Nat.le_refl _))
    (fun _ => ownFrom_pure _ _)
    (Below.refl _ _) _ ?assign ?body ?done ?stop
  case assign =>
    intro l x W K hK
    gi_wp2
    exact hK
  case body =>
    rintro l pre x W _ hlen
    exact absurd hlen (Nat.not_lt_zero _)
  case stop =>
    rintro D c pre W _ hp hb _
    exact hb.elim
  case done =>
    rintro D ys W hD rfl hB hK
    have hbz : Below W.heap.size W (W.alloc (.cells #[.slice none 0 0] 54)) := (Below.refl _ _).alloc (Nat.le_refl _) _
    have HD := Lib.hid (show Df (W.alloc (.cells #[.slice none 0 0] 54)) D from Df.go hK hbz)
    have HT9 := Lib.hid ((HT8.out.go hB).go hbz)
    have HX9 := Lib.hid ((HX8.out.go hB).go hbz)
    have C9 := Lib.hid ((C8.out.go hB).go hbz)
    have HB9 := Lib.hid (Below.then (Below.then HB8.out hB (Nat.le_refl _)) hbz (Nat.le_refl _))
    have HR9 : Hid (Reg (W.alloc (.cells #[.slice none 0 0] 54)) (cl2 W.heap.size) 2 0 W.heap.size []) := Lib.hid (Reg.new cl2_at)
    have hDlt : D < W.heap.size := Df.lt hK
    have htl := (HT8.out.go hB).lt
    have hcl := (C8.out.go hB).lt
    have c0 := HT9.out.cell0
    have c1 := HT9.out.cell1
    clear hB hK hbz HT8 HX8 C8 HB8 HC8
    dsimp only
    have HREG := Lib.hid (register_any _ (cl2 W.heap.size) 2 0 W.heap.size [] n A m c l HR9.out (by omega) (Nat.zero_le _) HX9.out (by omega) (by simp))
    obtain ⟨f1, f2⟩ := rg_first (x := (n, l)) HCK.out
    go_wp2_with fail
    refine HREG.out.mono ?_
    rintro e w10 ⟨c10, rfl, hc10, hr10, hk10⟩
    rw [f2] at hr10
    rw [f1]
    have hz9 := HB9.out.size
    generalize W.alloc (.cells #[.slice none 0 0] 54) = w9 at *
    generalize W.heap.size = rb at *
    have HD10 : Hid (Df w10 D) := Lib.hid ((hk10.block D (Df.lt HD.out) (by rw [cl2_no (by omega)]; omega)).trans HD.out)
    have C10 : Hid (Cel w10 w.heap.size 4 (.bool false)) := Lib.hid ((hk10.block _ C9.out.lt (by rw [cl2_no (by omega)]; omega)).trans C9.out)
    have HB10 : Hid (Below w.heap.size w w10) := Lib.hid (HB9.out.trans (hk10.below (fun g hg => by rw [cl2_no (by omega)]; omega) hz9))
    have HR10 := Lib.hid hr10
    clear hc10 hr10 hk10 HT9 HX9 HR9 HD C9 HB9 HREG c0 c1 f1 f2
    go_wp2_with fail
    refine (awake10_any w10).mono ?_
    rintro e w11 ⟨rfl, hb11⟩
    have HD11 := Lib.hid (HD10.out.go hb11)
    have C11 := Lib.hid (C10.out.go hb11)
    have HB11 := Lib.hid (Below.then HB10.out hb11 (Nat.le_refl _))
    have HL1 := Lib.hid (lenN_any w11)
    have HL2 := Lib.hid (lenT_any w11 c10 2 0 rb _ (HR10.out.go hb11))
    rw [show (([(n, l)] : List (Int × List (Int × Int))).length : Int) = 1 by rfl] at HL2
    have e2 := C11.out.cell
    have f2 := C11.out.fr
    clear hb11 HD10 C10 HB10 HR10
    go_wp2_with fail
    refine HL1.out.mono ?_
    rintro e w12 ⟨rfl, rfl⟩
    go_wp2_with fail
    refine HL2.out.mono ?_
    rintro e w13 ⟨rfl, rfl⟩
    clear HL1 HL2
    have HDS := Lib.hid (HD11.out.set ⟨w.heap.size, 0, none⟩ (.bool true))
    have HBS := Lib.hid (HB11.out.setCell (p := ⟨w.heap.size, 0, none⟩) (by simp) (.bool true))
    have D2 := Lib.hid (((C11.out.set (.bool true)).put HDS.out (.deferred none)).cell)
    have HS : Hid (w.heap.size ≤ D) := Lib.hid (by have := HZ8.out; omega)
    go_wp2
    have d2 := D2.out
    refine leave_one HDS.out ?_
    refine ⟨.bool true, ?_, rfl, HDS.out.below HS.out HBS.out (.deferred none)⟩
    simp [results, Try.f5, go_sem, d2]
end Go.Proofs.Ytgddlpabgeeflaa
