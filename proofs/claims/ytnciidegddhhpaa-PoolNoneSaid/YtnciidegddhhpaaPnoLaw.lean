/-
  The law PoolNone as a walk: called with any arguments of its types it returns true. No conditions.
-/
import Derived.Test.YtnciidegddhhpaaPaw
import Derived.Test.YtnciidegddhhpaaPal
namespace Go.Proofs.Ytnciidegddhhpaa
open Go.ChangeShapes Go.WideShapes Go.ChangeAt Go.RowKit Go.Shelf
attribute [local go_sem] Oper.semAt_some
set_option linter.unusedVariables false
set_option maxHeartbeats 8000000
set_option maxRecDepth 100000

theorem poolNone_walk (x d : Int) (w : World) (w0 : (Lit.int .i64 x).wf = true) (w1 : (Lit.int .u64 d).wf = true) :
    Calls Try.prog 6 #[.int .i64 x, .int .u64 d] w fun e w' => e = .returned (.bool true) ∧ Below w.heap.size w w' := by
  have hd := u64_bd w1
  clear w0 w1
  have C2 := Lib.hid (Cel.new (w := w) (t := 4) (v := .bool false))
  have HB0 : Hid (Below w.heap.size w (w.alloc (.cells #[.bool false] 4))) := Lib.hid ((Below.refl _ _).alloc (Nat.le_refl _) _)
  refine (callsIn_wide (n := 6)).1 ?_
  refine callsIn_of_wp_marks Try.func6 rfl trivial ?_ rfl
  refine wpIn_wide.2 ?_
  simp only [Try.ntmps6, List.size_toArray, List.length_cons, List.length_nil, Nat.reduceAdd, Nat.reduceSub, Array.replicate_succ, Array.replicate_zero, List.push_toArray, List.append_toArray, List.nil_append, List.cons_append]
  go_wp2_with fail
  generalize (w.alloc (.cells #[.bool false] 4)) = wa at *
  refine (awake11_any wa).mono ?_
  rintro e w1 ⟨rfl, hb⟩
  have C2 := Lib.hid (C2.out.go hb)
  have HB1 := Lib.hid (Below.then HB0.out hb (Nat.le_refl _))
  clear hb HB0
  have hl1 : w.heap.size < w1.heap.size := C2.out.lt
  go_wp2_with fail
  refine (putIN_any w1 x).mono ?_
  rintro e w2 ⟨⟨v, rfl⟩, rfl⟩
  go_wp2_with fail
  refine (takeIN_any w1 d).mono ?_
  rintro e w2 ⟨rfl, rfl⟩
  go_wp2_with fail
  refine (allI_any none w1).mono ?_
  rintro e w8 ⟨rfl, hw8⟩
  have HC8 : Hid (w8.cell? ⟨w1.heap.size, 0, none⟩ = some (.pointer none)) := Lib.hid (by rw [hw8]; exact cell_alloc rfl)
  have hb8 : Below w1.heap.size w1 w8 := by rw [hw8]; exact (Below.refl _ _).alloc (Nat.le_refl _) _
  have C8 := Lib.hid (C2.out.go hb8)
  have HB8 := Lib.hid (Below.then HB1.out hb8 (Nat.le_refl _))
  have HZ8 : Hid (w.heap.size ≤ w8.heap.size) := Lib.hid HB8.out.size
  have HSQ := Lib.hid (nilI_stops 5 0 w1.heap.size w8 HC8.out)
  clear hw8 hb8 C2 HB1
  go_wp2
  refine (wpIn_wide (n := 6)).1 ?_
  refine' wpIn_rangeFunc_ownF rfl (by omega) (gf := 27) (lb := #[.pointer (some ⟨w1.heap.size, 0, none⟩)]) rfl trivial (enters_of Try.func27 (by kernel_rfl) rfl) HSQ.out Kp.t (Kp.b w8) (Below.refl _ _) (fun _ => rfl)
    (fun (pre : List Int) W => Below w8.heap.size w8 W)
    (fun _ (pre : List Int) _ => False)
    (ownFrom_below (Nat.le_refl _) (Nat.le_refl _))
    (fun _ => ownFrom_pure _ _)
    (Below.refl _ _) _ ?assign ?body ?done ?stop
  case assign =>
    intro l x W K hK
    gi_wp2
    exact hK
  case body =>
    rintro l pre x W _ hlen
    exact absurd hlen (Nat.not_lt_zero _)
  case stop =>
    rintro D c pre W _ hp hb _
    exact hb.elim
  case done =>
    rintro D ys W hD rfl hB hK
    have hbz : Below W.heap.size W (W.alloc (.cells #[.slice none 0 0] 57)) := (Below.refl _ _).alloc (Nat.le_refl _) _
    have HD := Lib.hid (show Df (W.alloc (.cells #[.slice none 0 0] 57)) D from Df.go hK hbz)
    have C9 := Lib.hid ((C8.out.go hB).go hbz)
    have HB9 := Lib.hid (Below.then (Below.then HB8.out hB (Nat.le_refl _)) hbz (Nat.le_refl _))
    have hP9 : PolI (W.alloc (.cells #[.slice none 0 0] 57)) (rc (fun _ => 0) W.heap.size 1) 1 W.heap.size [] := Pol.new (B := W.heap.size) (OwnK.nil _ _ _ _) (Nat.le_refl _) (fun g hg => rc_new hg)
    have HDlt : Hid (D < W.heap.size ∧ w.heap.size < W.heap.size) := Lib.hid ⟨Df.lt hK, (C8.out.go hB).lt⟩
    have HT := Lib.hid (takeI_any _ _ 1 W.heap.size [] d hP9 (by simp) hd)
    clear hB hK hbz C8 HB8 HC8 hP9
    unfold TkI at HT
    rw [(tk_nil (z := (0 : Int)) (d := d)).1, (tk_nil (z := (0 : Int)) (d := d)).2, show (!([] : List Int).isEmpty) = false from rfl] at HT
    dsimp only
    go_wp2_with fail
    generalize W.alloc (.cells #[.slice none 0 0] 57) = w9 at *
    refine HT.out.mono ?_
    rintro e w10 ⟨rfl, hP10, hk10, _⟩
    have hz9 := HB9.out.size
    have hz10 := hk10.size
    have hDl := HDlt.out
    have HD10 : Hid (Df w10 D) := Lib.hid ((hk10.block D (Df.lt HD.out) (by rw [rc_old hDl.1]; omega)).trans HD.out)
    have C10 : Hid (Cel w10 w.heap.size 4 (.bool false)) := Lib.hid ((hk10.block _ C9.out.lt (by rw [rc_old hDl.2]; omega)).trans C9.out)
    have HB10 : Hid (Below w.heap.size w w10) := Lib.hid (HB9.out.trans (hk10.below (fun g hg => by rw [rc_old (by omega)]; omega) hz9))
    have HPT := Lib.hid (putI_any w10 _ 1 W.heap.size _ x hP10 (by simp))
    rw [List.nil_append] at HPT
    have hz11 := HB10.out.size
    clear hP10 hk10 HD C9 HB9 HT
    go_wp2_with fail
    refine HPT.out.mono ?_
    rintro e w11 ⟨⟨v11, rfl⟩, hP11, hk11⟩
    have HD11 : Hid (Df w11 D) := Lib.hid ((hk11.block D (Df.lt HD10.out) (by rw [rc_old hDl.1]; omega)).trans HD10.out)
    have C11 : Hid (Cel w11 w.heap.size 4 (.bool false)) := Lib.hid ((hk11.block _ C10.out.lt (by rw [rc_old hDl.2]; omega)).trans C10.out)
    have HB11 : Hid (Below w.heap.size w w11) := Lib.hid (HB10.out.trans (hk11.below (fun g hg => by rw [rc_old (by omega)]; omega) hz11))
    have HT := Lib.hid (takeI_any w11 _ 1 W.heap.size [x] d hP11 (by simp) hd)
    have hx1 : tkX (0 : Int) [x] d = x := by
      have h := tk_mem (z := (0 : Int)) (l := [x]) (d := d) (by simp)
      simpa using h
    have hlt11 : D < w10.heap.size ∧ w.heap.size < w10.heap.size := ⟨Df.lt HD10.out, C10.out.lt⟩
    have hz12 := HB11.out.size
    unfold TkI at HT
    rw [hx1, show (!([x] : List Int).isEmpty) = true from rfl] at HT
    clear hP11 hk11 HD10 C10 HB10 HPT hx1
    go_wp2_with fail
    refine HT.out.mono ?_
    rintro e w12 ⟨rfl, _, hk12, _⟩
    have HD12 : Hid (Df w12 D) := Lib.hid ((hk12.block D (Df.lt HD11.out) (by rw [rc_old hlt11.1, rc_old hDl.1]; omega)).trans HD11.out)
    have C12 : Hid (Cel w12 w.heap.size 4 (.bool false)) := Lib.hid ((hk12.block _ C11.out.lt (by rw [rc_old hlt11.2, rc_old hDl.2]; omega)).trans C11.out)
    have HB12 : Hid (Below w.heap.size w w12) := Lib.hid (HB11.out.trans (hk12.below (fun g hg => by rw [rc_old (by omega), rc_old (by omega)]; omega) hz12))
    clear hk12 HT HD11 C11 HB11
    go_wp2_with fail
    refine (awake11_any w12).mono ?_
    rintro e w13 ⟨rfl, hb13⟩
    have HD13 := Lib.hid (HD12.out.go hb13)
    have C13 := Lib.hid (C12.out.go hb13)
    have HB13 := Lib.hid (Below.then HB12.out hb13 (Nat.le_refl _))
    have e2 := C13.out.cell
    have f2 := C13.out.fr
    clear hb13 HD12 C12 HB12
    go_wp2_with fail
    refine (lenIN_any w13).mono ?_
    rintro e w14 ⟨rfl, rfl⟩
    have HDS := Lib.hid (HD13.out.set ⟨w.heap.size, 0, none⟩ (.bool true))
    have HBS := Lib.hid (HB13.out.setCell (p := ⟨w.heap.size, 0, none⟩) (by simp) (.bool true))
    have D2 := Lib.hid (((C13.out.set (.bool true)).put HDS.out (.deferred none)).cell)
    have HS : Hid (w.heap.size ≤ D) := Lib.hid (by have := HZ8.out; omega)
    go_wp2
    have d2 := D2.out
    refine leave_one HDS.out ?_
    refine ⟨.bool true, ?_, rfl, HDS.out.below HS.out HBS.out (.deferred none)⟩
    simp [results, Try.f6, go_sem, d2]
end Go.Proofs.Ytnciidegddhhpaa
