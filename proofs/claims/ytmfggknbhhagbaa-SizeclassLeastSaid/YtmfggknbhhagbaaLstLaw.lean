/-
  The law SizeclassLeast as a walk: it returns true and changes nothing that was there. No conditions.
-/
import Derived.Test.YtmfggknbhhagbaaSizeR
namespace Go.Proofs.Ytmfggknbhhagbaa
open Go.ChangeShapes Go.WideShapes Go.ChangeAt Go.RowKit Go.Shelf
attribute [local go_sem] Oper.semAt_some
set_option maxHeartbeats 3200000
set_option maxRecDepth 100000

/-- Whether the size a came. -/
def seen (a : Int) (pre : List (Int × Int)) : Bool := pre.any fun y => y.2 == a
theorem seen_snoc {a : Int} {pre : List (Int × Int)} {x : Int × Int} : seen a (pre ++ [x]) = (seen a pre || x.2 == a) := by simp [seen]
/-- A round that returns has seen what cannot come. -/
def LBad (n a : Int) (pre : List (Int × Int)) : Prop := n ≤ (lst pre).2 ∧ (lst pre).2 < a
theorem lbad_not {n : Int} (h1 : 1 ≤ n) (h2 : n ≤ 65536) {pre : List (Int × Int)} (hp : pre <+: szs 43) : ¬ LBad n (szR n) pre := by
  rintro ⟨h3, h4⟩
  obtain ⟨e, hm⟩ := szs_of_prefix hp
  generalize pre.length = m at e hm
  subst e
  cases m with
  | zero => simp [szs, lst] at h3; omega
  | succ k =>
    rw [lst_szs] at h3 h4
    rw [(mid_R h1 h2).2.1] at h4
    rcases Nat.lt_or_ge k (cls n) with h5 | h5
    · have := (cls_is h2).2 k h5
      simp only at h3
      omega
    · have := sz_le h5
      simp only at h4
      omega
theorem seen_all {n : Int} (h1 : 1 ≤ n) (h2 : n ≤ 65536) : seen (szR n) (szs 43) = true := by
  rw [(mid_R h1 h2).2.1]
  simp only [seen, List.any_eq_true]
  exact ⟨_, szs_mem (cls_in h2), by simp⟩

theorem sizeclassLeast_walk (k : Int) (w : World) (h0 : (Lit.int .u32 k).wf = true) :
    Calls Try.prog 5 #[.int .u32 k] w fun e w' => e = .returned (.bool true) ∧ Below w.heap.size w w' := by
  have hk := Go.bounds_u32 h0
  have hn : 1 ≤ 1 + k % 65536 ∧ 1 + k % 65536 ≤ 65536 := by omega
  have R := Lib.hid (fun W => round_any (1 + k % 65536) W)
  have R' := Lib.hid (fun W => round_any (szR (1 + k % 65536)) W)
  have NB : Hid (∀ pre : List (Int × Int), pre <+: szs 43 → ¬ LBad (1 + k % 65536) (szR (1 + k % 65536)) pre) := Lib.hid (fun pre hp => lbad_not hn.1 hn.2 hp)
  have SA := Lib.hid (seen_all hn.1 hn.2)
  have e1 : erR (1 + k % 65536) = 0 := (mid_R hn.1 hn.2).2.2
  have e2 : 1 ≤ szR (1 + k % 65536) ∧ szR (1 + k % 65536) ≤ 65536 ∧ 1 + k % 65536 ≤ szR (1 + k % 65536) := by
    have h1 := (mid_R hn.1 hn.2).2.1
    have h2 := (cls_is hn.2).1
    have h3 := sz_in (cls_in hn.2)
    omega
  have e3 : szR (szR (1 + k % 65536)) = szR (1 + k % 65536) := by
    have h1 := (mid_R hn.1 hn.2).2.1
    have h2 := (mid_R e2.1 e2.2.1).2.1
    rw [h2]
    rw [h1, cls_sz (cls_in hn.2)]
  have e4 : erR (szR (1 + k % 65536)) = 0 := (mid_R e2.1 e2.2.1).2.2
  rw [e1] at R
  rw [e3, e4] at R'
  generalize szR (1 + k % 65536) = a at *
  clear e1 e3 e4 h0 hn
  have C2 := Lib.hid (Cel.new (w := w) (t := 4) (v := .bool false))
  have HB0 : Hid (Below w.heap.size w (w.alloc (.cells #[.bool false] 4))) := Lib.hid ((Below.refl _ _).alloc (Nat.le_refl _) _)
  refine (callsIn_wide (n := 6)).1 ?_
  refine callsIn_of_wp_marks Try.func5 rfl trivial ?_ rfl
  refine wpIn_wide.2 ?_
  simp only [Try.ntmps5, List.size_toArray, List.length_cons, List.length_nil, Nat.reduceAdd, Nat.reduceSub, Array.replicate_succ, Array.replicate_zero, List.push_toArray, List.append_toArray, List.nil_append, List.cons_append]
  go_wp2_with fail
  generalize (w.alloc (.cells #[.bool false] 4)) = w0 at *
  refine (awake_any w0).mono ?_
  rintro e w1 ⟨rfl, hb⟩
  have C2 := Lib.hid (C2.out.go hb)
  have HB1 := Lib.hid (Below.then HB0.out hb (Nat.le_refl _))
  clear hb HB0
  have hl1 : w.heap.size < w1.heap.size := C2.out.lt
  have hb2 : Below w1.heap.size w1 (w1.alloc (.cells #[.int .i64 (1 + k % 65536)] 3)) := (Below.refl _ _).alloc (Nat.le_refl _) _
  have C3 := Lib.hid (Cel.new (w := w1) (t := 3) (v := .int .i64 (1 + k % 65536)))
  have C2 := Lib.hid (C2.out.go hb2)
  have HB2 := Lib.hid (Below.then HB1.out hb2 (Nat.le_refl _))
  clear hb2
  go_wp2_with fail
  generalize (w1.alloc (.cells #[.int .i64 (1 + k % 65536)] 3)) = w2 at *
  refine (R.out w2).mono ?_
  rintro e w3 ⟨rfl, hb⟩
  have C2 := Lib.hid (C2.out.go hb)
  have C3 := Lib.hid (C3.out.go hb)
  have HB3 := Lib.hid (Below.then HB2.out hb (Nat.le_refl _))
  have hl3 : w1.heap.size < w3.heap.size := C3.out.lt
  have hb4 : Below w3.heap.size w3 (w3.alloc (.cells #[.int .i64 a] 3)) := (Below.refl _ _).alloc (Nat.le_refl _) _
  have C4 := Lib.hid (Cel.new (w := w3) (t := 3) (v := .int .i64 a))
  have C2 := Lib.hid (C2.out.go hb4)
  have C3 := Lib.hid (C3.out.go hb4)
  have HB4 := Lib.hid (Below.then HB3.out hb4 (Nat.le_refl _))
  clear hb hb4
  go_wp2_with fail
  generalize (w3.alloc (.cells #[.int .i64 a] 3)) = w4 at *
  refine (R'.out w4).mono ?_
  rintro e w5 ⟨rfl, hb⟩
  have C25 := Lib.hid (C2.out.go hb)
  have C35 := Lib.hid (C3.out.go hb)
  have C45 := Lib.hid (C4.out.go hb)
  have HB5 := Lib.hid (Below.then HB4.out hb (Nat.le_refl _))
  have hl5 : w3.heap.size < w5.heap.size := C45.out.lt
  clear C2 C3 C4
  have hb6 : Below w5.heap.size w5 (w5.alloc (.cells #[.bool false] 4)) := (Below.refl _ _).alloc (Nat.le_refl _) _
  have C8 := Lib.hid (Cel.new (w := w5) (t := 4) (v := .bool false))
  have HB6 := Lib.hid (Below.then HB5.out hb6 (Nat.le_refl _))
  have HL := Lib.hid (And.intro hl1 (And.intro hl3 hl5))
  have HB56 := Lib.hid hb6
  clear hb hb6 hl1 hl3 hl5
  go_wp2_with fail
  generalize (w5.alloc (.cells #[.bool false] 4)) = w6 at *
  refine (sizes_any w6).mono ?_
  rintro e w7 ⟨rfl, rfl⟩
  have HSQ := Lib.hid (sizes_stops 5 (w5.heap.size + 1) w6 (by omega))
  go_wp2
  refine (wpIn_wide (n := 6)).1 ?_
  refine' wpIn_rangeFunc_ownF rfl (by omega) (gf := 15) (lb := #[]) rfl trivial (enters_of Try.func15 (by kernel_rfl) rfl) HSQ.out Kp.t (Kp.b w6) (Below.refl _ _) (fun _ => rfl)
    (fun (pre : List (Int × Int)) W => Below w5.heap.size w5 W ∧ Cel W w5.heap.size 4 (.bool (seen a pre)))
    (fun _ (pre : List (Int × Int)) _ => LBad (1 + k % 65536) a pre)
    (OwnFrom.and (ownFrom_below (Nat.le_refl _) HB56.out.size) (cel_own _ _ _ (fun (pre : List (Int × Int)) => .bool (seen a pre))))
    (fun _ => ownFrom_pure _ _)
    ⟨HB56.out, C8.out⟩ _ ?assign ?body ?done ?stop
  case assign =>
    intro l x W K hK
    gi_wp2
    exact hK
  case body =>
    rintro l pre x W ⟨hB, c8⟩ hlen
    have H8 := Lib.hid c8
    have HB := Lib.hid hB
    have H2 := Lib.hid (C25.out.go hB)
    have H3 := Lib.hid (C35.out.go hB)
    have H4 := Lib.hid (C45.out.go hB)
    have e2 := H2.out.cell
    have f2 := H2.out.fr
    have e3 := H3.out.cell
    have e4 := H4.out.cell
    have e8 := H8.out.cell
    have f8 := H8.out.fr
    clear hB c8 hlen
    have HV := Lib.hid (seen_snoc (a := a) (pre := pre) (x := x))
    have hres : Hid (∀ b : Bool, b = (seen a pre || x.2 == a) → KeepsOthers W (W.setCell ⟨w5.heap.size, 0, none⟩ (.bool b)) ∧ Kp (w5.heap.size + 1) W (W.setCell ⟨w5.heap.size, 0, none⟩ (.bool b)) ∧ Below w5.heap.size w5 (W.setCell ⟨w5.heap.size, 0, none⟩ (.bool b)) ∧ Cel (W.setCell ⟨w5.heap.size, 0, none⟩ (.bool b)) w5.heap.size 4 (.bool (seen a (pre ++ [x])))) :=
      Lib.hid (fun b hb => ⟨KeepsOthers.setCell _ _ _, Kp.set (by omega) _, HB.out.setCell (p := ⟨w5.heap.size, 0, none⟩) (by simp) _, by rw [HV.out, ← hb]; exact H8.out.set _⟩)
    by_cases hbad : 1 + k % 65536 ≤ x.2 ∧ x.2 < a
    · obtain ⟨hx, hy⟩ := hbad
      gi_wp2
      exact ⟨KeepsOthers.setCell _ _ _, by rw [lst_snoc]; exact hx, by rw [lst_snoc]; exact hy⟩
    · by_cases hx : 1 + k % 65536 ≤ x.2
      · have hy : ¬ x.2 < a := fun h => hbad ⟨hx, h⟩
        clear hbad
        cases hs : seen a pre
        · rw [hs] at e8 hres
          gi_wp2
          exact hres.out (x.2 == a) (by simp)
        · rw [hs] at e8 hres
          gi_wp2
          exact hres.out true (by simp)
      · clear hbad
        cases hs : seen a pre
        · rw [hs] at e8 hres
          gi_wp2
          exact hres.out (x.2 == a) (by simp)
        · rw [hs] at e8 hres
          gi_wp2
          exact hres.out true (by simp)
  case done =>
    rintro D ys W hD rfl ⟨hB, c8⟩ hK
    rw [SA.out] at c8
    have HK := Lib.hid (show Df W D from hK)
    have H2 := Lib.hid (C25.out.go hB)
    have H3 := Lib.hid (C35.out.go hB)
    have H4 := Lib.hid (C45.out.go hB)
    have H8 := Lib.hid c8
    have HB := Lib.hid (Below.then HB5.out hB (Nat.le_refl _))
    clear hB c8 hK
    dsimp only
    go_wp2_with fail
    refine (awake_any W).mono ?_
    rintro e W1 ⟨rfl, hb⟩
    have HK := Lib.hid (HK.out.go hb)
    have H2 := Lib.hid (H2.out.go hb)
    have H3 := Lib.hid (H3.out.go hb)
    have H4 := Lib.hid (H4.out.go hb)
    have H8 := Lib.hid (H8.out.go hb)
    have HB := Lib.hid (Below.then HB.out hb (Nat.le_refl _))
    have e2 := H2.out.cell
    have f2 := H2.out.fr
    have e3 := H3.out.cell
    have e4 := H4.out.cell
    have e8 := H8.out.cell
    have HD := Lib.hid (HK.out.set ⟨w.heap.size, 0, none⟩ (.bool true))
    have HB := Lib.hid (HB.out.setCell (p := ⟨w.heap.size, 0, none⟩) (by simp) (.bool true))
    have D2 := Lib.hid (((H2.out.set (.bool true)).put HD.out (.deferred none)).cell)
    have HS : Hid (w.heap.size ≤ D) := Lib.hid (by have h1 := HL.out; have h2 := HB56.out.size; omega)
    clear hb
    go_wp2
    have d2 := D2.out
    refine leave_one HD.out ?_
    refine ⟨.bool true, ?_, rfl, HD.out.below HS.out HB.out (.deferred none)⟩
    simp [results, Try.f5, go_sem, d2]
  case stop =>
    rintro D c pre W _ hp hb _
    exact (NB.out _ hp hb).elim
end Go.Proofs.Ytmfggknbhhagbaa
