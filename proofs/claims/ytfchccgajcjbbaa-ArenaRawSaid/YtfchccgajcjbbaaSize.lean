/-
  Contracts of sizeclass.next, Sizes and the iterator that it returns, find, Round and Class. No conditions.
-/
import Derived.Test.YtfchccgajcjbbaaCell
import Derived.Test.YtfchccgajcjbbaaSiz
namespace Go.Proofs.Ytfchccgajcjbbaa
open Go.ChangeShapes Go.WideShapes Go.ChangeAt Go.RowKit Go.Shelf
attribute [local go_sem] Oper.semAt_some
set_option maxHeartbeats 2000000
set_option maxRecDepth 100000

theorem next_any (s : Int) (w : World) (h1 : 0 < s) (h2 : s ≤ 65536) :
    Calls Try.prog 94 #[.int .i64 s] w fun e w' => e = .returned (.int .i64 (nxt s)) ∧ w = w' := by
  by_cases ha : s < 128
  · have hx : nxt s = s + 16 := by simp [nxt, ha]
    rw [hx]
    go_enter Try.func94, Try.ntmps94
    go_wp2
    go_ret
    exact ⟨rfl, rfl⟩
  · by_cases hb : s < 2048
    · have hx : nxt s = 2 * s := by simp [nxt, ha, hb]
      rw [hx]
      go_enter Try.func94, Try.ntmps94
      go_wp2
      go_ret
      exact ⟨rfl, rfl⟩
    · have hx : nxt s = s + 2048 := by simp [nxt, ha, hb]
      rw [hx]
      go_enter Try.func94, Try.ntmps94
      go_wp2
      go_ret
      exact ⟨rfl, rfl⟩

theorem sizes_any (w : World) : Calls Try.prog 91 #[] w fun e w' => e = .returned (.func (.func 93) #[] #[]) ∧ w = w' := by
  go_enter Try.func91, Try.ntmps91
  go_wp2
  go_ret
  exact ⟨rfl, rfl⟩

/-- The iterator: all classes and sizes come, in order. -/
theorem run_any (d : Nat) (lp n₁ : Nat) (J Jx : List (Int × Int) → World → Prop) (W : World) (hd : 1 ≤ d)
    (hY : ∀ pre x W1, J pre W1 → pre.length < 43 → YieldAt Fence.wide (d - 1) Try.prog lp #[.int .i64 x.1, .int .i64 x.2] W1 fun e W' =>
      (e = .returned (.bool true) ∧ J (pre ++ [x]) W' ∧ Kp n₁ W1 W') ∨ (e = .returned (.bool false) ∧ Jx (pre ++ [x]) W'))
    (h0 : J [] W) :
    CallsIn Fence.wide d Try.prog 93 #[.func (.yield lp) #[] #[]] W fun e W' => (∃ v, e = .returned v) ∧
      ((∃ ys, ys = szq 43 ∧ J ys W') ∨ (∃ pre, pre <+: szq 43 ∧ Jx pre W')) := by
  have HY := Lib.hid hY
  have H0 := Lib.hid h0
  clear hY h0
  refine callsIn_of_wp Try.func93 rfl trivial ?_ rfl
  simp only [Try.ntmps93, List.size_toArray, List.length_cons, List.length_nil, Nat.reduceAdd, Nat.reduceSub, Array.replicate_succ, Array.replicate_zero, List.push_toArray, List.append_toArray, List.nil_append, List.cons_append]
  gi_wp2
  gi_loopw [2, 3] (fun c s wr => ∃ k : Nat, k ≤ 43 ∧ c = .int .i64 k ∧ s = .int .i64 (sz k) ∧ Hid (J (szq k) wr)) (fun c _ _ => 43 - (intOf c).toNat)
  case atStart => exact ⟨0, by omega, rfl, rfl, Lib.hid H0.out⟩
  case round =>
    obtain ⟨k, hk, rfl, rfl, hh⟩ := hrel
    by_cases hlt : k < 43
    · obtain ⟨fn, tmps, assign, body, hy, hR⟩ := HY.out _ ((k : Int), sz k) wr hh.out (by rw [szs_len]; exact hlt)
      have hs1 : sz k ≤ 65536 := sz_in hlt
      have hs2 : 0 < sz k := sz_pos
      have HN := Lib.hid (fun W => next_any (sz k) W hs2 hs1)
      rw [← szs_succ] at hR
      rw [← sz_succ] at HN
      have HZ := Lib.hid (sz_succ (k := k))
      clear hh
      gi_wp2
      refine hR.mono ?_
      rintro e W3 (⟨rfl, hJ3, hk3⟩ | ⟨rfl, hJx3⟩)
      · have HJ3 := Lib.hid hJ3
        clear hJ3 hk3 hR hy
        gi_wp2
        refine ⟨trivial, (callsIn_wide.2 (HN.out _)).mono ?_⟩
        rintro e W4 ⟨rfl, rfl⟩
        gi_wp2
        go_roundw
        case rel => exact ⟨k + 1, by omega, by go_num, rfl, HJ3⟩
        case measure => simp [intOf]; omega
      · have HJx3 := Lib.hid hJx3
        clear hJx3 hR hy
        gi_wp2
        refine bodyPost_ret (results_none rfl _ _ _) rfl ?_
        exact ⟨⟨_, rfl⟩, .inr ⟨_, szs_prefix (by omega), HJx3.out⟩⟩
    · obtain rfl : k = 43 := by omega
      have hs1 : ¬ sz 43 ≤ 65536 := by rw [sz_beyond]; omega
      gi_wp2
      go_end0
      exact ⟨⟨_, rfl⟩, .inl hh.out⟩
theorem sizes_stops (d n₁ : Nat) (w : World) (hd : 1 ≤ d) :
    SeqStopsK Fence.wide d Try.prog 93 #[] (fun x : Int × Int => #[Value.int .i64 x.1, Value.int .i64 x.2]) (Kp n₁) (fun ys => ys = szq 43) (fun pre => pre <+: szq 43) 43 w :=
  fun lp J Jx W _ _ _ hY h0 => run_any d lp n₁ J Jx W hd hY h0

/-- What find says of n. -/
def FndE (w : World) (n : Int) (e : Ending) (w' : World) : Prop := e = .returned (.tuple #[.int .i64 (clR n), .int .i64 (szR n), .int .i64 (erR n)]) ∧ Below w.heap.size w w'
theorem findz_any (n : Int) (w : World) : Calls Try.prog 89 #[.int .i64 n] w (FndE w n) := by
  have hb0 : Below w.heap.size w ((((w.alloc (.cells #[.int .i64 n] 3)).alloc (.cells #[.int .i64 0] 3)).alloc (.cells #[.int .i64 0] 3)).alloc (.cells #[.int .i64 0] 35)) := ((((Below.refl _ _).alloc (Nat.le_refl _) _).alloc (by simp) _).alloc (by simp; omega) _).alloc (by simp; omega) _
  have HB0 := Lib.hid hb0
  have C1 := Lib.hid (((((Cel.new (w := w) (t := 3) (v := .int .i64 n)).go ((Below.refl _ _).alloc (Nat.le_refl _) (.cells #[.int .i64 0] 3))).go ((Below.refl _ _).alloc (Nat.le_refl _) (.cells #[.int .i64 0] 3)))).go ((Below.refl _ _).alloc (Nat.le_refl _) (.cells #[.int .i64 0] 35)))
  have C2 := Lib.hid ((((Cel.new (w := w.alloc (.cells #[.int .i64 n] 3)) (t := 3) (v := .int .i64 0)).go ((Below.refl _ _).alloc (Nat.le_refl _) (.cells #[.int .i64 0] 3)))).go ((Below.refl _ _).alloc (Nat.le_refl _) (.cells #[.int .i64 0] 35)))
  have C3 := Lib.hid ((Cel.new (w := (w.alloc (.cells #[.int .i64 n] 3)).alloc (.cells #[.int .i64 0] 3)) (t := 3) (v := .int .i64 0)).go ((Below.refl _ _).alloc (Nat.le_refl _) (.cells #[.int .i64 0] 35)))
  have C4 := Lib.hid (Cel.new (w := ((w.alloc (.cells #[.int .i64 n] 3)).alloc (.cells #[.int .i64 0] 3)).alloc (.cells #[.int .i64 0] 3)) (t := 35) (v := .int .i64 0))
  rw [show (w.alloc (.cells #[.int .i64 n] 3)).heap.size = w.heap.size + 1 by simp] at C2
  rw [show ((w.alloc (.cells #[.int .i64 n] 3)).alloc (.cells #[.int .i64 0] 3)).heap.size = w.heap.size + 1 + 1 by simp] at C3
  rw [show (((w.alloc (.cells #[.int .i64 n] 3)).alloc (.cells #[.int .i64 0] 3)).alloc (.cells #[.int .i64 0] 3)).heap.size = w.heap.size + 1 + 1 + 1 by simp] at C4
  have HZ0 : Hid (((((w.alloc (.cells #[.int .i64 n] 3)).alloc (.cells #[.int .i64 0] 3)).alloc (.cells #[.int .i64 0] 3)).alloc (.cells #[.int .i64 0] 35)).heap.size = w.heap.size + 4) := Lib.hid (by simp)
  clear hb0
  refine (callsIn_wide (n := 6)).1 ?_
  refine callsIn_of_wp_marks Try.func89 rfl trivial ?_ rfl
  refine wpIn_wide.2 ?_
  simp only [Try.ntmps89, List.size_toArray, List.length_cons, List.length_nil, Nat.reduceAdd, Nat.reduceSub, Array.replicate_succ, Array.replicate_zero, List.push_toArray, List.append_toArray, List.nil_append, List.cons_append]
  by_cases h1 : n < 1
  · obtain ⟨e1, e2, e3⟩ := small_R h1
    have HE : Hid ((clR n = 0) ∧ szR n = 0 ∧ erR n = 1) := Lib.hid (small_R h1)
    clear e1 e2 e3
    go_wp2
    refine ⟨.tuple #[.int .i64 0, .int .i64 0, .int .i64 1], ?_, ?_, ((((Below.refl _ _).alloc (Nat.le_refl _) _).alloc (by simp) _).alloc (by simp; omega) _).alloc (by simp; omega) _⟩
    · simp [results, Try.f89, go_sem]
    · obtain ⟨e1, e2, e3⟩ := HE.out
      rw [e1, e2, e3]
  · go_wp2_with fail
    generalize ((((w.alloc (.cells #[.int .i64 n] 3)).alloc (.cells #[.int .i64 0] 3)).alloc (.cells #[.int .i64 0] 3)).alloc (.cells #[.int .i64 0] 35)) = w0 at *
    refine (sizes_any w0).mono ?_
    rintro e w1 ⟨rfl, rfl⟩
    have HSQ := Lib.hid (sizes_stops 5 0 w0 (by omega))
    go_wp2
    refine (wpIn_wide (n := 6)).1 ?_
    refine' wpIn_rangeFunc_ownF rfl (by omega) (gf := 93) (lb := #[]) rfl trivial (enters_of Try.func93 (by kernel_rfl) rfl) HSQ.out Kp.t (Kp.b w0) (Below.refl _ _) (fun _ => rfl)
      (fun (pre : List (Int × Int)) W => Below w0.heap.size w0 W ∧ Und n pre)
      (fun c (pre : List (Int × Int)) W => (c = .ret ∧ n ≤ (lsz pre).2 ∧ Und n pre.dropLast) ∧ Below w.heap.size w W ∧ Cel W (w.heap.size + 1) 3 (.int .i64 (lsz pre).1) ∧ Cel W (w.heap.size + 1 + 1) 3 (.int .i64 (lsz pre).2) ∧ Cel W (w.heap.size + 1 + 1 + 1) 35 (.int .i64 0))
      (OwnFrom.and (ownFrom_below (Nat.le_refl _) (Nat.le_refl _)) (ownFrom_pure _ (fun (pre : List (Int × Int)) => Und n pre)))
      (fun c => OwnFrom.and (ownFrom_pure _ (fun (pre : List (Int × Int)) => c = .ret ∧ n ≤ (lsz pre).2 ∧ Und n pre.dropLast)) (OwnFrom.and (ownFrom_below (Nat.le_refl _) HB0.out.size) (OwnFrom.and (cel_own _ _ _ (fun (pre : List (Int × Int)) => .int .i64 (lsz pre).1)) (OwnFrom.and (cel_own _ _ _ (fun (pre : List (Int × Int)) => .int .i64 (lsz pre).2)) (cel_own _ _ _ (fun _ => .int .i64 0))))))
      ⟨Below.refl _ _, und_nil⟩ _ ?assign ?body ?done ?stop
    case assign =>
      intro l x W K hK
      gi_wp2
      exact hK
    case body =>
      rintro l pre x W ⟨hB, hp⟩ hlen
      have HP := Lib.hid hp
      have HB := Lib.hid hB
      have H1 := Lib.hid (C1.out.go hB)
      have H2 := Lib.hid (C2.out.go hB)
      have H3 := Lib.hid (C3.out.go hB)
      have H4 := Lib.hid (C4.out.go hB)
      have e1 := H1.out.cell
      have e2 := H2.out.cell
      have f2 := H2.out.fr
      have e3 := H3.out.cell
      have f3 := H3.out.fr
      have e4 := H4.out.cell
      have f4 := H4.out.fr
      clear hB hp hlen
      by_cases hx : n ≤ x.2
      · gi_wp2
        refine ⟨(KeepsOthers.setCell _ _ _).trans ((KeepsOthers.setCell _ _ _).trans (KeepsOthers.setCell _ _ _)), ⟨rfl, by rw [lst_snoc]; exact hx, by rw [List.dropLast_concat]; exact HP.out⟩,
          (((Below.then HB0.out HB.out (Nat.le_refl _)).setCell (p := ⟨w.heap.size + 1, 0, none⟩) (by simp) _).setCell (p := ⟨w.heap.size + 1 + 1, 0, none⟩) (by simp; omega) _).setCell (p := ⟨w.heap.size + 1 + 1 + 1, 0, none⟩) (by simp; omega) _, ?_, ?_, ?_⟩
        · rw [lst_snoc]
          exact ((H2.out.set _).other (by omega) _).other (by omega) _
        · rw [lst_snoc]
          exact ((H3.out.other (by omega) _).set _).other (by omega) _
        · exact ((H4.out.other (by omega) _).other (by omega) _).set _
      · gi_wp2
        exact ⟨KeepsOthers.refl _, Kp.refl _ _, HB.out, und_snoc HP.out (by omega)⟩
    case done =>
      rintro D ys W hD rfl ⟨hB, hp⟩ hK
      have HE := Lib.hid (big_R (done_big hp))
      have HK := Lib.hid (show Df W D from hK)
      have H2 := Lib.hid (C2.out.go hB)
      have H3 := Lib.hid (C3.out.go hB)
      have H4 := Lib.hid (C4.out.go hB)
      have HB := Lib.hid (Below.then HB0.out hB (Nat.le_refl _))
      have e2 := H2.out.cell
      have f2 := H2.out.fr
      have e3 := H3.out.cell
      have f3 := H3.out.fr
      have e4 := H4.out.cell
      have f4 := H4.out.fr
      clear hB hp hK
      dsimp only
      go_wp2
      have hz := HZ0.out
      obtain ⟨g1, g2, g3⟩ := HE.out
      have HD := Lib.hid (((HK.out.set ⟨w.heap.size + 1, 0, none⟩ (.int .i64 0)).set ⟨w.heap.size + 1 + 1, 0, none⟩ (.int .i64 0)).set ⟨w.heap.size + 1 + 1 + 1, 0, none⟩ (.int .i64 4))
      have HB := Lib.hid (((HB.out.setCell (p := ⟨w.heap.size + 1, 0, none⟩) (by simp) (.int .i64 0)).setCell (p := ⟨w.heap.size + 1 + 1, 0, none⟩) (by simp; omega) (.int .i64 0)).setCell (p := ⟨w.heap.size + 1 + 1 + 1, 0, none⟩) (by simp; omega) (.int .i64 4))
      have d2 := ((((H2.out.set (.int .i64 0)).other (b' := w.heap.size + 1 + 1) (by omega) (.int .i64 0)).other (b' := w.heap.size + 1 + 1 + 1) (by omega) (.int .i64 4)).put HD.out (.deferred none)).cell
      have d3 := ((((H3.out.other (b' := w.heap.size + 1) (by omega) (.int .i64 0)).set (.int .i64 0)).other (b' := w.heap.size + 1 + 1 + 1) (by omega) (.int .i64 4)).put HD.out (.deferred none)).cell
      have d4 := ((((H4.out.other (b' := w.heap.size + 1) (by omega) (.int .i64 0)).other (b' := w.heap.size + 1 + 1) (by omega) (.int .i64 0)).set (.int .i64 4)).put HD.out (.deferred none)).cell
      refine leave_one HD.out ?_
      refine ⟨.tuple #[.int .i64 0, .int .i64 0, .int .i64 4], ?_, ?_, HD.out.below (by omega) HB.out (.deferred none)⟩
      · simp [results, Try.f89, go_sem, d2, d3, d4]
      · rw [g1, g2, g3]
    case stop =>
      rintro D c pre W hD hp ⟨⟨rfl, hl, hd⟩, hB, c2, c3, c4⟩ hK
      obtain ⟨e1, e2, e3⟩ := stop_cls (by omega) hp hl hd
      have HK := Lib.hid (show Df W D from hK)
      rw [e1] at c2
      rw [e2] at c3
      rw [e3] at c4
      have hz := HZ0.out
      have d2 := (c2.put HK.out (.deferred none)).cell
      have d3 := (c3.put HK.out (.deferred none)).cell
      have d4 := (c4.put HK.out (.deferred none)).cell
      have HBW := Lib.hid hB
      clear hB hK
      refine wpIn_wide.2 ?_
      go_wp2
      refine leave_one HK.out ?_
      refine ⟨.tuple #[.int .i64 (clR n), .int .i64 (szR n), .int .i64 (erR n)], ?_, rfl, HK.out.below (by omega) HBW.out (.deferred none)⟩
      simp [results, Try.f89, go_sem, d2, d3, d4]

theorem round_any (n : Int) (w : World) : Calls Try.prog 82 #[.int .i64 n] w fun e w' => e = .returned (.tuple #[.int .i64 (szR n), .int .i64 (erR n)]) ∧ Below w.heap.size w w' := by
  go_enter Try.func82, Try.ntmps82
  go_wp2_with fail
  refine (findz_any n w).mono ?_
  rintro e w1 ⟨rfl, hb⟩
  have HB := Lib.hid hb
  clear hb
  go_wp2
  go_ret2
  exact ⟨rfl, HB.out⟩
end Go.Proofs.Ytfchccgajcjbbaa
