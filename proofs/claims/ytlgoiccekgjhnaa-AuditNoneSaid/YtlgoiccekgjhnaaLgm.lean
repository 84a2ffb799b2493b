/-
  Contracts of the landed log: New, Room, isOperation, Miss, Append. Conditions: at most a thousand records and missed events; the event's words are words.
-/
import Derived.Test.YtlgoiccekgjhnaaLgl
import Derived.Test.YtlgoiccekgjhnaaHdt
namespace Go.Proofs.Ytlgoiccekgjhnaa
open Go.ChangeShapes Go.WideShapes Go.ChangeAt Go.RowKit Go.Maps
set_option linter.unusedVariables false
set_option linter.unusedSimpArgs false
set_option maxHeartbeats 4000000
set_option maxRecDepth 100000

theorem Kept.then {w w1 w2 : World} {c c' : Nat → Nat} {k : Nat} (h : Kept c k w w1) (hc : ∀ g, g < w.heap.size → c' g = c g) (h' : Kept c' k w1 w2) : Kept c k w w2 :=
  ⟨h'.os.trans h.os, h'.tape.trans h.tape, h'.output.trans h.output, Nat.le_trans h.size h'.size, fun g hg hk => (h'.block g (Nat.lt_of_lt_of_le hg h.size) (by rw [hc g hg]; exact hk)).trans (h.block g hg hk)⟩
theorem rc_rc {c : Nat → Nat} {k n n1 : Nat} (h : n ≤ n1) : rc (rc c n k) n1 k = rc c n k := by
  funext g
  rcases Nat.lt_or_ge g n1 with h1 | h1
  · rw [rc_old h1]
  · rw [rc_new h1, rc_new (by omega)]
/-- A log of the colour k at block p: what the bundle asks of a reading. -/
def Lgl (w : World) (c : Nat → Nat) (k p : Nat) (cap : Int) (L : List Ev5) (M : List Int) : Prop :=
  Goods L ∧ ∃ A n cp last mr mm, (L ≠ [] → last = lgD start L) ∧ LgR w c k p cap A n cp last mr mm L L.length M.length (rcN L) (msN M)
section
variable {w w' w1 : World} {c c' : Nat → Nat} {j k p : Nat} {cap : Int} {L : List Ev5} {M : List Int} {P : Option Addr} {last z : Int} {f g : Int → Nat}
theorem Lgl.lt (H : Lgl w c k p cap L M) : p < w.heap.size := by
  obtain ⟨_, A, n, cp, last, mr, mm, _, h⟩ := H
  exact h.lt
theorem Lgl.kept (H : Lgl w c k p cap L M) (hk : Kept c j w w') (hjk : j ≠ k) (hc : ∀ g, g < w.heap.size → c' g = c g) : Lgl w' c' k p cap L M := by
  obtain ⟨hg, A, n, cp, last, mr, mm, hl, h⟩ := H
  exact ⟨hg, A, n, cp, last, mr, mm, hl, h.kept hk hjk hc⟩
theorem Lgl.r (H : Lgl w c k p cap L M) : ∃ last, (L ≠ [] → last = lgD start L) ∧ Rlp w (some ⟨p, 0, none⟩) cap L last (rcN L) (msN M) := by
  obtain ⟨hg, A, n, cp, last, mr, mm, hl, h⟩ := H
  exact ⟨last, hl, h.r.ptr⟩
theorem newL_any (cap : Int) (w : World) (c : Nat → Nat) (k : Nat) (h0 : 0 ≤ cap) (h1 : cap ≤ 65536) : Calls Try.prog 12 #[.int .i64 cap] w fun e w' =>
    ∃ p, e = .returned (.tuple #[.pointer (some ⟨p, 0, none⟩), .int .i64 0]) ∧ w.heap.size ≤ p ∧ Lgl w' (rc c w.heap.size k) k p cap [] [] ∧ Below w.heap.size w w' := by
  have HB := Lib.hid ((Below.refl w.heap.size w).alloc (Nat.le_refl _) (.cells #[.int .i64 cap, .slice none 0 0, .int .u64 0, .map none, .map none] 50))
  have HL : Hid (Lgl (w.alloc (.cells #[.int .i64 cap, .slice none 0 0, .int .u64 0, .map none, .map none] 50)) (rc c w.heap.size k) k w.heap.size cap [] []) := Lib.hid
    ⟨Goods.nil, none, 0, 0, 0, none, none, fun h => absurd rfl h, rc_new (Nat.le_refl _), heap_alloc_new w _, OwC.nil, .nil (fun _ => rfl), .nil (fun _ => rfl), fun b e => by cases e⟩
  have d0 : ¬ cap < 0 := by omega
  have d1 : ¬ 65536 < cap := by omega
  clear h0 h1
  go_enter Try.func12, Try.ntmps12
  go_wp2
  go_ret2
  exact ⟨w.heap.size, rfl, Nat.le_refl _, HL.out, HB.out⟩
theorem newL_bad (cap : Int) (w : World) (h : cap < 0 ∨ 65536 < cap) : Calls Try.prog 12 #[.int .i64 cap] w fun e w' => e = .returned (.tuple #[.pointer none, .int .i64 1]) ∧ w' = w := by
  by_cases d0 : cap < 0
  · clear h
    go_enter Try.func12, Try.ntmps12
    go_wp2
    go_ret2
    exact ⟨rfl, rfl⟩
  · have d1 : 65536 < cap := by omega
    clear h
    go_enter Try.func12, Try.ntmps12
    go_wp2
    go_ret2
    exact ⟨rfl, rfl⟩
theorem isOpL_any (p o h a e : Int) (w : World) : Calls Try.prog 38 #[.agg #[.int .i64 p, .int .i64 o, .int .u64 h, .int .u64 a, .int .i64 e]] w (Says w (.bool (decide (auc ⟨p, o, h, a, e⟩)))) := by
  have HB := Lib.hid ((Below.refl w.heap.size w).alloc (Nat.le_refl _) (.cells #[.int .i64 p, .int .i64 o, .int .u64 h, .int .u64 a, .int .i64 e] 27))
  obtain ⟨c0, c1, c2, c3, c4⟩ := (EvB.new (w := w) (p := p) (o := o) (h := h) (a := a) (e := e)).cells
  by_cases h1 : o = 32
  · have h1' : (o != 32) = false := by simpa using h1
    rw [decide_eq_false (fun hc : auc ⟨p, o, h, a, e⟩ => hc.1 h1)]
    clear h1
    go_enter Try.func38, Try.ntmps38
    go_wp2
    go_ret
    exact Says.of HB.out
  · have h1' : (o != 32) = true := by simpa using h1
    by_cases h2 : o = 33
    · have h2' : (o != 33) = false := by simpa using h2
      rw [decide_eq_false (fun hc : auc ⟨p, o, h, a, e⟩ => hc.2 h2)]
      clear h1 h2
      go_enter Try.func38, Try.ntmps38
      go_wp2
      go_ret
      exact Says.of HB.out
    · have h2' : (o != 33) = true := by simpa using h2
      rw [decide_eq_true (show auc ⟨p, o, h, a, e⟩ from ⟨h1, h2⟩)]
      clear h1 h2
      go_enter Try.func38, Try.ntmps38
      go_wp2
      go_ret
      exact Says.of HB.out
theorem roomL_any (H : Rlp w P cap L last f g) (hz : Ri z) : Calls Try.prog 31 #[.pointer P, .int .i64 z] w (Says w (.bool (decide ((f z : Int) < cap)))) := by
  have HO := Lib.hid (orEmpty_any H)
  have HZ := Lib.hid hz
  unfold OrE at HO
  clear H hz
  go_enter Try.func31, Try.ntmps31
  go_wp2_with fail
  refine HO.out.mono ?_
  rintro e w1 ⟨p, last', rfl, ⟨A, n, cp, mr, mm, N1, N2, hblk, hk, hm1, hm2⟩, _, hb⟩
  have HB := Lib.hid hb
  have HLD : Hid (∀ W, Below w1.heap.size w1 W → W.cell? ⟨p, 0, none⟩ = some (.int .i64 cap) ∧ W.cell? ⟨p, 3, none⟩ = some (.map mr)) := Lib.hid (fun W hW => by
    obtain ⟨c0, c1, c2, c3, c4⟩ := log_cells ((hW.block p (Array.getElem?_eq_some_iff.1 hblk).1).trans hblk)
    exact ⟨c0, c3⟩)
  have HLK : Hid (∀ W, Below w1.heap.size w1 W → (Instr.lookup 48 (.map mr) (.int .i64 z) false).run Try.prog W = .ok (.int .i64 (f z : Int)) W) := Lib.hid (fun W hW => (hm1.go hW (fun _ _ => rfl)).look HZ.out)
  have HD0 : Hid (Below w1.heap.size w1 w1.drew) := Lib.hid (below_drewN (Below.refl _ w1) 1)
  generalize (f z : Int) = y at *
  clear HO hblk hk hb hm1 hm2
  go_wp2
  refine wp_region_hand 12 (fun W => Below w1.heap.size w1 W) (by kernel_rfl) (by kernel_rfl) ?_
  rw [show Array.replicate 12 false = #[false, false, false, false, false, false, false, false, false, false, false, false] from rfl]
  have hHeld := HD0.out
  refine held_take (i := 0) (d := 7) (v := .pointer (some ⟨p, 0, none⟩)) rfl rfl (by kernel_rfl) (by kernel_rfl) (by kernel_rfl) (fun _ _ _ h => h) (by rfl) (fun W _ => run_move_is (.tmp 0) rfl rfl W) hHeld ?_
  simp only [Act.put, List.setIfInBounds_toArray, List.set_cons_zero, List.set_cons_succ]
  refine held_take (i := 1) (d := 8) (v := .pointer (some ⟨p, 0, none⟩)) rfl rfl (by kernel_rfl) (by kernel_rfl) (by kernel_rfl) (fun _ _ _ h => h) (by rfl) (fun W _ => by go_simp) hHeld ?_
  simp only [Act.put, List.setIfInBounds_toArray, List.set_cons_zero, List.set_cons_succ]
  refine held_take (i := 2) (d := 9) (v := .pointer (some ⟨p, 3, none⟩)) rfl rfl (by kernel_rfl) (by kernel_rfl) (by kernel_rfl) (fun _ _ _ h => h) (by rfl) (fun W _ => by go_simp) hHeld ?_
  simp only [Act.put, List.setIfInBounds_toArray, List.set_cons_zero, List.set_cons_succ]
  refine held_take (i := 3) (d := 10) (v := .map mr) rfl rfl (by kernel_rfl) (by kernel_rfl) (by kernel_rfl) (fun _ _ _ h => h) (by rfl) (fun W hW => by have q := (HLD.out W hW).2; go_simp) hHeld ?_
  simp only [Act.put, List.setIfInBounds_toArray, List.set_cons_zero, List.set_cons_succ]
  refine held_take (i := 4) (d := 11) (v := .int .i64 z) rfl rfl (by kernel_rfl) (by kernel_rfl) (by kernel_rfl) (fun _ _ _ h => h) (by rfl) (fun W _ => run_move_is (.tmp 1) rfl rfl W) hHeld ?_
  simp only [Act.put, List.setIfInBounds_toArray, List.set_cons_zero, List.set_cons_succ]
  refine held_take (i := 5) (d := 12) (v := .int .i64 y) rfl rfl (by kernel_rfl) (by kernel_rfl) (by kernel_rfl) (fun _ _ _ h => h) (by rfl) (fun W hW => by have q := HLK.out W hW; go_simp) hHeld ?_
  simp only [Act.put, List.setIfInBounds_toArray, List.set_cons_zero, List.set_cons_succ]
  refine held_take (i := 6) (d := 13) (v := .pointer (some ⟨p, 0, none⟩)) rfl rfl (by kernel_rfl) (by kernel_rfl) (by kernel_rfl) (fun _ _ _ h => h) (by rfl) (fun W _ => run_move_is (.tmp 0) rfl rfl W) hHeld ?_
  simp only [Act.put, List.setIfInBounds_toArray, List.set_cons_zero, List.set_cons_succ]
  refine held_take (i := 7) (d := 14) (v := .pointer (some ⟨p, 0, none⟩)) rfl rfl (by kernel_rfl) (by kernel_rfl) (by kernel_rfl) (fun _ _ _ h => h) (by rfl) (fun W _ => by go_simp) hHeld ?_
  simp only [Act.put, List.setIfInBounds_toArray, List.set_cons_zero, List.set_cons_succ]
  refine held_take (i := 8) (d := 15) (v := .pointer (some ⟨p, 0, none⟩)) rfl rfl (by kernel_rfl) (by kernel_rfl) (by kernel_rfl) (fun _ _ _ h => h) (by rfl) (fun W _ => by go_simp) hHeld ?_
  simp only [Act.put, List.setIfInBounds_toArray, List.set_cons_zero, List.set_cons_succ]
  refine held_take (i := 9) (d := 16) (v := .int .i64 cap) rfl rfl (by kernel_rfl) (by kernel_rfl) (by kernel_rfl) (fun _ _ _ h => h) (by rfl) (fun W hW => by have q := (HLD.out W hW).1; go_simp) hHeld ?_
  simp only [Act.put, List.setIfInBounds_toArray, List.set_cons_zero, List.set_cons_succ]
  refine held_take (i := 10) (d := 17) (v := .bool (decide (y < cap))) rfl rfl (by kernel_rfl) (by kernel_rfl) (by kernel_rfl) (fun _ _ _ h => h) (by rfl) (fun W _ => by go_simp) hHeld ?_
  simp only [Act.put, List.setIfInBounds_toArray, List.set_cons_zero, List.set_cons_succ]
  refine held_take (i := 11) (d := 4) (v := .bool (decide (y < cap))) rfl rfl (by kernel_rfl) (by kernel_rfl) (by kernel_rfl) (fun _ _ _ h => h) (by rfl) (fun W _ => by go_simp) hHeld ?_
  simp only [Act.put, List.setIfInBounds_toArray, List.set_cons_zero, List.set_cons_succ]
  refine wpAnyH_done (by kernel_rfl) ?_ _
  clear hHeld
  go_wp2
  go_ret
  exact ⟨rfl, HB.out.trans (HD0.out.mono HB.out.size)⟩
/-- What a call leaves that writes the landed log of colour k. -/
def LwE (w : World) (c : Nat → Nat) (k p : Nat) (cap : Int) (r : Value) (L' : List Ev5) (M' : List Int) (e : Ending) (w' : World) : Prop := e = .returned r ∧ Lgl w' (rc c w.heap.size k) k p cap L' M' ∧ Kept c k w w'
theorem Lgl.stay (H : Lgl w c k p cap L M) (hb : Below w.heap.size w w1) (r : Value) : LwE w c k p cap r L M (.returned r) w1 := ⟨rfl, H.kept (j := k + 1) (Kept.ofBelow hb) (by omega) (fun g hg => rc_old hg), Kept.ofBelow hb⟩
theorem missL_any (H : Lgl w c k p cap L M) (hz : Ri z) (hn : M.length ≤ 1000) : Calls Try.prog 17 #[.pointer (some ⟨p, 0, none⟩), .int .i64 z] w (LwE w c k p cap (.tuple #[]) L (M ++ [z])) := by
  obtain ⟨hg, A, n, cp, last, mr, mm, hl, h⟩ := H
  have HI := Lib.hid (inc_any h.mis hz (by omega) (by have := msN_le M z; omega))
  unfold IncE at HI
  obtain ⟨c0, c1, c2, c3, c4⟩ := log_cells h.blk
  have HBK : Hid (∀ W, w.grownBy W mm → W.heap[p]? = some (.cells #[.int .i64 cap, .slice A n cp, .int .u64 last, .map mr, .map mm] 50 (0, 0))) := Lib.hid (fun W hW => (hW.block p h.lt (fun e => map_p h.blk h.mis e.symm)).trans h.blk)
  have HFN : Hid (∀ W b, (mm = some b ∨ (mm = none ∧ w.heap.size ≤ b)) → Mpc W (rc c w.heap.size k) k (M.length + 1) (some b) (bump (msN M) z) → w.grownBy W mm → LwE w c k p cap (.tuple #[]) L (M ++ [z]) (.returned (.tuple #[])) (W.setCell ⟨p, 4, none⟩ (.map (some b)))) := Lib.hid (fun W b h1 h2 h3 => by
    have h4 : Mpc W (rc c w.heap.size k) k (M ++ [z]).length (some b) (msN (M ++ [z])) := by
      rw [List.length_append]
      refine h2.same fun p => ?_
      rw [msN_app, msN_one]
      by_cases e : p = z
      · subst e; rw [bump_at, if_pos rfl]
      · rw [bump_ne e, if_neg (fun e' => e e'.symm)]; rfl
    obtain ⟨g1, g2⟩ := h.setMis h4 h3 h1
    exact ⟨rfl, ⟨hg, A, n, cp, last, mr, some b, hl, g1⟩, g2⟩)
  clear hg hl h hz hn
  go_enter Try.func17, Try.ntmps17
  go_wp2_with fail
  refine HI.out.mono ?_
  rintro e w1 ⟨b, rfl, h1, h2, h3⟩
  have hbk := HBK.out w1 h3
  have f4 := frozen_of_row w1 p 4 _ _ hbk
  obtain ⟨s0, s1, s2, s3, s4⟩ := log_cells hbk
  have HF := Lib.hid (HFN.out w1 b h1 h2 h3)
  clear HI hbk h1 h2 h3 c0 c1 c2 c3 c4
  go_wp2
  refine bodyPost_ret (results_none rfl _ _ _) rfl ?_
  exact HF.out
end
end Go.Proofs.Ytlgoiccekgjhnaa
