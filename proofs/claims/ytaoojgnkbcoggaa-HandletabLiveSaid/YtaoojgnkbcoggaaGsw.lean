/-
  Contract of the landed New. No conditions.
-/
import Derived.Test.YtaoojgnkbcoggaaGsn
import Derived.Test.YtaoojgnkbcoggaaStx
namespace Go.Proofs.Ytaoojgnkbcoggaa
open Go.ChangeShapes Go.WideShapes Go.RowKit
set_option linter.unusedVariables false
set_option linter.unusedSimpArgs false
set_option maxHeartbeats 4000000
set_option maxRecDepth 100000

theorem infoS : (Try.prog.info? 107).map (fun i => (i.zero, i.size, i.bytes)) = some (some (.agg #[.int .i64 0, .bool false]), 2, 16) := by kernel_rfl
theorem made_two (a b : Value) (n : Nat) : (madeCells #[a, b] (n * 2)).toList = (List.replicate n [a, b]).flatten := by
  induction n with
  | zero => simp [madeCells]
  | succ n ih =>
    rw [List.replicate_succ', List.flatten_append, ← ih]
    unfold madeCells
    rw [show (n + 1) * 2 = n * 2 + 1 + 1 by omega]
    simp only [Array.toList_map, Array.toList_range, List.range_succ, List.map_append, List.map_cons, List.map_nil, List.append_assoc, List.size_toArray, List.length_cons, List.length_nil]
    have h1 : n * 2 % (0 + 1 + 1) = 0 := by omega
    have h2 : (n * 2 + 1) % (0 + 1 + 1) = 1 := by omega
    rw [h1, h2]
    rfl
theorem st_rep (n : Nat) : st2.row (List.replicate n (0, false)) = (List.replicate n [Value.int .i64 0, .bool false]).flatten := by
  induction n with
  | zero => rfl
  | succ n ih => rw [List.replicate_succ, List.replicate_succ, List.flatten_cons, Enc.row, ih]; rfl
theorem made_sts {w : World} {base n : Nat} {v : Value} (h : w.ownsRow base 107 2 v n (madeCells (Value.agg #[.int .i64 0, .bool false]).cells (n * 2)).toList) :
    OwnK st2 107 w base v (List.replicate n (0, false)) := by
  have e : (madeCells (Value.agg #[.int .i64 0, .bool false]).cells (n * 2)).toList = st2.row (List.replicate n (0, false)) := by
    rw [show (Value.agg #[.int .i64 0, .bool false]).cells = #[.int .i64 0, .bool false] from rfl, made_two]
    rw [st_rep]
  rw [e] at h
  unfold OwnK
  rw [List.length_replicate]
  exact h
theorem run_mk2 {P : Program} {t e : TypeId} {i : TypeInfo} {z : Value} (n : Nat) (w : World) (ht : P.underlying t = some (.slice e)) (hi : P.info? e = some i) (hz : i.zero = some z) (hsz : i.size = 2)
    (hb : i.bytes * n ≤ 281474976710656) (hm : n ≤ maxLen) : ∃ w', (∀ (ρ : Operand → Value) (o : Oper) (x : Operand), o.op = .makeSlice t x x → ρ x = .int .i64 (n : Int) → (execOp ρ o).run P w = .ok (.value (.slice (some ⟨w.heap.size, 0, none⟩) n n)) w') ∧
      w'.ownsRow w.heap.size e 2 (.slice (some ⟨w.heap.size, 0, none⟩) n n) n (madeCells z.cells (n * 2)).toList ∧ w.grownBy w' none := by
  obtain ⟨w', hrun, r1, r2⟩ := run_make_full (P := P) w w.heap.size t e i z 2 ht hi hz hsz .i64 .i64 n hb hm (Nat.le_refl _)
  refine ⟨w', fun ρ o x ho hx => ?_, r1, r2⟩
  simp [execOp, ho, hx, hrun, Result.andThen]
theorem Slr.made {w w6 : World} {c d : Nat → Nat} {k q : Nat} {v : Value} {l : List (Int × Bool)} {fr : List Int} (ho : OwnK st2 107 w6 w.heap.size v l) (hP : PolI w6 d 1 q fr)
    (hd : ∀ g, g < w6.heap.size → d g = 1 ∧ w.heap.size ≤ g ∨ d g = 0) (hv : ∀ g, v.ownBlock = some g → d g = 0) (hb : Below w.heap.size w w6) :
    Slr (w6.alloc (.cells #[v, .pointer (some ⟨q, 0, none⟩)] 105)) (rc c w.heap.size k) k w6.heap.size l fr := by
  have e1 : ∀ g, g < w6.heap.size → (fun g => if g < w6.heap.size then d g else 0) g = d g := fun g hg => if_pos hg
  refine ⟨v, q, fun g => if g < w6.heap.size then d g else 0, heap_alloc_new w6 _, (ho.down (Nat.zero_le _)).alloc _, ((hP.recol e1).go ((Below.refl _ _).alloc (Nat.le_refl _) _)), rc_new hb.size, if_neg (by omega), fun g hg => ⟨rc_new (ho.ge hg).1, ?_, by have := (ho.ge hg).2; omega⟩, fun g hg => ?_⟩
  · simp only [if_pos (ho.ge hg).2]
    exact hv g hg
  · by_cases hl : g < w6.heap.size
    · simp only [if_pos hl]
      rcases hd g hl with e | e
      · exact .inl ⟨e.1, rc_new e.2⟩
      · exact .inr e
    · exact .inr (if_neg hl)
/-- The slots while New runs: the first i of n have their generation. -/
def half (first : Int) (n i : Nat) : List (Int × Bool) := List.replicate i (first, false) ++ List.replicate (n - i) (0, false)
theorem half_len {first : Int} {n i : Nat} (h : i ≤ n) : (half first n i).length = n := by simp [half]; omega
theorem half_at {first : Int} {n i : Nat} (h : i < n) : (half first n i)[i]? = some (0, false) := by
  unfold half
  rw [List.getElem?_append_right (by simp), List.length_replicate, Nat.sub_self, List.getElem?_replicate, if_pos (by omega)]
theorem half_set {first : Int} {n i : Nat} (h : i < n) : (half first n i).set i (first, false) = half first n (i + 1) := by
  unfold half
  rw [List.set_append_right _ _ (by simp), List.length_replicate, Nat.sub_self, show n - i = (n - (i + 1)) + 1 by omega, List.replicate_succ, List.set_cons_zero, List.replicate_succ', List.append_assoc]
  rfl
def NsS (w : World) (c : Nat → Nat) (k : Nat) (n first : Int) (e : Ending) (w' : World) : Prop :=
  (nsE n first = 1 ∧ e = .returned (.tuple #[.pointer none, .int .i64 1]) ∧ Below w.heap.size w w') ∨
    (nsE n first = 0 ∧ ∃ p, e = .returned (.tuple #[.pointer (some ⟨p, 0, none⟩), .int .i64 0]) ∧ w.heap.size ≤ p ∧ Sls w' (rc c w.heap.size k) k p (Gs.new n.toNat first) ∧ Below w.heap.size w w')
theorem newS_any (n first : Int) (w : World) (c : Nat → Nat) (k : Nat) (hck : ∀ g, g < w.heap.size → c g ≠ k) : Calls Try.prog 28 #[.int .i64 n, .int .i64 first] w (NsS w c k n first) := by
  by_cases h1 : n < 0
  · have he : nsE n first = 1 := if_pos (.inl h1)
    have HE := Lib.hid he
    clear he
    go_enter Try.func28, Try.ntmps28
    go_wp2
    go_ret2
    exact .inl ⟨HE.out, rfl, Below.refl _ _⟩
  · by_cases h2 : n > 4096
    · have he : nsE n first = 1 := if_pos (.inr (.inl h2))
      have HE := Lib.hid he
      clear he
      go_enter Try.func28, Try.ntmps28
      go_wp2
      go_ret2
      exact .inl ⟨HE.out, rfl, Below.refl _ _⟩
    · by_cases h3 : first < 1
      · have he : nsE n first = 1 := if_pos (.inr (.inr (.inl h3)))
        have HE := Lib.hid he
        clear he
        go_enter Try.func28, Try.ntmps28
        go_wp2
        go_ret2
        exact .inl ⟨HE.out, rfl, Below.refl _ _⟩
      · by_cases h4 : first > 4294967295
        · have he : nsE n first = 1 := if_pos (.inr (.inr (.inr h4)))
          have HE := Lib.hid he
          clear he
          go_enter Try.func28, Try.ntmps28
          go_wp2
          go_ret2
          exact .inl ⟨HE.out, rfl, Below.refl _ _⟩
        · have he : nsE n first = 0 := if_neg (by omega)
          have HE := Lib.hid he
          obtain ⟨N, rfl⟩ : ∃ N : Nat, n = (N : Int) := ⟨n.toNat, by omega⟩
          obtain ⟨i1, hi, hz0, hz1, hz2⟩ := info_parts infoS
          have HI := Lib.hid hi
          have HZ := Lib.hid hz0
          have HF : Hid (first ≤ 4294967295) := Lib.hid (by omega)
          have hN : N ≤ 4096 := by omega
          have hbd : Below w.heap.size w w.drew := below_drewN (Below.refl _ _) 1
          have HBD := Lib.hid hbd
          have HCK := Lib.hid hck
          clear he hi hz0 hbd hck
          go_enter Try.func28, Try.ntmps28
          go_wp2_with fail
          go_cut [6] from 22 to 27 (fun s6 wx => ∃ m : Nat, s6 = .pointer (some ⟨m, 0, none⟩) ∧ Hid (w.heap.size ≤ m ∧ Slr wx (rc c w.heap.size k) k m (half first N 0) [] ∧ Below w.heap.size w wx))
          case first =>
            refine wp_region_headed 3 (fun _ => True) (by kernel_rfl) (by kernel_rfl) ?_
            simp only [List.take_succ_cons, List.take_zero, List.drop_succ_cons, List.drop_zero]
            refine held_take (i := 0) (d := 22) (v := .int .i64 (N : Int)) rfl rfl (by kernel_rfl) (by kernel_rfl) (by kernel_rfl) (fun _ _ _ h => h) (by rfl) (fun W _ => run_move_is (.tmp 0) rfl rfl W) trivial ?_
            simp only [Act.put, List.setIfInBounds_toArray, List.set_cons_zero, List.set_cons_succ]
            refine held_two (i := 1) (j := 2) (by kernel_rfl) ?_ ?_
            · obtain ⟨wa, ra, oa, ga⟩ := run_mk2 (P := Try.prog) N w.drew Try.underlying101 HI.out HZ.out hz1 (by rw [hz2]; omega) (by unfold maxLen; omega)
              have hba : Below w.heap.size w wa := HBD.out.grown ga (Nat.le_refl _) (fun k e => by cases e)
              have hlt := (oa.lt w.heap.size rfl).2
              refine held_make (d := 23) rfl rfl (by rfl) (ra _ _ (.tmp 22) rfl rfl) ⟨trivial, ?_⟩
              simp only [Act.put, List.setIfInBounds_toArray, List.set_cons_zero, List.set_cons_succ]
              have HN := Lib.hid (newI_any none 0 0 [] wa Kws.none_ (by omega) (fun _ => 0) 1)
              refine held_one (i := 2) (by kernel_rfl) ?_
              refine held_callX (d := 24) rfl rfl (by rfl) rfl (by kernel_rfl) Try.func51 (by kernel_rfl) HN.out ?_
              rintro e wb ⟨q, rfl, hq, hP, hbb⟩
              refine ⟨_, rfl, trivial, ?_⟩
              simp only [Act.put, List.setIfInBounds_toArray, List.set_cons_zero, List.set_cons_succ]
              refine wpAnyH_done (by kernel_rfl) ?_ _
              have hbw : Below w.heap.size w wb := Below.then hba hbb (Nat.le_refl _)
              have HM := Lib.hid (Slr.made (w := w) (c := c) (k := k) ((made_sts oa).below hbb) hP (fun g hg => by
                by_cases h : g < wa.heap.size
                · exact .inr (rc_old h)
                · exact .inl ⟨rc_new (by omega), by have := hba.size; omega⟩) (fun g e => by
                have e1 := Option.some.inj e
                rw [← e1]
                exact rc_old hlt) hbw)
              have HB := Lib.hid (hbw.alloc hbw.size (.cells #[.slice (some ⟨w.drew.heap.size, 0, none⟩) N N, .pointer (some ⟨q, 0, none⟩)] 105))
              have HBS := Lib.hid hbw.size
              clear ra oa ga hba hbb hbw hP HN
              simp only [atEnd]
              go_wp2_with fail
              go_meet
              exact ⟨wb.heap.size, rfl, Lib.hid ⟨HBS.out, HM.out, HB.out⟩⟩
            · have HN := Lib.hid (newI_any none 0 0 [] w.drew Kws.none_ (by omega) (fun _ => 0) 1)
              refine held_callX (d := 24) rfl rfl (by rfl) rfl (by kernel_rfl) Try.func51 (by kernel_rfl) HN.out ?_
              rintro e wa ⟨q, rfl, hq, hP, hbb⟩
              refine ⟨_, rfl, trivial, ?_⟩
              simp only [Act.put, List.setIfInBounds_toArray, List.set_cons_zero, List.set_cons_succ]
              have hba : Below w.heap.size w wa := Below.then HBD.out hbb (Nat.le_refl _)
              obtain ⟨wb, rb, ob, gb⟩ := run_mk2 (P := Try.prog) N wa Try.underlying101 HI.out HZ.out hz1 (by rw [hz2]; omega) (by unfold maxLen; omega)
              have hlt := (ob.lt wa.heap.size rfl).2
              refine held_one (i := 1) (by kernel_rfl) ?_
              refine held_make (d := 23) rfl rfl (by rfl) (rb _ _ (.tmp 22) rfl rfl) ⟨trivial, ?_⟩
              simp only [Act.put, List.setIfInBounds_toArray, List.set_cons_zero, List.set_cons_succ]
              refine wpAnyH_done (by kernel_rfl) ?_ _
              have hbw : Below w.heap.size w wb := hba.grown gb hba.size (fun k e => by cases e)
              have hbg : Below wa.heap.size wa wb := (Below.refl _ _).grown gb (Nat.le_refl _) (fun k e => by cases e)
              have HM := Lib.hid (Slr.made (w := w) (c := c) (k := k) (d := fun g => if g < wa.heap.size then rc (fun _ => 0) w.drew.heap.size 1 g else 0) ((made_sts ob).down hba.size) ((hP.recol (fun g hg => if_pos hg)).go hbg) (fun g hg => by
                by_cases h : g < wa.heap.size
                · simp only [if_pos h]
                  by_cases h5 : g < w.drew.heap.size
                  · exact .inr (rc_old h5)
                  · exact .inl ⟨rc_new (by omega), by have : w.drew.heap.size = w.heap.size := rfl; omega⟩
                · exact .inr (if_neg h)) (fun g e => by
                have e1 := Option.some.inj e
                rw [← e1]
                exact if_neg (by simp only; omega)) hbw)
              have HB := Lib.hid (hbw.alloc hbw.size (.cells #[.slice (some ⟨wa.heap.size, 0, none⟩) N N, .pointer (some ⟨q, 0, none⟩)] 105))
              have HBS := Lib.hid hbw.size
              clear rb ob gb hba hbb hbw hbg hP HN
              simp only [atEnd]
              go_wp2_with fail
              go_meet
              exact ⟨wb.heap.size, rfl, Lib.hid ⟨HBS.out, HM.out, HB.out⟩⟩
          case rest =>
            obtain ⟨p, rfl, hh⟩ := hcut
            rename_i wx
            obtain ⟨hp, hS, hB⟩ := hh.out
            obtain ⟨A, m, cap, q, d, q0, _, hk, _⟩ := hS.cells
            obtain rfl : m = N := by have := hk.len; rw [half_len (by omega)] at this; omega
            have HHC := Lib.hid hh.out
            clear hh hp hS hB hk
            go_wp2
            go_loopw [32] (fun kv wr => ∃ i : Nat, i ≤ m ∧ kv = .int .i64 i ∧ Hid (Slr wr (rc c w.heap.size k) k p (half first m i) (rng i) ∧ Below w.heap.size w wr)) (fun kv _ => m - (intOf kv).toNat)
            case atStart => exact ⟨0, by omega, rfl, Lib.hid HHC.out.2⟩
            case round =>
              obtain ⟨i, hi', rfl, hh⟩ := hrel
              by_cases hin : i < m
              · have hi1 : (i : Int) < (m : Int) := by omega
                have HB := Lib.hid hh.out.2
                obtain ⟨g, cap2, a1, a2, a3, a4, a5, a6, a7⟩ := hh.out.1.setGen (half_at hin) first
                unfold maxLen at a3
                rw [half_len (by omega)] at a1 a2
                rw [half_set hin] at a6
                have HK1 := Lib.hid a7
                obtain ⟨q2, dd, q1, hP, hput, _⟩ := a6.pool
                have HPU := Lib.hid (putI_any _ dd 1 q2 (rng i) (i : Int) hP (by rw [rng_len]; omega))
                have HPT := Lib.hid hput
                have HZ1 : Hid ((wr.setCell ⟨g, i * 2, none⟩ (.int .i64 first)).heap.size = wr.heap.size) := Lib.hid (by simp [World.setCell])
                clear hh a6 a7 hP hput q0
                go_wp2_with fail
                refine HPU.out.mono ?_
                rintro e w3 ⟨⟨v, rfl⟩, hP3, hK3⟩
                have h3 := HPT.out _ _ hP3 hK3
                rw [HZ1.out, rc_rc HB.out.size, ← rng_succ] at h3
                have hk3 := HK1.out.trans h3.2
                have HS3 : Hid (Slr w3 (rc c w.heap.size k) k p (half first m (i + 1)) (rng (i + 1)) ∧ Below w.heap.size w w3) := Lib.hid ⟨h3.1, HB.out.trans (hk3.below (fun g hg => by rw [rc_old hg]; exact HCK.out g hg) HB.out.size)⟩
                clear hP3 hK3 h3 hk3
                go_wp2
                go_roundw
                case rel => exact ⟨i + 1, by omega, by go_num, HS3⟩
                case measure => simp [intOf]; omega
              · obtain rfl : i = m := by omega
                have hii : ¬ (i : Int) < (i : Int) := by omega
                have HS := Lib.hid hh.out.1
                have HB := Lib.hid hh.out.2
                clear hh
                go_wp2
                go_ret2
                refine .inr ⟨HE.out, p, rfl, HHC.out.1, ⟨?_, Gs.rt_new HF.out⟩, HB.out⟩
                rw [Int.toNat_natCast, Gs.sts_new]
                have e := HS.out
                unfold half at e
                rw [Nat.sub_self, List.replicate_zero, List.append_nil] at e
                exact e
end Go.Proofs.Ytaoojgnkbcoggaa
