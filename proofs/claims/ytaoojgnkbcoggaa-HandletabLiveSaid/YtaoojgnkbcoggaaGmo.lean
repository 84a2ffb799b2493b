/-
  The model's slots in memory; contract of the model's NewSlots. No conditions.
-/
import Derived.Test.YtaoojgnkbcoggaaGst
import Derived.Test.YtaoojgnkbcoggaaPcm
import Derived.Test.YtaoojgnkbcoggaaHdt
import Derived.Deep.CutRange
namespace Go.Proofs.Ytaoojgnkbcoggaa
open Go.ChangeShapes Go.WideShapes Go.RowKit
set_option linter.unusedVariables false
set_option maxHeartbeats 4000000
set_option maxRecDepth 100000

theorem infoB : (Try.prog.info? 4).map (fun i => (i.zero, i.size, i.bytes)) = some (some (.bool false), 1, 1) := by kernel_rfl
/-- The block m is the model of the slots s; what it writes has the colour k. -/
structure Mgs (w : World) (c : Nat → Nat) (k m : Nat) (s : Gs) : Prop where
  ex : ∃ v1 v2 v3, w.heap[m]? = some (.cells #[.int .i64 s.first, v1, v2, v3, .int .i64 s.gone] 82 (0, 0)) ∧
    OwnK int1 3 w 0 v1 s.gen ∧ OwnK bool1 4 w 0 v2 s.live ∧ OwnK int1 3 w 0 v3 s.free ∧ c m = k ∧
    (∀ g, v1.ownBlock = some g → c g = k ∧ g ≠ m ∧ v2.ownBlock ≠ some g ∧ v3.ownBlock ≠ some g) ∧ (∀ g, v2.ownBlock = some g → c g = k ∧ g ≠ m ∧ v3.ownBlock ≠ some g) ∧ (∀ g, v3.ownBlock = some g → c g = k ∧ g ≠ m)
section
variable {w w' : World} {c c' : Nat → Nat} {k j m : Nat} {s : Gs}
theorem Mgs.lt (h : Mgs w c k m s) : m < w.heap.size := by
  obtain ⟨v1, v2, v3, h1, _⟩ := h.ex
  exact (Array.getElem?_eq_some_iff.1 h1).1
theorem Mgs.kept (h : Mgs w c k m s) (hk : Kept c j w w') (hjk : j ≠ k) (hc : ∀ g, g < w.heap.size → c' g = c g) : Mgs w' c' k m s := by
  have hlt := h.lt
  obtain ⟨v1, v2, v3, h0, h1, h2, h3, h4, h5, h6, h7⟩ := h.ex
  refine ⟨v1, v2, v3, (hk.block m hlt (by omega)).trans h0, h1.keptC hk (fun g hg => by have := (h5 g hg).1; omega), h2.keptC hk (fun g hg => by have := (h6 g hg).1; omega), h3.keptC hk (fun g hg => by have := (h7 g hg).1; omega), (hc m hlt).trans h4,
    fun g hg => ⟨(hc g (h1.ge hg).2).trans (h5 g hg).1, (h5 g hg).2⟩, fun g hg => ⟨(hc g (h2.ge hg).2).trans (h6 g hg).1, (h6 g hg).2⟩, fun g hg => ⟨(hc g (h3.ge hg).2).trans (h7 g hg).1, (h7 g hg).2⟩⟩
theorem Mgs.go (h : Mgs w c k m s) (hb : Below w.heap.size w w') : Mgs w' c k m s := h.kept (j := k + 1) (Kept.ofBelow hb) (by omega) (fun _ _ => rfl)
end
theorem rc_rc {c : Nat → Nat} {n n' k : Nat} (h : n ≤ n') : rc (rc c n k) n' k = rc c n k := by
  funext g
  by_cases h1 : g < n'
  · rw [rc_old h1]
  · rw [rc_new (by omega), rc_new (by omega)]
theorem run_mk {P : Program} {t e : TypeId} {i : TypeInfo} {z : Value} (n : Nat) (w : World) (ht : P.underlying t = some (.slice e)) (hi : P.info? e = some i) (hz : i.zero = some z) (hzs : z.cells.size = 1) (hsz : i.size = 1)
    (hb : i.bytes * n ≤ 281474976710656) (hm : n ≤ maxLen) : ∃ w', (∀ (ρ : Operand → Value) (o : Oper) (x : Operand), o.op = .makeSlice t x x → ρ x = .int .i64 (n : Int) → (execOp ρ o).run P w = .ok (.value (.slice (some ⟨w.heap.size, 0, none⟩) n n)) w') ∧
      w'.ownsRow w.heap.size e 1 (.slice (some ⟨w.heap.size, 0, none⟩) n n) n (madeCells z.cells (n * 1)).toList ∧ w.grownBy w' none := by
  obtain ⟨w', hrun, r1, r2⟩ := run_make_full (P := P) w w.heap.size t e i z 1 ht hi hz hsz .i64 .i64 n hb hm (Nat.le_refl _)
  refine ⟨w', fun ρ o x ho hx => ?_, r1, r2⟩
  simp [execOp, ho, hx, hrun, Result.andThen]
theorem made_ints {w : World} {base n : Nat} {v : Value} (h : w.ownsRow base 3 1 v n (madeCells (Value.int .i64 0).cells (n * 1)).toList) : OwnK int1 3 w base v (List.replicate n 0) := by
  have e : (madeCells (Value.int .i64 0).cells (n * 1)).toList = int1.row (List.replicate n 0) := by
    rw [Nat.mul_one, show (Value.int .i64 0).cells = #[.int .i64 0] from rfl, toList_madeCells_one, ints_row]
    simp [iv]
  rw [e] at h
  unfold OwnK
  rw [List.length_replicate]
  exact h
theorem made_bools {w : World} {base n : Nat} {v : Value} (h : w.ownsRow base 4 1 v n (madeCells (Value.bool false).cells (n * 1)).toList) : OwnK bool1 4 w base v (List.replicate n false) := by
  have e : (madeCells (Value.bool false).cells (n * 1)).toList = bool1.row (List.replicate n false) := by
    rw [Nat.mul_one, show (Value.bool false).cells = #[.bool false] from rfl, toList_madeCells_one, bool_rep]
  rw [e] at h
  unfold OwnK
  rw [List.length_replicate]
  exact h
theorem Mgs.made {w w6 : World} {c : Nat → Nat} {k : Nat} {first : Int} {v1 v2 : Value} {gen : List Int} {live : List Bool} (ho1 : OwnK int1 3 w6 w.heap.size v1 gen) (ho2 : OwnK bool1 4 w6 w.heap.size v2 live) (hd : ∀ g, v1.ownBlock = some g → v2.ownBlock ≠ some g) (hb : Below w.heap.size w w6) :
    Mgs (w6.alloc (.cells #[.int .i64 first, v1, v2, .slice none 0 0, .int .i64 0] 82)) (rc c w.heap.size k) k w6.heap.size ⟨first, gen, live, [], 0⟩ :=
  ⟨v1, v2, .slice none 0 0, heap_alloc_new w6 _, (ho1.down (Nat.zero_le _)).alloc _, (ho2.down (Nat.zero_le _)).alloc _, OwnK.nil _ _ _ _, rc_new hb.size, fun g hg => ⟨rc_new (ho1.ge hg).1, by have := (ho1.ge hg).2; omega, hd g hg, fun e => by cases e⟩,
    fun g hg => ⟨rc_new (ho2.ge hg).1, by have := (ho2.ge hg).2; omega, fun e => by cases e⟩, fun g hg => by cases hg⟩
/-- A slot's number is put into the pool. -/
theorem Mgs.push {w w2 : World} {c : Nat → Nat} {k m : Nat} {s : Gs} {v1 v2 v3 v3' : Value} {fs : List Int} {o : Obj}
    (h0 : w.heap[m]? = some (.cells #[.int .i64 s.first, v1, v2, v3, .int .i64 s.gone] 82 (0, 0))) (h1 : OwnK int1 3 w 0 v1 s.gen) (h2 : OwnK bool1 4 w 0 v2 s.live) (h3 : OwnK int1 3 w 0 v3 s.free) (h4 : c m = k)
    (h5 : ∀ g, v1.ownBlock = some g → c g = k ∧ g ≠ m ∧ v2.ownBlock ≠ some g ∧ v3.ownBlock ≠ some g) (h6 : ∀ g, v2.ownBlock = some g → c g = k ∧ g ≠ m ∧ v3.ownBlock ≠ some g) (h7 : ∀ g, v3.ownBlock = some g → c g = k ∧ g ≠ m)
    (ho : OwnK int1 3 w2 0 v3' fs) (hg : (w.alloc o).grownBy w2 v3.ownBlock) (hv : v3'.ownBlock = v3.ownBlock ∨ v3'.ownBlock = some (w.alloc o).heap.size) :
    w2.heap[m]? = some (.cells #[.int .i64 s.first, v1, v2, v3, .int .i64 s.gone] 82 (0, 0)) ∧
      Mgs (w2.setCell ⟨m, 3, none⟩ v3') (rc c w.heap.size k) k m { s with free := fs } ∧ Kept c k w (w2.setCell ⟨m, 3, none⟩ v3') := by
  have hm : m < w.heap.size := (Array.getElem?_eq_some_iff.1 h0).1
  have hba : Below w.heap.size w (w.alloc o) := (Below.refl _ _).alloc (Nat.le_refl _) o
  have hz : (w.alloc o).heap.size = w.heap.size + 1 := by simp
  have hw2 : w.heap.size + 1 ≤ w2.heap.size := by have := hg.size; omega
  have e2 : w2.heap[m]? = some (.cells #[.int .i64 s.first, v1, v2, v3, .int .i64 s.gone] 82 (0, 0)) := (hg.block m (by omega) (fun e => (h7 m e.symm).2 rfl)).trans ((hba.block m hm).trans h0)
  have hs := run_setAt w2 m 3 v3'
  have hne3 : ∀ g, v3'.ownBlock = some g → g ≠ m ∧ v1.ownBlock ≠ some g ∧ v2.ownBlock ≠ some g := fun g hgo => by
    rcases hv with e | e
    · rw [e] at hgo
      exact ⟨(h7 g hgo).2, fun e1 => (h5 g e1).2.2.2 hgo, fun e1 => (h6 g e1).2.2 hgo⟩
    · rw [e] at hgo
      cases hgo
      exact ⟨by omega, fun e1 => by have := (h1.ge e1).2; omega, fun e1 => by have := (h2.ge e1).2; omega⟩
  have hblk : ∀ {v : Value}, (∀ g, v.ownBlock = some g → g ≠ m) → (v.ownBlock = none ∨ v.ownBlock ≠ some m) := fun {v} h => by
    rcases hb : v.ownBlock with _ | g
    · exact .inl rfl
    · exact .inr fun e => h g hb (Option.some.inj e)
  have hblk3 : ∀ {v : Value}, (∀ g, v.ownBlock = some g → v3.ownBlock ≠ some g) → (v.ownBlock = none ∨ v.ownBlock ≠ v3.ownBlock) := fun {v} h => by
    rcases hb : v.ownBlock with _ | g
    · exact .inl rfl
    · exact .inr fun e => h g hb e.symm
  have ho1 : OwnK int1 3 (w2.setCell ⟨m, 3, none⟩ v3') 0 v1 s.gen := ((h1.alloc o).kept hg (hblk3 fun g hg => (h5 g hg).2.2.2)).kept hs (hblk fun g hg => (h5 g hg).2.1)
  have ho2 : OwnK bool1 4 (w2.setCell ⟨m, 3, none⟩ v3') 0 v2 s.live := ((h2.alloc o).kept hg (hblk3 fun g hg => (h6 g hg).2.2)).kept hs (hblk fun g hg => (h6 g hg).2.1)
  refine ⟨e2, ⟨v1, v2, v3', heap_setCell_same w2 m 3 _ _ _ e2, ho1, ho2, OwnK.kept ho hs (hblk fun g hg => (hne3 g hg).1), (rc_old hm).trans h4, fun g hg => ?_, fun g hg => ?_, fun g hg => ⟨?_, (hne3 g hg).1⟩⟩, ((Kept.ofBelow hba).trans (Kept.ofGrown hg (fun g e => (h7 g e).1))).trans (Kept.ofGrown hs (fun g e => by cases e; exact h4))⟩
  · exact ⟨(rc_old (h1.ge hg).2).trans (h5 g hg).1, (h5 g hg).2.1, (h5 g hg).2.2.1, fun e => (hne3 g e).2.1 hg⟩
  · exact ⟨(rc_old (h2.ge hg).2).trans (h6 g hg).1, (h6 g hg).2.1, fun e => (hne3 g e).2.2 hg⟩
  · by_cases hlt : g < w.heap.size
    · rw [rc_old hlt]
      rcases hv with e | e
      · rw [e] at hg
        exact (h7 g hg).1
      · rw [e] at hg
        cases hg
        omega
    · exact rc_new (by omega)
/-- What NewSlots says. -/
def nsE (n first : Int) : Int := if n < 0 ∨ 4096 < n ∨ first < 1 ∨ 4294967295 < first then 1 else 0
def NsE (w : World) (c : Nat → Nat) (k : Nat) (n first : Int) (e : Ending) (w' : World) : Prop :=
  (nsE n first = 1 ∧ e = .returned (.tuple #[.pointer none, .int .i64 1]) ∧ w = w') ∨
  (nsE n first = 0 ∧ ∃ m, e = .returned (.tuple #[.pointer (some ⟨m, 0, none⟩), .int .i64 0]) ∧ w.heap.size ≤ m ∧ Mgs w' (rc c w.heap.size k) k m (Gs.new n.toNat first) ∧ Below w.heap.size w w')
theorem newM_any (n first : Int) (w : World) (c : Nat → Nat) (k : Nat) (hck : ∀ g, g < w.heap.size → c g ≠ k) : Calls Try.prog 29 #[.int .i64 n, .int .i64 first] w (NsE w c k n first) := by
  by_cases h1 : n < 0
  · have he : nsE n first = 1 := if_pos (.inl h1)
    have HE := Lib.hid he
    clear he
    go_enter Try.func29, Try.ntmps29
    go_wp2
    go_ret2
    exact .inl ⟨HE.out, rfl, rfl⟩
  · by_cases h2 : 4096 < n
    · have he : nsE n first = 1 := if_pos (.inr (.inl h2))
      have HE := Lib.hid he
      clear he
      go_enter Try.func29, Try.ntmps29
      go_wp2
      go_ret2
      exact .inl ⟨HE.out, rfl, rfl⟩
    · by_cases h3 : first < 1
      · have he : nsE n first = 1 := if_pos (.inr (.inr (.inl h3)))
        have HE := Lib.hid he
        clear he
        go_enter Try.func29, Try.ntmps29
        go_wp2
        go_ret2
        exact .inl ⟨HE.out, rfl, rfl⟩
      · by_cases h4 : 4294967295 < first
        · have he : nsE n first = 1 := if_pos (.inr (.inr (.inr h4)))
          have HE := Lib.hid he
          clear he
          go_enter Try.func29, Try.ntmps29
          go_wp2
          go_ret2
          exact .inl ⟨HE.out, rfl, rfl⟩
        · have he : nsE n first = 0 := if_neg (by omega)
          have HE := Lib.hid he
          clear he
          obtain ⟨N, rfl⟩ : ∃ N : Nat, n = (N : Int) := ⟨n.toNat, by omega⟩
          obtain ⟨i0, hi, hz0, hz1, hz2⟩ := info_parts infoI
          obtain ⟨j0, hj, hy0, hy1, hy2⟩ := info_parts infoB
          go_enter Try.func29, Try.ntmps29
          go_wp2_with fail
          have HI := Lib.hid hi
          have HZ := Lib.hid hz0
          have HJ := Lib.hid hj
          have HY := Lib.hid hy0
          have hbd : Below w.heap.size w w.drew := below_drewN (Below.refl _ _) 1
          have HBD := Lib.hid hbd
          have hds : w.drew.heap.size = w.heap.size := rfl
          clear hi hz0 hj hy0 hbd
          go_cut [6] from 22 to 28 (fun s6 wx => ∃ m : Nat, s6 = .pointer (some ⟨m, 0, none⟩) ∧ Hid (w.heap.size ≤ m ∧ Mgs wx (rc c w.heap.size k) k m ⟨first, List.replicate N 0, List.replicate N false, [], 0⟩ ∧ Below w.heap.size w wx))
          case first =>
            refine wp_region_headed 5 (fun _ => True) (by kernel_rfl) (by kernel_rfl) ?_
            simp only [List.take_succ_cons, List.take_zero, List.drop_succ_cons, List.drop_zero]
            refine held_take (i := 0) (d := 22) (v := .int .i64 first) rfl rfl (by kernel_rfl) (by kernel_rfl) (by kernel_rfl) (fun _ _ _ h => h) (by rfl) (fun W _ => run_move_is (.tmp 1) rfl rfl W) trivial ?_
            simp only [Act.put, List.setIfInBounds_toArray, List.set_cons_zero, List.set_cons_succ]
            refine held_take (i := 1) (d := 23) (v := .int .i64 (N : Int)) rfl rfl (by kernel_rfl) (by kernel_rfl) (by kernel_rfl) (fun _ _ _ h => h) (by rfl) (fun W _ => run_move_is (.tmp 0) rfl rfl W) trivial ?_
            simp only [Act.put, List.setIfInBounds_toArray, List.set_cons_zero, List.set_cons_succ]
            refine held_take (i := 3) (d := 25) (v := .int .i64 (N : Int)) rfl rfl (by kernel_rfl) (by kernel_rfl) (by kernel_rfl) (fun _ _ _ h => h) (by rfl) (fun W _ => run_move_is (.tmp 0) rfl rfl W) trivial ?_
            simp only [Act.put, List.setIfInBounds_toArray, List.set_cons_zero, List.set_cons_succ]
            refine held_two (i := 2) (j := 4) (by kernel_rfl) ?_ ?_
            · obtain ⟨wa, ra, oa, ga⟩ := run_mk (P := Try.prog) N w.drew Try.underlying67 HI.out HZ.out rfl hz1 (by rw [hz2]; omega) (by unfold maxLen; omega)
              have hba : Below w.heap.size w wa := HBD.out.grown ga (Nat.le_refl _) (fun k e => by cases e)
              refine held_make (d := 24) rfl rfl (by rfl) (ra _ _ (.tmp 23) rfl rfl) ⟨trivial, ?_⟩
              simp only [Act.put, List.setIfInBounds_toArray, List.set_cons_zero, List.set_cons_succ]
              obtain ⟨wb, rb, ob, gb⟩ := run_mk (P := Try.prog) N wa Try.underlying80 HJ.out HY.out rfl hy1 (by rw [hy2]; omega) (by unfold maxLen; omega)
              refine held_one (i := 4) (by kernel_rfl) ?_
              refine held_make (d := 26) rfl rfl (by rfl) (rb _ _ (.tmp 25) rfl rfl) ⟨trivial, ?_⟩
              simp only [Act.put, List.setIfInBounds_toArray, List.set_cons_zero, List.set_cons_succ]
              refine wpAnyH_done (by kernel_rfl) ?_ _
              have hbb : Below w.heap.size w wb := hba.grown gb hba.size (fun k e => by cases e)
              have hwa : w.heap.size < wa.heap.size := (oa.lt w.heap.size rfl).2
              have HM := Lib.hid (Mgs.made (w := w) (c := c) (k := k) (first := first) (made_ints (World.ownsRow.kept oa gb (.inr (fun e => by cases e)))) ((made_bools ob).down hba.size) (fun g hg e => by
                have e1 := Option.some.inj hg
                have e2 := Option.some.inj e
                simp only at e1 e2
                omega) hbb)
              have HB := Lib.hid (hbb.alloc hbb.size (.cells #[.int .i64 first, .slice (some ⟨w.drew.heap.size, 0, none⟩) N N, .slice (some ⟨wa.heap.size, 0, none⟩) N N, .slice none 0 0, .int .i64 0] 82))
              have HBS := Lib.hid hbb.size
              clear ra rb oa ob ga gb hba hbb
              simp only [atEnd]
              go_wp2_with fail
              go_meet
              exact ⟨wb.heap.size, rfl, Lib.hid ⟨HBS.out, HM.out, HB.out⟩⟩
            · obtain ⟨wa, ra, oa, ga⟩ := run_mk (P := Try.prog) N w.drew Try.underlying80 HJ.out HY.out rfl hy1 (by rw [hy2]; omega) (by unfold maxLen; omega)
              have hba : Below w.heap.size w wa := HBD.out.grown ga (Nat.le_refl _) (fun k e => by cases e)
              refine held_make (d := 26) rfl rfl (by rfl) (ra _ _ (.tmp 25) rfl rfl) ⟨trivial, ?_⟩
              simp only [Act.put, List.setIfInBounds_toArray, List.set_cons_zero, List.set_cons_succ]
              obtain ⟨wb, rb, ob, gb⟩ := run_mk (P := Try.prog) N wa Try.underlying67 HI.out HZ.out rfl hz1 (by rw [hz2]; omega) (by unfold maxLen; omega)
              refine held_one (i := 2) (by kernel_rfl) ?_
              refine held_make (d := 24) rfl rfl (by rfl) (rb _ _ (.tmp 23) rfl rfl) ⟨trivial, ?_⟩
              simp only [Act.put, List.setIfInBounds_toArray, List.set_cons_zero, List.set_cons_succ]
              refine wpAnyH_done (by kernel_rfl) ?_ _
              have hbb : Below w.heap.size w wb := hba.grown gb hba.size (fun k e => by cases e)
              have hwa : w.heap.size < wa.heap.size := (oa.lt w.heap.size rfl).2
              have HM := Lib.hid (Mgs.made (w := w) (c := c) (k := k) (first := first) ((made_ints ob).down hba.size) (made_bools (World.ownsRow.kept oa gb (.inr (fun e => by cases e)))) (fun g hg e => by
                have e1 := Option.some.inj hg
                have e2 := Option.some.inj e
                simp only at e1 e2
                omega) hbb)
              have HB := Lib.hid (hbb.alloc hbb.size (.cells #[.int .i64 first, .slice (some ⟨wa.heap.size, 0, none⟩) N N, .slice (some ⟨w.drew.heap.size, 0, none⟩) N N, .slice none 0 0, .int .i64 0] 82))
              have HBS := Lib.hid hbb.size
              clear ra rb oa ob ga gb hba hbb
              simp only [atEnd]
              go_wp2_with fail
              go_meet
              exact ⟨wb.heap.size, rfl, Lib.hid ⟨HBS.out, HM.out, HB.out⟩⟩
          case rest =>
            obtain ⟨m, rfl, hh⟩ := hcut
            have HHC := Lib.hid hh.out
            clear hh
            go_wp2
            go_loopw [7] (fun kv wr => ∃ i : Nat, i ≤ N ∧ kv = .int .i64 i ∧ Hid (Mgs wr (rc c w.heap.size k) k m ⟨first, List.replicate N 0, List.replicate N false, rng i, 0⟩ ∧ Below w.heap.size w wr)) (fun kv _ => N - (intOf kv).toNat)
            case atStart => exact ⟨0, by omega, rfl, Lib.hid HHC.out.2⟩
            case round =>
              obtain ⟨i, hi', rfl, hh⟩ := hrel
              by_cases hin : i < N
              · have hi1 : (i : Int) < (N : Int) := by omega
                obtain ⟨hM, hB⟩ := hh.out
                have HB := Lib.hid hB
                obtain ⟨v1, v2, v3, e0, e1, e2, e3, e4, e5, e6, e7⟩ := hM.ex
                obtain ⟨A, n3, c3, rfl, hks⟩ := e3.shape
                simp only at e0 e1 e2 e3
                have k0 : wr.cell? ⟨m, 3, none⟩ = some (.slice A n3 c3) := cell_of_row wr m 3 _ _ _ e0
                have k1 : (wr.alloc (.cells #[.int .i64 (i : Int)] 3)).cell? ⟨m, 3, none⟩ = some (.slice A n3 c3) := cell_under k0 _
                have HO1 := Lib.hid (e3.alloc (.cells #[.int .i64 (i : Int)] 3))
                have HYY : Hid (Kws int1 (wr.alloc (.cells #[.int .i64 (i : Int)] 3)) (wr.heap.size + 1) (some ⟨wr.heap.size, 0, none⟩) 1 1 [(i : Int)]) := Lib.hid (Kws.new (E := int1) wr [(i : Int)] _ _ 1 rfl rfl (by unfold maxLen; omega))
                have HPU := Lib.hid (fun (w2 : World) (v3' : Value) (g1 : OwnK int1 3 w2 0 v3' (rng i ++ [(i : Int)])) (g2 : (wr.alloc (.cells #[.int .i64 (i : Int)] 3)).grownBy w2 (Value.slice A n3 c3).ownBlock) g3 => Mgs.push (s := ⟨first, List.replicate N 0, List.replicate N false, rng i, 0⟩) e0 e1 e2 e3 e4 e5 e6 e7 g1 g2 g3)
                rw [rc_rc HB.out.size, ← rng_succ] at HPU
                have HLR : Hid ((rng i).length ≤ 4096) := Lib.hid (by rw [rng_len]; omega)
                clear hM hB hh hks e0 e1 e2 e3 e4 e5 e6 e7
                go_wp2_with (at_builtin; go_must (refine wpList_appK _ rfl (.tmp 38) (.tmp 40) 67 rfl Try.underlying67 HI.out HZ.out rfl hz1 (by omega) HO1.out rfl HYY.out rfl (by have := HLR.out; omega) (by simp) ?_); intro v4 w4 ho4 hb4 hg4; rw [← rng_succ] at ho4; obtain ⟨A4, n4, c4, rfl, hx4⟩ := ho4.shape; have HP := Lib.hid (HPU.out w4 _ ho4 hg4.1 hg4.2); have k2 : w4.cell? ⟨m, 3, none⟩ = some (.slice A n3 c3) := cell_of_row w4 m 3 _ _ _ HP.out.1; have k3 : w4.frozen? ⟨m, 3, none⟩ = false := frozen_of_row w4 m 3 _ _ HP.out.1; clear ho4 hb4 hg4 hx4)
                have HS4 : Hid (Mgs (w4.setCell ⟨m, 3, none⟩ (.slice A4 n4 c4)) (rc c w.heap.size k) k m ⟨first, List.replicate N 0, List.replicate N false, rng (i + 1), 0⟩ ∧ Below w.heap.size w (w4.setCell ⟨m, 3, none⟩ (.slice A4 n4 c4))) := Lib.hid ⟨HP.out.2.1, HB.out.trans (HP.out.2.2.below (fun g hg => by rw [rc_old hg]; exact hck g hg) HB.out.size)⟩
                go_roundw
                case rel => exact ⟨i + 1, by omega, by go_num, HS4⟩
                case measure => simp [intOf]; omega
              · obtain rfl : i = N := by omega
                have hii : ¬ (i : Int) < (i : Int) := by omega
                go_wp2
                go_ret2
                refine .inr ⟨HE.out, m, rfl, HHC.out.1, ?_, hh.out.2⟩
                rw [Int.toNat_natCast]
                exact hh.out.1
end Go.Proofs.Ytaoojgnkbcoggaa
