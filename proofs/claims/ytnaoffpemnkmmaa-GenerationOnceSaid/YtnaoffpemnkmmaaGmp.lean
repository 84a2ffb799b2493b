/-
  A map of the call's own whose keys are pairs of integers and whose elements are bools: a look-up of a pair that is not among its keys, a store. Slots beside such a map. No conditions beyond those that each lemma states.
-/
import Derived.Test.YtnaoffpemnkmmaaGso
import Derived.Maps.Own
import Derived.WideKeyPair
import Derived.DeepKeys4
namespace Go.Proofs.Ytnaoffpemnkmmaa
open Go.ChangeShapes Go.WideShapes Go.RowKit
open Go.ChangeMaps (setBlock heap_setBlock_same heap_setBlock_other)
open Go.WideElems (rg)
open Go.WideMaps
set_option linter.unusedVariables false
set_option maxHeartbeats 4000000
set_option maxRecDepth 100000

theorem mLaid : laidOutB Try.prog = true := by kernel_rfl
theorem mArr : ArrKey Try.prog 53 3 2 := ⟨Try.underlying53, by kernel_rfl, by kernel_rfl, by kernel_rfl⟩
theorem mRow : (53 : TypeId) < Try.prog.types.size := of_decide_eq_true (by kernel_rfl)
theorem mWide : (match Try.prog.underlying 53 with | some (.array _ _) | some (.struct _) => true | _ => false) = true := by rw [Try.underlying53]
theorem mKeyed : Maps.Keyed Try.prog 53 := Maps.Keyed.of_law (deep_law_laid mLaid (m := 2) (by omega) mRow (by kernel_rfl) mWide)
theorem mTypes : ∃ m, Try.prog.types.size = m + 1 := ⟨Try.prog.types.size - 1, (Nat.succ_pred_eq_of_pos (Nat.lt_of_le_of_lt (Nat.zero_le _) mRow)).symm⟩
theorem mZero (w : World) : (zeroValue 4).run Try.prog w = .ok (.bool false) w := by kernel_rfl
theorem mKey {a b : Int} (ha : -9223372036854775808 ≤ a ∧ a ≤ 9223372036854775807) (hb : -9223372036854775808 ≤ b ∧ b ≤ 9223372036854775807) :
    ∃ kl, keyOf Try.prog 53 (.agg #[.int .i64 a, .int .i64 b]) = some kl :=
  ⟨_, keyOf_pair mArr Try.underlying3 mTypes (WalkArith.wf_i64 (by omega)) (WalkArith.wf_i64 (by omega))⟩
/-- The block M is a map of at most n entries, whose keys are pairs of which Is holds. -/
structure Seen (w : World) (M n : Nat) (Is : Int → Int → Prop) : Prop where
  ex : ∃ es clock, w.heap[M]? = some (.map es clock) ∧ WideElems.Fit Try.prog 53 (plainElem (H := Unit) Try.prog 4) es clock ∧ es.size ≤ n ∧ ∀ x ∈ es.toList, ∃ a b : Int, x.key = .agg #[.int .i64 a, .int .i64 b] ∧ Is a b
section
variable {w w' : World} {M n : Nat} {Is Is' : Int → Int → Prop} {a b : Int}
theorem Seen.kept (h : Seen w M n Is) (hk : w'.heap[M]? = w.heap[M]?) (hi : ∀ a b, Is a b → Is' a b) : Seen w' M n Is' := by
  obtain ⟨es, clock, h1, h2, h3, h4⟩ := h.ex
  exact ⟨es, clock, hk.trans h1, h2, h3, fun x hx => by
    obtain ⟨a, b, e1, e2⟩ := h4 x hx
    exact ⟨a, b, e1, hi a b e2⟩⟩
theorem Seen.more {n' : Nat} (h : Seen w M n Is) (hn : n ≤ n') : Seen w M n' Is := by
  obtain ⟨es, clock, h1, h2, h3, h4⟩ := h.ex
  exact ⟨es, clock, h1, h2, Nat.le_trans h3 hn, h4⟩
theorem Seen.made (w : World) : Seen (w.alloc (.map #[] 0)) w.heap.size 0 Is :=
  ⟨#[], 0, (MapKept.heap_alloc w _).1, ⟨by simp, MapKept.stamped_empty 0, by simp⟩, Nat.le_refl _, fun x hx => by simp at hx⟩
theorem Seen.look (h : Seen w M n Is) (hn : ¬ Is a b) (ha : -9223372036854775808 ≤ a ∧ a ≤ 9223372036854775807) (hb : -9223372036854775808 ≤ b ∧ b ≤ 9223372036854775807) :
    (Instr.lookup 52 (.map (some M)) (.agg #[.int .i64 a, .int .i64 b]) false).run Try.prog w = .ok (.bool false) w := by
  obtain ⟨es, clock, h1, h2, h3, h4⟩ := h.ex
  obtain ⟨kl, hkl⟩ := mKey ha hb
  rcases Maps.fit_look false mKeyed Try.underlying52 (mZero w) h1 h2 hkl with ⟨hr, _⟩ | ⟨e0, _, he, hk, _⟩
  · exact hr
  · exfalso
    obtain ⟨a', b', e1, e2⟩ := h4 e0 he
    rw [hk] at e1
    injection e1 with e1
    injection e1 with e1
    simp only [List.cons.injEq, Value.int.injEq, true_and, and_true] at e1
    obtain ⟨rfl, rfl⟩ := e1
    exact hn e2
theorem Seen.store (h : Seen w M n Is) (hn : n < 1000000) (ha : -9223372036854775808 ≤ a ∧ a ≤ 9223372036854775807) (hb : -9223372036854775808 ≤ b ∧ b ≤ 9223372036854775807) (hi : ∀ x y, Is x y → Is' x y) (hab : Is' a b) :
    ∃ w', (Instr.mapUpdate 52 (.map (some M)) (.agg #[.int .i64 a, .int .i64 b]) (.bool true)).run Try.prog w = .ok () w' ∧ Seen w' M (n + 1) Is' ∧ w.grownBy w' (some M) := by
  obtain ⟨es, clock, h1, h2, h3, h4⟩ := h.ex
  obtain ⟨kl, hkl⟩ := mKey ha hb
  obtain ⟨es', clock', hrun, F', hput, _, _, hwho⟩ := Maps.fit_store (R' := plainElem (H := Unit) Try.prog 4) mKeyed Try.underlying52 h1 h2 (by unfold maxLen; omega) (fun _ _ _ _ hz => hz) hkl (plainElem_bool Try.underlying4 true)
  refine ⟨_, hrun, ⟨es', clock', heap_setBlock_same h1 _, F', ?_, fun x hx => ?_⟩, ⟨rfl, rfl, rfl, by simp [setBlock], fun i _ hi => heap_setBlock_other h1 _ (fun e => hi (by rw [e]))⟩⟩
  · have e1 : es'.size = ((es'.toList.map (rg Try.prog 53 (plainElem (H := Unit) Try.prog 4))).foldr DataW.insert []).length := by rw [length_sorted]; simp
    rw [e1, hput]
    unfold ChangeMaps.putKey
    rw [length_insert]
    have e2 := List.length_filter_le (ChangeMaps.notKey kl) ((es.toList.map (rg Try.prog 53 (plainElem (H := Unit) Try.prog 4))).foldr DataW.insert [])
    rw [length_sorted] at e2
    simp at e2
    omega
  · rcases hwho x hx with ⟨h5, _⟩ | ⟨h5, _⟩
    · obtain ⟨a', b', e1, e2⟩ := h4 x h5
      exact ⟨a', b', e1, hi _ _ e2⟩
    · exact ⟨a, b, h5, hab⟩
end
/-- Slots beside a block M that they leave as it is. -/
structure Twin (Sl : World → (Nat → Nat) → Nat → Nat → Gs → Prop) (B N M : Nat) (w : World) (p : Nat) (s : Gs) : Prop where
  ex : ∃ c : Nat → Nat, Sl w c 1 p s ∧ (∀ g, g < B → c g = 0) ∧ c M = 0
  wf : s.Wf N
  bd : B ≤ w.heap.size
  mb : M < w.heap.size
  sm : N ≤ 4096
section
variable {Sl : World → (Nat → Nat) → Nat → Nat → Gs → Prop} {B N M p : Nat} {w w2 : World} {s : Gs}
theorem Twin.made (C : Pc Sl) (h : Solo Sl B N w p s) (o : Obj) : Twin Sl B N w.heap.size (w.alloc o) p s := by
  obtain ⟨c, h1, h3⟩ := h.ex
  have hb : Below w.heap.size w (w.alloc o) := (Below.refl _ _).alloc (Nat.le_refl _) _
  have e : ∀ g, g < w.heap.size → (fun g => if g < w.heap.size then c g else 0) g = c g := fun g hg => if_pos hg
  exact ⟨⟨fun g => if g < w.heap.size then c g else 0, C.kept h1 (j := 2) (Kept.ofBelow hb) (by omega) e, fun g hg => (e g (Nat.lt_of_lt_of_le hg h.bd)).trans (h3 g hg), if_neg (by omega)⟩, h.wf, Nat.le_trans h.bd hb.size, by simp, h.sm⟩
theorem Twin.stored (C : Pc Sl) (h : Twin Sl B N M w p s) (hg : w.grownBy w2 (some M)) : Twin Sl B N M w2 p s := by
  obtain ⟨c, h1, h3, h4⟩ := h.ex
  exact ⟨⟨c, C.kept h1 (j := 0) (Kept.ofGrown hg (fun g e => by cases e; exact h4)) (by omega) (fun _ _ => rfl), h3, h4⟩, h.wf, Nat.le_trans h.bd hg.size, Nat.lt_of_lt_of_le h.mb hg.size, h.sm⟩
theorem Twin.issue (C : Pc Sl) (h : Twin Sl B N M w p s) (d : Int) (hd : 0 ≤ d ∧ d < 18446744073709551616) : Calls Try.prog 14 #[.pointer (some ⟨p, 0, none⟩), .int .u64 d] w fun e w' =>
    e = .returned (.tuple #[.int .i64 (s.issV d).1, .int .i64 (s.issV d).2.1, .int .i64 (s.issV d).2.2]) ∧ Twin Sl B N M w' p (s.issN d) ∧ Below B w w' ∧ w'.heap[M]? = w.heap[M]? := by
  obtain ⟨c, h1, h3, h4⟩ := h.ex
  refine (C.issue w c 1 p N s d h1 h.wf h.sm hd).mono ?_
  rintro e w' ⟨rfl, hS, hk⟩
  have hb : Below B w w' := hk.below (fun g hg => by rw [h3 g hg]; omega) h.bd
  exact ⟨rfl, ⟨⟨_, hS, fun g hg => by rw [rc_old (Nat.lt_of_lt_of_le hg h.bd)]; exact h3 g hg, by rw [rc_old h.mb]; exact h4⟩, h.wf.iss, Nat.le_trans h.bd hb.size, Nat.lt_of_lt_of_le h.mb hk.size, h.sm⟩, hb, hk.block M h.mb (by omega)⟩
theorem Twin.end_ (C : Pc Sl) (h : Twin Sl B N M w p s) (x : Int) : Calls Try.prog 16 #[.pointer (some ⟨p, 0, none⟩), .int .i64 x] w fun e w' =>
    e = .returned (.int .i64 (s.endV x)) ∧ Twin Sl B N M w' p (s.endN x) ∧ Below B w w' ∧ w'.heap[M]? = w.heap[M]? := by
  obtain ⟨c, h1, h3, h4⟩ := h.ex
  refine (C.end_ w c 1 p N s x h1 h.wf h.sm).mono ?_
  rintro e w' ⟨rfl, hS, hk⟩
  have hb : Below B w w' := hk.below (fun g hg => by rw [h3 g hg]; omega) h.bd
  exact ⟨rfl, ⟨⟨_, hS, fun g hg => by rw [rc_old (Nat.lt_of_lt_of_le hg h.bd)]; exact h3 g hg, by rw [rc_old h.mb]; exact h4⟩, h.wf.end_, Nat.le_trans h.bd hb.size, Nat.lt_of_lt_of_le h.mb hk.size, h.sm⟩, hb, hk.block M h.mb (by omega)⟩
end
/-- A pair that has been issued. -/
def Gs.Iss (s : Gs) (a b : Int) : Prop := ∃ j : Nat, a = (j : Int) ∧ b ≤ s.gen.getD j 0
section
variable {s : Gs} {N : Nat} {a b d k : Int}
theorem Gs.iss_end (h : s.Iss a b) : (s.endN k).Iss a b := by
  obtain ⟨j, h1, h2⟩ := h
  refine ⟨j, h1, ?_⟩
  have e : (s.endN k).gen = s.gen := by
    unfold Gs.endN
    split
    · split <;> rfl
    · rfl
  rw [e]
  exact h2
theorem Gs.first_end : (s.endN k).first = s.first := by
  unfold Gs.endN
  split
  · split <;> rfl
  · rfl
theorem Gs.first_iss : (s.issN d).first = s.first := by
  unfold Gs.issN
  split <;> rfl
/-- What Issue returns where it succeeds: a new pair. -/
theorem Gs.fresh (h : s.Wf N) (hf : s.free ≠ []) : ∃ (j : Nat) (g : Int), s.issV d = ((j : Int), g, 0) ∧ j < N ∧ s.first ≤ g ∧ g ≤ 4294967295 ∧ ¬ s.Iss (j : Int) g ∧ (s.issN d).Iss (j : Int) g ∧ ∀ a b, s.Iss a b → (s.issN d).Iss a b := by
  obtain ⟨j, hv, hx, hj, hlj, hgj⟩ := Gs.iss_ok (d := d) h hf
  have hjg : j < s.gen.length := by rw [h.gl]; exact hj
  have hnx := h.nx hj hgj
  have e : (s.issN d).gen = s.gen.set j (s.nxt j) := by
    unfold Gs.issN
    rw [if_neg hf, hx, Int.toNat_natCast]
  refine ⟨j, s.nxt j, hv, hj, hnx.1, hnx.2.1, ?_, ⟨j, rfl, by rw [e, getD_set_eq hjg]; exact Int.le_refl _⟩, ?_⟩
  · rintro ⟨i, hi, hle⟩
    have : i = j := by omega
    subst this
    omega
  · rintro a b ⟨i, rfl, hle⟩
    refine ⟨i, rfl, ?_⟩
    rw [e]
    by_cases hij : j = i
    · subst hij
      rw [getD_set_eq hjg]
      omega
    · rw [getD_set_ne hij]
      exact hle
end
end Go.Proofs.Ytnaoffpemnkmmaa
