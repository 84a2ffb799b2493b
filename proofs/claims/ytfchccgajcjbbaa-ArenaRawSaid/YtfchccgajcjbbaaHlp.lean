/-
  Program and model on their way, with slices made on the way; regions that draw their order, parted and in single steps; Store with any width. Conditions: at most nine hundred extents.
-/
import Derived.Test.YtfchccgajcjbbaaAlk
import Derived.Test.YtfchccgajcjbbaaApt
import Derived.Test.YtfchccgajcjbbaaSth
import Derived.StillTail
import Derived.Deep.RegionHeld3
namespace Go.Proofs.Ytfchccgajcjbbaa
open Go.ChangeShapes Go.WideShapes Go.ChangeAt Go.RowKit
set_option maxHeartbeats 8000000
set_option maxRecDepth 100000

theorem numC_int {A : List (Int × Int)} {x y off n : Int} (h : ¬ 0 ≤ n) : numC A x y off n = numC A x y off (n.toNat : Int) := by
  unfold numC
  rw [if_neg (show ¬ (n = 1 ∨ n = 2 ∨ n = 4 ∨ n = 8) by omega), if_neg (show ¬ ((n.toNat : Int) = 1 ∨ (n.toNat : Int) = 2 ∨ (n.toNat : Int) = 4 ∨ (n.toNat : Int) = 8) by omega)]
theorem numC_neg {A : List (Int × Int)} {x y off n : Int} (h : ¬ 0 ≤ n) : numC A x y off n ≠ 0 := by
  unfold numC
  rw [if_neg (show ¬ (n = 1 ∨ n = 2 ∨ n = 4 ∨ n = 8) by omega)]
  split <;> omega
theorem storeA_int (c : Nat → Nat) (a p g : Nat) (F A : List (Int × Int)) (bs : List Int) (x y off v n : Int) (w : World) (h : Arn w c a p g F A bs) (hv : Gd bs.length F A) (hA : A.length ≤ 900) :
    Calls Try.prog 18 #[.pointer (some ⟨a, 0, none⟩), .agg #[.int .i64 x, .int .i64 y], .int .i64 off, .int .i64 n, .int .u64 v] w (PrE w c a p g F A (stB A bs x y off n.toNat v) (.int .i64 (stC A x y off n.toNat v))) := by
  by_cases h0 : 0 ≤ n
  · obtain ⟨N, rfl⟩ := Int.eq_ofNat_of_zero_le h0
    exact storeA_any c a p g F A bs x y off v N w h hv hA
  · have h1 := numC_neg (A := A) (x := x) (y := y) (off := off) h0
    have h2 := h1
    rw [numC_int h0] at h2
    rw [(st_no (bs := bs) h2).1, (st_no h2).2, ← numC_int h0]
    exact store_no c a p g F A bs x y off n v _ w h hv hA rfl h1
theorem storeM_int (c : Nat → Nat) (q g : Nat) (U : List (Int × Int)) (bs : List Int) (x y off v n : Int) (w : World) (h : Mrn w c q g U bs) (hi : Ins bs.length U) (hU : U.length ≤ 900) (hv0 : 0 ≤ v) (hv1 : v < 18446744073709551616) :
    Calls Try.prog 19 #[.pointer (some ⟨q, 0, none⟩), .agg #[.int .i64 x, .int .i64 y], .int .i64 off, .int .i64 n, .int .u64 v] w (MoE w c q g U (stB U bs x y off n.toNat v) (.int .i64 (stC U x y off n.toNat v))) := by
  by_cases h0 : 0 ≤ n
  · obtain ⟨N, rfl⟩ := Int.eq_ofNat_of_zero_le h0
    exact storeM_any c q g U bs x y off v N w h hi hU hv0 hv1
  · have h1 := numC_neg (A := U) (x := x) (y := y) (off := off) h0
    have h2 := h1
    rw [numC_int h0] at h2
    rw [(st_no (bs := bs) h2).1, (st_no h2).2, ← numC_int h0]
    exact storeR_no c q g U bs x y off n v _ w h hi hU rfl h1
/-- A box that nobody writes, on the way. -/
theorem Pos.box {w w' : World} {c : Nat → Nat} {a p g q g2 t : Nat} {F A U : List (Int × Int)} {b1 b2 : List Int} {x y : Int} (h : Pos w c a p g q g2 F A b1 U b2 w') (hb : Box w t x y) (ht : ¬ Sa (c t)) : Box w' t x y := (h.block hb.lt ht).trans hb
/-- Two bytes that were just made. -/
def Two (w : World) (k : Nat) : Prop := w.heap[k]? = some (.cells #[.int .u8 1, .int .u8 2] 5 (0, 0))
theorem Two.lt {w : World} {k : Nat} (h : Two w k) : k < w.heap.size := (Array.getElem?_eq_some_iff.1 h).1
theorem Two.row {w : World} {k : Nat} (h : Two w k) : Row w w.heap.size (some ⟨k, 0, none⟩) 2 2 (iv .u8 [1, 2]) := Byt.row (bs := [1, 2]) h (by simp)
theorem fit_two : Fit .u8 [1, 2] := fun x hx => by
  simp only [List.mem_cons, List.not_mem_nil, or_false] at hx
  rcases hx with rfl | rfl <;> decide
/-- As Pos, and the blocks of L hold the two bytes still. -/
structure Mid (L : List Nat) (w : World) (c : Nat → Nat) (a p g q g2 : Nat) (F A : List (Int × Int)) (b1 : List Int) (U : List (Int × Int)) (b2 : List Int) (w' : World) : Prop where
  ex : ∃ c', Arn w' c' a p g F A b1 ∧ Mrn w' c' q g2 U b2 ∧ KS Sa c w w' ∧ (∀ x, x < w.heap.size → c' x = c x) ∧ (∀ x, w'.heap.size ≤ x → c' x = 9) ∧ ∀ k ∈ L, c' k = 9 ∧ Two w' k
section
variable {L : List Nat} {w w' : World} {c : Nat → Nat} {a p g q g2 k : Nat} {F A U : List (Int × Int)} {b1 b2 : List Int}
theorem Mid.ofPos (h : Pos w c a p g q g2 F A b1 U b2 w') : Mid [] w c a p g q g2 F A b1 U b2 w' := by
  obtain ⟨c', h1, h2, h3, h4, h5⟩ := h.ex
  exact ⟨c', h1, h2, h3, h4, h5, fun k hk => by cases hk⟩
theorem Mid.pos (h : Mid L w c a p g q g2 F A b1 U b2 w') : Pos w c a p g q g2 F A b1 U b2 w' := by
  obtain ⟨c', h1, h2, h3, h4, h5, _⟩ := h.ex
  exact ⟨c', h1, h2, h3, h4, h5⟩
theorem Mid.two (h : Mid L w c a p g q g2 F A b1 U b2 w') : Mid (w'.heap.size :: L) w c a p g q g2 F A b1 U b2 (w'.alloc (.cells #[.int .u8 1, .int .u8 2] 5)) := by
  obtain ⟨c', h1, h2, h3, h4, h5, h6⟩ := h.ex
  have hb : Below w'.heap.size w' (w'.alloc (.cells #[.int .u8 1, .int .u8 2] 5)) := (Below.refl _ _).alloc (Nat.le_refl _) _
  refine ⟨c', h1.go hb, h2.go hb, h3.trans (KS.ofBelow hb) h4, h4, fun x hx => h5 x (Nat.le_trans hb.size hx), fun k hk => ?_⟩
  rcases List.mem_cons.1 hk with rfl | hk
  · exact ⟨h5 _ (Nat.le_refl _), heap_alloc_new w' _⟩
  · exact ⟨(h6 k hk).1, (hb.block k (h6 k hk).2.lt).trans (h6 k hk).2⟩
theorem Mid.prog (h : Mid L w c a p g q g2 F A b1 U b2 w') (hk : k ∈ L) (hv : Gd b1.length F A) (hA : A.length ≤ 900) (x y off : Int) :
    Calls Try.prog 22 #[.pointer (some ⟨a, 0, none⟩), .agg #[.int .i64 x, .int .i64 y], .int .i64 off, .slice (some ⟨k, 0, none⟩) 2 2] w'
      fun e w'' => e = .returned (.int .i64 (bytC A x y off 2)) ∧ Mid L w c a p g q g2 F A (wrB A b1 x y off [1, 2]) U b2 w'' := by
  obtain ⟨c', h1, h2, h3, h4, _, h6⟩ := h.ex
  refine (write_any c' a p g F A b1 x y off _ 2 2 [1, 2] w' h1 hv hA (h6 k hk).2.row fit_two).mono ?_
  rintro e w'' ⟨rfl, c'', k1, k2, k3, k4⟩
  exact ⟨rfl, c'', k1, h2.ks k2 k3, h3.trans (k2.wide (fun _ => .inl)) h4, fun x hx => (k3 x (Nat.lt_of_lt_of_le hx h3.size)).trans (h4 x hx), k4, fun k hk =>
    ⟨(k3 k (h6 k hk).2.lt).trans (h6 k hk).1, (k2.block k (h6 k hk).2.lt (by rw [(h6 k hk).1]; exact sp_not (by omega) (by omega))).trans (h6 k hk).2⟩⟩
theorem Mid.model (h : Mid L w c a p g q g2 F A b1 U b2 w') (hk : k ∈ L) (hi : Ins b2.length U) (hU : U.length ≤ 900) (x y off : Int) :
    Calls Try.prog 23 #[.pointer (some ⟨q, 0, none⟩), .agg #[.int .i64 x, .int .i64 y], .int .i64 off, .slice (some ⟨k, 0, none⟩) 2 2] w'
      fun e w'' => e = .returned (.int .i64 (bytC U x y off 2)) ∧ Mid L w c a p g q g2 F A b1 U (wrB U b2 x y off [1, 2]) w'' := by
  obtain ⟨c', h1, h2, h3, h4, _, h6⟩ := h.ex
  refine (writeR_any c' q g2 U b2 x y off _ 2 2 [1, 2] w' h2 hi hU (h6 k hk).2.row fit_two (fun b o e _ => by
    cases e
    rw [(h6 k hk).1]; omega)).mono ?_
  rintro e w'' ⟨rfl, c'', k1, k2, k3, k4⟩
  exact ⟨rfl, c'', h1.ks k2 k3, k1, h3.trans (k2.wide (fun _ => .inr)) h4, fun x hx => (k3 x (Nat.lt_of_lt_of_le hx h3.size)).trans (h4 x hx), k4, fun k hk =>
    ⟨(k3 k (h6 k hk).2.lt).trans (h6 k hk).1, (k2.block k (h6 k hk).2.lt (by rw [(h6 k hk).1]; exact sm_not (by omega) (by omega))).trans (h6 k hk).2⟩⟩
end

section
variable {P : Program} {l : List Oper} {Q : Exit → Act → World → Prop} {n : Nat}
/-- N at the normal end, Q elsewhere. -/
def atEnd (N : Act → World → Prop) (Q : Exit → Act → World → Prop) : Exit → Act → World → Prop
  | .normal, a, w => N a w
  | e, a, w => Q e a w
theorem wpOp_atEnd {ops : Array Oper} {N : Act → World → Prop} {K : Act → World → Prop} {i : Nat} {a : Act} {w : World} (h : wpOp P ops (atEnd N Q) i K a w) : wpOp P ops Q i K a w := by
  unfold wpOp at *
  split
  · simpa [*] using h
  · rename_i o ho
    simp only [ho] at h
    split
    · rename_i hw
      simp only [hw, if_true] at h
      rcases h with h | h
      · refine .inl ?_
        unfold Oper.wp at *
        generalize (execOp a.eval o).run P w = r at *
        cases r with
        | ok nx w' =>
          cases nx <;> simp only [Oper.upon] at h ⊢ <;>
            first
              | exact h
              | exact Calls.mono h (fun e w'' he => by cases e <;> exact he)
        | halt x w' => cases x <;> simp only [Oper.upon] at h ⊢ <;> exact h
      · exact .inr h
    · rename_i hw
      simpa [hw] using h
/-- What a program can check. -/
def splitB (l : List Oper) (n : Nat) : Bool :=
  decide (0 < n) && decide (n < l.length)
    && ((List.range (n - 1)).all fun i => (List.range n).any fun j => decide (i < j) && Region.waitsFor .any l.toArray j i)
    && ((List.range (l.length - n)).all fun t => Region.waitsFor .any l.toArray (n + t) (n - 1))
    && (l.take n).all (fun o => match o.guard with
      | some (k, _) => decide (k < n)
      | none => true)
    && (List.range n).all fun i => match l[i]? with
      | some o => o.after.all fun e => !Region.binds .any e || decide (e.on < i)
      | none => true
theorem split_waits {listed : Array Bool} (h1 : ∀ i, i < n - 1 → ∃ j, i < j ∧ j < n ∧ Region.waitsFor .any l.toArray j i = true) (h2 : ∀ t, n ≤ t → t < l.length → Region.waitsFor .any l.toArray t (n - 1) = true)
    (h0 : 0 < n) (inv : HeadInv .any l.toArray n listed) {t : Nat} (ht : n ≤ t) (hr : t ∈ Region.ready .any l.toArray listed) : ∀ i, i < n → listed.getD i false = true := by
  obtain ⟨_, ot, hot, hall⟩ := mem_ready.1 hr
  have htlt : t < l.length := by have := (Array.getElem?_eq_some_iff.1 hot).1; simpa using this
  have hlast : listed.getD (n - 1) false = true := by
    obtain ⟨o', ho', e, he, hb, hon⟩ := Region.waitsFor_spec (h2 t ht htlt)
    have : o' = ot := Option.some.inj (ho'.symm.trans hot)
    subst this
    have h3 := hall e he hb
    rwa [hon] at h3
  have key : ∀ d i, n - 1 - i = d → i < n → listed.getD i false = true := by
    intro d
    induction d using Nat.strongRecOn with
    | _ d ih =>
      intro i hd hi
      by_cases hin : i = n - 1
      · subst hin; exact hlast
      · obtain ⟨j, hij, hjn, hw⟩ := h1 i (by omega)
        have hj := ih (n - 1 - j) (by omega) j rfl hjn
        obtain ⟨oj, hoj, e, he, hb, hon⟩ := Region.waitsFor_spec hw
        have h3 := inv.closed j oj hoj hj e he hb
        rwa [hon] at h3
  exact fun i hi => key _ i rfl hi
theorem any_split (hn : n < l.length) (h0 : 0 < n) (h1 : ∀ i, i < n - 1 → ∃ j, i < j ∧ j < n ∧ Region.waitsFor .any l.toArray j i = true) (h2 : ∀ t, n ≤ t → t < l.length → Region.waitsFor .any l.toArray t (n - 1) = true)
    (hg : ∀ i o, i < n → l[i]? = some o → ∀ k b, o.guard = some (k, b) → k < n) (he : ∀ i o, i < n → l[i]? = some o → ∀ e ∈ o.after, Region.binds .any e = true → e.on < i) :
    ∀ (f : Nat) (listed heads : Array Bool) (a : Act) (w : World), HeadInv .any l.toArray n listed → heads.size = n → (∀ i, i < n → heads.getD i false = listed.getD i false) →
      wpAny P .any (l.take n).toArray (atEnd (wpAny P .any l.toArray Q (l.length - n) (Array.replicate n true ++ Array.replicate (l.length - n) false)) Q) f heads a w → wpAny P .any l.toArray Q (f + (l.length - n)) listed a w := by
  have full : ∀ listed : Array Bool, HeadInv .any l.toArray n listed → (∀ j, j < n → listed.getD j false = true) → listed = Array.replicate n true ++ Array.replicate (l.length - n) false := fun listed inv hall => by
    have hsz := inv.size
    simp only [List.size_toArray] at hsz
    refine Array.ext (by simp; omega) fun i h3 h4 => ?_
    rcases Nat.lt_or_ge i n with h5 | h5
    · have := hall i h5
      rw [Array.getElem_append_left (by simpa using h5)]
      simp [h3] at this ⊢
      exact this
    · have := inv.tail i h5 (by simp; omega)
      rw [Array.getElem_append_right (by simpa using h5)]
      simp [h3] at this ⊢
      exact this
  intro f
  induction f with
  | zero =>
    intro listed heads a w inv hz hsame h
    rcases least_open (listed := listed) (m := n) with hall | ⟨j, hj, k1, k2⟩
    · rw [Nat.zero_add, full listed inv hall]
      exact h.2
    · exfalso
      have hr : j ∈ Region.ready .any (l.take n).toArray heads := by
        refine mem_ready.2 ⟨?_, l[j]'(by omega), by simp [hj, Nat.lt_trans hj hn], fun e hee hbd => ?_⟩
        · exact getD_in (by omega) (by rw [hsame j hj]; exact k1)
        · have := he j _ hj (List.getElem?_eq_getElem (by omega)) e hee hbd
          rw [hsame e.on (by omega)]
          exact k2 e.on this
      rw [h.1] at hr
      cases hr
  | succ f ih =>
    intro listed heads a w inv hz hsame h
    rcases least_open (listed := listed) (m := n) with hall | ⟨j, hj, k1, k2⟩
    · have hr : Region.ready .any (l.take n).toArray heads = [] := by
        refine List.eq_nil_iff_forall_not_mem.2 fun i hi => ?_
        obtain ⟨g1, o, g2, _⟩ := mem_ready.1 hi
        have hin : i < n := by
          have := (Array.getElem?_eq_some_iff.1 g2).1
          simp at this
          omega
        have := hall i hin
        rw [← hsame i hin, getD_both g1] at this
        cases this
      refine any_more (f := 0 + (l.length - n)) (by omega) ?_
      rw [Nat.zero_add, full listed inv hall]
      exact h.1 hr
    · have hun : listed.getD j true = false := getD_in (by have := inv.size; simp at this; omega) k1
      have hjr : j ∈ Region.ready .any l.toArray listed :=
        mem_ready.2 ⟨hun, l[j]'(by omega), by simp [Nat.lt_trans hj hn], fun e hee hbd => k2 e.on (he j _ hj (List.getElem?_eq_getElem (by omega)) e hee hbd)⟩
      rw [show f + 1 + (l.length - n) = (f + (l.length - n)) + 1 by omega]
      refine ⟨fun h0 => (by rw [h0] at hjr; cases hjr), fun i hi => ?_⟩
      have hin : i < n := by
        rcases Nat.lt_or_ge i n with h' | h'
        · exact h'
        · have := split_waits h1 h2 h0 inv h' hi j hj
          rw [k1] at this
          cases this
      obtain ⟨g1, o, g2, g3⟩ := mem_ready.1 hi
      have hih : i ∈ Region.ready .any (l.take n).toArray heads := by
        refine mem_ready.2 ⟨?_, o, by rw [head_at hin]; exact g2, fun e hee hb => ?_⟩
        · exact getD_in (by omega) (by rw [hsame i hin]; exact getD_both g1)
        · have := he i o hin (by simpa using g2) e hee hb
          rw [hsame e.on (by omega)]
          exact g3 e hee hb
      refine head_op hin (fun o' ho' => hg i o' hin ho') (wpOp_atEnd (wpOp_mono (fun a' w' h' => ?_) (h.2 i hih)))
      refine ih _ _ a' w' (inv.set hi hin) (by simpa using hz) (fun k hk => ?_) h'
      by_cases hik : i = k
      · subst hik
        have e1 : i < heads.size := by omega
        have e2 : i < listed.size := by have := inv.size; simp at this; omega
        simp [e1, e2]
      · rw [getD_set_ne false hik, getD_set_ne false hik]
        exact hsame k hk
theorem wp_region_split {id : Nat} {a : Act} {W : World} (n : Nat) (ks : List Nat) (C : Nat → World → Prop) (hm : P.follows .mixedOrders = true)
    (hB : (splitB l n && Region.lexB .any (l.take n).toArray && chB .any (l.take n).toArray ks && decide ks.Nodup) = true) (hC : C 0 (W.drewN 1))
    (h : wpLexT2 P (l.take n).toArray ks C (fun s a' => ∀ w', C s w' → wpAny P .any l.toArray Q (l.length - n) (Array.replicate n true ++ Array.replicate (l.length - n) false) a' w') (l.take n) 0 0 a) : (Code.region id l.toArray true).wp P Q a W := by
  simp only [Bool.and_eq_true, decide_eq_true_eq] at hB
  obtain ⟨⟨⟨hs, hx⟩, h3⟩, h4⟩ := hB
  simp only [splitB, Bool.and_eq_true, decide_eq_true_eq] at hs
  obtain ⟨⟨⟨⟨⟨s0, hn⟩, s1⟩, s2⟩, hg⟩, he⟩ := hs
  simp only [Region.lexB, Bool.and_eq_true] at hx
  have h5 := wpAnyT_lex2 (md := .any) hx.1 h3 h4 (l.take n) 0 (Array.replicate (l.take n).toArray.size false) a 0 (by simp) (by simpa using hx.2)
    (fun j hj => by rw [getD_replicate_false] at hj; cases hj) (by simp) stg_zero h
  have h6 := wpAny_of_T2 (Q' := atEnd (wpAny P .any l.toArray Q (l.length - n) (Array.replicate n true ++ Array.replicate (l.length - n) false)) Q) h4 (fun s a w hw hq => hq w hw) _ _ _ (W.drewN 1) (by simp) (by rw [stg_zero]; exact hC) h5
  have htl : (l.take n).length = n := by simp; omega
  have inv0 : HeadInv .any l.toArray n (Array.replicate l.toArray.size false) :=
    ⟨by simp, fun j oj _ hl => (by rw [getD_replicate_false] at hl; cases hl), fun t _ ht => getD_in (by simpa using ht) (getD_replicate_false _ _)⟩
  refine wp_region_any hm ?_
  have := any_split (Q := Q) hn s0 (fun i hi => by
      obtain ⟨j, hj, hj2⟩ := List.any_eq_true.1 (List.all_eq_true.1 s1 i (List.mem_range.2 hi))
      simp only [Bool.and_eq_true, decide_eq_true_eq] at hj2
      exact ⟨j, hj2.1, List.mem_range.1 hj, hj2.2⟩) (fun t ht htl => by
      have h7 := List.all_eq_true.1 s2 (t - n) (List.mem_range.2 (by omega))
      rwa [show n + (t - n) = t by omega] at h7) (fun i o hi ho k b hgd => by
      have h7 := List.all_eq_true.1 hg o (List.mem_of_getElem? (i := i) (by rw [List.getElem?_take, if_pos hi]; exact ho))
      simp only [hgd, decide_eq_true_eq] at h7
      exact h7) (fun i o hi ho e hee hbd => by
      have h7 := List.all_eq_true.1 he i (List.mem_range.2 hi)
      simp only [ho] at h7
      have h8 := Array.all_eq_true'.1 h7 e hee
      simpa [hbd] using h8) _ (Array.replicate l.toArray.size false) _ a (W.drewN 1) inv0 (by simp; omega)
      (fun i hi => by rw [getD_replicate_false, getD_replicate_false]) h6
  rw [htl, show n + (l.length - n) = l.toArray.size by simp; omega] at this
  exact this
end

section
variable {P : Program} {ops : Array Oper} {Q : Exit → Act → World → Prop} {md : Region.Mode} {S : World → Prop}
theorem held_take {i d : Nat} {oi : Oper} {v : Value} {fuel : Nat} {listed : Array Bool} {a : Act} {w : World} (hi : ops[i]? = some oi) (hd : oi.dst = some d)
    (hs : Region.noSelect ops = true) (hf : Region.free md ops listed i = true) (hr : (Region.ready md ops listed).contains i = true)
    (hQ : ∀ c a w, Q (.panic c) (a.put (some d) v) w → Q (.panic c) a w) (hw : Region.wanted oi (yielded ops a.tmps) = true) (hy : ∀ w, S w → (execOp a.eval oi).run P w = .ok (.value v) w) (hS : S w)
    (h : wpAnyH P md ops Q S fuel (listed.setIfInBounds i true) (a.put (some d) v) w) : wpAnyH P md ops Q S (fuel + 1) listed a w :=
  wpAnyH_take hi hs hf hr (by rw [hd]; exact hQ) (.inl ⟨hw, hy⟩) hS (by rw [hd]; exact h)
theorem held_call {i d : Nat} {o : Oper} {f : FuncId} {args : Array Value} {v : Value} {fn : Func} {xs : Array Operand} {ts : Array TypeId} {K : Act → World → Prop} {a : Act} {w : World} {R : World → Prop}
    (hi : ops[i]? = some o) (hd : o.dst = some d) (hw : Region.wanted o (yielded ops a.tmps) = true) (ho : o.op = .call { callee := .value (.func f), args := xs, argTypes := ts }) (hx : xs.map a.eval = args)
    (hf : P.funcs[f]? = some fn) (hb : (fn.body.isNone || (fn.name == "runtime.NumGoroutine")) = false) (hc : Calls P f args w fun e w' => e = .returned v ∧ R w') (hK : ∀ w', R w' → K (a.put (some d) v) w') : wpOp P ops Q i K a w := by
  rw [← hd] at hK
  unfold wpOp
  simp only [hi]
  rw [if_pos hw]
  refine .inl ?_
  unfold Oper.wp
  rw [enter_is ho hx hf hb w]
  simp only [Oper.upon]
  exact hc.mono fun e w'' ⟨he, hR⟩ => by
    subst he
    exact hK w'' hR
theorem held_make {i d : Nat} {o : Oper} {v : Value} {K : Act → World → Prop} {a : Act} {w w' : World} (hi : ops[i]? = some o) (hd : o.dst = some d) (hw : Region.wanted o (yielded ops a.tmps) = true)
    (hr : (execOp a.eval o).run P w = .ok (.value v) w') (hK : K (a.put (some d) v) w') : wpOp P ops Q i K a w := by
  rw [← hd] at hK
  unfold wpOp
  simp only [hi]
  rw [if_pos hw]
  refine .inl ?_
  unfold Oper.wp
  rw [hr]
  simp only [Oper.upon]
  exact hK
theorem held_one {i fuel : Nat} {listed : Array Bool} {a : Act} {w : World} (hr : Region.ready md ops listed = [i])
    (h : wpOp P ops Q i (fun a' w' => S w' ∧ wpAnyH P md ops Q S fuel (listed.setIfInBounds i true) a' w') a w) : wpAnyH P md ops Q S (fuel + 1) listed a w :=
  wpAnyH_all hr (by simp) (fun j hj => by
    obtain rfl := List.mem_singleton.1 hj
    exact h)
theorem held_two {i j fuel : Nat} {listed : Array Bool} {a : Act} {w : World} (hr : Region.ready md ops listed = [i, j])
    (h : wpOp P ops Q i (fun a' w' => S w' ∧ wpAnyH P md ops Q S fuel (listed.setIfInBounds i true) a' w') a w)
    (h' : wpOp P ops Q j (fun a' w' => S w' ∧ wpAnyH P md ops Q S fuel (listed.setIfInBounds j true) a' w') a w) : wpAnyH P md ops Q S (fuel + 1) listed a w :=
  wpAnyH_all hr (by simp) (fun k hk => by
    rcases List.mem_cons.1 hk with rfl | hk
    · exact h
    · obtain rfl := List.mem_singleton.1 hk
      exact h')
theorem run_move_is {ρ : Operand → Value} {o : Oper} {v : Value} (x : Operand) (h : o.op = .move x) (hx : ρ x = v) (w : World) : (execOp ρ o).run P w = .ok (.value v) w := by
  subst hx
  exact BigFrame.run_move x h w
theorem run_pick_no {ρ : Operand → Value} {o : Oper} {v : Value} (c x y : Operand) (h : o.op = .pick c x y) (hc : ρ c = .bool false) (hy : ρ y = v) (w : World) : (execOp ρ o).run P w = .ok (.value v) w := by
  subst hy
  unfold execOp
  simp only [h, hc]
  rfl
theorem run_load_two {ρ : Operand → Value} {o : Oper} {b : Nat} {x y : Int} (T : TypeId) (c : Operand) (h : o.op = .load T c) (hc : ρ c = .pointer (some ⟨b, 0, none⟩)) (hT : T = 31) (hP : P = Try.prog) (w : World) (h0 : w.cell? ⟨b, 0, none⟩ = some (.int .i64 x)) (h1 : w.cell? ⟨b, 1, none⟩ = some (.int .i64 y)) :
    (execOp ρ o).run P w = .ok (.value (.agg #[.int .i64 x, .int .i64 y])) w := by
  subst hT hP
  unfold execOp
  simp only [h, hc]
  go_simp
theorem run_two {ρ : Operand → Value} {o : Oper} (h : o.op = .buildSlice 40 2 #[(0, .const (.int .u8 1)), (1, .const (.int .u8 2))]) (hP : P = Try.prog) (hρ : ∀ v, ρ (.const v) = v) (w : World) :
    (execOp ρ o).run P w = .ok (.value (.slice (some ⟨w.heap.size, 0, none⟩) 2 2)) (w.alloc (.cells #[.int .u8 1, .int .u8 2] 5)) := by
  subst hP
  unfold execOp
  simp only [h]
  have e1 := hρ (.int .u8 1)
  have e2 := hρ (.int .u8 2)
  go_simp
end
end Go.Proofs.Ytfchccgajcjbbaa
