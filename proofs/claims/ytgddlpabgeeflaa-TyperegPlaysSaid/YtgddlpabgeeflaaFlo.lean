/-
  A region that draws its order, whose first n operations read or call and change nothing that was there, whose operation n makes a block that only what comes behind looks at, and whose rest comes behind them all in one order: one walk, in the order of the text. No conditions beyond those that each lemma states.
-/
import Derived.Test.YtgddlpabgeeflaaLater
namespace Go.Proofs.Ytgddlpabgeeflaa
open Go.RowKit
set_option linter.unusedVariables false

/-- A frame that can go on nowhere. -/
def stuckFr : Frame := { fn := 0, tmps := #[], todo := [.code (.cond (.const (.int .i64 0)) .skip .skip)], defers := [], mode := .run, kind := .normal }
theorem stuck_step {P : Program} {v : Value} {w : World} : ∃ o w', step P (lone (stuckFr.finish v) [] w) = .ended o w' := by
  exact ⟨.stuck "cond: bool expected" (stuckFr.pos P), w, step_lone_ended (by simp [stuckFr, Frame.finish, stepG, stepG.exec, Frame.eval, GStep.bare])⟩

section
variable {P : Program}
theorem val_le {f : FuncId} {args : Array Value} {w w1 w2 : World} {v v' : Value} {fr1 fr2 : Frame} {n k : Nat} (h1 : runN P n (lone (Frame.enter P f args .normal) [stuckFr] w) = .next (lone fr1 [stuckFr] w1))
    (h2 : runN P (n + k) (lone (Frame.enter P f args .normal) [stuckFr] w) = .next (lone fr2 [stuckFr] w2)) (l1 : fr1.leaving P w1 (.returned v)) (l2 : fr2.leaving P w2 (.returned v')) : v = v' := by
  rw [runN_add, h1] at h2
  cases k with
  | zero =>
    simp only [runN, Stepped.next.injEq] at h2
    have e1 : fr1 = fr2 ∧ w1 = w2 := by
      simp only [lone, Machine.mk.injEq] at h2
      simp at h2
      exact ⟨h2.2, h2.1⟩
    obtain ⟨rfl, rfl⟩ := e1
    obtain ⟨_, _, _, fn, a1, a2⟩ := l1
    obtain ⟨_, _, _, fn', b1, b2⟩ := l2
    rw [a1] at b1
    cases b1
    rw [a2] at b2
    cases b2
    rfl
  | succ k =>
    simp only [runN, step_leave_returned l1] at h2
    cases k with
    | zero =>
      simp only [runN, Stepped.next.injEq] at h2
      simp [lone] at h2
    | succ k =>
      obtain ⟨o, w', hs⟩ := stuck_step (P := P) (v := v) (w := w1)
      simp only [runN, hs] at h2
      cases h2
/-- Two contracts of one call name one value. -/
theorem Calls.val {f : FuncId} {args : Array Value} {w : World} {v v' : Value} {R R' : World → Prop} (h : Calls P f args w fun e w' => e = .returned v ∧ R w') (h' : Calls P f args w fun e w' => e = .returned v' ∧ R' w') : v = v' := by
  obtain ⟨e1, w1, fr1, ⟨rfl, _⟩, ⟨n1, c1⟩, _, l1⟩ := h [stuckFr]
  obtain ⟨e2, w2, fr2, ⟨rfl, _⟩, ⟨n2, c2⟩, _, l2⟩ := h' [stuckFr]
  rcases Nat.le_total n1 n2 with hn | hn
  · obtain ⟨k, rfl⟩ := Nat.exists_eq_add_of_le hn
    exact val_le c1 c2 l1 l2
  · obtain ⟨k, rfl⟩ := Nat.exists_eq_add_of_le hn
    exact (val_le c2 c1 l2 l1).symm
theorem quiet_val {o : Oper} {a : Act} {C C' : World → Prop} {w : World} {v v' : Value} (h : o.quietAt P a C w v) (h' : o.quietAt P a C' w v') : v = v' := by
  unfold Oper.quietAt at h h'
  generalize (execOp a.eval o).run P w = r at *
  cases r with
  | ok n w' =>
    cases n <;> simp only [Oper.quietUpon] at h h'
    case value u => exact h.2.symm.trans h'.2
    case skip => exact h.2.trans h'.2.symm
    case enter f args =>
      obtain ⟨rfl, h⟩ := h
      exact Calls.val h h'.2
  | halt x w' => simp only [Oper.quietUpon] at h
theorem quiet_more {o : Oper} {a : Act} {C C' : World → Prop} {w : World} {v : Value} (hC : ∀ x, C x → C' x) (h : o.quietAt P a C w v) : o.quietAt P a C' w v := by
  unfold Oper.quietAt at *
  generalize (execOp a.eval o).run P w = r at *
  cases r with
  | ok n w' =>
    cases n <;> simp only [Oper.quietUpon] at h ⊢
    case value u => exact h
    case skip => exact h
    case enter f args => exact ⟨h.1, h.2.mono fun e w'' ⟨he, hw⟩ => ⟨he, hC _ hw⟩⟩
  | halt x w' => simp only [Oper.quietUpon] at h

/-- What holds of a world and of all that come behind it. -/
def Stable (K : World → Prop) : Prop := ∀ w w', K w → Below w.heap.size w w' → K w'
def LaterK (W : World) (K : World → Prop) : Type := { w' : World // Below W.heap.size W w' ∧ K w' }
def LaterK.m {W : World} {K : World → Prop} (q : LaterK W K) : Later W := ⟨q.val, q.2.1⟩
def CK (W : World) (K : World → Prop) (w' : World) : Prop := ∃ m : LaterK W K, w' = m.val
theorem CK.mk {W w : World} {K : World → Prop} (h : Below W.heap.size W w) (hk : K w) : CK W K w := ⟨⟨w, h, hk⟩, rfl⟩
theorem CK.out {W w : World} {K : World → Prop} (h : CK W K w) : Below W.heap.size W w ∧ K w := by
  obtain ⟨m, rfl⟩ := h
  exact m.2
theorem stable_from (w : World) : Stable fun x => Below w.heap.size w x := fun x y h h' => Below.then h h' (Nat.le_refl _)
theorem stable_true : Stable fun _ => True := fun _ _ _ _ => trivial
theorem Calls.laterK {f : FuncId} {args : Array Value} {W : World} {K : World → Prop} {m : LaterK W K} {v : Value} (hK : Stable K)
    (h : Calls P f args m.val fun e w' => e = .returned v ∧ Below m.val.heap.size m.val w') : Calls P f args m.val fun e w'' => e = .returned v ∧ ∃ m' : LaterK W K, w'' = m'.val :=
  h.mono fun _ w' ⟨he, hb⟩ => ⟨he, ⟨w', Below.then m.2.1 hb (Nat.le_refl _), hK _ _ m.2.2 hb⟩, rfl⟩

variable {l : List Oper} {Q : Exit → Act → World → Prop} {Lq : Act → Prop} {n : Nat} {W : World}
def InvK (P : Program) (l : List Oper) (n : Nat) (W : World) (Lq : Act → Prop) (f : Nat) (heads : Array Bool) (a : Act) : Prop :=
  ∀ K, Stable K → (∃ w, CK W K w) → wpAnyQ P .any (l.take n).toArray (CK W K) Lq f heads a
theorem invK_here : ∃ w, CK W (fun _ => True) w := ⟨W, CK.mk (Below.refl _ _) trivial⟩
theorem InvK.step {f : Nat} {heads : Array Bool} {a : Act} (h : InvK P l n W Lq (f + 1) heads a) {i : Nat} (hi : i ∈ Region.ready .any (l.take n).toArray heads) {o : Oper} (ho : (l.take n).toArray[i]? = some o) :
    ∃ v, ((Region.wanted o (yielded (l.take n).toArray a.tmps) = true ∧ ∀ w, Below W.heap.size W w → o.quietAt P a (fun x => Below w.heap.size w x) w v) ∨ (Region.wanted o (yielded (l.take n).toArray a.tmps) = false ∧ v = undef)) ∧
      InvK P l n W Lq f (heads.setIfInBounds i true) (a.put o.dst v) := by
  obtain ⟨v, hy, _⟩ := yieldsIn_of_qOp ho ((h _ stable_true invK_here).2 i hi)
  have same : ∀ K, Stable K → (∃ w, CK W K w) → YieldsIn P (l.take n).toArray (CK W K) o v a ∧ wpAnyQ P .any (l.take n).toArray (CK W K) Lq f (heads.setIfInBounds i true) (a.put o.dst v) := by
    intro K hK hw
    obtain ⟨v', hy', hn⟩ := yieldsIn_of_qOp ho ((h K hK hw).2 i hi)
    have hv : v' = v := by
      rcases hy with ⟨h1, h2⟩ | ⟨h1, h2⟩
      · rcases hy' with ⟨h3, h4⟩ | ⟨h3, h4⟩
        · obtain ⟨w, hw⟩ := hw
          exact quiet_val (h4 w hw) (h2 w (CK.mk hw.out.1 trivial))
        · rw [h1] at h3; cases h3
      · rcases hy' with ⟨h3, h4⟩ | ⟨h3, h4⟩
        · rw [h1] at h3; cases h3
        · rw [h2, h4]
    subst hv
    exact ⟨hy', hn⟩
  refine ⟨v, ?_, fun K hK hw => (same K hK hw).2⟩
  rcases hy with ⟨h1, h2⟩ | hy
  · refine .inl ⟨h1, fun w hw => ?_⟩
    rcases (same _ (stable_from w) ⟨w, CK.mk hw (Below.refl _ _)⟩).1 with ⟨_, h4⟩ | ⟨h3, _⟩
    · exact quiet_more (fun x hx => hx.out.2) (h4 w (CK.mk hw (Below.refl _ _)))
    · rw [h1] at h3; cases h3
  · exact .inr hy
theorem wanted_head {o : Oper} {tm : Array Value} (hg : ∀ k b, o.guard = some (k, b) → k < n) : Region.wanted o (yielded (l.take n).toArray tm) = Region.wanted o (yielded l.toArray tm) := by
  unfold Region.wanted
  cases hgd : o.guard with
  | none => rfl
  | some kb =>
    obtain ⟨k, b⟩ := kb
    have hk := hg k b hgd
    simp only [yielded, head_at hk]
/-- One of the first n comes up; u is what the block's slot holds by then (or nothing, s being none). -/
theorem InvK.op {f : Nat} {heads : Array Bool} {a : Act} {w : World} {dst : Option Tmp} {u : Value} {K : Act → World → Prop} (h : InvK P l n W Lq (f + 1) heads a) {i : Nat} (hin : i < n) (hi : i ∈ Region.ready .any (l.take n).toArray heads) {o : Oper} (ho : l[i]? = some o)
    (hg : ∀ k b, o.guard = some (k, b) → k < n) (hsel : ∀ cs b, o.op ≠ .select cs b) (h1 : ∀ d, dst = some d → d ∉ o.looksAt l.toArray) (h2 : ∀ d, dst = some d → o.dst ≠ some d) (hw : Below W.heap.size W w)
    (hK : ∀ v w', Below w.heap.size w w' → InvK P l n W Lq f (heads.setIfInBounds i true) (a.put o.dst v) → K ((a.put o.dst v).put dst u) w') :
    wpOp P l.toArray Q i K (a.put dst u) w := by
  obtain ⟨v, hy, hn⟩ := h.step hi (by rw [head_at hin]; simpa using ho)
  have e1 : (a.put dst u).put o.dst v = (a.put o.dst v).put dst u := Act.put_comm a u v h2
  unfold wpOp
  have ho' : l.toArray[i]? = some o := by simpa using ho
  simp only [ho']
  rw [wanted_put o a dst u h1, ← wanted_head hg]
  rcases hy with ⟨hw1, hq⟩ | ⟨hw1, rfl⟩
  · rw [if_pos hw1]
    refine .inl ?_
    have hq := hq w hw
    unfold Oper.quietAt at hq
    unfold Oper.wp
    rw [execOp_put o hsel a dst u h1]
    generalize (execOp a.eval o).run P w = r at *
    cases r with
    | ok nx w' =>
      cases nx <;> simp only [Oper.quietUpon] at hq <;> simp only [Oper.upon]
      case value x =>
        obtain ⟨rfl, rfl⟩ := hq
        rw [e1]
        exact hK _ _ (Below.refl _ _) hn
      case skip =>
        obtain ⟨rfl, rfl⟩ := hq
        rw [e1]
        exact hK _ _ (Below.refl _ _) hn
      case enter fn args =>
        obtain ⟨rfl, hc⟩ := hq
        exact hc.mono fun e w'' ⟨he, hw''⟩ => by
          subst he
          simp only
          rw [e1]
          exact hK _ _ hw'' hn
    | halt x w' => simp only [Oper.quietUpon] at hq
  · rw [if_neg (by rw [hw1]; exact Bool.false_ne_true), e1]
    exact hK _ _ (Below.refl _ _) hn

/-- What a program can check of such a region: s is the block's slot. -/
def boxB (l : List Oper) (n : Nat) (s : Tmp) : Bool :=
  decide (n + 1 < l.length) && Region.lexB .any (l.take n).toArray && Region.sinkB .any l.toArray (n + 1) && Region.chainB .any l.toArray (n + 1)
    && Region.seqB .any l.toArray (l.length - (n + 1)) (n + 1) (Array.replicate (n + 1) true ++ Array.replicate (l.length - (n + 1)) false)
    && (l.take n).all (fun o => match o.guard with
      | some (k, _) => decide (k < n)
      | none => true)
    && ((List.range n).all fun i => match l[i]? with
      | some o => o.after.all fun e => !Region.binds .any e || decide (e.on < i)
      | none => true)
    && (l.take n).all (fun o => !(o.looksAt l.toArray).contains s && o.dst != some s)
    && (match l[n]? with
      | some o => (o.after.all fun e => !Region.binds .any e) && o.guard.isNone && o.dst == some s
      | none => false)
structure BoxH (l : List Oper) (n : Nat) (s : Tmp) (al : Oper) : Prop where
  hn : n + 1 < l.length
  hs : Region.sinkB .any l.toArray (n + 1) = true
  hc : Region.chainB .any l.toArray (n + 1) = true
  hq : Region.seqB .any l.toArray (l.length - (n + 1)) (n + 1) (Array.replicate (n + 1) true ++ Array.replicate (l.length - (n + 1)) false) = true
  hg : ∀ i o, i < n → l[i]? = some o → ∀ k b, o.guard = some (k, b) → k < n
  he : ∀ i o, i < n → l[i]? = some o → ∀ e ∈ o.after, Region.binds .any e = true → e.on < i
  hsel : ∀ i o, i < n → l[i]? = some o → ∀ cs b, o.op ≠ .select cs b
  h1 : ∀ i o, i < n → l[i]? = some o → s ∉ o.looksAt l.toArray
  h2 : ∀ i o, i < n → l[i]? = some o → o.dst ≠ some s
  ha : l[n]? = some al
  hae : ∀ e ∈ al.after, Region.binds .any e = false
  hag : al.guard = none
  had : al.dst = some s

theorem all_listed {listed : Array Bool} {m : Nat} (hsz : listed.size = l.length) (hm : m ≤ l.length) (hall : ∀ j, j < m → listed.getD j false = true) (ht : ∀ t, m ≤ t → t < l.length → listed.getD t true = false) :
    listed = Array.replicate m true ++ Array.replicate (l.length - m) false := by
  refine Array.ext (by simp; omega) fun i h3 h4 => ?_
  rcases Nat.lt_or_ge i m with h5 | h5
  · have := hall i h5
    rw [Array.getElem_append_left (by simpa using h5)]
    simp [h3] at this ⊢
    exact this
  · have := ht i h5 (by omega)
    rw [Array.getElem_append_right (by simpa using h5)]
    simp [h3] at this ⊢
    exact this

section
variable {s : Tmp} {al : Oper} {cs : Array Value} {t : TypeId}
theorem head_ready {listed heads : Array Bool} {i : Nat} (hn : n < l.length) (hin : i < n) (hz : heads.size = n) (hsame : ∀ i, i < n → heads.getD i false = listed.getD i false)
    (he : ∀ i o, i < n → l[i]? = some o → ∀ e ∈ o.after, Region.binds .any e = true → e.on < i) (hi : i ∈ Region.ready .any l.toArray listed) : i ∈ Region.ready .any (l.take n).toArray heads := by
  obtain ⟨g1, o, g2, g3⟩ := mem_ready.1 hi
  refine mem_ready.2 ⟨?_, o, by rw [head_at hin]; exact g2, fun e hee hb => ?_⟩
  · exact getD_in (by omega) (by rw [hsame i hin]; exact getD_both g1)
  · have := he i o hin (by simpa using g2) e hee hb
    rw [hsame e.on (by omega)]
    exact g3 e hee hb
theorem set_same {listed heads : Array Bool} {i : Nat} (hz : heads.size = n) (hl : n ≤ listed.size) (hin : i < n) (hsame : ∀ i, i < n → heads.getD i false = listed.getD i false) :
    ∀ k, k < n → (heads.setIfInBounds i true).getD k false = (listed.setIfInBounds i true).getD k false := by
  intro k hk
  by_cases hik : i = k
  · subst hik
    have e1 : i < heads.size := by omega
    have e2 : i < listed.size := by omega
    simp [e1, e2]
  · rw [getD_set_ne false hik, getD_set_ne false hik]
    exact hsame k hk
theorem set_here {listed : Array Bool} {i : Nat} (h : i < listed.size) : (listed.setIfInBounds i true).getD i false = true := by simp [h]
theorem none_ready {heads : Array Bool} (hn : n < l.length) (hz : heads.size = n) (hall : ∀ j, j < n → heads.getD j false = true) : Region.ready .any (l.take n).toArray heads = [] := by
  refine List.eq_nil_iff_forall_not_mem.2 fun i hi => ?_
  obtain ⟨g1, o, g2, _⟩ := mem_ready.1 hi
  have hin : i < n := by
    have := (Array.getElem?_eq_some_iff.1 g2).1
    simp at this
    omega
  have := hall i hin
  rw [getD_both g1] at this
  cases this
theorem box_made (H : BoxH l n s al) (hL : ∀ a w b, Lq a → Below W.heap.size W w → W.heap.size ≤ b → w.heap[b]? = some (.cells cs t (0, 0)) → wpList P l.toArray Q (l.drop (n + 1)) (a.put (some s) (.pointer (some ⟨b, 0, none⟩))) w) :
    ∀ (f : Nat) (listed heads : Array Bool) (a : Act) (w : World) (b : Nat), HeadInv .any l.toArray (n + 1) listed → heads.size = n → (∀ i, i < n → heads.getD i false = listed.getD i false) → listed.getD n false = true →
      Below W.heap.size W w → W.heap.size ≤ b → w.heap[b]? = some (.cells cs t (0, 0)) → InvK P l n W Lq f heads a →
      wpAny P .any l.toArray Q (f + (l.length - (n + 1))) listed (a.put (some s) (.pointer (some ⟨b, 0, none⟩))) w := by
  have hn := H.hn
  intro f
  induction f with
  | zero =>
    intro listed heads a w b inv hz hsame hal hw hb hc h
    have h0 := h _ stable_true invK_here
    have hsz := inv.size
    simp only [List.size_toArray] at hsz
    rcases least_open (listed := listed) (m := n) with hall | ⟨j, hj, h1, h2⟩
    · have hlist := all_listed hsz (by omega) (m := n + 1) (fun j hj => by
        by_cases hjn : j = n
        · rw [hjn]; exact hal
        · exact hall j (by omega)) (fun t ht ht' => inv.tail t ht (by simpa using ht'))
      have := wpAny_of_seq (md := .any) (Q' := Q) (l.drop (n + 1)) (n + 1) listed _ w (fun j => by simp [List.getElem?_drop]) (by rw [List.length_drop, hlist]; exact H.hq) (hL a w b h0.2 hw hb hc)
      rw [List.length_drop] at this
      rw [Nat.zero_add]
      exact this
    · exfalso
      have hr : j ∈ Region.ready .any (l.take n).toArray heads := by
        refine mem_ready.2 ⟨?_, l[j]'(by omega), by simp [hj, Nat.lt_trans hj (by omega : n < l.length)], fun e hee hbd => ?_⟩
        · exact getD_in (by omega) (by rw [hsame j hj]; exact h1)
        · have := H.he j _ hj (List.getElem?_eq_getElem (by omega)) e hee hbd
          rw [hsame e.on (by omega)]
          exact h2 e.on this
      rw [h0.1] at hr
      cases hr
  | succ f ih =>
    intro listed heads a w b inv hz hsame hal hw hb hc h
    have h0 := h _ stable_true invK_here
    have hsz := inv.size
    simp only [List.size_toArray] at hsz
    rcases least_open (listed := listed) (m := n) with hall | ⟨j, hj, h1, h2⟩
    · have hr := none_ready (l := l) (by omega) hz (fun j hj => by rw [hsame j hj]; exact hall j hj)
      have hlist := all_listed hsz (by omega) (m := n + 1) (fun j hj => by
        by_cases hjn : j = n
        · rw [hjn]; exact hal
        · exact hall j (by omega)) (fun t ht ht' => inv.tail t ht (by simpa using ht'))
      refine any_more (f := 0 + (l.length - (n + 1))) (by omega) ?_
      have := wpAny_of_seq (md := .any) (Q' := Q) (l.drop (n + 1)) (n + 1) listed _ w (fun j => by simp [List.getElem?_drop]) (by rw [List.length_drop, hlist]; exact H.hq) (hL a w b (h0.1 hr) hw hb hc)
      rw [List.length_drop] at this
      rw [Nat.zero_add]
      exact this
    · have hun : listed.getD j true = false := getD_in (by omega) h1
      have hjr : j ∈ Region.ready .any l.toArray listed :=
        mem_ready.2 ⟨hun, l[j]'(by omega), by simp [Nat.lt_trans hj (by omega : n < l.length)], fun e hee hbd => h2 e.on (H.he j _ hj (List.getElem?_eq_getElem (by omega)) e hee hbd)⟩
      rw [show f + 1 + (l.length - (n + 1)) = (f + (l.length - (n + 1))) + 1 by omega]
      refine ⟨fun h0 => (by rw [h0] at hjr; cases hjr), fun i hi => ?_⟩
      have hin1 : i < n + 1 := by
        rcases Nat.lt_or_ge i (n + 1) with h' | h'
        · exact h'
        · exact absurd hi (tail_waits H.hs H.hc (by simpa using hn) inv _ j rfl (by omega) hun i h')
      obtain ⟨g1, o, g2, g3⟩ := mem_ready.1 hi
      have hin : i < n := by
        rcases Nat.lt_or_ge i n with h' | h'
        · exact h'
        · exfalso
          rw [show i = n by omega] at g1
          rw [getD_both g1] at hal
          cases hal
      have ho : l[i]? = some o := by simpa using g2
      refine h.op hin (head_ready (by omega) hin hz hsame H.he hi) ho (H.hg i o hin ho) (H.hsel i o hin ho) (fun d hd => by cases hd; exact H.h1 i o hin ho) (fun d hd => by cases hd; exact H.h2 i o hin ho) hw (fun v w' hb' hn' => ?_)
      refine ih _ _ _ w' b (inv.set hi hin1) (by simpa using hz) (set_same hz (by omega) hin hsame) (by rw [getD_set_ne false (by omega)]; exact hal) (Below.then hw hb' (Nat.le_refl _)) hb ?_ hn'
      exact (hb'.block b (Array.getElem?_eq_some_iff.1 hc).1).trans hc
theorem box_any (H : BoxH l n s al) (hrun : ∀ e w, (execOp e al).run P w = .ok (.value (.pointer (some ⟨w.heap.size, 0, none⟩))) (w.alloc (.cells cs t)))
    (hL : ∀ a w b, Lq a → Below W.heap.size W w → W.heap.size ≤ b → w.heap[b]? = some (.cells cs t (0, 0)) → wpList P l.toArray Q (l.drop (n + 1)) (a.put (some s) (.pointer (some ⟨b, 0, none⟩))) w) :
    ∀ (f : Nat) (listed heads : Array Bool) (a : Act) (w : World), HeadInv .any l.toArray (n + 1) listed → heads.size = n → (∀ i, i < n → heads.getD i false = listed.getD i false) → listed.getD n false = false →
      Below W.heap.size W w → InvK P l n W Lq f heads a → wpAny P .any l.toArray Q (f + 1 + (l.length - (n + 1))) listed a w := by
  have hn := H.hn
  intro f
  induction f with
  | zero =>
    intro listed heads a w inv hz hsame hal hw h
    have h0 := h _ stable_true invK_here
    have hsz := inv.size
    simp only [List.size_toArray] at hsz
    have hun : listed.getD n true = false := getD_in (by omega) hal
    have hnr : n ∈ Region.ready .any l.toArray listed := mem_ready.2 ⟨hun, al, by simpa using H.ha, fun e hee hbd => by rw [H.hae e hee] at hbd; cases hbd⟩
    rw [show 0 + 1 + (l.length - (n + 1)) = (0 + (l.length - (n + 1))) + 1 by omega]
    refine ⟨fun h0 => (by rw [h0] at hnr; cases hnr), fun i hi => ?_⟩
    have hin1 : i < n + 1 := by
      rcases Nat.lt_or_ge i (n + 1) with h' | h'
      · exact h'
      · exact absurd hi (tail_waits H.hs H.hc (by simpa using hn) inv _ n rfl (by omega) hun i h')
    by_cases hin : i < n
    · exfalso
      have := head_ready (by omega) hin hz hsame H.he hi
      rw [h0.1] at this
      cases this
    · obtain rfl : i = n := by omega
      have ho' : l.toArray[i]? = some al := by simpa using H.ha
      unfold wpOp
      simp only [ho']
      rw [if_pos (by simp [Region.wanted, H.hag])]
      refine .inl ?_
      unfold Oper.wp
      rw [hrun]
      simp only [Oper.upon, H.had]
      exact box_made H hL 0 _ heads a _ w.heap.size (inv.set hi hin1) hz (fun k hk => by rw [getD_set_ne false (by omega)]; exact hsame k hk) (set_here (by omega))
        (hw.alloc hw.size _) hw.size (heap_alloc_new w _) h
  | succ f ih =>
    intro listed heads a w inv hz hsame hal hw h
    have h0 := h _ stable_true invK_here
    have hsz := inv.size
    simp only [List.size_toArray] at hsz
    have hun : listed.getD n true = false := getD_in (by omega) hal
    have hnr : n ∈ Region.ready .any l.toArray listed := mem_ready.2 ⟨hun, al, by simpa using H.ha, fun e hee hbd => by rw [H.hae e hee] at hbd; cases hbd⟩
    rw [show f + 1 + 1 + (l.length - (n + 1)) = (f + 1 + (l.length - (n + 1))) + 1 by omega]
    refine ⟨fun h0 => (by rw [h0] at hnr; cases hnr), fun i hi => ?_⟩
    have hin1 : i < n + 1 := by
      rcases Nat.lt_or_ge i (n + 1) with h' | h'
      · exact h'
      · exact absurd hi (tail_waits H.hs H.hc (by simpa using hn) inv _ n rfl (by omega) hun i h')
    by_cases hin : i < n
    · obtain ⟨g1, o, g2, g3⟩ := mem_ready.1 hi
      have ho : l[i]? = some o := by simpa using g2
      have := h.op (dst := none) (u := undef) (Q := Q) (K := wpAny P .any l.toArray Q (f + 1 + (l.length - (n + 1))) (listed.setIfInBounds i true)) hin (head_ready (by omega) hin hz hsame H.he hi) ho (H.hg i o hin ho) (H.hsel i o hin ho) (fun d hd => by cases hd) (fun d hd => by cases hd) hw (fun v w' hb' hn' =>
        ih _ _ _ w' (inv.set hi hin1) (by simpa using hz) (set_same hz (by omega) hin hsame) (by rw [getD_set_ne false (by omega)]; exact hal) (Below.then hw hb' (Nat.le_refl _)) hn')
      exact this
    · obtain rfl : i = n := by omega
      have ho' : l.toArray[i]? = some al := by simpa using H.ha
      unfold wpOp
      simp only [ho']
      rw [if_pos (by simp [Region.wanted, H.hag])]
      refine .inl ?_
      unfold Oper.wp
      rw [hrun]
      simp only [Oper.upon, H.had]
      exact box_made H hL (f + 1) _ heads a _ w.heap.size (inv.set hi hin1) hz (fun k hk => by rw [getD_set_ne false (by omega)]; exact hsame k hk) (set_here (by omega))
        (hw.alloc hw.size _) hw.size (heap_alloc_new w _) h
theorem wp_region_box {id : Nat} {a : Act} (n : Nat) (s : Tmp) (al : Oper) (cs : Array Value) (t : TypeId) (hm : P.follows .mixedOrders = true) (hB : boxB l n s = true) (ha : l[n]? = some al)
    (hrun : ∀ e w, (execOp e al).run P w = .ok (.value (.pointer (some ⟨w.heap.size, 0, none⟩))) (w.alloc (.cells cs t)))
    (h : ∀ K, Stable K → Nonempty (LaterK W K) → wpQuiet P (l.take n).toArray (fun w' => ∃ m : LaterK W K, w' = m.val) (fun a' => ∀ w' b, Below W.heap.size W w' → W.heap.size ≤ b → w'.heap[b]? = some (.cells cs t (0, 0)) → wpList P l.toArray Q (l.drop (n + 1)) (a'.put (some s) (.pointer (some ⟨b, 0, none⟩))) w') (l.take n) a) :
    (Code.region id l.toArray true).wp P Q a W := by
  simp only [boxB, Bool.and_eq_true, decide_eq_true_eq] at hB
  obtain ⟨⟨⟨⟨⟨⟨⟨⟨hn, hx⟩, hs⟩, hc⟩, hq⟩, hg⟩, he⟩, hap⟩, hal⟩ := hB
  simp only [Region.lexB, Bool.and_eq_true] at hx
  simp only [ha, Bool.and_eq_true] at hal
  have hin : ∀ i o, i < n → l[i]? = some o → o ∈ l.take n := fun i o hi ho => List.mem_of_getElem? (i := i) (by rw [List.getElem?_take, if_pos hi]; exact ho)
  have H : BoxH l n s al := ⟨hn, hs, hc, hq, fun i o hi ho k b hgd => by
      have h1 := List.all_eq_true.1 hg o (hin i o hi ho)
      simp only [hgd, decide_eq_true_eq] at h1
      exact h1, fun i o hi ho e hee hbd => by
      have h1 := List.all_eq_true.1 he i (List.mem_range.2 hi)
      simp only [ho] at h1
      have h2 := Array.all_eq_true'.1 h1 e hee
      simpa [hbd] using h2, fun i o hi ho cs b => Region.noSelect_spec hx.1 i o cs b (by rw [head_at hi]; simpa using ho), fun i o hi ho => by
      have h1 := List.all_eq_true.1 hap o (hin i o hi ho)
      simp at h1
      exact h1.1, fun i o hi ho => by
      have h1 := List.all_eq_true.1 hap o (hin i o hi ho)
      simp at h1
      exact h1.2, ha, fun e hee => by
      have h2 := Array.all_eq_true'.1 hal.1.1 e hee
      simpa using h2, by simpa using hal.1.2, by simpa using hal.2⟩
  have HI : InvK P l n W (fun a' => ∀ w' b, Below W.heap.size W w' → W.heap.size ≤ b → w'.heap[b]? = some (.cells cs t (0, 0)) → wpList P l.toArray Q (l.drop (n + 1)) (a'.put (some s) (.pointer (some ⟨b, 0, none⟩))) w') (l.take n).length (Array.replicate (l.take n).toArray.size false) a := fun K hK hw =>
    wpAnyQ_lex (C := CK W K) (md := .any) hx.1 (l.take n) 0 (Array.replicate (l.take n).toArray.size false) a (by simp) (by simpa using hx.2) (h K hK (by obtain ⟨w, m, _⟩ := hw; exact ⟨m⟩))
  have htl : (l.take n).length = n := by simp; omega
  have inv0 : HeadInv .any l.toArray (n + 1) (Array.replicate l.toArray.size false) :=
    ⟨by simp, fun j oj _ hl => (by rw [getD_replicate_false] at hl; cases hl), fun t _ ht => getD_in (by simpa using ht) (getD_replicate_false _ _)⟩
  refine wp_region_any hm ?_
  have := box_any H hrun (fun a w b hl hw hb hc => hl w b hw hb hc) _ (Array.replicate l.toArray.size false) _ a { W with drawn := W.drawn + 1 } inv0 (by simp; omega)
    (fun i hi => by rw [getD_replicate_false, getD_replicate_false]) (getD_replicate_false _ _) (below_drewN (Below.refl _ _) 1) HI
  rw [htl, show n + 1 + (l.length - (n + 1)) = l.toArray.size by simp; omega] at this
  exact this
end
end
end Go.Proofs.Ytgddlpabgeeflaa
