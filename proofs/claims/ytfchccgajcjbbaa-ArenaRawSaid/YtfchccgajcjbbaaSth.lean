/-
  Regions that draw their order in stages, more of them: operations that make memory count as stages, calls that change nothing count as reading; a region whose first operation is a call that all others wait for. No conditions beyond those that each lemma states.
-/
import Derived.Test.YtfchccgajcjbbaaStg
namespace Go.Proofs.Ytfchccgajcjbbaa
open Go.RowKit

section
variable {P : Program} {ops : Array Oper} {md : Region.Mode} {ks : List Nat} {C : Nat → World → Prop}

/-- A call that hands back v and leaves a world of D. -/
def GoesOn2 (P : Program) (o : Oper) (a : Act) (D : World → Prop) (w : World) (v : Value) : Prop :=
  (∃ f args, (execOp a.eval o).run P w = .ok (.enter f args) w ∧ Calls P f args w fun e w'' => e = .returned v ∧ D w'') ∨ ∃ w', (execOp a.eval o).run P w = .ok (.value v) w' ∧ D w'
/-- An operation that reads. -/
def Reads2 (P : Program) (o : Oper) (a : Act) (w : World) (v : Value) : Prop :=
  (execOp a.eval o).run P w = .ok (.value v) w ∨ ((execOp a.eval o).run P w = .ok .skip w ∧ v = undef) ∨ ∃ f args, (execOp a.eval o).run P w = .ok (.enter f args) w ∧ Calls P f args w fun e w'' => e = .returned v ∧ w'' = w
def Yes2 (P : Program) (ks : List Nat) (C : Nat → World → Prop) (i : Nat) (o : Oper) (a : Act) (s : Nat) (v : Value) : Prop :=
  if i ∈ ks then ∀ w, C s w → GoesOn2 P o a (C (s + 1)) w v else ∀ t w, C t w → Reads2 P o a w v
def Ylds2 (P : Program) (ops : Array Oper) (ks : List Nat) (C : Nat → World → Prop) (i : Nat) (o : Oper) (v : Value) (a : Act) (s : Nat) : Prop :=
  (Region.wanted o (yielded ops a.tmps) = true ∧ Yes2 P ks C i o a s v) ∨ (Region.wanted o (yielded ops a.tmps) = false ∧ v = undef ∧ i ∉ ks)
/-- What it yields stays, whatever the slots that it does not look at. -/
theorem Ylds2.of_same {i : Nat} {o : Oper} {v : Value} {a a' : Act} {s s' : Nat} (hy : Ylds2 P ops ks C i o v a s) (he : execOp a'.eval o = execOp a.eval o)
    (hw : Region.wanted o (yielded ops a'.tmps) = Region.wanted o (yielded ops a.tmps)) (hs : i ∈ ks → s' = s) : Ylds2 P ops ks C i o v a' s' := by
  unfold Ylds2 Yes2 GoesOn2 Reads2 at *
  rw [he, hw]
  by_cases hi : i ∈ ks
  · rw [hs hi]; exact hy
  · simp only [hi, if_false] at hy ⊢
    exact hy
def tOp2 (P : Program) (ops : Array Oper) (ks : List Nat) (C : Nat → World → Prop) (i s : Nat) (K : Act → Prop) (a : Act) : Prop :=
  match ops[i]? with
  | none => K a
  | some o => ∃ v, Ylds2 P ops ks C i o v a s ∧ K (a.put o.dst v)
def wpAnyT2 (P : Program) (md : Region.Mode) (ops : Array Oper) (ks : List Nat) (C : Nat → World → Prop) (Q : Nat → Act → Prop) : Nat → Array Bool → Act → Prop
  | 0, listed, a => Region.ready md ops listed = [] ∧ Q (stg ks listed) a
  | f + 1, listed, a => (Region.ready md ops listed = [] → Q (stg ks listed) a) ∧ ∀ i ∈ Region.ready md ops listed, tOp2 P ops ks C i (stg ks listed) (wpAnyT2 P md ops ks C Q f (listed.setIfInBounds i true)) a

theorem wpAny_of_T2 {Q : Nat → Act → Prop} {Q' : Exit → Act → World → Prop} (hn : ks.Nodup) (hQ : ∀ s a w, C s w → Q s a → Q' .normal a w) : ∀ (f : Nat) (listed : Array Bool) (a : Act) (w : World), listed.size = ops.size →
    C (stg ks listed) w → wpAnyT2 P md ops ks C Q f listed a → wpAny P md ops Q' f listed a w
  | 0, _, _, _, _, hw, h => ⟨h.1, hQ _ _ _ hw h.2⟩
  | f + 1, listed, a, w, hz, hw, h => by
    refine ⟨fun h0 => hQ _ _ _ hw (h.1 h0), fun i hi => ?_⟩
    obtain ⟨hl, hlt⟩ := ready_in hi
    have h1 := h.2 i hi
    unfold tOp2 at h1
    unfold wpOp
    have hz' : (listed.setIfInBounds i true).size = ops.size := by simpa using hz
    cases ho : ops[i]? with
    | none =>
      obtain ⟨_, o, h2, _⟩ := mem_ready.1 hi
      rw [ho] at h2; cases h2
    | some o =>
      simp only [ho] at h1 ⊢
      obtain ⟨v, hy, hK⟩ := h1
      rcases hy with ⟨hwt, hy⟩ | ⟨hwt, rfl, hni⟩
      · rw [if_pos hwt]
        refine .inl ?_
        unfold Yes2 at hy
        by_cases hik : i ∈ ks
        · rw [if_pos hik] at hy
          rcases hy w hw with ⟨f', args, hr, hc⟩ | ⟨w', hr, hw'⟩
          · unfold Oper.wp
            rw [hr]
            simp only [Oper.upon]
            exact hc.mono fun e w'' ⟨he, hw''⟩ => by
              subst he
              exact wpAny_of_T2 hn hQ f _ _ _ hz' (by rw [stg_in (hlt hz) hl hn hik]; exact hw'') hK
          · unfold Oper.wp
            rw [hr]
            simp only [Oper.upon]
            exact wpAny_of_T2 hn hQ f _ _ _ hz' (by rw [stg_in (hlt hz) hl hn hik]; exact hw') hK
        · rw [if_neg hik] at hy
          have hst := stg_out (listed := listed) hik
          rcases hy _ w hw with hr | ⟨hr, rfl⟩ | ⟨f', args, hr, hc⟩
          · unfold Oper.wp
            rw [hr]
            simp only [Oper.upon]
            exact wpAny_of_T2 hn hQ f _ _ _ hz' (by rw [hst]; exact hw) hK
          · unfold Oper.wp
            rw [hr]
            simp only [Oper.upon]
            exact wpAny_of_T2 hn hQ f _ _ _ hz' (by rw [hst]; exact hw) hK
          · unfold Oper.wp
            rw [hr]
            simp only [Oper.upon]
            exact hc.mono fun e w'' ⟨he, hw''⟩ => by
              subst he hw''
              exact wpAny_of_T2 hn hQ f _ _ _ hz' (by rw [hst]; exact hw) hK
      · rw [hwt]
        simp only [Bool.false_eq_true, if_false]
        exact wpAny_of_T2 hn hQ f _ _ _ hz' (by rw [stg_out hni]; exact hw) hK

theorem wpAnyT_first2 {Q : Nat → Act → Prop} {i : Nat} {oi : Oper} {v : Value} (hi : ops[i]? = some oi) (hsel : ∀ (j : Nat) (o : Oper) cs b, ops[j]? = some o → o.op ≠ .select cs b) (hch : chB md ops ks = true) :
    ∀ (f : Nat) (listed : Array Bool) (a : Act), Closed md ops listed →
      (∀ j oj, ops[j]? = some oj → j ≠ i → listed.getD j true = false → (∀ e ∈ oj.after, Region.binds md e = true → e.on ≠ i) → oi.apart ops oj = true) →
      i ∈ Region.ready md ops listed → Ylds2 P ops ks C i oi v a (stg ks listed) →
      wpAnyT2 P md ops ks C Q f (listed.setIfInBounds i true) (a.put oi.dst v) → wpAnyT2 P md ops ks C Q (f + 1) listed a := by
  have self : ∀ (s : Nat) (a : Act) (K : Act → Prop), Ylds2 P ops ks C i oi v a s → K (a.put oi.dst v) → tOp2 P ops ks C i s K a := fun s a K hy hK => by
    unfold tOp2
    simp only [hi]
    exact ⟨v, hy, hK⟩
  intro f
  induction f with
  | zero =>
    intro listed a _ _ hr hy H
    refine ⟨fun h => (by rw [h] at hr; cases hr), fun j hj => ?_⟩
    by_cases hji : j = i
    · subst hji; exact self _ _ _ hy H
    · have := ready_mono hj hji
      rw [H.1] at this
      cases this
  | succ f ih =>
    intro listed a hcl hfree hr hy H
    refine ⟨fun h => (by rw [h] at hr; cases hr), fun j hj => ?_⟩
    by_cases hji : j = i
    · subst hji; exact self _ _ _ hy H
    · have h1 := H.2 j (ready_mono hj hji)
      obtain ⟨hjun, oj, hoj, hall⟩ := mem_ready.1 hj
      have hnot : ∀ e ∈ oj.after, Region.binds md e = true → e.on ≠ i := fun e he hb heq => by
        have h1 := hall e he hb
        rw [heq, (ready_in hr).1] at h1
        cases h1
      have hap := hfree j oj hoj hji hjun hnot
      obtain ⟨p1, p2, p3⟩ := Oper.apart_spec hap
      have one : ¬ (i ∈ ks ∧ j ∈ ks) := fun h => hji (calls_one hcl hch j i h.2 h.1 hj hr)
      unfold tOp2 at h1 ⊢
      simp only [hoj] at h1 ⊢
      obtain ⟨u, hyj, hK⟩ := h1
      have hyj' : Ylds2 P ops ks C j oj u a (stg ks listed) := hyj.of_same (execOp_put oj (fun cs b => hsel j oj cs b hoj) a oi.dst v p1).symm (wanted_put oj a oi.dst v p1).symm
        (fun hjk => (stg_out (fun hik => one ⟨hik, hjk⟩)).symm)
      refine ⟨u, hyj', ?_⟩
      refine ih (listed.setIfInBounds j true) (a.put oj.dst u) (hcl.set hj) (fun k ok hk hki hun hno => ?_) (ready_mono hr (Ne.symm hji)) ?_ ?_
      · refine hfree k ok hk hki ?_ hno
        by_cases hjk : j = k
        · subst hjk; exact hjun
        · rw [getD_set_ne true hjk] at hun; exact hun
      · exact hy.of_same (execOp_put oi (fun cs b => hsel i oi cs b hi) a oj.dst u p3) (wanted_put oi a oj.dst u p3) (fun hik => stg_out (fun hjk => one ⟨hik, hjk⟩))
      · rw [Array.setIfInBounds_comm _ _ hji, ← Act.put_comm a v u p2]
        exact hK

/-- The walk in the order of the text. -/
def wpLexT2 (P : Program) (ops : Array Oper) (ks : List Nat) (C : Nat → World → Prop) (Q : Nat → Act → Prop) : List Oper → Nat → Nat → Act → Prop
  | [], _, s, a => Q s a
  | o :: rest, k, s, a => ∃ v, Ylds2 P ops ks C k o v a s ∧ wpLexT2 P ops ks C Q rest (k + 1) (if k ∈ ks then s + 1 else s) (a.put o.dst v)
theorem wpAnyT_lex2 {Q : Nat → Act → Prop} (hs : Region.noSelect ops = true) (hch : chB md ops ks = true) (hn : ks.Nodup) : ∀ (l : List Oper) (k : Nat) (listed : Array Bool) (a : Act) (s : Nat), (∀ j, l[j]? = ops[k + j]?) →
    Region.lexFrom md ops l.length k listed = true → Closed md ops listed → listed.size = ops.size → stg ks listed = s → wpLexT2 P ops ks C Q l k s a → wpAnyT2 P md ops ks C Q l.length listed a
  | [], _, _, _, _, _, hB, _, _, hst, h => ⟨by simpa [Region.lexFrom] using hB, by rw [hst]; exact h⟩
  | o :: l, k, listed, a, s, hl, hB, hcl, hz, hst, h => by
    have h0 : ops[k]? = some o := by simpa using (hl 0).symm
    simp only [List.length_cons, Region.lexFrom, Bool.and_eq_true] at hB
    obtain ⟨⟨hr, hf⟩, hB'⟩ := hB
    have hr' : k ∈ Region.ready md ops listed := by simpa using hr
    obtain ⟨v, hy, hK⟩ := h
    refine wpAnyT_first2 h0 (Region.noSelect_spec hs) hch l.length listed a hcl (Region.free_spec h0 hf) hr' (by rw [hst]; exact hy) ?_
    refine wpAnyT_lex2 hs hch hn l (k + 1) _ _ _ (fun j => by have := hl (j + 1); simpa [Nat.add_assoc, Nat.add_comm 1 j] using this) hB' (hcl.set hr') (by simpa using hz) ?_ hK
    by_cases hk : k ∈ ks
    · rw [if_pos hk, stg_in ((ready_in hr').2 hz) (ready_in hr').1 hn hk, hst]
    · rw [if_neg hk, stg_out hk, hst]
theorem wp_region_staged2 {id : Nat} {Q : Exit → Act → World → Prop} {a : Act} {W : World} {l : List Oper} (ks : List Nat) (C : Nat → World → Prop) (hm : P.follows .mixedOrders = true)
    (hB : (Region.lexB .any l.toArray && chB .any l.toArray ks && decide ks.Nodup) = true) (hC : C 0 (W.drewN 1))
    (h : wpLexT2 P l.toArray ks C (fun s a' => ∀ w', C s w' → Q .normal a' w') l 0 0 a) : (Code.region id l.toArray true).wp P Q a W := by
  simp only [Region.lexB, Bool.and_eq_true, decide_eq_true_eq] at hB
  obtain ⟨⟨⟨h1, h2⟩, h3⟩, h4⟩ := hB
  have h5 := wpAnyT_lex2 (md := .any) h1 h3 h4 l 0 (Array.replicate l.toArray.size false) a 0 (by simp) (by simpa using h2)
    (fun j hj => by rw [getD_replicate_false] at hj; cases hj) (by simp) stg_zero h
  have h6 := wpAny_of_T2 (Q' := Q) h4 (fun s a w hw hq => hq w hw) _ _ _ (W.drewN 1) (by simp) (by rw [stg_zero]; exact hC) h5
  refine wp_region_any hm ?_
  have e : l.toArray.size = l.length := by simp
  rw [e] at h6 ⊢
  exact h6

/-- A stretch of reading operations, by the quiet walk. -/
theorem lexT_seg2 {Q : Nat → Act → Prop} {s : Nat} : ∀ {l : List Oper} {k : Nat} (n : Nat) {a : Act}, ((l.take n).all (fun o => plainOp o.op) && (List.range n).all (fun i => !ks.contains (k + i))) = true →
    wpQuiet P ops (fun w' => ∃ m : InSome C, w' = m.val) (fun a' => wpLexT2 P ops ks C Q (l.drop n) (k + n) s a') (l.take n) a → wpLexT2 P ops ks C Q l k s a
  | l, k, 0, a, _, h => by simpa [wpQuiet] using h
  | [], k, n + 1, a, _, h => by
    simp only [List.take_nil, List.drop_nil, wpQuiet, wpLexT2] at h ⊢
    exact h
  | o :: l, k, n + 1, a, hB, h => by
    simp only [List.take_succ_cons, List.all_cons, Bool.and_eq_true, List.all_eq_true, List.mem_range] at hB
    obtain ⟨⟨hp, hps⟩, hr⟩ := hB
    have hk : k ∉ ks := by
      have := hr 0 (by omega)
      simpa using this
    have hrest : ((l.take n).all (fun o => plainOp o.op) && (List.range n).all (fun i => !ks.contains (k + 1 + i))) = true := by
      simp only [Bool.and_eq_true, List.all_eq_true, List.mem_range]
      exact ⟨hps, fun i hi => by have := hr (i + 1) (by omega); rwa [show k + (i + 1) = k + 1 + i by omega] at this⟩
    simp only [List.take_succ_cons, List.drop_succ_cons, wpQuiet] at h
    unfold wpLexT2
    rw [if_neg hk]
    have go : ∀ a', wpQuiet P ops (fun w' => ∃ m : InSome C, w' = m.val) (fun a' => wpLexT2 P ops ks C Q (l.drop n) (k + (n + 1)) s a') (l.take n) a' → wpLexT2 P ops ks C Q l (k + 1) s a' := fun a' h' =>
      lexT_seg2 n hrest (by rw [show k + 1 + n = k + (n + 1) by omega]; exact h')
    by_cases hw : Region.wanted o (yielded ops a.tmps) = true
    · rw [if_pos hw] at h
      obtain ⟨v, h1, h2⟩ := h
      refine ⟨v, .inl ⟨hw, ?_⟩, go _ h2⟩
      unfold Yes2
      rw [if_neg hk]
      intro t w hC
      have h3 := h1 w ⟨⟨w, t, hC⟩, rfl⟩
      unfold Oper.quietAt at h3
      unfold Reads2
      have hne := not_enter (P := P) hp a.eval w
      generalize (execOp a.eval o).run P w = r at *
      cases r with
      | ok nx w' =>
        cases nx <;> simp only [Oper.quietUpon] at h3
        case value u =>
          obtain ⟨e1, e2⟩ := h3
          subst e1 e2
          exact .inl rfl
        case skip =>
          obtain ⟨e1, e2⟩ := h3
          subst e1
          exact .inr (.inl ⟨rfl, e2⟩)
        case enter f args => exact absurd rfl (hne f args w')
      | halt x w' => simp only [Oper.quietUpon] at h3
    · have hw' : Region.wanted o (yielded ops a.tmps) = false := by simpa using hw
      rw [hw'] at h
      exact ⟨undef, .inr ⟨hw', rfl, hk⟩, go _ (by simpa using h)⟩
/-- A call of a stage, its contract first. -/
theorem lexT2_do {Q : Nat → Act → Prop} {s k : Nat} {l : List Oper} {o : Oper} {a : Act} {f : FuncId} {args : Array Value} {v : Value} (hc : ∀ w, C s w → Calls P f args w fun e w'' => e = .returned v ∧ C (s + 1) w'') {fn : Func} (hf : P.funcs[f]? = some fn)
    (hb : (fn.body.isNone || (fn.name == "runtime.NumGoroutine")) = false) {xs : Array Operand} {ts : Array TypeId}
    (ho : o.op = .call { callee := .value (.func f), args := xs, argTypes := ts }) (hk : ks.contains k = true) (hw : Region.wanted o (yielded ops a.tmps) = true)
    (hx : xs.map a.eval = args) (h : wpLexT2 P ops ks C Q l (k + 1) (s + 1) (a.put o.dst v)) : wpLexT2 P ops ks C Q (o :: l) k s a := by
  have hk' : k ∈ ks := by simpa using hk
  refine ⟨v, .inl ⟨hw, ?_⟩, by rw [if_pos hk']; exact h⟩
  unfold Yes2
  rw [if_pos hk']
  exact fun w hw' => .inl ⟨f, args, enter_is ho hx hf hb w, hc w hw'⟩
/-- An operation of a stage that makes memory. -/
theorem lexT2_make {Q : Nat → Act → Prop} {s k : Nat} {l : List Oper} {o : Oper} {a : Act} (v : Value) (hk : ks.contains k = true) (hw : Region.wanted o (yielded ops a.tmps) = true)
    (hr : ∀ w, C s w → ∃ w', (execOp a.eval o).run P w = .ok (.value v) w' ∧ C (s + 1) w') (h : wpLexT2 P ops ks C Q l (k + 1) (s + 1) (a.put o.dst v)) : wpLexT2 P ops ks C Q (o :: l) k s a := by
  have hk' : k ∈ ks := by simpa using hk
  refine ⟨v, .inl ⟨hw, ?_⟩, by rw [if_pos hk']; exact h⟩
  unfold Yes2
  rw [if_pos hk']
  exact fun w hw' => .inr (hr w hw')
/-- A call that changes nothing. -/
theorem lexT2_pure {Q : Nat → Act → Prop} {s k : Nat} {l : List Oper} {o : Oper} {a : Act} {f : FuncId} {args : Array Value} {v : Value} (hc : ∀ w, Calls P f args w fun e w'' => e = .returned v ∧ w'' = w) {fn : Func} (hf : P.funcs[f]? = some fn)
    (hb : (fn.body.isNone || (fn.name == "runtime.NumGoroutine")) = false) {xs : Array Operand} {ts : Array TypeId}
    (ho : o.op = .call { callee := .value (.func f), args := xs, argTypes := ts }) (hk : ks.contains k = false) (hw : Region.wanted o (yielded ops a.tmps) = true)
    (hx : xs.map a.eval = args) (h : wpLexT2 P ops ks C Q l (k + 1) s (a.put o.dst v)) : wpLexT2 P ops ks C Q (o :: l) k s a := by
  have hk' : k ∉ ks := by simpa using hk
  refine ⟨v, .inl ⟨hw, ?_⟩, by rw [if_neg hk']; exact h⟩
  unfold Yes2
  rw [if_neg hk']
  exact fun _ w _ => .inr (.inr ⟨f, args, enter_is ho hx hf hb w, hc w⟩)
theorem lexT2_nil {Q : Nat → Act → Prop} {s k : Nat} {a : Act} (h : Q s a) : wpLexT2 P ops ks C Q [] k s a := h
theorem run_make {w w' : World} {o : Oper} {a : Act} {t : TypeId} {l c : Operand} {kl kc : IntKind} {L M : Int} {v : Value} (ho : o.op = .makeSlice t l c) (hl : a.eval l = .int kl L) (hc : a.eval c = .int kc M)
    (hr : (Instr.makeSlice t (.int kl L) (.int kc M)).run P w = .ok v w') : (execOp a.eval o).run P w = .ok (.value v) w' := by
  unfold execOp
  simp only [ho, hl, hc, Sem.run_bind, hr, Result.andThen_ok, Sem.run_pure]
theorem run_conv {w : World} {o : Oper} {a : Act} {t u : TypeId} {x : Operand} {v r : Value} (ho : o.op = .convert t u x) (hx : a.eval x = v) (hr : (convert t u v).run P w = .ok r w) : (execOp a.eval o).run P w = .ok (.value r) w := by
  unfold execOp
  simp only [ho, hx, Sem.run_bind, hr, Result.andThen_ok, Sem.run_pure]
/-- A region whose first operation is a call that all others wait for: the stages of the others may lean on what the call leaves. -/
theorem wp_region_first {id : Nat} {Q : Exit → Act → World → Prop} {a : Act} {W : World} {o : Oper} {l : List Oper} {f : FuncId} {args : Array Value} {v : Value} {fn : Func} (hm : P.follows .mixedOrders = true)
    (hB : (Region.lexB .any (o :: l).toArray && decide (Region.ready .any (o :: l).toArray (Array.replicate (o :: l).length false) = [0]) && o.guard.isNone) = true)
    (hf : P.funcs[f]? = some fn) (hb : (fn.body.isNone || (fn.name == "runtime.NumGoroutine")) = false) {xs : Array Operand} {ts : Array TypeId}
    (ho : o.op = .call { callee := .value (.func f), args := xs, argTypes := ts }) (hx : xs.map a.eval = args)
    (h : Calls P f args (W.drewN 1) fun e w1 => e = .returned v ∧ ∃ (ks : List Nat) (C : Nat → World → Prop), (chB .any (o :: l).toArray ks && decide ks.Nodup && !ks.contains 0) = true ∧ C 0 w1 ∧
      wpLexT2 P (o :: l).toArray ks C (fun s a' => ∀ w', C s w' → Q .normal a' w') l 1 0 (a.put o.dst v)) : (Code.region id (o :: l).toArray true).wp P Q a W := by
  simp only [Region.lexB, Bool.and_eq_true, decide_eq_true_eq, Option.isNone_iff_eq_none] at hB
  obtain ⟨⟨⟨h1, h2⟩, h3⟩, h4⟩ := hB
  refine wp_region_any hm ?_
  have e : (o :: l).toArray.size = l.length + 1 := by simp
  have h2' : Region.lexFrom .any (o :: l).toArray (l.length + 1) 0 (Array.replicate (l.length + 1) false) = true := by simpa using h2
  have h3' : Region.ready .any (o :: l).toArray (Array.replicate (l.length + 1) false) = [0] := h3
  have hr' : 0 ∈ Region.ready .any (o :: l).toArray (Array.replicate (l.length + 1) false) := by rw [h3']; simp
  have hB' : Region.lexFrom .any (o :: l).toArray l.length 1 ((Array.replicate (l.length + 1) false).setIfInBounds 0 true) = true := by
    unfold Region.lexFrom at h2'
    rw [Bool.and_eq_true] at h2'
    exact h2'.2
  rw [e]
  refine ⟨fun h0 => (by rw [h3'] at h0; cases h0), fun i hi => ?_⟩
  rw [h3', List.mem_singleton] at hi
  subst hi
  have hget : (o :: l).toArray[0]? = some o := by simp
  unfold wpOp
  simp only [hget]
  rw [if_pos (by simp [Region.wanted, h4])]
  refine .inl ?_
  have hrun := enter_is (P := P) ho hx hf hb (W.drewN 1)
  have hrun' : (execOp a.eval o).run P { W with drawn := W.drawn + 1 } = .ok (.enter f args) { W with drawn := W.drawn + 1 } := hrun
  unfold Oper.wp
  rw [hrun']
  simp only [Oper.upon]
  refine Calls.mono h ?_
  rintro e' w1 ⟨rfl, ks, C, hk, hC, hL⟩
  simp only [Bool.and_eq_true, decide_eq_true_eq, Bool.not_eq_true'] at hk
  obtain ⟨⟨k1, k2⟩, k3⟩ := hk
  have k3' : 0 ∉ ks := by simpa using k3
  have hcl : Closed .any (o :: l).toArray (Array.replicate (l.length + 1) false) := fun j hj => by rw [getD_replicate_false] at hj; cases hj
  have hst : stg ks ((Array.replicate (l.length + 1) false).setIfInBounds 0 true) = 0 := by rw [stg_out k3', stg_zero]
  have h5 := wpAnyT_lex2 (md := .any) h1 k1 k2 l 1 ((Array.replicate (l.length + 1) false).setIfInBounds 0 true) (a.put o.dst v) 0 (fun j => by simp [Nat.add_comm 1 j]) hB' (hcl.set hr') (by simp) hst hL
  exact wpAny_of_T2 (Q' := Q) k2 (fun s a w hw hq => hq w hw) _ _ _ w1 (by simp) (by rw [hst]; exact hC) h5
end
end Go.Proofs.Ytfchccgajcjbbaa
