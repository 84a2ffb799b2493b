/-
  A region that draws its order, whose calls come in the order of the text and may write, and whose other operations only read what no call changes: one walk, in the order of the text. The worlds come in stages, one more with each call. No conditions beyond those that each lemma states.
-/
import Derived.Test.YtlgoiccekgjhnaaLater
namespace Go.Proofs.Ytlgoiccekgjhnaa
open Go.RowKit

section
variable {P : Program} {ops : Array Oper} {md : Region.Mode} {ks : List Nat} {C : Nat → World → Prop}

/-- How many of the calls have come up. -/
def stg (ks : List Nat) (listed : Array Bool) : Nat := (ks.filter fun k => listed.getD k false).length
theorem stg_out {listed : Array Bool} {i : Nat} (h : i ∉ ks) : stg ks (listed.setIfInBounds i true) = stg ks listed := by
  unfold stg
  have e : ks.filter (fun k => (listed.setIfInBounds i true).getD k false) = ks.filter (fun k => listed.getD k false) :=
    List.filter_congr fun k hk => getD_set_ne false (fun e => h (e ▸ hk))
  rw [e]
theorem stg_in {listed : Array Bool} {i : Nat} (hi : i < listed.size) (hl : listed.getD i false = false) : ∀ {ks : List Nat}, ks.Nodup → i ∈ ks → stg ks (listed.setIfInBounds i true) = stg ks listed + 1
  | [], _, h => by cases h
  | k :: ks, hn, h => by
    obtain ⟨h1, h2⟩ := List.nodup_cons.1 hn
    by_cases hk : k = i
    · subst hk
      have e1 := stg_out (listed := listed) h1
      have e2 : (listed.setIfInBounds k true).getD k false = true := by simp [hi]
      unfold stg at *
      rw [List.filter_cons_of_pos (by simpa using e2), List.filter_cons_of_neg (by simpa using hl), List.length_cons, e1]
    · have h3 : i ∈ ks := by
        rcases List.mem_cons.1 h with h | h
        · exact absurd h.symm hk
        · exact h
      have ih := stg_in hi hl h2 h3
      have e2 : (listed.setIfInBounds i true).getD k false = listed.getD k false := getD_set_ne false (fun e => hk e.symm)
      unfold stg at *
      cases hv : listed.getD k false with
      | true => rw [List.filter_cons_of_pos (by rw [e2]; exact hv), List.filter_cons_of_pos (p := fun k => listed.getD k false) hv, List.length_cons, List.length_cons, ih]
      | false => rw [List.filter_cons_of_neg (by rw [e2, hv]; simp), List.filter_cons_of_neg (p := fun k => listed.getD k false) (by rw [hv]; simp), ih]

/-- A call that hands back v and leaves a world of D. -/
def GoesOn (P : Program) (o : Oper) (a : Act) (D : World → Prop) (w : World) (v : Value) : Prop :=
  ∃ f args, (execOp a.eval o).run P w = .ok (.enter f args) w ∧ Calls P f args w fun e w'' => e = .returned v ∧ D w''
/-- An operation that reads. -/
def Reads (P : Program) (o : Oper) (a : Act) (w : World) (v : Value) : Prop :=
  (execOp a.eval o).run P w = .ok (.value v) w ∨ ((execOp a.eval o).run P w = .ok .skip w ∧ v = undef)
def Yes (P : Program) (ks : List Nat) (C : Nat → World → Prop) (i : Nat) (o : Oper) (a : Act) (s : Nat) (v : Value) : Prop :=
  if i ∈ ks then ∀ w, C s w → GoesOn P o a (C (s + 1)) w v else ∀ t w, C t w → Reads P o a w v
def Ylds (P : Program) (ops : Array Oper) (ks : List Nat) (C : Nat → World → Prop) (i : Nat) (o : Oper) (v : Value) (a : Act) (s : Nat) : Prop :=
  (Region.wanted o (yielded ops a.tmps) = true ∧ Yes P ks C i o a s v) ∨ (Region.wanted o (yielded ops a.tmps) = false ∧ v = undef ∧ i ∉ ks)
/-- What it yields stays, whatever the slots that it does not look at. -/
theorem Ylds.of_same {i : Nat} {o : Oper} {v : Value} {a a' : Act} {s s' : Nat} (hy : Ylds P ops ks C i o v a s) (he : execOp a'.eval o = execOp a.eval o)
    (hw : Region.wanted o (yielded ops a'.tmps) = Region.wanted o (yielded ops a.tmps)) (hs : i ∈ ks → s' = s) : Ylds P ops ks C i o v a' s' := by
  unfold Ylds Yes GoesOn Reads at *
  rw [he, hw]
  by_cases hi : i ∈ ks
  · rw [hs hi]; exact hy
  · simp only [hi, if_false] at hy ⊢
    exact hy
def tOp (P : Program) (ops : Array Oper) (ks : List Nat) (C : Nat → World → Prop) (i s : Nat) (K : Act → Prop) (a : Act) : Prop :=
  match ops[i]? with
  | none => K a
  | some o => ∃ v, Ylds P ops ks C i o v a s ∧ K (a.put o.dst v)
def wpAnyT (P : Program) (md : Region.Mode) (ops : Array Oper) (ks : List Nat) (C : Nat → World → Prop) (Q : Nat → Act → Prop) : Nat → Array Bool → Act → Prop
  | 0, listed, a => Region.ready md ops listed = [] ∧ Q (stg ks listed) a
  | f + 1, listed, a => (Region.ready md ops listed = [] → Q (stg ks listed) a) ∧ ∀ i ∈ Region.ready md ops listed, tOp P ops ks C i (stg ks listed) (wpAnyT P md ops ks C Q f (listed.setIfInBounds i true)) a

theorem ready_in {listed : Array Bool} {i : Nat} (h : i ∈ Region.ready md ops listed) : listed.getD i false = false ∧ (listed.size = ops.size → i < listed.size) := by
  obtain ⟨h1, o, h2, _⟩ := mem_ready.1 h
  exact ⟨getD_both h1, fun hs => by rw [hs]; exact (Array.getElem?_eq_some_iff.1 h2).1⟩
theorem wpAny_of_T {Q : Nat → Act → Prop} {Q' : Exit → Act → World → Prop} (hn : ks.Nodup) (hQ : ∀ s a w, C s w → Q s a → Q' .normal a w) : ∀ (f : Nat) (listed : Array Bool) (a : Act) (w : World), listed.size = ops.size →
    C (stg ks listed) w → wpAnyT P md ops ks C Q f listed a → wpAny P md ops Q' f listed a w
  | 0, _, _, _, _, hw, h => ⟨h.1, hQ _ _ _ hw h.2⟩
  | f + 1, listed, a, w, hz, hw, h => by
    refine ⟨fun h0 => hQ _ _ _ hw (h.1 h0), fun i hi => ?_⟩
    obtain ⟨hl, hlt⟩ := ready_in hi
    have h1 := h.2 i hi
    unfold tOp at h1
    unfold wpOp
    have hz' : (listed.setIfInBounds i true).size = ops.size := by simpa using hz
    cases ho : ops[i]? with
    | none =>
      obtain ⟨_, o, h2, _⟩ := mem_ready.1 hi
      rw [ho] at h2; cases h2
    | some o =>
      simp only [ho] at h1 ⊢
      obtain ⟨v, hy, hK⟩ := h1
      rcases hy with ⟨hwt, hy⟩ | ⟨hwt, rfl, hni⟩
      · rw [if_pos hwt]
        refine .inl ?_
        unfold Yes at hy
        by_cases hik : i ∈ ks
        · rw [if_pos hik] at hy
          obtain ⟨f', args, hr, hc⟩ := hy w hw
          unfold Oper.wp
          rw [hr]
          simp only [Oper.upon]
          exact hc.mono fun e w'' ⟨he, hw''⟩ => by
            subst he
            exact wpAny_of_T hn hQ f _ _ _ hz' (by rw [stg_in (hlt hz) hl hn hik]; exact hw'') hK
        · rw [if_neg hik] at hy
          have hst := stg_out (listed := listed) hik
          rcases hy _ w hw with hr | ⟨hr, rfl⟩
          · unfold Oper.wp
            rw [hr]
            simp only [Oper.upon]
            exact wpAny_of_T hn hQ f _ _ _ hz' (by rw [hst]; exact hw) hK
          · unfold Oper.wp
            rw [hr]
            simp only [Oper.upon]
            exact wpAny_of_T hn hQ f _ _ _ hz' (by rw [hst]; exact hw) hK
      · rw [hwt]
        simp only [Bool.false_eq_true, if_false]
        exact wpAny_of_T hn hQ f _ _ _ hz' (by rw [stg_out hni]; exact hw) hK

/-- Each call waits for the one before it. -/
def chB (md : Region.Mode) (ops : Array Oper) : List Nat → Bool
  | a :: b :: r => Region.waitsFor md ops b a && chB md ops (b :: r)
  | _ => true
def EdgesIn (md : Region.Mode) (ops : Array Oper) (listed : Array Bool) (j : Nat) : Prop := ∀ oj, ops[j]? = some oj → ∀ e ∈ oj.after, Region.binds md e = true → listed.getD e.on false = true
def Closed (md : Region.Mode) (ops : Array Oper) (listed : Array Bool) : Prop := ∀ j, listed.getD j false = true → EdgesIn md ops listed j
theorem Closed.set {listed : Array Bool} {i : Nat} (h : Closed md ops listed) (hi : i ∈ Region.ready md ops listed) : Closed md ops (listed.setIfInBounds i true) := by
  obtain ⟨_, oi, hoi, hall⟩ := mem_ready.1 hi
  intro j hj oj hoj e he hb
  by_cases hij : i = j
  · subst hij
    have : oj = oi := Option.some.inj (hoj.symm.trans hoi)
    subst this
    exact getD_set_true (hall e he hb)
  · rw [getD_set_ne false hij] at hj
    exact getD_set_true (h j hj oj hoj e he hb)
theorem waits_edge {listed : Array Bool} {a b : Nat} (h : Region.waitsFor md ops b a = true) (he : EdgesIn md ops listed b) : listed.getD a false = true := by
  obtain ⟨ob, hob, e, hee, hb, rfl⟩ := Region.waitsFor_spec h
  exact he ob hob e hee hb
theorem call_before {listed : Array Bool} (hc : Closed md ops listed) : ∀ {r : List Nat} {x : Nat}, chB md ops (x :: r) = true → ∀ y ∈ r, EdgesIn md ops listed y → listed.getD x false = true
  | [], _, _, y, hy, _ => by cases hy
  | b :: r, x, hch, y, hy, he => by
    simp only [chB, Bool.and_eq_true] at hch
    rcases List.mem_cons.1 hy with rfl | hy
    · exact waits_edge hch.1 he
    · exact waits_edge hch.1 (hc b (call_before hc hch.2 y hy he))
theorem calls_one {listed : Array Bool} (hc : Closed md ops listed) : ∀ {ks : List Nat}, chB md ops ks = true → ∀ i j, i ∈ ks → j ∈ ks → i ∈ Region.ready md ops listed → j ∈ Region.ready md ops listed → i = j
  | [], _, i, _, hi, _, _, _ => by cases hi
  | x :: r, hch, i, j, hi, hj, hri, hrj => by
    have edge : ∀ k, k ∈ Region.ready md ops listed → EdgesIn md ops listed k := fun k hk ok hok => by
      obtain ⟨_, o, ho, hall⟩ := mem_ready.1 hk
      have : ok = o := Option.some.inj (hok.symm.trans ho)
      subst this
      exact hall
    have hch' : chB md ops r = true := by
      cases r with
      | nil => rfl
      | cons b r => simp only [chB, Bool.and_eq_true] at hch; exact hch.2
    rcases List.mem_cons.1 hi with hix | hi2 <;> rcases List.mem_cons.1 hj with hjx | hj2
    · rw [hix, hjx]
    · have h1 := call_before hc hch j hj2 (edge j hrj)
      rw [← hix, (ready_in hri).1] at h1; cases h1
    · have h1 := call_before hc hch i hi2 (edge i hri)
      rw [← hjx, (ready_in hrj).1] at h1; cases h1
    · exact calls_one hc hch' i j hi2 hj2 hri hrj

theorem wpAnyT_first {Q : Nat → Act → Prop} {i : Nat} {oi : Oper} {v : Value} (hi : ops[i]? = some oi) (hsel : ∀ (j : Nat) (o : Oper) cs b, ops[j]? = some o → o.op ≠ .select cs b) (hch : chB md ops ks = true) :
    ∀ (f : Nat) (listed : Array Bool) (a : Act), Closed md ops listed →
      (∀ j oj, ops[j]? = some oj → j ≠ i → listed.getD j true = false → (∀ e ∈ oj.after, Region.binds md e = true → e.on ≠ i) → oi.apart ops oj = true) →
      i ∈ Region.ready md ops listed → Ylds P ops ks C i oi v a (stg ks listed) →
      wpAnyT P md ops ks C Q f (listed.setIfInBounds i true) (a.put oi.dst v) → wpAnyT P md ops ks C Q (f + 1) listed a := by
  have self : ∀ (s : Nat) (a : Act) (K : Act → Prop), Ylds P ops ks C i oi v a s → K (a.put oi.dst v) → tOp P ops ks C i s K a := fun s a K hy hK => by
    unfold tOp
    simp only [hi]
    exact ⟨v, hy, hK⟩
  intro f
  induction f with
  | zero =>
    intro listed a _ _ hr hy H
    refine ⟨fun h => (by rw [h] at hr; cases hr), fun j hj => ?_⟩
    by_cases hji : j = i
    · subst hji; exact self _ _ _ hy H
    · have := ready_mono hj hji
      rw [H.1] at this
      cases this
  | succ f ih =>
    intro listed a hcl hfree hr hy H
    refine ⟨fun h => (by rw [h] at hr; cases hr), fun j hj => ?_⟩
    by_cases hji : j = i
    · subst hji; exact self _ _ _ hy H
    · have h1 := H.2 j (ready_mono hj hji)
      obtain ⟨hjun, oj, hoj, hall⟩ := mem_ready.1 hj
      have hnot : ∀ e ∈ oj.after, Region.binds md e = true → e.on ≠ i := fun e he hb heq => by
        have h1 := hall e he hb
        rw [heq, (ready_in hr).1] at h1
        cases h1
      have hap := hfree j oj hoj hji hjun hnot
      obtain ⟨p1, p2, p3⟩ := Oper.apart_spec hap
      have one : ¬ (i ∈ ks ∧ j ∈ ks) := fun h => hji (calls_one hcl hch j i h.2 h.1 hj hr)
      unfold tOp at h1 ⊢
      simp only [hoj] at h1 ⊢
      obtain ⟨u, hyj, hK⟩ := h1
      have hyj' : Ylds P ops ks C j oj u a (stg ks listed) := hyj.of_same (execOp_put oj (fun cs b => hsel j oj cs b hoj) a oi.dst v p1).symm (wanted_put oj a oi.dst v p1).symm
        (fun hjk => (stg_out (fun hik => one ⟨hik, hjk⟩)).symm)
      refine ⟨u, hyj', ?_⟩
      refine ih (listed.setIfInBounds j true) (a.put oj.dst u) (hcl.set hj) (fun k ok hk hki hun hno => ?_) (ready_mono hr (Ne.symm hji)) ?_ ?_
      · refine hfree k ok hk hki ?_ hno
        by_cases hjk : j = k
        · subst hjk; exact hjun
        · rw [getD_set_ne true hjk] at hun; exact hun
      · exact hy.of_same (execOp_put oi (fun cs b => hsel i oi cs b hi) a oj.dst u p3) (wanted_put oi a oj.dst u p3) (fun hik => stg_out (fun hjk => one ⟨hik, hjk⟩))
      · rw [Array.setIfInBounds_comm _ _ hji, ← Act.put_comm a v u p2]
        exact hK

/-- The walk in the order of the text. -/
def wpLexT (P : Program) (ops : Array Oper) (ks : List Nat) (C : Nat → World → Prop) (Q : Nat → Act → Prop) : List Oper → Nat → Nat → Act → Prop
  | [], _, s, a => Q s a
  | o :: rest, k, s, a => ∃ v, Ylds P ops ks C k o v a s ∧ wpLexT P ops ks C Q rest (k + 1) (if k ∈ ks then s + 1 else s) (a.put o.dst v)
theorem wpAnyT_lex {Q : Nat → Act → Prop} (hs : Region.noSelect ops = true) (hch : chB md ops ks = true) (hn : ks.Nodup) : ∀ (l : List Oper) (k : Nat) (listed : Array Bool) (a : Act) (s : Nat), (∀ j, l[j]? = ops[k + j]?) →
    Region.lexFrom md ops l.length k listed = true → Closed md ops listed → listed.size = ops.size → stg ks listed = s → wpLexT P ops ks C Q l k s a → wpAnyT P md ops ks C Q l.length listed a
  | [], _, _, _, _, _, hB, _, _, hst, h => ⟨by simpa [Region.lexFrom] using hB, by rw [hst]; exact h⟩
  | o :: l, k, listed, a, s, hl, hB, hcl, hz, hst, h => by
    have h0 : ops[k]? = some o := by simpa using (hl 0).symm
    simp only [List.length_cons, Region.lexFrom, Bool.and_eq_true] at hB
    obtain ⟨⟨hr, hf⟩, hB'⟩ := hB
    have hr' : k ∈ Region.ready md ops listed := by simpa using hr
    obtain ⟨v, hy, hK⟩ := h
    refine wpAnyT_first h0 (Region.noSelect_spec hs) hch l.length listed a hcl (Region.free_spec h0 hf) hr' (by rw [hst]; exact hy) ?_
    refine wpAnyT_lex hs hch hn l (k + 1) _ _ _ (fun j => by have := hl (j + 1); simpa [Nat.add_assoc, Nat.add_comm 1 j] using this) hB' (hcl.set hr') (by simpa using hz) ?_ hK
    by_cases hk : k ∈ ks
    · rw [if_pos hk, stg_in ((ready_in hr').2 hz) (ready_in hr').1 hn hk, hst]
    · rw [if_neg hk, stg_out hk, hst]
theorem stg_zero {n : Nat} : stg ks (Array.replicate n false) = 0 := by
  unfold stg
  rw [List.length_eq_zero_iff, List.filter_eq_nil_iff]
  intro k _
  rw [getD_replicate_false]
  simp
theorem wp_region_staged {id : Nat} {Q : Exit → Act → World → Prop} {a : Act} {W : World} {l : List Oper} (ks : List Nat) (C : Nat → World → Prop) (hm : P.follows .mixedOrders = true)
    (hB : (Region.lexB .any l.toArray && chB .any l.toArray ks && decide ks.Nodup) = true) (hC : C 0 (W.drewN 1))
    (h : wpLexT P l.toArray ks C (fun s a' => ∀ w', C s w' → Q .normal a' w') l 0 0 a) : (Code.region id l.toArray true).wp P Q a W := by
  simp only [Region.lexB, Bool.and_eq_true, decide_eq_true_eq] at hB
  obtain ⟨⟨⟨h1, h2⟩, h3⟩, h4⟩ := hB
  have h5 := wpAnyT_lex (md := .any) h1 h3 h4 l 0 (Array.replicate l.toArray.size false) a 0 (by simp) (by simpa using h2)
    (fun j hj => by rw [getD_replicate_false] at hj; cases hj) (by simp) stg_zero h
  have h6 := wpAny_of_T (Q' := Q) h4 (fun s a w hw hq => hq w hw) _ _ _ (W.drewN 1) (by simp) (by rw [stg_zero]; exact hC) h5
  refine wp_region_any hm ?_
  have e : l.toArray.size = l.length := by simp
  rw [e] at h6 ⊢
  exact h6

/-- Operations that read, if they run at all. -/
def plainOp : Op → Bool
  | .move _ | .assign _ | .pick .. | .load .. | .binOp .. | .unOp .. | .convert .. | .fieldAddr .. | .indexAddr .. | .extract .. => true
  | _ => false
theorem not_enter {o : Oper} (h : plainOp o.op = true) (ρ : Operand → Value) (w : World) (f : FuncId) (args : Array Value) (w' : World) : (execOp ρ o).run P w ≠ .ok (.enter f args) w' := by
  have key : ∀ s : Sem Value, (do pure (.value (← s)) : Sem Next).run P w ≠ .ok (.enter f args) w' := fun s => by
    rw [Sem.run_bind]
    cases s.run P w with
    | ok x w1 => simp [Result.andThen]
    | halt x w1 => simp [Result.andThen]
  unfold execOp
  cases ho : o.op <;> simp only [ho, plainOp] at h ⊢ <;> first | (cases h; done) | exact key _ | skip
  all_goals first
    | (simp; done)
    | (rw [Sem.run_bind]
       intro hh
       revert hh
       generalize (asBool _).run P w = r
       cases r <;> simp [Result.andThen])
/-- The worlds of all stages. -/
def InSome (C : Nat → World → Prop) : Type := { w' : World // ∃ t, C t w' }
/-- A stretch of reading operations, by the quiet walk. -/
theorem lexT_seg {Q : Nat → Act → Prop} {s : Nat} : ∀ {l : List Oper} {k : Nat} (n : Nat) {a : Act}, ((l.take n).all (fun o => plainOp o.op) && (List.range n).all (fun i => !ks.contains (k + i))) = true →
    wpQuiet P ops (fun w' => ∃ m : InSome C, w' = m.val) (fun a' => wpLexT P ops ks C Q (l.drop n) (k + n) s a') (l.take n) a → wpLexT P ops ks C Q l k s a
  | l, k, 0, a, _, h => by simpa [wpQuiet] using h
  | [], k, n + 1, a, _, h => by
    simp only [List.take_nil, List.drop_nil, wpQuiet, wpLexT] at h ⊢
    exact h
  | o :: l, k, n + 1, a, hB, h => by
    simp only [List.take_succ_cons, List.all_cons, Bool.and_eq_true, List.all_eq_true, List.mem_range] at hB
    obtain ⟨⟨hp, hps⟩, hr⟩ := hB
    have hk : k ∉ ks := by
      have := hr 0 (by omega)
      simpa using this
    have hrest : ((l.take n).all (fun o => plainOp o.op) && (List.range n).all (fun i => !ks.contains (k + 1 + i))) = true := by
      simp only [Bool.and_eq_true, List.all_eq_true, List.mem_range]
      exact ⟨hps, fun i hi => by have := hr (i + 1) (by omega); rwa [show k + (i + 1) = k + 1 + i by omega] at this⟩
    simp only [List.take_succ_cons, List.drop_succ_cons, wpQuiet] at h
    unfold wpLexT
    rw [if_neg hk]
    have go : ∀ a', wpQuiet P ops (fun w' => ∃ m : InSome C, w' = m.val) (fun a' => wpLexT P ops ks C Q (l.drop n) (k + (n + 1)) s a') (l.take n) a' → wpLexT P ops ks C Q l (k + 1) s a' := fun a' h' =>
      lexT_seg n hrest (by rw [show k + 1 + n = k + (n + 1) by omega]; exact h')
    by_cases hw : Region.wanted o (yielded ops a.tmps) = true
    · rw [if_pos hw] at h
      obtain ⟨v, h1, h2⟩ := h
      refine ⟨v, .inl ⟨hw, ?_⟩, go _ h2⟩
      unfold Yes
      rw [if_neg hk]
      intro t w hC
      have h3 := h1 w ⟨⟨w, t, hC⟩, rfl⟩
      unfold Oper.quietAt at h3
      unfold Reads
      have hne := not_enter (P := P) hp a.eval w
      generalize (execOp a.eval o).run P w = r at *
      cases r with
      | ok nx w' =>
        cases nx <;> simp only [Oper.quietUpon] at h3
        case value u =>
          obtain ⟨e1, e2⟩ := h3
          subst e1 e2
          exact .inl rfl
        case skip =>
          obtain ⟨e1, e2⟩ := h3
          subst e1
          exact .inr ⟨rfl, e2⟩
        case enter f args => exact absurd rfl (hne f args w')
      | halt x w' => simp only [Oper.quietUpon] at h3
    · have hw' : Region.wanted o (yielded ops a.tmps) = false := by simpa using hw
      rw [hw'] at h
      exact ⟨undef, .inr ⟨hw', rfl, hk⟩, go _ (by simpa using h)⟩
/-- A call. -/
theorem lexT_call {Q : Nat → Act → Prop} {s k : Nat} {l : List Oper} {o : Oper} {a : Act} (f : FuncId) (args : Array Value) (v : Value) (hk : (ks.contains k && o.guard.isNone) = true)
    (he : ∀ w, (execOp a.eval o).run P w = .ok (.enter f args) w) (hc : ∀ w, C s w → Calls P f args w fun e w'' => e = .returned v ∧ C (s + 1) w'') (h : wpLexT P ops ks C Q l (k + 1) (s + 1) (a.put o.dst v)) : wpLexT P ops ks C Q (o :: l) k s a := by
  simp only [Bool.and_eq_true, List.contains_iff_mem, Option.isNone_iff_eq_none] at hk
  refine ⟨v, .inl ⟨by simp [Region.wanted, hk.2], ?_⟩, by rw [if_pos hk.1]; exact h⟩
  unfold Yes
  rw [if_pos hk.1]
  exact fun w hw => ⟨f, args, he w, hc w hw⟩
theorem run_enter {f : FuncId} {fn : Func} {args : Array Value} {w : World} (h : P.funcs[f]? = some fn) (hb : (fn.body.isNone || (fn.name == "runtime.NumGoroutine")) = false) : (callFunc f args).run P w = .ok (.enter f args) w := by
  simp only [Bool.or_eq_false_iff] at hb
  have h1 : fn.body ≠ none := fun e => by rw [e] at hb; simp at hb
  have h2 : fn.name ≠ "runtime.NumGoroutine" := fun e => by rw [e] at hb; simp at hb
  unfold callFunc
  simp [go_sem, h, h1, h2]
theorem enter_is {o : Oper} {a : Act} {f : FuncId} {fn : Func} {xs : Array Operand} {ts : Array TypeId} {args : Array Value} (ho : o.op = .call { callee := .value (.func f), args := xs, argTypes := ts }) (hx : xs.map a.eval = args)
    (hf : P.funcs[f]? = some fn) (hb : (fn.body.isNone || (fn.name == "runtime.NumGoroutine")) = false) (w : World) :
    (execOp a.eval o).run P w = .ok (.enter f args) w := by
  subst hx
  unfold execOp
  simp [ho, resolve, invoke, go_sem, run_enter hf hb]
/-- A call, its contract first. -/
theorem lexT_do {Q : Nat → Act → Prop} {s k : Nat} {l : List Oper} {o : Oper} {a : Act} {f : FuncId} {args : Array Value} {v : Value} (hc : ∀ w, C s w → Calls P f args w fun e w'' => e = .returned v ∧ C (s + 1) w'') {fn : Func} (hf : P.funcs[f]? = some fn)
    (hb : (fn.body.isNone || (fn.name == "runtime.NumGoroutine")) = false) {xs : Array Operand} {ts : Array TypeId}
    (ho : o.op = .call { callee := .value (.func f), args := xs, argTypes := ts }) (hk : (ks.contains k && o.guard.isNone) = true)
    (hx : xs.map a.eval = args) (h : wpLexT P ops ks C Q l (k + 1) (s + 1) (a.put o.dst v)) : wpLexT P ops ks C Q (o :: l) k s a :=
  lexT_call f args v hk (enter_is ho hx hf hb) hc h
theorem lexT_nil {Q : Nat → Act → Prop} {s k : Nat} {a : Act} (h : Q s a) : wpLexT P ops ks C Q [] k s a := h
end
end Go.Proofs.Ytlgoiccekgjhnaa
