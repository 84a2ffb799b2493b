/-
  Ranges over functions whose elements lie in new memory, regions that draw their order within a round, and what a round keeps: one text of four. No conditions beyond those that each theorem states.
-/
import Derived.Test.YtlgoiccekgjhnaaCell
import Derived.Test.YtlgoiccekgjhnaaKqx
import Derived.OrdersIn
namespace Go.Proofs.Ytlgoiccekgjhnaa
open Go.ChangeShapes Go.WideShapes Go.ChangeAt Go.RowKit Go.Shelf
set_option linter.unusedVariables false
set_option linter.unusedSimpArgs false
set_option maxHeartbeats 4000000
set_option maxRecDepth 100000


/-- A loop's record. -/
def Lrec (fn : FuncId) (tmps : Array Value) (ps : Array Tmp) (assign body : Code) (d : Nat) (st : LoopState) : Loop := { state := st, pending := none, fn := fn, tmps := tmps, params := ps, assign := assign, body := body, defers := d }
/-- The record at block d + 1 is in this state, and the block d for deferred calls is empty. -/
def Bk (d : Nat) (r : Loop) (W : World) : Prop := W.heap[d + 1]? = some (.loop r) ∧ W.heap[d]? = some (.deferred (some []))
section
variable {d : Nat} {r r' : Loop} {W W' : World}
theorem Bk.lt (h : Bk d r W) : d + 1 < W.heap.size := (Array.getElem?_eq_some_iff.1 h.1).1
theorem Bk.from_ (h : Bk d r W) (hk : KeepsFrom d W W') : Bk d r W' := ⟨hk.same _ _ (by omega) h.1 rfl, hk.same _ _ (Nat.le_refl _) h.2 rfl⟩
theorem Bk.turn (h : Bk d r W) : Bk d r' (W.putObj (d + 1) (.loop r')) := ⟨World.putObj_heap_same h.lt, (World.putObj_heap_other (by omega)).trans h.2⟩
theorem Bk.grown {row : Option Nat} (h : Bk d r W) (hg : W.grownBy W' row) (hr : ∀ k, row = some k → ∃ o : Obj, W.heap[k]? = some o ∧ o.isWalk = true) : Bk d r W' := by
  have hne : ∀ k o, W.heap[k]? = some o → o.isWalk = false → some k ≠ row := fun k o ho hw e => by
    obtain ⟨o', h1, h2⟩ := hr k e.symm
    rw [ho] at h1
    cases h1
    rw [hw] at h2
    cases h2
  have hlt := h.lt
  exact ⟨(hg.block _ hlt (hne _ _ h.1 rfl)).trans h.1, (hg.block _ (by omega) (hne _ _ h.2 rfl)).trans h.2⟩
end
theorem range_told {α : Type} {F : Fence} {n : Nat} {P : Program} {g : Operand} {ps : Array Tmp} {assign body : Code} {Q : Exit → Act → World → Prop} {a : Act} {w : World}
    (hro : F.round = none) (h1 : 1 ≤ n) {gf : Nat} {lb : Array Value} (hg : a.eval g = .func (.func gf) #[] lb) (hFg : F.fn gf) (eg : ∀ args w, (callFunc gf args).run P w = .ok (.enter gf args) w)
    {encs : α → Array Value} (hps : ∀ x, (encs x).size = ps.size) (M : List α → α → World → Prop) {Kp : World → World → Prop} (hKt : ∀ {A B C : World}, Kp A B → Kp B C → Kp A C)
    (hKb : ∀ (W : World) (l : Nat) (o o' : Obj), w.heap.size ≤ l → W.heap[l]? = some o → o.isCells = false → o.isWalk = false → Kp W (W.putObj l o')) {S : List α → Prop}
    (hseq : ∀ (l : Nat) (J : List α → World → Prop) (W : World), Below w.heap.size w W → AbidesFrom W.heap.size J →
      (∀ pre x W1, J pre W1 → M pre x W1 → YieldAt F (n - 1 - 1) P l (encs x) W1 fun e W' => e = .returned (.bool true) ∧ J (pre ++ [x]) W' ∧ Kp W1 W') → J [] W →
      CallsIn F (n - 1) P gf (#[.func (.yield l) #[] #[]] ++ lb) W fun e W' => (∃ v, e = .returned v) ∧ ∃ xs, S xs ∧ J xs W')
    (I : List α → World → Prop) (hI : OwnFrom w.heap.size I) (h0 : I [] w) (R : List α → α → Act → World → Prop) (hR : ∀ pre x a', OwnFrom w.heap.size (fun (_ : Unit) W => R pre x a' W))
    (hassign : ∀ (l : Nat) (pre : List α) (x : α) (W : World), I pre W → M pre x W → assign.wpIn (F.inRound l) (n - 1 - 1) P (Exit.then (fun a' Wa => KeepsFrom w.heap.size W Wa ∧ Kp W Wa ∧ R pre x a' Wa) (fun _ _ _ => False))
      { tmps := (ps.zip (encs x)).foldl (fun t (p, v) => t.setIfInBounds p v) a.tmps, defers := [] } W)
    (hbody : ∀ (l : Nat) (pre : List α) (x : α) (a' : Act) (W : World), R pre x a' W → body.wpIn (F.inRound l) (n - 1 - 1) P (fun e _ W' => e = .normal ∧ KeepsFrom w.heap.size W W' ∧ Kp W W' ∧ I (pre ++ [x]) W') a' W)
    (hdone : ∀ (D : Nat) (xs : List α) (W : World), w.heap.size ≤ D → S xs → I xs W → W.heap[D]? = some (.deferred (some [])) → Q .normal { a with defers := { target := .collected D, args := #[] } :: a.defers } W) :
    (Code.rangeFunc g ps assign body).wpIn F n P Q a w := by
  refine wpIn_rangeFunc fun fn hfn => ?_
  rw [hro]
  have hbk : Bk w.heap.size (Lrec fn a.tmps ps assign body w.heap.size .ready) ((w.alloc (.deferred (some []))).alloc (.loop (Lrec fn a.tmps ps assign body w.heap.size .ready))) := by
    have e := World.alloc_heap_new (w.alloc (.deferred (some []))) (.loop (Lrec fn a.tmps ps assign body w.heap.size .ready))
    rw [World.size_alloc] at e
    exact ⟨e, (Below.heap_alloc _ _ _ (by simp)).trans (World.alloc_heap_new w _)⟩
  refine ⟨w.heap.size + 1, [{ target := .collected w.heap.size, args := #[] }], ((w.alloc (.deferred (some []))).alloc (.loop (Lrec fn a.tmps ps assign body w.heap.size .ready))), { target := .fn (.func gf) lb, args := #[.func (.yield (w.heap.size + 1)) #[] #[]] }, ((w.alloc (.deferred (some []))).alloc (.loop (Lrec fn a.tmps ps assign body w.heap.size .ready))), gf, #[.func (.yield (w.heap.size + 1)) #[] #[]] ++ lb, ((w.alloc (.deferred (some []))).alloc (.loop (Lrec fn a.tmps ps assign body w.heap.size .ready))), run_enterLoop_outer fn a.tmps ps assign body, ?_, ?_, ?_, fun _ => h1, ?_⟩
  · simp only [resolve, hg]
    simp [go_sem]
  · intro f' hf'
    simp [Target.leads] at hf'
    subst hf'
    exact hFg
  · simp [invoke, go_sem, eg]
  · have hlow : Below w.heap.size w ((w.alloc (.deferred (some []))).alloc (.loop (Lrec fn a.tmps ps assign body w.heap.size .ready))) := ((Below.refl _ _).alloc (Nat.le_refl _) _).alloc (by simp) _
    have hsz : w.heap.size ≤ ((w.alloc (.deferred (some []))).alloc (.loop (Lrec fn a.tmps ps assign body w.heap.size .ready))).heap.size := hlow.size
    refine (hseq (w.heap.size + 1) (fun pre W => I pre W ∧ Bk w.heap.size (Lrec fn a.tmps ps assign body w.heap.size .ready) W) _ hlow (fun s A B row hs hgr hr => ⟨hI s A B row hs.1 hgr (fun k e => ?_), hs.2.grown hgr (fun k e => (hr k e).2)⟩) ?_
      ⟨hI.alloc _ (hI.alloc _ h0), hbk⟩).mono ?_
    · obtain ⟨hB, o, ho, hwk⟩ := hr k e
      exact ⟨Nat.le_trans hsz hB, o, ho, Obj.not_cells_of_walk hwk⟩
    · rintro pre x W ⟨hi, hk⟩ hm
      refine ⟨fn, _, assign, body, run_yield hk.1 (hps x), roundIn_of_wpIn hfn (wpIn_mono (hassign (w.heap.size + 1) pre x W hi hm) ?_)⟩
      rintro e a' Wa hp
      cases e with
      | normal =>
        obtain ⟨k1, k2, k3⟩ := hp
        have hka := hk.from_ k1
        have hkb : Bk w.heap.size (Lrec fn a.tmps ps assign body w.heap.size .busy) (Wa.putObj (w.heap.size + 1) (.loop (Lrec fn a.tmps ps assign body w.heap.size .busy))) := hka.turn
        refine ⟨_, run_beginRound hka.1 rfl, wpIn_mono (hbody (w.heap.size + 1) pre x a' _ ((hR pre x a').putObj (s := ()) _ k3 (by omega) hka.1 rfl)) ?_⟩
        rintro e a3 W3 ⟨rfl, j1, j2, j3⟩
        have hkc := hkb.from_ j1
        refine ⟨_, _, run_endRound none hkc.1, rfl, ⟨hI.putObj _ j3 (by omega) hkc.1 rfl, hkc.turn⟩, ?_⟩
        exact hKt k2 (hKt (hKb _ _ _ _ (by omega) hka.1 rfl rfl) (hKt j2 (hKb _ _ _ _ (by omega) hkc.1 rfl rfl)))
      | ret => exact hp.elim
      | exit id => exact hp.elim
      | goto t => exact hp.elim
      | panic ch => exact hp.elim
      | outgrown => exact hp.elim
    · rintro e W2 ⟨⟨v, rfl⟩, xs, hS, hi, hk⟩
      exact ⟨none, _, run_endLoop hk.1 (by simp [Lrec]), hdone _ xs _ (Nat.le_refl _) hS (hI.putObj _ hi (by omega) hk.1 rfl) ((World.putObj_heap_other (by omega)).trans hk.2)⟩
/-- The same, where the assignment lays one block. -/
theorem range_told_box {α : Type} {F : Fence} {n : Nat} {P : Program} {g : Operand} {ps : Array Tmp} {assign body : Code} {Q : Exit → Act → World → Prop} {a : Act} {w : World}
    (hro : F.round = none) (h1 : 1 ≤ n) {gf : Nat} {lb : Array Value} (hg : a.eval g = .func (.func gf) #[] lb) (hFg : F.fn gf) (eg : ∀ args w, (callFunc gf args).run P w = .ok (.enter gf args) w)
    {encs : α → Array Value} (hps : ∀ x, (encs x).size = ps.size) (M : List α → α → World → Prop) {Kp : World → World → Prop} (hKt : ∀ {A B C : World}, Kp A B → Kp B C → Kp A C)
    (hKb : ∀ (W : World) (l : Nat) (o o' : Obj), w.heap.size ≤ l → W.heap[l]? = some o → o.isCells = false → o.isWalk = false → Kp W (W.putObj l o')) {S : List α → Prop}
    (hseq : ∀ (l : Nat) (J : List α → World → Prop) (W : World), Below w.heap.size w W → AbidesFrom W.heap.size J →
      (∀ pre x W1, J pre W1 → M pre x W1 → YieldAt F (n - 1 - 1) P l (encs x) W1 fun e W' => e = .returned (.bool true) ∧ J (pre ++ [x]) W' ∧ Kp W1 W') → J [] W →
      CallsIn F (n - 1) P gf (#[.func (.yield l) #[] #[]] ++ lb) W fun e W' => (∃ v, e = .returned v) ∧ ∃ xs, S xs ∧ J xs W')
    (I : List α → World → Prop) (hI : OwnFrom w.heap.size I) (h0 : I [] w) (ff : α → Nat → Act) (RR : List α → α → Nat → World → Prop) (hRR : ∀ pre x b, OwnFrom w.heap.size (fun (_ : Unit) W => RR pre x b W))
    (hassign : ∀ (l : Nat) (pre : List α) (x : α) (W : World), I pre W → M pre x W → assign.wpIn (F.inRound l) (n - 1 - 1) P (Exit.then (fun a' Wa => KeepsFrom w.heap.size W Wa ∧ Kp W Wa ∧ ∃ b, a' = ff x b ∧ RR pre x b Wa) (fun _ _ _ => False))
      { tmps := (ps.zip (encs x)).foldl (fun t (p, v) => t.setIfInBounds p v) a.tmps, defers := [] } W)
    (hbody : ∀ (l : Nat) (pre : List α) (x : α) (b : Nat) (W : World), RR pre x b W → body.wpIn (F.inRound l) (n - 1 - 1) P (fun e _ W' => e = .normal ∧ KeepsFrom w.heap.size W W' ∧ Kp W W' ∧ I (pre ++ [x]) W') (ff x b) W)
    (hdone : ∀ (D : Nat) (xs : List α) (W : World), w.heap.size ≤ D → S xs → I xs W → W.heap[D]? = some (.deferred (some [])) → Q .normal { a with defers := { target := .collected D, args := #[] } :: a.defers } W) :
    (Code.rangeFunc g ps assign body).wpIn F n P Q a w :=
  range_told (Kp := Kp) hro h1 hg hFg eg hps M (fun h k => hKt h k) hKb hseq I hI h0 (fun pre x a' W => ∃ b, a' = ff x b ∧ RR pre x b W) (fun pre x a' s A B row hs hgr hr => by
    obtain ⟨b, h1, h2⟩ := hs
    exact ⟨b, h1, hRR pre x b () A B row h2 hgr hr⟩) hassign (fun l pre x a' W hr => by
    obtain ⟨b, rfl, h2⟩ := hr
    exact hbody l pre x b W h2) hdone

section
variable {P : Program} {C : World → Prop} {lp n : Nat}
theorem round_op {o : Oper} {a : Act} {K : Act → Prop} {K' : Act → World → Prop} {Q' : Exit → Act → World → Prop} {w : World} (hnd : ∀ c, o.op ≠ .defer c) (hw : C w) (h : ∀ a w', C w' → K a → K' a w') (hh : o.quiet P a C K) :
    o.wpIn (Fence.wide.inRound lp) n P a w K' Q' := by
  obtain ⟨v, h1, h2⟩ := hh
  have h3 := h1 w hw
  unfold Oper.quietAt at h3
  unfold Oper.wpIn
  refine ⟨fun _ _ => trivial, ?_⟩
  rw [Fence.inRound_round, Oper.semAt_some _ _ _ hnd]
  generalize (execOp a.eval o).run P w = r at *
  cases r with
  | halt x w' => exact h3.elim
  | ok x w' =>
    cases x <;> simp only [Oper.quietUpon] at h3 <;> simp only [Oper.uponIn]
    case value u =>
      obtain ⟨rfl, rfl⟩ := h3
      exact h _ _ hw h2
    case skip =>
      obtain ⟨rfl, rfl⟩ := h3
      exact h _ _ hw h2
    case enter f args =>
      obtain ⟨rfl, hc⟩ := h3
      refine ⟨fun hd => (by cases hd), CallsIn.inRound lp (callsIn_wide.2 (hc.mono fun e w'' he => ?_))⟩
      obtain ⟨rfl, hw''⟩ := he
      exact h _ _ hw'' h2
theorem round_any {ops : Array Oper} {md : Region.Mode} {Q : Act → Prop} {Q' : Exit → Act → World → Prop} (hnd : ∀ (i : Nat) (o : Oper), ops[i]? = some o → ∀ c, o.op ≠ .defer c) (hQ : ∀ a w, C w → Q a → Q' .normal a w) :
    ∀ (fuel : Nat) (listed : Array Bool) (a : Act) (w : World), C w → wpAnyQ P md ops C Q fuel listed a → wpAnyIn (Fence.wide.inRound lp) n P md ops Q' fuel listed a w
  | 0, _, _, _, hw, h => ⟨h.1, hQ _ _ hw h.2⟩
  | fuel + 1, listed, a, w, hw, h => by
    refine ⟨fun h0 => hQ _ _ hw (h.1 h0), fun i hi => ?_⟩
    have h1 := h.2 i hi
    unfold qOp at h1
    unfold wpOpIn
    cases ho : ops[i]? with
    | none =>
      simp only [ho] at h1
      exact round_any hnd hQ fuel _ a w hw h1
    | some o =>
      simp only [ho] at h1 ⊢
      split at h1
      · rename_i hwt
        rw [if_pos hwt]
        exact round_op (hnd i o ho) hw (fun a' w' hw' hk => round_any hnd hQ fuel _ a' w' hw' hk) h1
      · rename_i hwt
        rw [if_neg hwt]
        exact ⟨fun _ _ => trivial, round_any hnd hQ fuel _ _ w hw h1⟩
/-- No operation is a defer statement. -/
def noDefer (l : List Oper) : Bool := l.all fun o => match o.op with
  | .defer _ => false
  | _ => true
theorem round_region {id : Nat} {Q : Exit → Act → World → Prop} {a : Act} {W : World} {l : List Oper} (hm : P.follows .mixedOrders = true) (hB : Region.lexB .any l.toArray = true) (hD : noDefer l = true)
    (h : wpQuiet P l.toArray (fun w' => ∃ m : Later W, w' = m.val) (fun a' => ∀ w', (∃ m : Later W, w' = m.val) → Q .normal a' w') l a) : (Code.region id l.toArray true).wpIn (Fence.wide.inRound lp) n P Q a W := by
  simp only [Region.lexB, Bool.and_eq_true] at hB
  refine wpIn_region_any hm (round_any (C := fun w' => ∃ m : Later W, w' = m.val) (Q := fun a' => ∀ w', (∃ m : Later W, w' = m.val) → Q .normal a' w') (fun i o ho c e => ?_) (fun _ w' hw' h => h w' hw') _ _ _ _ ⟨⟨W.drewN 1, below_drewN (Below.refl _ _) 1⟩, rfl⟩ ?_)
  · have h1 := List.all_eq_true.1 hD o (List.mem_of_getElem? (by simpa using ho))
    simp only [e] at h1
    cases h1
  · have := wpAnyQ_lex (C := fun w' => ∃ m : Later W, w' = m.val) (md := .any) hB.1 l 0 (Array.replicate l.toArray.size false) a (by simp) (by simpa using hB.2) h
    simpa using this
end

/-- What a round keeps: all cells but those of one block. -/
def Ko (kb : Nat) (A B : World) : Prop := A.heap.size ≤ B.heap.size ∧ ∀ (g : Nat) (cs : Array Value) (t : TypeId) (fr : Nat × Nat), g ≠ kb → A.heap[g]? = some (.cells cs t fr) → B.heap[g]? = some (.cells cs t fr)
section
variable {kb : Nat} {A B C : World}
theorem Ko.refl : Ko kb A A := ⟨Nat.le_refl _, fun _ _ _ _ _ h => h⟩
theorem Ko.t (h : Ko kb A B) (k : Ko kb B C) : Ko kb A C := ⟨Nat.le_trans h.1 k.1, fun g cs t fr hg hc => k.2 g cs t fr hg (h.2 g cs t fr hg hc)⟩
theorem Ko.b (W : World) (l : Nat) (o o' : Obj) (h : W.heap[l]? = some o) (hc : o.isCells = false) : Ko kb W (W.putObj l o') :=
  ⟨by simp, fun g cs t fr _ hcell => by
    have hne : g ≠ l := fun e => by
      rw [e, h] at hcell
      cases hcell
      simp [Obj.isCells] at hc
    rw [World.putObj_heap_other hne]
    exact hcell⟩
theorem Ko.below (h : Below A.heap.size A B) : Ko kb A B := ⟨h.size, fun g cs t fr _ hcell => by
  rw [h.block g (Array.getElem?_eq_some_iff.1 hcell).1]
  exact hcell⟩
theorem Ko.set (u : Value) : Ko kb A (A.setCell ⟨kb, 0, none⟩ u) := ⟨by simp, fun g cs t fr hg hcell => by
  rw [(grownBy_setCell' A kb u).block g (Array.getElem?_eq_some_iff.1 hcell).1 (fun e => hg (by cases e; rfl))]
  exact hcell⟩
theorem Ko.cell (h : Ko kb A B) {b o : Nat} {v : Value} (hb : b ≠ kb) (hc : A.cell? ⟨b, o, none⟩ = some v) : B.cell? ⟨b, o, none⟩ = some v := by
  have : ∃ cs t fr, A.heap[b]? = some (.cells cs t fr) := by
    unfold World.cell? at hc
    split at hc
    · exact ⟨_, _, _, by assumption⟩
    · cases hc
  obtain ⟨cs, t, fr, hh⟩ := this
  rw [← hc]
  exact World.cell?_of_block ((h.2 b cs t fr hb hh).trans hh.symm)
end
/-- What a round keeps: all cells but two boxes and the row that the first one holds. -/
def Kr (b1 b2 : Nat) (A B : World) : Prop := A.heap.size ≤ B.heap.size ∧ (∀ (g : Nat) (cs : Array Value) (t : TypeId) (fr : Nat × Nat), A.heap[g]? = some (.cells cs t fr) → g ≠ b1 → g ≠ b2 → ob b1 A ≠ some g → B.heap[g]? = some (.cells cs t fr)) ∧ (ob b1 B = ob b1 A ∨ ∀ g, ob b1 B = some g → A.heap.size ≤ g)
section
variable {b1 b2 : Nat} {A B C : World}
theorem Kr.t (h : Kr b1 b2 A B) (k : Kr b1 b2 B C) : Kr b1 b2 A C := by
  obtain ⟨h1, h2, h3⟩ := h
  obtain ⟨k1, k2, k3⟩ := k
  refine ⟨Nat.le_trans h1 k1, fun g cs t fr hg hne hne2 ho => k2 g cs t fr (h2 g cs t fr hg hne hne2 ho) hne hne2 (fun e => ?_), ?_⟩
  · rcases h3 with h3 | h3
    · exact ho (h3 ▸ e)
    · have := h3 g e
      have := (Array.getElem?_eq_some_iff.1 hg).1
      omega
  · rcases k3 with k3 | k3
    · rw [k3]
      exact h3
    · exact .inr fun g hg => Nat.le_trans h1 (k3 g hg)
theorem Kr.of (h : Kq b1 A B) : Kr b1 b2 A B := ⟨h.1, fun g cs t fr hg hne _ ho => h.2.1 g cs t fr hg hne ho, h.2.2⟩
theorem Kr.b (w : World) (hbx : b1 < w.heap.size) (W : World) (l : Nat) (o o' : Obj) (hl : w.heap.size ≤ l) (h : W.heap[l]? = some o) (hc : o.isCells = false) (hw : o.isWalk = false) : Kr b1 b2 W (W.putObj l o') := Kr.of (Kq.b w hbx W l o o' hl h hc hw)
theorem Kr.set (hne : b1 ≠ b2) (u : Value) : Kr b1 b2 A (A.setCell ⟨b2, 0, none⟩ u) := by
  have hs := run_setOwn A b2 u
  refine ⟨hs.size, fun g cs t fr hg _ h2 _ => (hs.block g (Array.getElem?_eq_some_iff.1 hg).1 (fun e => h2 (Option.some.inj e))).trans hg, .inl ?_⟩
  unfold ob
  rw [World.cell?_of_block (w := A) (w' := A.setCell ⟨b2, 0, none⟩ u) (a := ⟨b1, 0, none⟩) (heap_setCell_other A ⟨b2, 0, none⟩ b1 u (fun e => hne e))]
end
theorem Cel.grown {W W' : World} {b : Nat} {t : TypeId} {v : Value} {row : Option Nat} (h : Cel W b t v) (hg : W.grownBy W' row) (hr : ∀ r, row = some r → ∃ o : Obj, W.heap[r]? = some o ∧ o.isCells = false) : Cel W' b t v := by
  refine (hg.block b h.lt (fun e => ?_)).trans h
  obtain ⟨o, ho1, ho2⟩ := hr b e.symm
  unfold Cel at h
  rw [h] at ho1
  cases ho1
  simp [Obj.isCells] at ho2
end Go.Proofs.Ytlgoiccekgjhnaa
