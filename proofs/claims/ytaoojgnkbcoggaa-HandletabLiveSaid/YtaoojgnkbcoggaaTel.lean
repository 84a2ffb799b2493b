/-
  A range over a function whose elements lie in memory that the iterator makes: a round is told what it may read of its element; every round goes on. No conditions beyond those that the theorem states.
-/
import Derived.Test.YtaoojgnkbcoggaaCell
namespace Go.Proofs.Ytaoojgnkbcoggaa
open Go.RowKit
set_option maxHeartbeats 2000000

/-- A loop's record. -/
def Lrec (fn : FuncId) (tmps : Array Value) (ps : Array Tmp) (assign body : Code) (d : Nat) (st : LoopState) : Loop := { state := st, pending := none, fn := fn, tmps := tmps, params := ps, assign := assign, body := body, defers := d }
/-- The record at block d + 1 is in this state, and the block d for deferred calls is empty. -/
def Bk (d : Nat) (r : Loop) (W : World) : Prop := W.heap[d + 1]? = some (.loop r) ∧ W.heap[d]? = some (.deferred (some []))
section
variable {d : Nat} {r r' : Loop} {W W' : World}
theorem Bk.lt (h : Bk d r W) : d + 1 < W.heap.size := (Array.getElem?_eq_some_iff.1 h.1).1
theorem Bk.from_ (h : Bk d r W) (hk : KeepsFrom d W W') : Bk d r W' := ⟨hk.same _ _ (by omega) h.1 rfl, hk.same _ _ (Nat.le_refl _) h.2 rfl⟩
theorem Bk.turn (h : Bk d r W) : Bk d r' (W.putObj (d + 1) (.loop r')) := ⟨World.putObj_heap_same h.lt, (World.putObj_heap_other (by omega)).trans h.2⟩
theorem Bk.grown {row : Option Nat} (h : Bk d r W) (hg : W.grownBy W' row) (hr : ∀ k, row = some k → ∃ o : Obj, W.heap[k]? = some o ∧ o.isWalk = true) : Bk d r W' := by
  have hne : ∀ k o, W.heap[k]? = some o → o.isWalk = false → some k ≠ row := fun k o ho hw e => by
    obtain ⟨o', h1, h2⟩ := hr k e.symm
    rw [ho] at h1
    cases h1
    rw [hw] at h2
    cases h2
  have hlt := h.lt
  exact ⟨(hg.block _ hlt (hne _ _ h.1 rfl)).trans h.1, (hg.block _ (by omega) (hne _ _ h.2 rfl)).trans h.2⟩
end
theorem range_told {α : Type} {F : Fence} {n : Nat} {P : Program} {g : Operand} {ps : Array Tmp} {assign body : Code} {Q : Exit → Act → World → Prop} {a : Act} {w : World}
    (hro : F.round = none) (h1 : 1 ≤ n) {gf : Nat} {lb : Array Value} (hg : a.eval g = .func (.func gf) #[] lb) (hFg : F.fn gf) (eg : ∀ args w, (callFunc gf args).run P w = .ok (.enter gf args) w)
    {encs : α → Array Value} (hps : ∀ x, (encs x).size = ps.size) (M : List α → α → World → Prop) {Kp : World → World → Prop} (hKt : ∀ {A B C : World}, Kp A B → Kp B C → Kp A C)
    (hKb : ∀ (W : World) (l : Nat) (o o' : Obj), w.heap.size ≤ l → W.heap[l]? = some o → o.isCells = false → o.isWalk = false → Kp W (W.putObj l o')) {S : List α → Prop}
    (hseq : ∀ (l : Nat) (J : List α → World → Prop) (W : World), Below w.heap.size w W → AbidesFrom W.heap.size J →
      (∀ pre x W1, J pre W1 → M pre x W1 → YieldAt F (n - 1 - 1) P l (encs x) W1 fun e W' => e = .returned (.bool true) ∧ J (pre ++ [x]) W' ∧ Kp W1 W') → J [] W →
      CallsIn F (n - 1) P gf (#[.func (.yield l) #[] #[]] ++ lb) W fun e W' => (∃ v, e = .returned v) ∧ ∃ xs, S xs ∧ J xs W')
    (I : List α → World → Prop) (hI : OwnFrom w.heap.size I) (h0 : I [] w) (R : List α → α → Act → World → Prop) (hR : ∀ pre x a', OwnFrom w.heap.size (fun (_ : Unit) W => R pre x a' W))
    (hassign : ∀ (l : Nat) (pre : List α) (x : α) (W : World), I pre W → M pre x W → assign.wpIn (F.inRound l) (n - 1 - 1) P (Exit.then (fun a' Wa => KeepsFrom w.heap.size W Wa ∧ Kp W Wa ∧ R pre x a' Wa) (fun _ _ _ => False))
      { tmps := (ps.zip (encs x)).foldl (fun t (p, v) => t.setIfInBounds p v) a.tmps, defers := [] } W)
    (hbody : ∀ (l : Nat) (pre : List α) (x : α) (a' : Act) (W : World), R pre x a' W → body.wpIn (F.inRound l) (n - 1 - 1) P (fun e _ W' => e = .normal ∧ KeepsFrom w.heap.size W W' ∧ Kp W W' ∧ I (pre ++ [x]) W') a' W)
    (hdone : ∀ (D : Nat) (xs : List α) (W : World), w.heap.size ≤ D → S xs → I xs W → W.heap[D]? = some (.deferred (some [])) → Q .normal { a with defers := { target := .collected D, args := #[] } :: a.defers } W) :
    (Code.rangeFunc g ps assign body).wpIn F n P Q a w := by
  refine wpIn_rangeFunc fun fn hfn => ?_
  rw [hro]
  have hbk : Bk w.heap.size (Lrec fn a.tmps ps assign body w.heap.size .ready) ((w.alloc (.deferred (some []))).alloc (.loop (Lrec fn a.tmps ps assign body w.heap.size .ready))) := by
    have e := World.alloc_heap_new (w.alloc (.deferred (some []))) (.loop (Lrec fn a.tmps ps assign body w.heap.size .ready))
    rw [World.size_alloc] at e
    exact ⟨e, (Below.heap_alloc _ _ _ (by simp)).trans (World.alloc_heap_new w _)⟩
  refine ⟨w.heap.size + 1, [{ target := .collected w.heap.size, args := #[] }], ((w.alloc (.deferred (some []))).alloc (.loop (Lrec fn a.tmps ps assign body w.heap.size .ready))), { target := .fn (.func gf) lb, args := #[.func (.yield (w.heap.size + 1)) #[] #[]] }, ((w.alloc (.deferred (some []))).alloc (.loop (Lrec fn a.tmps ps assign body w.heap.size .ready))), gf, #[.func (.yield (w.heap.size + 1)) #[] #[]] ++ lb, ((w.alloc (.deferred (some []))).alloc (.loop (Lrec fn a.tmps ps assign body w.heap.size .ready))), run_enterLoop_outer fn a.tmps ps assign body, ?_, ?_, ?_, fun _ => h1, ?_⟩
  · simp only [resolve, hg]
    simp [go_sem]
  · intro f' hf'
    simp [Target.leads] at hf'
    subst hf'
    exact hFg
  · simp [invoke, go_sem, eg]
  · have hlow : Below w.heap.size w ((w.alloc (.deferred (some []))).alloc (.loop (Lrec fn a.tmps ps assign body w.heap.size .ready))) := ((Below.refl _ _).alloc (Nat.le_refl _) _).alloc (by simp) _
    have hsz : w.heap.size ≤ ((w.alloc (.deferred (some []))).alloc (.loop (Lrec fn a.tmps ps assign body w.heap.size .ready))).heap.size := hlow.size
    refine (hseq (w.heap.size + 1) (fun pre W => I pre W ∧ Bk w.heap.size (Lrec fn a.tmps ps assign body w.heap.size .ready) W) _ hlow (fun s A B row hs hgr hr => ⟨hI s A B row hs.1 hgr (fun k e => ?_), hs.2.grown hgr (fun k e => (hr k e).2)⟩) ?_
      ⟨hI.alloc _ (hI.alloc _ h0), hbk⟩).mono ?_
    · obtain ⟨hB, o, ho, hwk⟩ := hr k e
      exact ⟨Nat.le_trans hsz hB, o, ho, Obj.not_cells_of_walk hwk⟩
    · rintro pre x W ⟨hi, hk⟩ hm
      refine ⟨fn, _, assign, body, run_yield hk.1 (hps x), roundIn_of_wpIn hfn (wpIn_mono (hassign (w.heap.size + 1) pre x W hi hm) ?_)⟩
      rintro e a' Wa hp
      cases e with
      | normal =>
        obtain ⟨k1, k2, k3⟩ := hp
        have hka := hk.from_ k1
        have hkb : Bk w.heap.size (Lrec fn a.tmps ps assign body w.heap.size .busy) (Wa.putObj (w.heap.size + 1) (.loop (Lrec fn a.tmps ps assign body w.heap.size .busy))) := hka.turn
        refine ⟨_, run_beginRound hka.1 rfl, wpIn_mono (hbody (w.heap.size + 1) pre x a' _ ((hR pre x a').putObj (s := ()) _ k3 (by omega) hka.1 rfl)) ?_⟩
        rintro e a3 W3 ⟨rfl, j1, j2, j3⟩
        have hkc := hkb.from_ j1
        refine ⟨_, _, run_endRound none hkc.1, rfl, ⟨hI.putObj _ j3 (by omega) hkc.1 rfl, hkc.turn⟩, ?_⟩
        exact hKt k2 (hKt (hKb _ _ _ _ (by omega) hka.1 rfl rfl) (hKt j2 (hKb _ _ _ _ (by omega) hkc.1 rfl rfl)))
      | ret => exact hp.elim
      | exit id => exact hp.elim
      | goto t => exact hp.elim
      | panic ch => exact hp.elim
      | outgrown => exact hp.elim
    · rintro e W2 ⟨⟨v, rfl⟩, xs, hS, hi, hk⟩
      exact ⟨none, _, run_endLoop hk.1 (by simp [Lrec]), hdone _ xs _ (Nat.le_refl _) hS (hI.putObj _ hi (by omega) hk.1 rfl) ((World.putObj_heap_other (by omega)).trans hk.2)⟩
/-- The same, where the assignment lays one block. -/
theorem range_told_box {α : Type} {F : Fence} {n : Nat} {P : Program} {g : Operand} {ps : Array Tmp} {assign body : Code} {Q : Exit → Act → World → Prop} {a : Act} {w : World}
    (hro : F.round = none) (h1 : 1 ≤ n) {gf : Nat} {lb : Array Value} (hg : a.eval g = .func (.func gf) #[] lb) (hFg : F.fn gf) (eg : ∀ args w, (callFunc gf args).run P w = .ok (.enter gf args) w)
    {encs : α → Array Value} (hps : ∀ x, (encs x).size = ps.size) (M : List α → α → World → Prop) {Kp : World → World → Prop} (hKt : ∀ {A B C : World}, Kp A B → Kp B C → Kp A C)
    (hKb : ∀ (W : World) (l : Nat) (o o' : Obj), w.heap.size ≤ l → W.heap[l]? = some o → o.isCells = false → o.isWalk = false → Kp W (W.putObj l o')) {S : List α → Prop}
    (hseq : ∀ (l : Nat) (J : List α → World → Prop) (W : World), Below w.heap.size w W → AbidesFrom W.heap.size J →
      (∀ pre x W1, J pre W1 → M pre x W1 → YieldAt F (n - 1 - 1) P l (encs x) W1 fun e W' => e = .returned (.bool true) ∧ J (pre ++ [x]) W' ∧ Kp W1 W') → J [] W →
      CallsIn F (n - 1) P gf (#[.func (.yield l) #[] #[]] ++ lb) W fun e W' => (∃ v, e = .returned v) ∧ ∃ xs, S xs ∧ J xs W')
    (I : List α → World → Prop) (hI : OwnFrom w.heap.size I) (h0 : I [] w) (ff : α → Nat → Act) (RR : List α → α → Nat → World → Prop) (hRR : ∀ pre x b, OwnFrom w.heap.size (fun (_ : Unit) W => RR pre x b W))
    (hassign : ∀ (l : Nat) (pre : List α) (x : α) (W : World), I pre W → M pre x W → assign.wpIn (F.inRound l) (n - 1 - 1) P (Exit.then (fun a' Wa => KeepsFrom w.heap.size W Wa ∧ Kp W Wa ∧ ∃ b, a' = ff x b ∧ RR pre x b Wa) (fun _ _ _ => False))
      { tmps := (ps.zip (encs x)).foldl (fun t (p, v) => t.setIfInBounds p v) a.tmps, defers := [] } W)
    (hbody : ∀ (l : Nat) (pre : List α) (x : α) (b : Nat) (W : World), RR pre x b W → body.wpIn (F.inRound l) (n - 1 - 1) P (fun e _ W' => e = .normal ∧ KeepsFrom w.heap.size W W' ∧ Kp W W' ∧ I (pre ++ [x]) W') (ff x b) W)
    (hdone : ∀ (D : Nat) (xs : List α) (W : World), w.heap.size ≤ D → S xs → I xs W → W.heap[D]? = some (.deferred (some [])) → Q .normal { a with defers := { target := .collected D, args := #[] } :: a.defers } W) :
    (Code.rangeFunc g ps assign body).wpIn F n P Q a w :=
  range_told (Kp := Kp) hro h1 hg hFg eg hps M (fun h k => hKt h k) hKb hseq I hI h0 (fun pre x a' W => ∃ b, a' = ff x b ∧ RR pre x b W) (fun pre x a' s A B row hs hgr hr => by
    obtain ⟨b, h1, h2⟩ := hs
    exact ⟨b, h1, hRR pre x b () A B row h2 hgr hr⟩) hassign (fun l pre x a' W hr => by
    obtain ⟨b, rfl, h2⟩ := hr
    exact hbody l pre x b W h2) hdone
end Go.Proofs.Ytaoojgnkbcoggaa
