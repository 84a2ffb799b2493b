/-
  The landed meter in memory: a struct of limits and a map from plugins to quotas. What stays while other memory changes; what a look-up gives; what a change at one plugin leaves. No conditions beyond those that each lemma states.
-/
import Derived.Test.YtfhpdjlppblkcaaQpu
import Derived.Test.YtfhpdjlppblkcaaKqx
import Derived.Test.YtfhpdjlppblkcaaHnd
import Derived.Maps.OwnOps
import Derived.Maps.OwnSet
import Derived.Maps.Views
namespace Go.Proofs.Ytfhpdjlppblkcaa
open Go.ChangeShapes Go.WideShapes Go.RowKit Go.Maps
set_option linter.unusedVariables false
set_option linter.unusedSimpArgs false
set_option maxHeartbeats 4000000
set_option maxRecDepth 100000

def Ri (o : Int) : Prop := (Lit.int .i64 o).wf = true
/-- A value as itself. -/
def tk (v : Value) : Option (DataW Value × List MemPlace) := some (.held v, [])
theorem law3 : Keyed Try.prog 3 := int_keyed Try.underlying3
theorem key3 {o : Int} (ho : Ri o) : keyOf Try.prog 3 (.int .i64 o) = some (.int .i64 o) := keyOf_int_mk Try.underlying3 ho
theorem lit_ne {o o' : Int} (h : o' ≠ o) : (Lit.int .i64 o' : Lit) ≠ .int .i64 o := fun e => h (by injection e)
theorem isKey3 {o : Int} (ho : Ri o) : WideAt.IsKeyLit (.int .i64 o) := law3.key (key3 ho)
theorem ownsMap_keep {w w' : World} {b n : Nat} {D : DataW Value} {R : Value → Option (DataW Value × List MemPlace)} (h : w.ownsMap Try.prog 3 R b n D) (hb : w'.heap[b]? = w.heap[b]?) : w'.ownsMap Try.prog 3 R b n D := by
  obtain ⟨es, clock, h1, h2⟩ := h
  exact ⟨es, clock, hb.trans h1, h2⟩
/-- The map's value: nil, or the map at a block. -/
def Mpv (w : World) (c : Nat → Nat) (k N : Nat) (mv : Option Nat) (f : Int → Q3) : Prop :=
  (mv = none ∧ ∀ p, Ri p → f p = Q3.nul) ∨ ∃ b, mv = some b ∧ c b = k ∧ ∃ D, w.ownsMap Try.prog 3 tk b N D ∧ ∀ p, Ri p → D.atKey (.int .i64 p) (.held Q3.nul.val) = .held (f p).val
/-- The meter's cells. -/
def mcs (l : Q3) (mv : Option Nat) : Array Value := #[.int .i64 l.b, .int .i64 l.o, .int .i64 l.h, .map mv]
/-- The meter at block m. -/
def Mtr (w : World) (c : Nat → Nat) (k N m : Nat) (l : Q3) (f : Int → Q3) : Prop := c m = k ∧ ∃ mv, w.heap[m]? = some (.cells (mcs l mv) 47 (0, 0)) ∧ Mpv w c k N mv f
section
variable {w w' w1 w2 : World} {c c' : Nat → Nat} {j k b n m N M p : Nat} {mv : Option Nat} {l : Q3} {f : Int → Q3} {q : Q3} {z : Int}
theorem Mpv.kept (h : Mpv w c k N mv f) (hk : Kept c j w w') (hjk : j ≠ k) (hc : ∀ g, g < w.heap.size → c' g = c g) : Mpv w' c' k N mv f := by
  rcases h with h | ⟨b, e, hcb, D, h1, h2⟩
  · exact .inl h
  · exact .inr ⟨b, e, (hc b h1.lt).trans hcb, D, ownsMap_keep h1 (hk.block b h1.lt (by omega)), h2⟩
theorem Mtr.lt (h : Mtr w c k N m l f) : m < w.heap.size := by
  obtain ⟨_, mv, h2, _⟩ := h
  exact (Array.getElem?_eq_some_iff.1 h2).1
theorem Mtr.kept (h : Mtr w c k N m l f) (hk : Kept c j w w') (hjk : j ≠ k) (hc : ∀ g, g < w.heap.size → c' g = c g) : Mtr w' c' k N m l f := by
  have hp := h.lt
  obtain ⟨h1, mv, h2, h3⟩ := h
  exact ⟨(hc m hp).trans h1, mv, (hk.block m hp (by omega)).trans h2, h3.kept hk hjk hc⟩
theorem Mpv.mono (h : Mpv w c k N mv f) (hN : N ≤ M) : Mpv w c k M mv f := by
  rcases h with h | ⟨b, e, hcb, D, h1, h2⟩
  · exact .inl h
  · exact .inr ⟨b, e, hcb, D, h1.mono hN, h2⟩
theorem Mtr.mono (h : Mtr w c k N m l f) (hN : N ≤ M) : Mtr w c k M m l f := by
  obtain ⟨h1, mv, h2, h3⟩ := h
  exact ⟨h1, mv, h2, h3.mono hN⟩
theorem Mpv.go (h : Mpv w c k N mv f) (hb : Below w.heap.size w w') : Mpv w' c k N mv f := h.kept (j := k + 1) (Kept.ofBelow hb) (by omega) (fun _ _ => rfl)
theorem Mtr.go (h : Mtr w c k N m l f) (hb : Below w.heap.size w w') : Mtr w' c k N m l f := h.kept (j := k + 1) (Kept.ofBelow hb) (by omega) (fun _ _ => rfl)
/-- The cells of a meter, as a walk reads them. -/
theorem meter_cells {t : TypeId} {l0 l1 l2 v : Value} (h : w.heap[m]? = some (.cells #[l0, l1, l2, v] t (0, 0))) : w.cell? ⟨m, 0, none⟩ = some l0 ∧ w.cell? ⟨m, 1, none⟩ = some l1 ∧ w.cell? ⟨m, 2, none⟩ = some l2 ∧ w.cell? ⟨m, 3, none⟩ = some v :=
  ⟨cell_of_row w m 0 _ _ _ h, cell_of_row w m 1 _ _ _ h, cell_of_row w m 2 _ _ _ h, cell_of_row w m 3 _ _ _ h⟩
theorem zeroQ (w : World) : (zeroValue 25).run Try.prog w = .ok Q3.nul.val w := Try.zeroValue25 w
/-- A look-up. -/
theorem Mpv.look (h : Mpv w c k N mv f) (hz : Ri z) : (Instr.lookup 45 (.map mv) (.int .i64 z) false).run Try.prog w = .ok (f z).val w := by
  rcases h with ⟨rfl, h⟩ | ⟨b, rfl, hcb, D, h2, h3⟩
  · rw [h z hz]
    exact look_nil false law3 Try.underlying45 (zeroQ w) (key3 hz)
  · obtain ⟨v, ps, hrun, hv⟩ := h2.lookup law3 Try.underlying45 (zeroQ w) (zd := .held Q3.nul.val) (zp := []) rfl (key3 hz)
    rw [h3 z hz] at hv
    unfold tk at hv
    have e : v = (f z).val := by
      injection hv with hv
      injection hv with h4 _
      injection h4
    subst e
    exact hrun
/-- A meter in which nobody has anything. -/
theorem Mtr.made (w : World) (c : Nat → Nat) (k : Nat) (l : Q3) : Mtr (w.alloc (.cells (mcs l none) 47)) (rc c w.heap.size k) k 0 w.heap.size l fun _ => Q3.nul :=
  ⟨rc_new (Nat.le_refl _), none, heap_alloc_new w _, .inl ⟨rfl, fun _ _ => rfl⟩⟩
theorem Kept.then {w1 w2 : World} {c' : Nat → Nat} (h : Kept c k w w1) (hc : ∀ g, g < w.heap.size → c' g = c g) (h' : Kept c' k w1 w2) : Kept c k w w2 :=
  ⟨h'.os.trans h.os, h'.tape.trans h.tape, h'.output.trans h.output, Nat.le_trans h.size h'.size, fun g hg hk => (h'.block g (Nat.lt_of_lt_of_le hg h.size) (by rw [hc g hg]; exact hk)).trans (h.block g hg hk)⟩
theorem rc_rc {n n1 : Nat} (h : n ≤ n1) : rc (rc c n k) n1 k = rc c n k := by
  funext g
  rcases Nat.lt_or_ge g n1 with h1 | h1
  · rw [rc_old h1]
  · rw [rc_new h1, rc_new (by omega)]
theorem Mtr.later {w1 : World} (H : Mtr w c k N m l f) (hb : Below w.heap.size w w1) : Mtr w1 (rc c w.heap.size k) k N m l f := H.kept (j := k + 1) (Kept.ofBelow hb) (by omega) (fun g hg => rc_old hg)
/-- The map's block is another one than the meter's. -/
theorem map_ne {D : DataW Value} {cs : Array Value} {t : TypeId} (h : w.heap[m]? = some (.cells cs t (0, 0))) (ho : w.ownsMap Try.prog 3 tk b n D) : b ≠ m := fun e => by
  obtain ⟨es, clock, h1, _⟩ := ho
  rw [e, h] at h1
  cases h1
/-- Behind a change of the map. -/
theorem Mtr.turn {D' : DataW Value} (hcm : c m = k) (hm : w.heap[m]? = some (.cells (mcs l (some b)) 47 (0, 0))) (hcb : c b = k) (hbl : b < w.heap.size) (hbm : b ≠ m) (hg : w.grownBy w' (some b)) (ho : w'.ownsMap Try.prog 3 tk b M D')
    (hD : ∀ p, Ri p → D'.atKey (.int .i64 p) (.held Q3.nul.val) = .held (f p).val) : Mtr w' (rc c w.heap.size k) k M m l f ∧ Kept c k w w' := by
  have hml : m < w.heap.size := (Array.getElem?_eq_some_iff.1 hm).1
  exact ⟨⟨by rw [rc_old hml]; exact hcm, some b, (hg.block m hml (fun e => hbm (Option.some.inj e).symm)).trans hm, .inr ⟨b, rfl, by rw [rc_old hbl]; exact hcb, D', ho, hD⟩⟩, Kept.ofGrown hg (fun g e => by cases e; exact hcb)⟩
/-- A nil map is replaced by an empty one. -/
theorem Mtr.mapped (hcm : c m = k) (hm : w.heap[m]? = some (.cells (mcs l none) 47 (0, 0))) :
    ((w.alloc (.map #[] 0)).setCell ⟨m, 3, none⟩ (.map (some w.heap.size))).heap[m]? = some (.cells (mcs l (some w.heap.size)) 47 (0, 0)) ∧ rc c w.heap.size k w.heap.size = k ∧
      ((w.alloc (.map #[] 0)).setCell ⟨m, 3, none⟩ (.map (some w.heap.size))).ownsMap Try.prog 3 tk w.heap.size 0 (.map []) ∧ Kept c k w ((w.alloc (.map #[] 0)).setCell ⟨m, 3, none⟩ (.map (some w.heap.size))) := by
  have hml : m < w.heap.size := (Array.getElem?_eq_some_iff.1 hm).1
  have h1 := World.ownsMap_made w Try.prog 3 tk
  have h2 : (w.alloc (.map #[] 0)).heap[m]? = some (.cells (mcs l none) 47 (0, 0)) := (Below.heap_alloc w _ m hml).trans hm
  refine ⟨heap_setCell_same _ m 3 _ _ _ h2, rc_new (Nat.le_refl _), h1.setCell (by simp only; omega) _, ?_⟩
  exact (Kept.ofBelow ((Below.refl _ _).alloc (Nat.le_refl _) _)).trans (Kept.ofGrown (run_setAt _ m 3 _) (fun g e => by cases e; exact hcm))
theorem put_fun {D : DataW Value} (hM : IsMap D) (hz : Ri z) (h : ∀ p, Ri p → D.atKey (.int .i64 p) (.held Q3.nul.val) = .held (f p).val) : ∀ p, Ri p → (D.put (.int .i64 z) (.held q.val)).atKey (.int .i64 p) (.held Q3.nul.val) = .held (upd f z q p).val := fun p hp => by
  by_cases e : p = z
  · subst e
    rw [upd_at, atKey_put_same hM (isKey3 hp)]
  · rw [upd_ne e, atKey_put_other (lit_ne e), h p hp]
theorem del_fun {D : DataW Value} (hz : Ri z) (h : ∀ p, Ri p → D.atKey (.int .i64 p) (.held Q3.nul.val) = .held (f p).val) : ∀ p, Ri p → (D.del (.int .i64 z)).atKey (.int .i64 p) (.held Q3.nul.val) = .held (upd f z Q3.nul p).val := fun p hp => by
  by_cases e : p = z
  · subst e
    rw [upd_at, atKey_del_same]
  · rw [upd_ne e, atKey_del_other (lit_ne e), h p hp]
end
end Go.Proofs.Ytfhpdjlppblkcaa
