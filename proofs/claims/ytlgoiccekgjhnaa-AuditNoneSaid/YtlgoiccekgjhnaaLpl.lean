/-
  A landed log beside its model, a tape and two boxes with events: every call of either side as one contract. Conditions: at most a thousand records and missed events.
-/
import Derived.Test.YtlgoiccekgjhnaaLal
namespace Go.Proofs.Ytlgoiccekgjhnaa
open Go.ChangeShapes Go.WideShapes Go.ChangeAt Go.RowKit
set_option linter.unusedVariables false
set_option linter.unusedSimpArgs false
set_option maxHeartbeats 4000000
set_option maxRecDepth 100000

theorem Kept.ofOth {w w' : World} {c : Nat → Nat} {k b : Nat} (h : Oth b w w') (hc : c b = k) : Kept c k w w' := ⟨h.os, h.tape, h.output, h.size, fun g hg hne => h.block g hg (fun e => hne (by rw [e]; exact hc))⟩
theorem EvB.tape {w : World} {b tb i : Nat} {p o h a e : Int} {L : List Int} (x : EvB w b p o h a e) (t : TS w tb L i) : b ≠ tb := fun e' => by
  obtain ⟨A, m, c, ht, _⟩ := t
  unfold EvB at x
  unfold Tap at ht
  rw [e', ht] at x
  injection x with x
  injection x with x1 x2
  exact absurd x2 (by decide)
theorem TS.keptP {w w' : World} {c : Nat → Nat} {k tb i : Nat} {L : List Int} (h : TS w tb L i) (hk : Kept c k w w') (htb : c tb ≠ k) (hp : ∀ g, g < tb → c g = k → ∀ o x, w.cell? ⟨g, o, none⟩ ≠ some (.int .u16 x)) : TS w' tb L i := by
  have hlt := h.lt
  obtain ⟨A, m, cc, ht, hr⟩ := h
  refine ⟨A, m, cc, (hk.block tb hlt htb).trans ht, ⟨hr.len, hr.cap, hr.small, hr.nil, fun hm => ?_⟩⟩
  obtain ⟨b, o, rfl, hb, hcell⟩ := hr.cells hm
  refine ⟨b, o, rfl, hb, fun q hq => ?_⟩
  have hcb : c b ≠ k := fun e => by
    have h1 := hcell 0 hm
    rw [Nat.add_zero, iv_at (by have := hr.len; rw [iv_len] at this; omega)] at h1
    exact hp b hb e _ _ h1
  rw [World.cell?_of_block (hk.block b (by omega) hcb)]
  exact hcell q hq
theorem TS.keptB {w w' : World} {tb b i : Nat} {L : List Int} (h : TS w tb L i) (hg : w.grownBy w' (some b)) (hne : b ≠ tb) (hp : ∀ g, g = b → ∀ o x, w.cell? ⟨g, o, none⟩ ≠ some (.int .u16 x)) : TS w' tb L i :=
  h.keptP (c := fun g => if g = b then 1 else 0) (k := 1) (Kept.ofGrown hg (fun g e => by cases e; simp)) (by simp; exact fun e => hne e.symm) (fun g _ e => hp g (by
    by_cases h : g = b
    · exact h
    · simp [h] at e))
theorem cells_no16 {w : World} {p : Nat} {cs : Array Value} {t : TypeId} (h : w.heap[p]? = some (.cells cs t (0, 0))) (hc : ∀ v ∈ cs.toList, ∀ x, v ≠ .int .u16 x) (o : Nat) (x : Int) : w.cell? ⟨p, o, none⟩ ≠ some (.int .u16 x) := fun e => by
  rw [cell_of_row w p o _ _ _ h] at e
  exact hc _ (by simpa using Array.mem_of_getElem? e) x rfl
theorem Lgl.no16 {w : World} {c : Nat → Nat} {k p : Nat} {cap : Int} {L : List Ev5} {M : List Int} (h : Lgl w c k p cap L M) (o : Nat) (x : Int) : w.cell? ⟨p, o, none⟩ ≠ some (.int .u16 x) := by
  obtain ⟨_, A, n, cp, last, mr, mm, _, hr⟩ := h
  refine cells_no16 hr.blk (fun v hv x => ?_) o x
  simp only [List.mem_cons, List.not_mem_nil, or_false] at hv
  rcases hv with rfl | rfl | rfl | rfl | rfl <;> simp
theorem Mgb.no16 {w : World} {c : Nat → Nat} {k p : Nat} {cap : Int} {L : List Ev5} {M : List Int} (h : Mgb w c k p cap L M) (o : Nat) (x : Int) : w.cell? ⟨p, o, none⟩ ≠ some (.int .u16 x) := by
  obtain ⟨_, A, n, cp, A2, n2, cp2, hb, _⟩ := h
  refine cells_no16 hb (fun v hv x => ?_) o x
  simp only [List.mem_cons, List.not_mem_nil, or_false] at hv
  rcases hv with rfl | rfl | rfl <;> simp
theorem Mgb.made (cap : Int) (w : World) (c : Nat → Nat) (k : Nat) (hc : c w.heap.size = k) : Mgb (w.alloc (.cells #[.int .i64 cap, .slice none 0 0, .slice none 0 0] 38)) c k w.heap.size cap [] [] :=
  ⟨hc, none, 0, 0, none, 0, 0, heap_alloc_new w _, OwC.nil, OwC.nil⟩
theorem Lgl.made (cap : Int) (w : World) (c : Nat → Nat) (k : Nat) (hc : c w.heap.size = k) : Lgl (w.alloc (.cells #[.int .i64 cap, .slice none 0 0, .int .u64 0, .map none, .map none] 50)) c k w.heap.size cap [] [] :=
  ⟨Goods.nil, none, 0, 0, 0, none, none, fun h => absurd rfl h, hc, heap_alloc_new w _, OwC.nil, .nil (fun _ => rfl), .nil (fun _ => rfl), fun b e => by cases e⟩
/-- The log at p (colour 1), the model at m (colour 2), the tape at tb, a box at rb with the event y and one at eb with the event x (colour 0). -/
structure Pl (w0 : World) (rb tb p m : Nat) (cap : Int) (T : List Int) (y : Ev5) (L1 : List Ev5) (M1 : List Int) (L2 : List Ev5) (M2 : List Int) (j eb : Nat) (x : Ev5) (W : World) (c : Nat → Nat) : Prop where
  old : ∀ g, g < w0.heap.size → c g = 0
  bel : Below w0.heap.size w0 W
  lg : Lgl W c 1 p cap L1 M1
  mg : Mgb W c 2 m cap L2 M2
  tp : TS W tb T j
  ctb : c tb = 0
  tge : w0.heap.size ≤ tb
  box : EvB W rb y.p y.o y.h y.a y.e
  crb : c rb = 0
  ev : EvB W eb x.p x.o x.h x.a x.e
  ceb : c eb = 0
  ege : w0.heap.size ≤ eb
  c1 : ∀ g, g < tb → c g = 1 → g = p
  c2 : ∀ g, g < tb → c g = 2 → g = m
/-- The same in some colours. -/
def PlE (w0 : World) (rb tb p m : Nat) (cap : Int) (T : List Int) (y : Ev5) (L1 : List Ev5) (M1 : List Int) (L2 : List Ev5) (M2 : List Int) (j eb : Nat) (x : Ev5) (W : World) : Prop := ∃ c, Pl w0 rb tb p m cap T y L1 M1 L2 M2 j eb x W c
section
variable {w0 W W' : World} {rb tb p m j eb : Nat} {cap : Int} {T : List Int} {y x : Ev5} {L1 L2 L1' L2' : List Ev5} {M1 M2 M1' M2' : List Int} {c : Nat → Nat}
theorem Pl.go (H : Pl w0 rb tb p m cap T y L1 M1 L2 M2 j eb x W c) (hb : Below W.heap.size W W') : Pl w0 rb tb p m cap T y L1 M1 L2 M2 j eb x W' (rc c W.heap.size 0) := by
  have hz := H.bel.size
  have ht := H.tp.lt
  have hr := H.box.lt
  have he := H.ev.lt
  exact ⟨fun g hg => by rw [rc_old (by omega)]; exact H.old g hg, H.bel.trans (hb.mono hz), H.lg.kept (j := 0) (Kept.ofBelow hb) (by omega) (fun g hg => rc_old hg), H.mg.kept (j := 0) (Kept.ofBelow hb) (by omega) (fun g hg => rc_old hg), H.tp.go hb, by rw [rc_old ht]; exact H.ctb, H.tge,
    H.box.go hb, by rw [rc_old hr]; exact H.crb, H.ev.go hb, by rw [rc_old he]; exact H.ceb, H.ege, fun g hg e => H.c1 g hg (by rwa [rc_old (by omega)] at e), fun g hg e => H.c2 g hg (by rwa [rc_old (by omega)] at e)⟩
theorem PlE.go (H : PlE w0 rb tb p m cap T y L1 M1 L2 M2 j eb x W) (hb : Below W.heap.size W W') : PlE w0 rb tb p m cap T y L1 M1 L2 M2 j eb x W' := by
  obtain ⟨c, h⟩ := H
  exact ⟨_, h.go hb⟩
theorem PlE.bel (H : PlE w0 rb tb p m cap T y L1 M1 L2 M2 j eb x W) : Below w0.heap.size w0 W := by
  obtain ⟨c, h⟩ := H
  exact h.bel
/-- A new box. -/
theorem PlE.put (H : PlE w0 rb tb p m cap T y L1 M1 L2 M2 j eb x W) (x' : Ev5) : PlE w0 rb tb p m cap T y L1 M1 L2 M2 j W.heap.size x' (W.alloc (.cells #[.int .i64 x'.p, .int .i64 x'.o, .int .u64 x'.h, .int .u64 x'.a, .int .i64 x'.e] 27)) := by
  obtain ⟨c, h⟩ := H
  have h1 := h.go ((Below.refl W.heap.size W).alloc (Nat.le_refl _) (.cells #[.int .i64 x'.p, .int .i64 x'.o, .int .u64 x'.h, .int .u64 x'.a, .int .i64 x'.e] 27))
  exact ⟨_, h1.old, h1.bel, h1.lg, h1.mg, h1.tp, h1.ctb, h1.tge, h1.box, h1.crb, EvB.new, rc_new (Nat.le_refl _), h.bel.size, h1.c1, h1.c2⟩
/-- Behind a change of the log's colour. -/
theorem Pl.log (H : Pl w0 rb tb p m cap T y L1 M1 L2 M2 j eb x W c) (hl : Lgl W' (rc c W.heap.size 1) 1 p cap L1' M1') (hk : Kept c 1 W W') : Pl w0 rb tb p m cap T y L1' M1' L2 M2 j eb x W' (rc c W.heap.size 1) := by
  have hz := H.bel.size
  have ht := H.tp.lt
  have hr := H.box.lt
  have he := H.ev.lt
  exact ⟨fun g hg => by rw [rc_old (by omega)]; exact H.old g hg, H.bel.trans (hk.below (fun g hg => by rw [H.old g hg]; omega) hz), hl, H.mg.kept hk (by omega) (fun g hg => rc_old hg),
    H.tp.keptP hk (by rw [H.ctb]; omega) (fun g hg e => by obtain rfl := H.c1 g hg e; exact H.lg.no16), by rw [rc_old ht]; exact H.ctb, H.tge, (hk.block rb hr (by rw [H.crb]; omega)).trans H.box, by rw [rc_old hr]; exact H.crb, (hk.block eb he (by rw [H.ceb]; omega)).trans H.ev, by rw [rc_old he]; exact H.ceb, H.ege,
    fun g hg e => H.c1 g hg (by rwa [rc_old (by omega)] at e), fun g hg e => H.c2 g hg (by rwa [rc_old (by omega)] at e)⟩
/-- Behind a change of the model's colour. -/
theorem Pl.mod (H : Pl w0 rb tb p m cap T y L1 M1 L2 M2 j eb x W c) (hl : Mgb W' (rc c W.heap.size 2) 2 m cap L2' M2') (hk : Kept c 2 W W') : Pl w0 rb tb p m cap T y L1 M1 L2' M2' j eb x W' (rc c W.heap.size 2) := by
  have hz := H.bel.size
  have ht := H.tp.lt
  have hr := H.box.lt
  have he := H.ev.lt
  exact ⟨fun g hg => by rw [rc_old (by omega)]; exact H.old g hg, H.bel.trans (hk.below (fun g hg => by rw [H.old g hg]; omega) hz), H.lg.kept hk (by omega) (fun g hg => rc_old hg), hl,
    H.tp.keptP hk (by rw [H.ctb]; omega) (fun g hg e => by obtain rfl := H.c2 g hg e; exact H.mg.no16), by rw [rc_old ht]; exact H.ctb, H.tge, (hk.block rb hr (by rw [H.crb]; omega)).trans H.box, by rw [rc_old hr]; exact H.crb, (hk.block eb he (by rw [H.ceb]; omega)).trans H.ev, by rw [rc_old he]; exact H.ceb, H.ege,
    fun g hg e => H.c1 g hg (by rwa [rc_old (by omega)] at e), fun g hg e => H.c2 g hg (by rwa [rc_old (by omega)] at e)⟩
theorem PlE.append (H : PlE w0 rb tb p m cap T y L1 M1 L2 M2 j eb x W) (z : Ev5) (hl : L1.length ≤ 1000) (hx : Word5 z) : Calls Try.prog 15 #[.pointer (some ⟨p, 0, none⟩), evA z] W fun e W' => e = .returned (.int .i64 (apE cap L1 z)) ∧ PlE w0 rb tb p m cap T y (apL cap L1 z) M1 L2 M2 j eb x W' := by
  obtain ⟨c, h⟩ := H
  exact (appendL_any z h.lg hl hx).mono fun e W' ⟨h1, h2, h3⟩ => ⟨h1, _, h.log h2 h3⟩
theorem PlE.appendM (H : PlE w0 rb tb p m cap T y L1 M1 L2 M2 j eb x W) (z : Ev5) (hl : L2.length ≤ 1000) : Calls Try.prog 16 #[.pointer (some ⟨m, 0, none⟩), evA z] W fun e W' => e = .returned (.int .i64 (apE cap L2 z)) ∧ PlE w0 rb tb p m cap T y L1 M1 (apL cap L2 z) M2 j eb x W' := by
  obtain ⟨c, h⟩ := H
  exact (appendM_any h.mg (by omega)).mono fun e W' ⟨h1, h2, h3⟩ => ⟨h1, _, h.mod h2 h3⟩
theorem PlE.miss (H : PlE w0 rb tb p m cap T y L1 M1 L2 M2 j eb x W) (z : Int) (hz : Ri z) (hl : M1.length ≤ 1000) : Calls Try.prog 17 #[.pointer (some ⟨p, 0, none⟩), .int .i64 z] W fun e W' => e = .returned (.tuple #[]) ∧ PlE w0 rb tb p m cap T y L1 (M1 ++ [z]) L2 M2 j eb x W' := by
  obtain ⟨c, h⟩ := H
  exact (missL_any h.lg hz hl).mono fun e W' ⟨h1, h2, h3⟩ => ⟨h1, _, h.log h2 h3⟩
/-- The model's missed ones. -/
theorem PlE.missM {A' : Option Addr} {n' cap' : Nat} (H : PlE w0 rb tb p m cap T y L1 M1 L2 M2 j eb x W) (hb : Below W.heap.size W W') (ho : OwnK int1 3 W' W.heap.size (.slice A' n' cap') M2') : PlE w0 rb tb p m cap T y L1 M1 L2 M2' j eb x (W'.setCell ⟨m, 2, none⟩ (.slice A' n' cap')) := by
  obtain ⟨c, h⟩ := H
  obtain ⟨h1, h2⟩ := h.mg.putM hb ho
  exact ⟨_, h.mod h1 h2⟩
theorem PlE.event (H : PlE w0 rb tb p m cap T y L1 M1 L2 M2 j eb x W) (hf : Fit .u16 T) (hj : j ≤ 1000) : Calls Try.prog 14 #[.pointer (some ⟨tb, 0, none⟩)] W fun e W' => ∃ (z : Ev5) (j' : Nat), e = .returned (evA z) ∧ Word5 z ∧ j' ≤ j + 20 ∧ PlE w0 rb tb p m cap T y L1 M1 L2 M2 j' eb x W' := by
  obtain ⟨c, h⟩ := H
  refine (event_any tb j T W h.tp hf hj).mono fun e W' he => ?_
  obtain ⟨zp, zo, zh, za, ze, j', _, h2, h3, h4, rfl, h5, h6⟩ := he
  refine ⟨⟨zp, zo, zh, za, ze⟩, j', rfl, ⟨h2, h3⟩, h4, rc c W.heap.size 0, ?_⟩
  have hk : Kept c 0 W W' := Kept.ofOth h6 h.ctb
  have hz := h.bel.size
  have ht := h.tp.lt
  have hr := h.box.lt
  have he := h.ev.lt
  refine ⟨fun g hg => by rw [rc_old (by omega)]; exact h.old g hg, h.bel.trans (h6.below h.tge hz), h.lg.kept hk (by omega) (fun g hg => rc_old hg), h.mg.kept hk (by omega) (fun g hg => rc_old hg), h5, by rw [rc_old ht]; exact h.ctb, h.tge, h.box.oth h6 (h.box.tape h.tp), by rw [rc_old hr]; exact h.crb, h.ev.oth h6 (h.ev.tape h.tp), by rw [rc_old he]; exact h.ceb, h.ege,
    fun g hg e => h.c1 g hg (by rwa [rc_old (by omega)] at e), fun g hg e => h.c2 g hg (by rwa [rc_old (by omega)] at e)⟩
/-- A store of the other box into the new one. -/
theorem PlE.set (hne : rb ≠ eb) (H : PlE w0 rb tb p m cap T y L1 M1 L2 M2 j eb x W) : PlE w0 rb tb p m cap T y L1 M1 L2 M2 j eb y (((((W.setCell ⟨eb, 0, none⟩ (.int .i64 y.p)).setCell ⟨eb, 1, none⟩ (.int .i64 y.o)).setCell ⟨eb, 2, none⟩ (.int .u64 y.h)).setCell ⟨eb, 3, none⟩ (.int .u64 y.a)).setCell ⟨eb, 4, none⟩ (.int .i64 y.e)) := by
  obtain ⟨c, h⟩ := H
  have he := h.ev.lt
  have hg : W.grownBy (((((W.setCell ⟨eb, 0, none⟩ (.int .i64 y.p)).setCell ⟨eb, 1, none⟩ (.int .i64 y.o)).setCell ⟨eb, 2, none⟩ (.int .u64 y.h)).setCell ⟨eb, 3, none⟩ (.int .u64 y.a)).setCell ⟨eb, 4, none⟩ (.int .i64 y.e)) (some eb) :=
    (((((run_setAt W eb 0 _).trans (run_setAt _ eb 1 _)).trans (run_setAt _ eb 2 _)).trans (run_setAt _ eb 3 _)).trans (run_setAt _ eb 4 _))
  have hk : Kept c 0 W _ := Kept.ofGrown hg (fun g e => by cases e; exact h.ceb)
  have ho : Oth eb W _ := ⟨hg.os, hg.tape, hg.output, hg.size, fun g h1 h2 => hg.block g h1 (fun e => h2 (Option.some.inj e))⟩
  exact ⟨c, h.old, h.bel.grown hg h.bel.size (fun g e => by cases e; exact h.ege), h.lg.kept hk (by omega) (fun _ _ => rfl), h.mg.kept hk (by omega) (fun _ _ => rfl), h.tp.keptB hg (h.ev.tape h.tp) (fun g e => by cases e; exact cells_no16 h.ev (fun v hv x => by
    simp only [List.mem_cons, List.not_mem_nil, or_false] at hv
    rcases hv with rfl | rfl | rfl | rfl | rfl <;> simp)), h.ctb, h.tge, (hg.block rb h.box.lt (fun e => hne (Option.some.inj e))).trans h.box, h.crb, h.ev.set5 _ _ _ _ _, h.ceb, h.ege, h.c1, h.c2⟩
end
end Go.Proofs.Ytlgoiccekgjhnaa
