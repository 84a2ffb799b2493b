/-
  A map from integers to counts that a struct owns: what stays while other memory changes, what a look-up gives, what counting one more leaves. No conditions beyond those that each lemma states.
-/
import Derived.Test.YtlgoiccekgjhnaaKqx
import Derived.Test.YtlgoiccekgjhnaaHnd
import Derived.Maps.OwnOps
import Derived.Maps.OwnSet
import Derived.Maps.Views
namespace Go.Proofs.Ytlgoiccekgjhnaa
open Go.ChangeShapes Go.WideShapes Go.RowKit Go.Maps
set_option linter.unusedVariables false
set_option linter.unusedSimpArgs false
set_option maxHeartbeats 4000000
set_option maxRecDepth 100000

def Ri (o : Int) : Prop := (Lit.int .i64 o).wf = true
theorem Ri.of {o : Int} (h : -9223372036854775808 ≤ o ∧ o ≤ 9223372036854775807) : Ri o := by
  unfold Ri
  simp [Lit.wf, IntKind.min, IntKind.max, IntKind.bits, IntKind.signed]
  omega
/-- A value as itself. -/
def tk (v : Value) : Option (DataW Value × List MemPlace) := some (.held v, [])
theorem law3 : Keyed Try.prog 3 := int_keyed Try.underlying3
theorem key3 {o : Int} (ho : Ri o) : keyOf Try.prog 3 (.int .i64 o) = some (.int .i64 o) := keyOf_int_mk Try.underlying3 ho
theorem lit_ne {o o' : Int} (h : o' ≠ o) : (Lit.int .i64 o' : Lit) ≠ .int .i64 o := fun e => h (by injection e)
theorem isKey3 {o : Int} (ho : Ri o) : WideAt.IsKeyLit (.int .i64 o) := law3.key (key3 ho)
theorem ownsMap_keep {w w' : World} {b n : Nat} {D : DataW Value} {R : Value → Option (DataW Value × List MemPlace)} (h : w.ownsMap Try.prog 3 R b n D) (hb : w'.heap[b]? = w.heap[b]?) : w'.ownsMap Try.prog 3 R b n D := by
  obtain ⟨es, clock, h1, h2⟩ := h
  exact ⟨es, clock, hb.trans h1, h2⟩
theorem ownsMap_blk {w : World} {b n : Nat} {D : DataW Value} {R : Value → Option (DataW Value × List MemPlace)} (h : w.ownsMap Try.prog 3 R b n D) : ∃ es clock, w.heap[b]? = some (.map es clock) := by
  obtain ⟨es, clock, h1, _⟩ := h
  exact ⟨es, clock, h1⟩
theorem zeroI (w : World) : (zeroValue 3).run Try.prog w = .ok (.int .i64 0) w := Try.zeroValue3 w
theorem mk_mapI (W : World) : (Instr.makeMap 48 none).run Try.prog W = .ok (.map (some W.heap.size)) (W.alloc (.map #[] 0)) := by
  have h := @run_makeMap Try.prog
  simp [h]
theorem eqmI_none (W : World) : (binOp .eql 48 (.map none) (.map none)).run Try.prog W = .ok (.bool true) W := run_eql_map_nil W _ _ _ none Try.underlying48
theorem eqmI_some (b : Nat) (W : World) : (binOp .eql 48 (.map (some b)) (.map none)).run Try.prog W = .ok (.bool false) W := run_eql_map_nil W _ _ _ (some b) Try.underlying48
/-- A map's value: nil, or the map at a block of the colour k; f says how often each number was counted. -/
def Mpc (w : World) (c : Nat → Nat) (k N : Nat) (mv : Option Nat) (f : Int → Nat) : Prop :=
  (mv = none ∧ ∀ p, Ri p → f p = 0) ∨ ∃ b, mv = some b ∧ c b = k ∧ ∃ D, w.ownsMap Try.prog 3 tk b N D ∧ ∀ p, Ri p → D.atKey (.int .i64 p) (.held (.int .i64 0)) = .held (.int .i64 (f p : Int))
/-- One more. -/
def bump (f : Int → Nat) (z : Int) : Int → Nat := fun p => if p = z then f p + 1 else f p
theorem bump_at (f : Int → Nat) (z : Int) : bump f z z = f z + 1 := if_pos rfl
theorem bump_ne {f : Int → Nat} {z p : Int} (h : p ≠ z) : bump f z p = f p := if_neg h
section
variable {w w' w1 w2 : World} {c c' : Nat → Nat} {j k b n m N M p : Nat} {mv : Option Nat} {f g : Int → Nat} {z : Int}
theorem Mpc.nil (hf : ∀ p, f p = 0) : Mpc w c k N none f := .inl ⟨rfl, fun p _ => hf p⟩
theorem Mpc.lt (h : Mpc w c k N (some b) f) : b < w.heap.size ∧ c b = k ∧ ∃ es clock, w.heap[b]? = some (.map es clock) := by
  rcases h with ⟨e, _⟩ | ⟨b', e, hcb, D, h1, h2⟩
  · cases e
  · cases e
    exact ⟨h1.lt, hcb, ownsMap_blk h1⟩
theorem Mpc.same (h : Mpc w c k N mv f) (hf : ∀ p, f p = g p) : Mpc w c k N mv g := by
  have e : f = g := funext hf
  exact e ▸ h
theorem Mpc.mono (h : Mpc w c k N mv f) (hN : N ≤ M) : Mpc w c k M mv f := by
  rcases h with h | ⟨b, e, hcb, D, h1, h2⟩
  · exact .inl h
  · exact .inr ⟨b, e, hcb, D, h1.mono hN, h2⟩
/-- Other colours may change. -/
theorem Mpc.kept (h : Mpc w c k N mv f) (hk : Kept c j w w') (hjk : j ≠ k) (hc : ∀ g, g < w.heap.size → c' g = c g) : Mpc w' c' k N mv f := by
  rcases h with h | ⟨b, e, hcb, D, h1, h2⟩
  · exact .inl h
  · exact .inr ⟨b, e, (hc b h1.lt).trans hcb, D, ownsMap_keep h1 (hk.block b h1.lt (by omega)), h2⟩
theorem Mpc.go (h : Mpc w c k N mv f) (hb : Below w.heap.size w w') (hc : ∀ g, g < w.heap.size → c' g = c g) : Mpc w' c' k N mv f := h.kept (j := k + 1) (Kept.ofBelow hb) (by omega) hc
/-- Another block may change. -/
theorem Mpc.apart {r : Option Nat} (h : Mpc w c k N mv f) (hg : w.grownBy w' r) (hr : ∀ b, mv = some b → r ≠ some b) (hc : ∀ g, g < w.heap.size → c' g = c g) : Mpc w' c' k N mv f := by
  rcases h with h | ⟨b, e, hcb, D, h1, h2⟩
  · exact .inl h
  · exact .inr ⟨b, e, (hc b h1.lt).trans hcb, D, ownsMap_keep h1 (hg.block b h1.lt (fun e' => hr b e e'.symm)), h2⟩
/-- Without colours. -/
theorem Mpc.plain (h : Mpc w c k N mv f) : Mpc w (fun _ => 0) 0 N mv f := by
  rcases h with h | ⟨b, e, hcb, D, h1, h2⟩
  · exact .inl h
  · exact .inr ⟨b, e, rfl, D, h1, h2⟩
/-- A look-up. -/
theorem Mpc.look (h : Mpc w c k N mv f) (hz : Ri z) : (Instr.lookup 48 (.map mv) (.int .i64 z) false).run Try.prog w = .ok (.int .i64 (f z : Int)) w := by
  rcases h with ⟨rfl, h⟩ | ⟨b, rfl, hcb, D, h2, h3⟩
  · rw [h z hz]
    exact look_nil false law3 Try.underlying48 (zeroI w) (key3 hz)
  · obtain ⟨v, ps, hrun, hv⟩ := h2.lookup law3 Try.underlying48 (zeroI w) (zd := .held (.int .i64 0)) (zp := []) rfl (key3 hz)
    rw [h3 z hz] at hv
    unfold tk at hv
    have e : v = .int .i64 (f z : Int) := by
      injection hv with hv
      injection hv with h4 _
      injection h4
    subst e
    exact hrun
theorem bump_fun {D : DataW Value} (hM : IsMap D) (hz : Ri z) (h : ∀ p, Ri p → D.atKey (.int .i64 p) (.held (.int .i64 0)) = .held (.int .i64 (f p : Int))) : ∀ p, Ri p → (D.put (.int .i64 z) (.held (.int .i64 ((f z + 1 : Nat) : Int)))).atKey (.int .i64 p) (.held (.int .i64 0)) = .held (.int .i64 (bump f z p : Int)) := fun p hp => by
  by_cases e : p = z
  · subst e
    rw [bump_at, atKey_put_same hM (isKey3 hp)]
  · rw [bump_ne e, atKey_put_other (lit_ne e), h p hp]
end
/-- What increment leaves: the counts in the same block, or in a new one if there was none. -/
def IncE (w : World) (c : Nat → Nat) (k N : Nat) (mv : Option Nat) (f : Int → Nat) (e : Ending) (w' : World) : Prop :=
  ∃ b, e = .returned (.map (some b)) ∧ (mv = some b ∨ (mv = none ∧ w.heap.size ≤ b)) ∧ Mpc w' (rc c w.heap.size k) k N (some b) f ∧ w.grownBy w' mv
theorem inc_any {w : World} {c : Nat → Nat} {k N : Nat} {mv : Option Nat} {f : Int → Nat} {z : Int} (H : Mpc w c k N mv f) (hz : Ri z) (hN : N < 100000) (hf : f z < 100000) :
    Calls Try.prog 39 #[.map mv, .int .i64 z] w (IncE w c k (N + 1) mv (bump f z)) := by
  have hw : IntKind.i64.wrap ((f z : Int) + 1) = ((f z + 1 : Nat) : Int) := by rw [IntKind.wrap_i64]; omega
  have HZ := Lib.hid hz
  have HNM : Hid (N < maxLen) := Lib.hid (by unfold maxLen; omega)
  unfold IncE
  rcases H with ⟨rfl, hn⟩ | ⟨mb, rfl, hcb, D, hown, hD⟩
  · have HN := Lib.hid hn
    have hnil := eqmI_none
    have hmk := mk_mapI w
    have hown : (w.alloc (.map #[] 0)).ownsMap Try.prog 3 tk w.heap.size 0 (.map []) := World.ownsMap_made w Try.prog 3 tk
    have hr : (Instr.lookup 48 (.map (some w.heap.size)) (.int .i64 z) false).run Try.prog (w.alloc (.map #[] 0)) = .ok (.int .i64 (f z : Int)) (w.alloc (.map #[] 0)) :=
      Mpc.look (c := fun _ => 0) (k := 0) (.inr ⟨w.heap.size, rfl, rfl, .map [], hown, fun p hp => by rw [hn p hp]; rfl⟩) hz
    have HD := Lib.hid (bump_fun (f := f) (D := .map []) ⟨[], rfl⟩ hz (fun p hp => by rw [hn p hp]; rfl))
    clear hn hz hN hf
    generalize hfz : f z = fz at hw hr HD
    clear hfz
    go_enter Try.func39, Try.ntmps39
    go_wp2_with (first | (at_mapUpdate; refine wpList_mapUpdate_own _ rfl _ _ _ 48 rfl 3 3 law3 Try.underlying48 tk (w.heap.size) 0 _ rfl hown (by unfold maxLen; omega) _ _ _ rfl rfl (key3 HZ.out) (.held (.int .i64 ((fz + 1 : Nat) : Int))) [] rfl ?_; intro w8 hown8 hg8) | go_in)
    go_ret
    refine ⟨w.heap.size, rfl, by simp, .inr ⟨w.heap.size, rfl, rc_new (Nat.le_refl _), _, hown8.mono (by omega), HD.out⟩, ?_⟩
    exact ⟨hg8.os, hg8.tape, hg8.output, Nat.le_trans (by simp) hg8.size, fun g hg _ => (hg8.block g (by simp; omega) (fun e => by cases e; omega)).trans (Below.heap_alloc _ _ g hg)⟩
  · have hnil := eqmI_some mb
    have hr : (Instr.lookup 48 (.map (some mb)) (.int .i64 z) false).run Try.prog w = .ok (.int .i64 (f z : Int)) w := Mpc.look (c := c) (k := k) (.inr ⟨mb, rfl, hcb, D, hown, hD⟩) hz
    have HD := Lib.hid (bump_fun hown.isMap hz hD)
    have HCB : Hid (rc c w.heap.size k mb = k) := Lib.hid (by rw [rc_old hown.lt]; exact hcb)
    clear hz hN hf hD hcb
    generalize hfz : f z = fz at hw hr HD
    clear hfz
    go_enter Try.func39, Try.ntmps39
    go_wp2_with (first | (at_mapUpdate; refine wpList_mapUpdate_own _ rfl _ _ _ 48 rfl 3 3 law3 Try.underlying48 tk mb N _ rfl hown HNM.out _ _ _ rfl rfl (key3 HZ.out) (.held (.int .i64 ((fz + 1 : Nat) : Int))) [] rfl ?_; intro w8 hown8 hg8) | go_in)
    go_ret
    exact ⟨mb, rfl, .inl rfl, .inr ⟨mb, rfl, HCB.out, _, hown8, HD.out⟩, hg8⟩
end Go.Proofs.Ytlgoiccekgjhnaa
