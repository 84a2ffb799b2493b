/-
  Contracts of the model's log with a colour: Room, Append, and how it is kept. Conditions: at most a hundred thousand records.
-/
import Derived.Test.YtlgoiccekgjhnaaAmm
import Derived.Test.YtlgoiccekgjhnaaKqx
namespace Go.Proofs.Ytlgoiccekgjhnaa
open Go.ChangeShapes Go.WideShapes Go.ChangeAt Go.RowKit
set_option linter.unusedVariables false
set_option linter.unusedSimpArgs false
set_option maxHeartbeats 4000000
set_option maxRecDepth 100000

theorem Kws.row1 {w : World} {B n c : Nat} {A : Option Addr} {l : List Int} (h : Kws int1 w B A n c l) : Row w B A n c (iv .i64 l) := by
  refine ⟨by rw [iv_len]; exact h.len, h.cap, h.small, h.nil, fun hn => ?_⟩
  obtain ⟨b, o, e, hb, hc⟩ := h.cells hn
  refine ⟨b, o, e, hb, fun i hi => ?_⟩
  have hil : i < l.length := by have := h.len; omega
  have h1 : (int1.row l)[i * 1 + 0]? = some (.int .i64 (l.getD i 0)) := kr_at (E := int1) (x := l.getD i 0) (by simp [List.getD, hil]) rfl
  rw [Nat.mul_one, Nat.add_zero] at h1
  rw [hc i _ h1, iv_at hil]
theorem OwnK.made0 {α : Type} (E : Enc α) (t : TypeId) (w : World) : OwnK E t (w.alloc (.cells #[] t)) w.heap.size (.slice (some ⟨w.heap.size, 0, none⟩) 0 0) [] := World.ownsRow_made w #[] 0 (Nat.le_refl _) (Nat.zero_le _) (by simp)
/-- As a step by hand: an append of a slice of structs. -/
theorem held_appK {P : Program} {α : Type} {E' : Enc α} {ops : Array Oper} {Q : Exit → Act → World → Prop} {j d : Nat} {o : Oper} {K : Act → World → Prop} {a : Act} {w : World} (hi' : ops[j]? = some o) (hd : o.dst = some d) (hgd : o.guard = none) (s x : Operand) (t : TypeId)
    (ho : o.op = .call { callee := .builtin .append, args := #[s, x], argTypes := #[t, t] })
    {e : TypeId} {i : TypeInfo} {z : Value} (ht : P.underlying t = some (.slice e)) (hi : P.info? e = some i) (hz : i.zero = some z) (hzs : z.cells.size = E'.k) (hsz : i.size = E'.k) (hby : i.bytes ≤ 32768)
    {base : Nat} {v : Value} {xs : List α} (hown : OwnK E' e w base v xs) (hs : a.eval s = v) {B : Nat} {A : Option Addr} {m c : Nat} {ys : List α} (hy : Kws E' w B A m c ys) (hx : a.eval x = .slice A m c)
    (hsm : xs.length + m ≤ 4294967296) (hb : base ≤ w.heap.size)
    (h : ∀ v' w', OwnK E' e w' base v' (xs ++ ys) → w.grownBy w' v.ownBlock → (v'.ownBlock = v.ownBlock ∨ v'.ownBlock = some w.heap.size) → K (a.put (some d) v') w') : wpOp P ops Q j K a w := by
  rw [← hd] at h
  exact held_law hi' (step_appK w hgd s x t ho ht hi hz hzs hsz hby hown hs hy hx hsm hb h)

theorem Kws.grown_ {α : Type} {E : Enc α} {w w' : World} {B g n c : Nat} {l : List α} {r : Option Nat} (h : Kws E w B (some ⟨g, 0, none⟩) n c l) (hg : w.grownBy w' r) (hne : r ≠ some g) : Kws E w' B (some ⟨g, 0, none⟩) n c l :=
  ⟨h.len, h.cap, h.small, h.nil, fun hn => by
    obtain ⟨b, o, e, hb, hc⟩ := h.cells hn
    cases e
    refine ⟨g, 0, rfl, hb, fun q u hu => ?_⟩
    have h1 := hc q u hu
    have hlt : g < w.heap.size := lt_of_some h1
    simp only [World.cell?] at h1 ⊢
    rw [hg.block g hlt (fun e => hne e.symm)]
    exact h1⟩
/-- The model's log at block p, of the colour k. -/
def Mgb (w : World) (c : Nat → Nat) (k p : Nat) (cap : Int) (L : List Ev5) (M : List Int) : Prop :=
  c p = k ∧ ∃ A n cp A2 n2 cp2, w.heap[p]? = some (.cells #[.int .i64 cap, .slice A n cp, .slice A2 n2 cp2] 38 (0, 0)) ∧ OwC k ev5 27 w c (.slice A n cp) L ∧ OwC k int1 3 w c (.slice A2 n2 cp2) M
section
variable {w w' w1 w2 : World} {c c' : Nat → Nat} {j k p : Nat} {cap : Int} {L L' : List Ev5} {M M' : List Int} {x : Ev5}
theorem Mgb.lt (H : Mgb w c k p cap L M) : p < w.heap.size := by
  obtain ⟨_, A, n, cp, A2, n2, cp2, h2, _⟩ := H
  exact (Array.getElem?_eq_some_iff.1 h2).1
theorem Mgb.kept (H : Mgb w c k p cap L M) (hk : Kept c j w w') (hjk : j ≠ k) (hc : ∀ g, g < w.heap.size → c' g = c g) : Mgb w' c' k p cap L M := by
  have hp := H.lt
  obtain ⟨h1, A, n, cp, A2, n2, cp2, h2, h3, h4⟩ := H
  exact ⟨(hc p hp).trans h1, A, n, cp, A2, n2, cp2, (hk.block p hp (by omega)).trans h2, h3.kept hk hjk hc, h4.kept hk hjk hc⟩
theorem Mgb.later (H : Mgb w c k p cap L M) (hb : Below w.heap.size w w1) : Mgb w1 (rc c w.heap.size k) k p cap L M := H.kept (j := k + 1) (Kept.ofBelow hb) (by omega) (fun g hg => rc_old hg)
theorem Mgb.go (H : Mgb w c k p cap L M) (hb : Below w.heap.size w w1) (hc : ∀ g, g < w.heap.size → c' g = c g) : Mgb w1 c' k p cap L M := H.kept (j := k + 1) (Kept.ofBelow hb) (by omega) hc
theorem Mgb.r (H : Mgb w c k p cap L M) : Mgr w p cap L M := by
  obtain ⟨_, A, n, cp, A2, n2, cp2, h2, h3, h4⟩ := H
  obtain ⟨A', n', cap', e, hk⟩ := h3.1.shape
  cases e
  obtain ⟨A', n', cap', e, hk2⟩ := h4.1.shape
  cases e
  exact ⟨A, n, cp, A2, n2, cp2, h2, hk, hk2.row1⟩
/-- What a call leaves that writes the model's log of colour k. -/
def MgE (w : World) (c : Nat → Nat) (k p : Nat) (cap : Int) (r : Value) (L' : List Ev5) (M' : List Int) (e : Ending) (w' : World) : Prop := e = .returned r ∧ Mgb w' (rc c w.heap.size k) k p cap L' M' ∧ Kept c k w w'
theorem Mgb.stay (H : Mgb w c k p cap L M) (hb : Below w.heap.size w w1) (r : Value) : MgE w c k p cap r L M (.returned r) w1 := ⟨rfl, H.later hb, Kept.ofBelow hb⟩
/-- A new list of events is laid into the log. -/
theorem Mgb.put {A' : Option Addr} {n' cap' : Nat} (H : Mgb w c k p cap L M) (hb : Below w.heap.size w w1) (ho : OwnK ev5 27 w1 w.heap.size (.slice A' n' cap') L') :
    Mgb (w1.setCell ⟨p, 1, none⟩ (.slice A' n' cap')) (rc c w.heap.size k) k p cap L' M ∧ Kept c k w (w1.setCell ⟨p, 1, none⟩ (.slice A' n' cap')) := by
  have hp := H.lt
  obtain ⟨h1, A, n, cp, A2, n2, cp2, h2, h3, h4⟩ := H
  have h5 := (hb.block p hp).trans h2
  have hset : w1.grownBy (w1.setCell ⟨p, 1, none⟩ (.slice A' n' cap')) (some p) := run_setAt w1 p 1 _
  have h6 := h4.kept (j := k + 1) (c' := rc c w.heap.size k) (Kept.ofBelow hb) (by omega) (fun g hg => rc_old hg)
  refine ⟨⟨by rw [rc_old hp]; exact h1, A', n', cap', A2, n2, cp2, heap_setCell_same w1 p 1 _ _ _ h5, ⟨OwnK.kept (ho.down (Nat.zero_le _)) hset (.inr fun e => ?_), fun g hg => rc_new (ho.ge hg).1⟩, ⟨OwnK.kept h6.1 hset (.inr fun e => ?_), h6.2⟩⟩, (Kept.ofBelow hb).trans (Kept.ofGrown hset (fun g e => by cases e; exact h1))⟩
  · have := (ho.ge e).1
    omega
  · obtain ⟨cs, hcs⟩ := h4.1.cells_at e
    rw [h2] at hcs
    cases hcs
/-- A new list of missed ones is laid into the log. -/
theorem Mgb.putM {A' : Option Addr} {n' cap' : Nat} (H : Mgb w c k p cap L M) (hb : Below w.heap.size w w1) (ho : OwnK int1 3 w1 w.heap.size (.slice A' n' cap') M') :
    Mgb (w1.setCell ⟨p, 2, none⟩ (.slice A' n' cap')) (rc c w.heap.size k) k p cap L M' ∧ Kept c k w (w1.setCell ⟨p, 2, none⟩ (.slice A' n' cap')) := by
  have hp := H.lt
  obtain ⟨h1, A, n, cp, A2, n2, cp2, h2, h3, h4⟩ := H
  have h5 := (hb.block p hp).trans h2
  have hset : w1.grownBy (w1.setCell ⟨p, 2, none⟩ (.slice A' n' cap')) (some p) := run_setAt w1 p 2 _
  have h6 := h3.kept (j := k + 1) (c' := rc c w.heap.size k) (Kept.ofBelow hb) (by omega) (fun g hg => rc_old hg)
  refine ⟨⟨by rw [rc_old hp]; exact h1, A, n, cp, A', n', cap', heap_setCell_same w1 p 2 _ _ _ h5, ⟨OwnK.kept h6.1 hset (.inr fun e => ?_), h6.2⟩, ⟨OwnK.kept (ho.down (Nat.zero_le _)) hset (.inr fun e => ?_), fun g hg => rc_new (ho.ge hg).1⟩⟩, (Kept.ofBelow hb).trans (Kept.ofGrown hset (fun g e => by cases e; exact h1))⟩
  · obtain ⟨cs, hcs⟩ := h3.1.cells_at e
    rw [h2] at hcs
    cases hcs
  · have := (ho.ge e).1
    omega
theorem roomM_any (z : Int) (H : Mgr w p cap L M) (hn : L.length ≤ 100000) : Calls Try.prog 43 #[.pointer (some ⟨p, 0, none⟩), .int .i64 z] w (Says w (.bool (decide ((rcN L z : Int) < cap)))) := by
  have HC := Lib.hid (fun W (hW : Below w.heap.size w W) => recordsM_any (w := W) z (H.go hW) hn)
  obtain ⟨A, n, cp, A2, n2, cp2, hblk, _, _⟩ := H
  have HL : Hid (∀ W, Below w.heap.size w W → W.cell? ⟨p, 0, none⟩ = some (.int .i64 cap)) := Lib.hid (fun W hW => by
    have h1 := cell_of_row W p 0 _ _ _ ((hW.block p (Array.getElem?_eq_some_iff.1 hblk).1).trans hblk)
    simpa using h1)
  have HD0 : Hid (Below w.heap.size w w.drew) := Lib.hid (below_drewN (Below.refl _ w) 1)
  generalize rcN L z = y at *
  clear hblk
  go_enter Try.func43, Try.ntmps43
  go_wp2
  refine wp_region_hand 9 (fun W => Below w.heap.size w W) (by kernel_rfl) (by kernel_rfl) ?_
  rw [show Array.replicate 9 false = #[false, false, false, false, false, false, false, false, false] from rfl]
  have hHeld := HD0.out
  refine held_take (i := 0) (d := 5) (v := .pointer (some ⟨p, 0, none⟩)) rfl rfl (by kernel_rfl) (by kernel_rfl) (by kernel_rfl) (fun _ _ _ h => h) (by rfl) (fun W _ => run_move_is (.tmp 0) rfl rfl W) hHeld ?_
  simp only [Act.put, List.setIfInBounds_toArray, List.set_cons_zero, List.set_cons_succ]
  refine held_take (i := 1) (d := 6) (v := .int .i64 z) rfl rfl (by kernel_rfl) (by kernel_rfl) (by kernel_rfl) (fun _ _ _ h => h) (by rfl) (fun W _ => run_move_is (.tmp 1) rfl rfl W) hHeld ?_
  simp only [Act.put, List.setIfInBounds_toArray, List.set_cons_zero, List.set_cons_succ]
  refine held_take (i := 3) (d := 8) (v := .pointer (some ⟨p, 0, none⟩)) rfl rfl (by kernel_rfl) (by kernel_rfl) (by kernel_rfl) (fun _ _ _ h => h) (by rfl) (fun W _ => run_move_is (.tmp 0) rfl rfl W) hHeld ?_
  simp only [Act.put, List.setIfInBounds_toArray, List.set_cons_zero, List.set_cons_succ]
  refine held_take (i := 4) (d := 9) (v := .pointer (some ⟨p, 0, none⟩)) rfl rfl (by kernel_rfl) (by kernel_rfl) (by kernel_rfl) (fun _ _ _ h => h) (by rfl) (fun W _ => by go_simp) hHeld ?_
  simp only [Act.put, List.setIfInBounds_toArray, List.set_cons_zero, List.set_cons_succ]
  refine held_take (i := 5) (d := 10) (v := .pointer (some ⟨p, 0, none⟩)) rfl rfl (by kernel_rfl) (by kernel_rfl) (by kernel_rfl) (fun _ _ _ h => h) (by rfl) (fun W _ => by go_simp) hHeld ?_
  simp only [Act.put, List.setIfInBounds_toArray, List.set_cons_zero, List.set_cons_succ]
  refine held_take (i := 6) (d := 11) (v := .int .i64 cap) rfl rfl (by kernel_rfl) (by kernel_rfl) (by kernel_rfl) (fun _ _ _ h => h) (by rfl) (fun W hW => by have q := HL.out W hW; go_simp) hHeld ?_
  simp only [Act.put, List.setIfInBounds_toArray, List.set_cons_zero, List.set_cons_succ]
  have HCL := Lib.hid (HC.out w.drew HD0.out)
  refine held_one (i := 2) (by kernel_rfl) ?_
  refine held_callX (d := 7) rfl rfl (by rfl) rfl (by kernel_rfl) Try.func45 (by kernel_rfl) HCL.out ?_
  rintro e w2 ⟨rfl, hb2⟩
  have HD1 := Lib.hid (Below.then HD0.out hb2 (Nat.le_refl _))
  clear hb2
  refine ⟨_, rfl, ?_⟩
  clear HCL hHeld
  have hHeld := HD1.out
  refine ⟨hHeld, ?_⟩
  simp only [Act.put, List.setIfInBounds_toArray, List.set_cons_zero, List.set_cons_succ]
  refine held_take (i := 7) (d := 12) (v := .bool (decide ((y : Int) < cap))) rfl rfl (by kernel_rfl) (by kernel_rfl) (by kernel_rfl) (fun _ _ _ h => h) (by rfl) (fun W _ => by go_simp) hHeld ?_
  simp only [Act.put, List.setIfInBounds_toArray, List.set_cons_zero, List.set_cons_succ]
  refine held_take (i := 8) (d := 4) (v := .bool (decide ((y : Int) < cap))) rfl rfl (by kernel_rfl) (by kernel_rfl) (by kernel_rfl) (fun _ _ _ h => h) (by rfl) (fun W _ => by go_simp) hHeld ?_
  simp only [Act.put, List.setIfInBounds_toArray, List.set_cons_zero, List.set_cons_succ]
  refine wpAnyH_done (by kernel_rfl) ?_ _
  clear hHeld
  clear HC HL HD0
  go_wp2
  go_ret
  exact ⟨rfl, HD1.out⟩
theorem appendM_any (H : Mgb w c k p cap L M) (hn : L.length ≤ 90000) : Calls Try.prog 16 #[.pointer (some ⟨p, 0, none⟩), .agg #[.int .i64 x.p, .int .i64 x.o, .int .u64 x.h, .int .u64 x.a, .int .i64 x.e]] w (MgE w c k p cap (.int .i64 (apE cap L x)) (apL cap L x) M) := by
  have hb0 : Below w.heap.size w (w.alloc (.cells #[.int .i64 x.p, .int .i64 x.o, .int .u64 x.h, .int .u64 x.a, .int .i64 x.e] 27)) := (Below.refl _ _).alloc (Nat.le_refl _) _
  have HB0 := Lib.hid hb0
  have hlp := H.lt
  have HMG := Lib.hid H
  have hx0 : EvB (w.alloc (.cells #[.int .i64 x.p, .int .i64 x.o, .int .u64 x.h, .int .u64 x.a, .int .i64 x.e] 27)) w.heap.size x.p x.o x.h x.a x.e := EvB.new
  have HX0 := Lib.hid hx0
  obtain ⟨c0, c1, c2, c3, c4⟩ := hx0.cells
  have HCK := Lib.hid (checkR_any x.p x.o x.h x.a x.e (w.alloc (.cells #[.int .i64 x.p, .int .i64 x.o, .int .u64 x.h, .int .u64 x.a, .int .i64 x.e] 27)))
  have HCN := Lib.hid (fun W => counts_any x.p x.o x.h x.a x.e W)
  have HRM := Lib.hid (fun W (hW : Below w.heap.size w W) => roomM_any (w := W) x.p (H.r.go hW) (by omega))
  have HAE : Hid (apE cap L x = if chkV x.p x.o x.e ≠ 0 then chkV x.p x.o x.e else if auc x ∧ cap ≤ rcN L x.p then 19 else 0) := Lib.hid rfl
  have HOK : Hid (apE cap L x = 0 → apL cap L x = L ++ [x]) := Lib.hid apL_ok
  have HNO : Hid (apE cap L x ≠ 0 → apL cap L x = L) := Lib.hid apL_no
  have HST : Hid (∀ (r : Value) W, Below w.heap.size w W → MgE w c k p cap r L M (.returned r) W) := Lib.hid (fun r W hW => H.stay hW r)
  have HPT : Hid (∀ (r : Value) W (A' : Option Addr) (n' cap' : Nat), Below w.heap.size w W → OwnK ev5 27 W w.heap.size (.slice A' n' cap') (L ++ [x]) → MgE w c k p cap r (L ++ [x]) M (.returned r) (W.setCell ⟨p, 1, none⟩ (.slice A' n' cap'))) := Lib.hid (fun r W A' n' cap' h1 h2 => ⟨rfl, (H.put h1 h2).1, (H.put h1 h2).2⟩)
  obtain ⟨hck, A, n, cp, A2, n2, cp2, hblk, how, _⟩ := H
  obtain ⟨A', n', cp', eA, hkw⟩ := how.1.shape
  cases eA
  have HBK := Lib.hid hblk
  have HKW := Lib.hid hkw
  have hlenL := hkw.len
  obtain ⟨q, hq⟩ : ∃ q, decide (auc x) = q := ⟨_, rfl⟩
  have HCQ : Hid (∀ W, Calls Try.prog 42 #[.agg #[.int .i64 x.p, .int .i64 x.o, .int .u64 x.h, .int .u64 x.a, .int .i64 x.e]] W (Says W (.bool q))) := Lib.hid (fun W => by rw [← hq]; exact HCN.out W)
  have HQ := Lib.hid hq
  obtain ⟨xp, xo, xh, xa, xe⟩ := x
  simp only at *
  generalize hE : apE cap L ⟨xp, xo, xh, xa, xe⟩ = E at *
  generalize hLL : apL cap L ⟨xp, xo, xh, xa, xe⟩ = LL at *
  generalize chkV xp xo xe = kc at *
  generalize rcN L xp = rn at *
  clear hb0 hx0 hck hblk how hkw hq hE hLL HCN
  go_enter Try.func16, Try.ntmps16
  go_wp2_with fail
  generalize w.alloc (.cells #[.int .i64 xp, .int .i64 xo, .int .u64 xh, .int .u64 xa, .int .i64 xe] 27) = w0 at *
  have hlt0 : w.heap.size < w0.heap.size := HX0.out.lt
  generalize htb : w.heap.size = tb at *
  have HTL : Hid (tb ≤ w.heap.size) := Lib.hid (by omega)
  clear htb
  refine HCK.out.mono ?_
  rintro e w1 ⟨rfl, hb1⟩
  have HB1 := Lib.hid (Below.then HB0.out hb1 HTL.out)
  have HX1 := Lib.hid (HX0.out.go hb1)
  clear hb1 HCK HB0 HX0 c0 c1 c2 c3 c4
  by_cases hz : kc = 0
  · subst hz
    obtain ⟨c0, c1, c2, c3, c4⟩ := HX1.out.cells
    go_wp2_with fail
    refine (HCQ.out w1).mono ?_
    rintro e w2 ⟨rfl, hb2⟩
    have HB2 := Lib.hid (Below.then HB1.out hb2 HTL.out)
    have HX2 := Lib.hid (HX1.out.go hb2)
    have hlt2 := HX2.out.lt
    clear hb2 HCQ HB1 HX1 c0 c1 c2 c3 c4
    obtain ⟨c0, c1, c2, c3, c4⟩ := HX2.out.cells
    cases q with
    | true =>
      have hau := of_decide_eq_true HQ.out
      go_wp2_with fail
      refine (HRM.out w2 HB2.out).mono ?_
      rintro e w3 ⟨rfl, hb3⟩
      have HB3 := Lib.hid (Below.then HB2.out hb3 HTL.out)
      have HX3 := Lib.hid (HX2.out.go hb3)
      clear hb3 HRM HB2 HX2 c0 c1 c2 c3 c4 hlt2
      by_cases hro : (rn : Int) < cap
      · have hroD : decide ((rn : Int) < cap) = true := decide_eq_true hro
        have HE : Hid (E = 0 ∧ LL = L ++ [⟨xp, xo, xh, xa, xe⟩]) := Lib.hid (by
          have h1 : E = 0 := by rw [HAE.out, if_neg (by omega), if_neg (by omega)]
          exact ⟨h1, HOK.out h1⟩)
        clear hro hau
        simp only [hroD]
        go_wp2
        have HD0 : Hid (Below w3.heap.size w3 w3.drew) := Lib.hid (below_drewN (Below.refl _ w3) 1)
        have HLD : Hid (∀ W, Below w3.heap.size w3 W → W.cell? ⟨p, 1, none⟩ = some (.slice A n cp) ∧ EvB W tb xp xo xh xa xe ∧ Kws ev5 W tb A n cp L) := Lib.hid (fun W hW => by
          have h0 : Below tb w W := HB3.out.trans (hW.mono (Nat.le_trans HTL.out HB3.out.size))
          refine ⟨?_, HX3.out.go hW, HKW.out.below h0⟩
          have h1 := cell_of_row W p 1 _ _ _ ((h0.block p hlp).trans HBK.out)
          simpa using h1)
        have hlz : tb < w3.heap.size := HX3.out.lt
        obtain ⟨ie, hie, hz0, hz1, hz2⟩ := info_parts infoE
        have HIE := Lib.hid hie
        have HZE := Lib.hid hz0
        have HZ1 := Lib.hid hz1
        clear hie hz0 hz1
        refine wp_region_headed 10 (fun W => Below w3.heap.size w3 W) (by kernel_rfl) (by kernel_rfl) ?_
        simp only [List.take_succ_cons, List.take_zero, List.drop_succ_cons, List.drop_zero]
        rw [show Array.replicate 10 false = #[false, false, false, false, false, false, false, false, false, false] from rfl]
        have hHeld := HD0.out
        refine held_take (i := 0) (d := 20) (v := .pointer (some ⟨p, 0, none⟩)) rfl rfl (by kernel_rfl) (by kernel_rfl) (by kernel_rfl) (fun _ _ _ h => h) (by rfl) (fun W _ => run_move_is (.tmp 0) rfl rfl W) hHeld ?_
        simp only [Act.put, List.setIfInBounds_toArray, List.set_cons_zero, List.set_cons_succ]
        refine held_take (i := 2) (d := 22) (v := .pointer (some ⟨p, 0, none⟩)) rfl rfl (by kernel_rfl) (by kernel_rfl) (by kernel_rfl) (fun _ _ _ h => h) (by rfl) (fun W _ => run_move_is (.tmp 0) rfl rfl W) hHeld ?_
        simp only [Act.put, List.setIfInBounds_toArray, List.set_cons_zero, List.set_cons_succ]
        refine held_take (i := 3) (d := 23) (v := .pointer (some ⟨p, 0, none⟩)) rfl rfl (by kernel_rfl) (by kernel_rfl) (by kernel_rfl) (fun _ _ _ h => h) (by rfl) (fun W _ => by go_simp) hHeld ?_
        simp only [Act.put, List.setIfInBounds_toArray, List.set_cons_zero, List.set_cons_succ]
        refine held_take (i := 4) (d := 24) (v := .pointer (some ⟨p, 1, none⟩)) rfl rfl (by kernel_rfl) (by kernel_rfl) (by kernel_rfl) (fun _ _ _ h => h) (by rfl) (fun W _ => by go_simp) hHeld ?_
        simp only [Act.put, List.setIfInBounds_toArray, List.set_cons_zero, List.set_cons_succ]
        refine held_take (i := 5) (d := 25) (v := .slice A n cp) rfl rfl (by kernel_rfl) (by kernel_rfl) (by kernel_rfl) (fun _ _ _ h => h) (by rfl) (fun W hW => by have q := (HLD.out W hW).1; go_simp) hHeld ?_
        simp only [Act.put, List.setIfInBounds_toArray, List.set_cons_zero, List.set_cons_succ]
        refine held_take (i := 7) (d := 27) (v := .agg #[.int .i64 xp, .int .i64 xo, .int .u64 xh, .int .u64 xa, .int .i64 xe]) rfl rfl (by kernel_rfl) (by kernel_rfl) (by kernel_rfl) (fun _ _ _ h => h) (by rfl) (fun W hW => by obtain ⟨_, q, _⟩ := HLD.out W hW; obtain ⟨q0, q1, q2, q3, q4⟩ := q.cells; go_simp) hHeld ?_
        simp only [Act.put, List.setIfInBounds_toArray, List.set_cons_zero, List.set_cons_succ]
        refine held_two (i := 1) (j := 8) (by kernel_rfl) ?_ ?_
        · refine held_make (w' := w3.drew.alloc (.cells #[] 27)) (d := 21) rfl rfl (by rfl) (v := .slice (some ⟨w3.drew.heap.size, 0, none⟩) 0 0) (by go_simp) ⟨HD0.out.alloc HD0.out.size _, ?_⟩
          simp only [Act.put, List.setIfInBounds_toArray, List.set_cons_zero, List.set_cons_succ]
          have HM1 := Lib.hid ((OwnK.made0 ev5 27 w3.drew).down (B := w3.heap.size) HD0.out.size)
          have HD1 : Hid (Below w3.heap.size w3 (w3.drew.alloc (.cells #[] 27))) := Lib.hid (HD0.out.alloc HD0.out.size _)
          refine held_two (i := 6) (j := 8) (by kernel_rfl) ?_ ?_
          · refine held_appK (d := 26) rfl rfl rfl (.tmp 21) (.tmp 25) 35 rfl Try.underlying35 HIE.out HZE.out rfl HZ1.out (by omega) HM1.out rfl (HLD.out _ HD1.out).2.2 rfl (by simp; omega) HD1.out.size ?_
            intro v6 v6w ho6 hg6 he6
            have HO6 : Hid (OwnK ev5 27 v6w w3.heap.size v6 L) := Lib.hid (by simpa using ho6)
            have HD6 : Hid (Below w3.heap.size w3 v6w) := Lib.hid (HD1.out.grown hg6 HD1.out.size (fun g e => (HM1.out.ge e).1))
            clear ho6 hg6 he6 HM1 HD1
            clear hHeld
            have hHeld := HD6.out
            refine ⟨hHeld, ?_⟩
            simp only [Act.put, List.setIfInBounds_toArray, List.set_cons_zero, List.set_cons_succ]
            generalize v6w = z6 at *
            refine held_one (i := 8) (by kernel_rfl) ?_
            refine held_make (w' := z6.alloc (.cells #[.int .i64 xp, .int .i64 xo, .int .u64 xh, .int .u64 xa, .int .i64 xe] 27)) (d := 28) rfl rfl (by rfl) (v := .slice (some ⟨z6.heap.size, 0, none⟩) 1 1) (by go_simp) ⟨HD6.out.alloc HD6.out.size _, ?_⟩
            simp only [Act.put, List.setIfInBounds_toArray, List.set_cons_zero, List.set_cons_succ]
            have HK8 := Lib.hid (Kws.one_ z6 ⟨xp, xo, xh, xa, xe⟩)
            refine held_one (i := 9) (by kernel_rfl) ?_
            refine held_appK (d := 29) rfl rfl rfl (.tmp 26) (.tmp 28) 35 rfl Try.underlying35 HIE.out HZE.out rfl HZ1.out (by omega) (HO6.out.alloc _) rfl HK8.out rfl (by simp; omega) (by have := HD6.out.size; simp; omega) ?_
            intro v9 v9w ho9 hg9 he9
            have HO9 : Hid (OwnK ev5 27 v9w w3.heap.size v9 (L ++ [⟨xp, xo, xh, xa, xe⟩])) := Lib.hid ho9
            have HD9 : Hid (Below w3.heap.size w3 v9w) := Lib.hid ((HD6.out.alloc HD6.out.size _).grown hg9 (by have := HD6.out.size; simp; omega) (fun g e => (HO6.out.ge e).1))
            clear ho9 hg9 he9 HO6 HK8 HD6
            clear hHeld
            have hHeld := HD9.out
            refine ⟨hHeld, ?_⟩
            simp only [Act.put, List.setIfInBounds_toArray, List.set_cons_zero, List.set_cons_succ]
            generalize v9w = z9 at *
            refine wpAnyH_done (by kernel_rfl) ?_ _
            clear hHeld
            simp only [atEnd]
            obtain ⟨A9, n9, cp9, rfl, hx9⟩ := HO9.out.shape
            have hpl : p < z9.heap.size := Nat.lt_of_lt_of_le (Nat.lt_of_lt_of_le (Nat.lt_trans hlp hlz) HD9.out.size) (Nat.le_refl _)
            have h0 : Below tb w z9 := HB3.out.trans (HD9.out.mono (Nat.le_trans HTL.out HB3.out.size))
            have hbk9 := (h0.block p hlp).trans HBK.out
            have s1 := cell_of_row z9 p 1 _ _ _ hbk9
            simp only [List.getElem?_toArray, List.getElem?_cons_zero, List.getElem?_cons_succ] at s1
            have f1 := frozen_of_row z9 p 1 _ _ hbk9
            have HFI := Lib.hid (HPT.out (.int .i64 0) z9 A9 n9 cp9 h0 (HO9.out.down (Nat.le_of_lt hlz)))
            clear hbk9 hx9 HLD HD9 h0
            go_wp2
            go_ret
            rw [HE.out.1, HE.out.2]
            exact HFI.out
          · refine held_make (w' := (w3.drew.alloc (.cells #[] 27)).alloc (.cells #[.int .i64 xp, .int .i64 xo, .int .u64 xh, .int .u64 xa, .int .i64 xe] 27)) (d := 28) rfl rfl (by rfl) (v := .slice (some ⟨(w3.drew.alloc (.cells #[] 27)).heap.size, 0, none⟩) 1 1) (by go_simp) ⟨HD1.out.alloc HD1.out.size _, ?_⟩
            simp only [Act.put, List.setIfInBounds_toArray, List.set_cons_zero, List.set_cons_succ]
            have HM8 := Lib.hid (HM1.out.alloc (.cells #[.int .i64 xp, .int .i64 xo, .int .u64 xh, .int .u64 xa, .int .i64 xe] 27))
            have HK8 := Lib.hid (Kws.one_ (w3.drew.alloc (.cells #[] 27)) ⟨xp, xo, xh, xa, xe⟩)
            have HD8 : Hid (Below w3.heap.size w3 ((w3.drew.alloc (.cells #[] 27)).alloc (.cells #[.int .i64 xp, .int .i64 xo, .int .u64 xh, .int .u64 xa, .int .i64 xe] 27))) := Lib.hid (HD1.out.alloc HD1.out.size _)
            have HN8 : Hid ((some w3.drew.heap.size : Option Nat) ≠ some (w3.drew.alloc (.cells #[] 27)).heap.size) := Lib.hid (by simp)
            clear HM1 HD1
            generalize (w3.drew.alloc (.cells #[] 27)).alloc (.cells #[.int .i64 xp, .int .i64 xo, .int .u64 xh, .int .u64 xa, .int .i64 xe] 27) = z8 at *
            refine held_one (i := 6) (by kernel_rfl) ?_
            refine held_appK (d := 26) rfl rfl rfl (.tmp 21) (.tmp 25) 35 rfl Try.underlying35 HIE.out HZE.out rfl HZ1.out (by omega) HM8.out rfl (HLD.out _ HD8.out).2.2 rfl (by simp; omega) HD8.out.size ?_
            intro v6 v6w ho6 hg6 he6
            have HO6 : Hid (OwnK ev5 27 v6w w3.heap.size v6 L) := Lib.hid (by simpa using ho6)
            have HD6 : Hid (Below w3.heap.size w3 v6w) := Lib.hid (HD8.out.grown hg6 HD8.out.size (fun g e => (HM8.out.ge e).1))
            have HK6 := Lib.hid (HK8.out.grown_ hg6 HN8.out)
            clear ho6 hg6 he6 HK8 HD8 HM8
            clear hHeld
            have hHeld := HD6.out
            refine ⟨hHeld, ?_⟩
            simp only [Act.put, List.setIfInBounds_toArray, List.set_cons_zero, List.set_cons_succ]
            generalize v6w = z6 at *
            refine held_one (i := 9) (by kernel_rfl) ?_
            refine held_appK (d := 29) rfl rfl rfl (.tmp 26) (.tmp 28) 35 rfl Try.underlying35 HIE.out HZE.out rfl HZ1.out (by omega) HO6.out rfl HK6.out rfl (by omega) HD6.out.size ?_
            intro v9 v9w ho9 hg9 he9
            have HO9 : Hid (OwnK ev5 27 v9w w3.heap.size v9 (L ++ [⟨xp, xo, xh, xa, xe⟩])) := Lib.hid ho9
            have HD9 : Hid (Below w3.heap.size w3 v9w) := Lib.hid (HD6.out.grown hg9 HD6.out.size (fun g e => (HO6.out.ge e).1))
            clear ho9 hg9 he9 HO6 HK6 HD6
            clear hHeld
            have hHeld := HD9.out
            refine ⟨hHeld, ?_⟩
            simp only [Act.put, List.setIfInBounds_toArray, List.set_cons_zero, List.set_cons_succ]
            generalize v9w = z9 at *
            refine wpAnyH_done (by kernel_rfl) ?_ _
            clear hHeld
            simp only [atEnd]
            obtain ⟨A9, n9, cp9, rfl, hx9⟩ := HO9.out.shape
            have hpl : p < z9.heap.size := Nat.lt_of_lt_of_le (Nat.lt_of_lt_of_le (Nat.lt_trans hlp hlz) HD9.out.size) (Nat.le_refl _)
            have h0 : Below tb w z9 := HB3.out.trans (HD9.out.mono (Nat.le_trans HTL.out HB3.out.size))
            have hbk9 := (h0.block p hlp).trans HBK.out
            have s1 := cell_of_row z9 p 1 _ _ _ hbk9
            simp only [List.getElem?_toArray, List.getElem?_cons_zero, List.getElem?_cons_succ] at s1
            have f1 := frozen_of_row z9 p 1 _ _ hbk9
            have HFI := Lib.hid (HPT.out (.int .i64 0) z9 A9 n9 cp9 h0 (HO9.out.down (Nat.le_of_lt hlz)))
            clear hbk9 hx9 HLD HD9 h0
            go_wp2
            go_ret
            rw [HE.out.1, HE.out.2]
            exact HFI.out
        · refine held_make (w' := w3.drew.alloc (.cells #[.int .i64 xp, .int .i64 xo, .int .u64 xh, .int .u64 xa, .int .i64 xe] 27)) (d := 28) rfl rfl (by rfl) (v := .slice (some ⟨w3.drew.heap.size, 0, none⟩) 1 1) (by go_simp) ⟨HD0.out.alloc HD0.out.size _, ?_⟩
          simp only [Act.put, List.setIfInBounds_toArray, List.set_cons_zero, List.set_cons_succ]
          have HK1 := Lib.hid (Kws.one_ w3.drew ⟨xp, xo, xh, xa, xe⟩)
          have HD1 : Hid (Below w3.heap.size w3 (w3.drew.alloc (.cells #[.int .i64 xp, .int .i64 xo, .int .u64 xh, .int .u64 xa, .int .i64 xe] 27))) := Lib.hid (HD0.out.alloc HD0.out.size _)
          refine held_one (i := 1) (by kernel_rfl) ?_
          refine held_make (w' := (w3.drew.alloc (.cells #[.int .i64 xp, .int .i64 xo, .int .u64 xh, .int .u64 xa, .int .i64 xe] 27)).alloc (.cells #[] 27)) (d := 21) rfl rfl (by rfl) (v := .slice (some ⟨(w3.drew.alloc (.cells #[.int .i64 xp, .int .i64 xo, .int .u64 xh, .int .u64 xa, .int .i64 xe] 27)).heap.size, 0, none⟩) 0 0) (by go_simp) ⟨HD1.out.alloc HD1.out.size _, ?_⟩
          simp only [Act.put, List.setIfInBounds_toArray, List.set_cons_zero, List.set_cons_succ]
          have HM8 := Lib.hid ((OwnK.made0 ev5 27 (w3.drew.alloc (.cells #[.int .i64 xp, .int .i64 xo, .int .u64 xh, .int .u64 xa, .int .i64 xe] 27))).down (B := w3.heap.size) HD1.out.size)
          have HK8 := Lib.hid (HK1.out.below ((Below.refl (w3.drew.heap.size + 1) _).alloc (by simp) (.cells #[] 27)))
          have HD8 : Hid (Below w3.heap.size w3 ((w3.drew.alloc (.cells #[.int .i64 xp, .int .i64 xo, .int .u64 xh, .int .u64 xa, .int .i64 xe] 27)).alloc (.cells #[] 27))) := Lib.hid (HD1.out.alloc HD1.out.size _)
          have HN8 : Hid ((some (w3.drew.alloc (.cells #[.int .i64 xp, .int .i64 xo, .int .u64 xh, .int .u64 xa, .int .i64 xe] 27)).heap.size : Option Nat) ≠ some w3.drew.heap.size) := Lib.hid (by simp)
          clear HK1 HD1
          generalize (w3.drew.alloc (.cells #[.int .i64 xp, .int .i64 xo, .int .u64 xh, .int .u64 xa, .int .i64 xe] 27)).alloc (.cells #[] 27) = z8 at *
          refine held_one (i := 6) (by kernel_rfl) ?_
          refine held_appK (d := 26) rfl rfl rfl (.tmp 21) (.tmp 25) 35 rfl Try.underlying35 HIE.out HZE.out rfl HZ1.out (by omega) HM8.out rfl (HLD.out _ HD8.out).2.2 rfl (by simp; omega) HD8.out.size ?_
          intro v6 v6w ho6 hg6 he6
          have HO6 : Hid (OwnK ev5 27 v6w w3.heap.size v6 L) := Lib.hid (by simpa using ho6)
          have HD6 : Hid (Below w3.heap.size w3 v6w) := Lib.hid (HD8.out.grown hg6 HD8.out.size (fun g e => (HM8.out.ge e).1))
          have HK6 := Lib.hid (HK8.out.grown_ hg6 HN8.out)
          clear ho6 hg6 he6 HK8 HD8 HM8
          clear hHeld
          have hHeld := HD6.out
          refine ⟨hHeld, ?_⟩
          simp only [Act.put, List.setIfInBounds_toArray, List.set_cons_zero, List.set_cons_succ]
          generalize v6w = z6 at *
          refine held_one (i := 9) (by kernel_rfl) ?_
          refine held_appK (d := 29) rfl rfl rfl (.tmp 26) (.tmp 28) 35 rfl Try.underlying35 HIE.out HZE.out rfl HZ1.out (by omega) HO6.out rfl HK6.out rfl (by omega) HD6.out.size ?_
          intro v9 v9w ho9 hg9 he9
          have HO9 : Hid (OwnK ev5 27 v9w w3.heap.size v9 (L ++ [⟨xp, xo, xh, xa, xe⟩])) := Lib.hid ho9
          have HD9 : Hid (Below w3.heap.size w3 v9w) := Lib.hid (HD6.out.grown hg9 HD6.out.size (fun g e => (HO6.out.ge e).1))
          clear ho9 hg9 he9 HO6 HK6 HD6
          clear hHeld
          have hHeld := HD9.out
          refine ⟨hHeld, ?_⟩
          simp only [Act.put, List.setIfInBounds_toArray, List.set_cons_zero, List.set_cons_succ]
          generalize v9w = z9 at *
          refine wpAnyH_done (by kernel_rfl) ?_ _
          clear hHeld
          simp only [atEnd]
          obtain ⟨A9, n9, cp9, rfl, hx9⟩ := HO9.out.shape
          have hpl : p < z9.heap.size := Nat.lt_of_lt_of_le (Nat.lt_of_lt_of_le (Nat.lt_trans hlp hlz) HD9.out.size) (Nat.le_refl _)
          have h0 : Below tb w z9 := HB3.out.trans (HD9.out.mono (Nat.le_trans HTL.out HB3.out.size))
          have hbk9 := (h0.block p hlp).trans HBK.out
          have s1 := cell_of_row z9 p 1 _ _ _ hbk9
          simp only [List.getElem?_toArray, List.getElem?_cons_zero, List.getElem?_cons_succ] at s1
          have f1 := frozen_of_row z9 p 1 _ _ hbk9
          have HFI := Lib.hid (HPT.out (.int .i64 0) z9 A9 n9 cp9 h0 (HO9.out.down (Nat.le_of_lt hlz)))
          clear hbk9 hx9 HLD HD9 h0
          go_wp2
          go_ret
          rw [HE.out.1, HE.out.2]
          exact HFI.out
      · have hroD : decide ((rn : Int) < cap) = false := decide_eq_false hro
        have HE : Hid (E = 19 ∧ LL = L) := Lib.hid (by
          have h1 : E = 19 := by rw [HAE.out, if_neg (by omega), if_pos ⟨hau, by omega⟩]
          exact ⟨h1, HNO.out (by omega)⟩)
        clear hro hau
        simp only [hroD]
        go_wp2
        go_ret
        rw [HE.out.1, HE.out.2]
        exact HST.out _ _ HB3.out
    | false =>
      have hau := of_decide_eq_false HQ.out
      have HE : Hid (E = 0 ∧ LL = L ++ [⟨xp, xo, xh, xa, xe⟩]) := Lib.hid (by
        have h1 : E = 0 := by rw [HAE.out, if_neg (by omega), if_neg (fun h => hau h.1)]
        exact ⟨h1, HOK.out h1⟩)
      clear hau
      go_wp2
      have HD0 : Hid (Below w2.heap.size w2 w2.drew) := Lib.hid (below_drewN (Below.refl _ w2) 1)
      have HLD : Hid (∀ W, Below w2.heap.size w2 W → W.cell? ⟨p, 1, none⟩ = some (.slice A n cp) ∧ EvB W tb xp xo xh xa xe ∧ Kws ev5 W tb A n cp L) := Lib.hid (fun W hW => by
        have h0 : Below tb w W := HB2.out.trans (hW.mono (Nat.le_trans HTL.out HB2.out.size))
        refine ⟨?_, HX2.out.go hW, HKW.out.below h0⟩
        have h1 := cell_of_row W p 1 _ _ _ ((h0.block p hlp).trans HBK.out)
        simpa using h1)
      have hlz : tb < w2.heap.size := HX2.out.lt
      obtain ⟨ie, hie, hz0, hz1, hz2⟩ := info_parts infoE
      have HIE := Lib.hid hie
      have HZE := Lib.hid hz0
      have HZ1 := Lib.hid hz1
      clear hie hz0 hz1
      refine wp_region_headed 10 (fun W => Below w2.heap.size w2 W) (by kernel_rfl) (by kernel_rfl) ?_
      simp only [List.take_succ_cons, List.take_zero, List.drop_succ_cons, List.drop_zero]
      rw [show Array.replicate 10 false = #[false, false, false, false, false, false, false, false, false, false] from rfl]
      have hHeld := HD0.out
      refine held_take (i := 0) (d := 20) (v := .pointer (some ⟨p, 0, none⟩)) rfl rfl (by kernel_rfl) (by kernel_rfl) (by kernel_rfl) (fun _ _ _ h => h) (by rfl) (fun W _ => run_move_is (.tmp 0) rfl rfl W) hHeld ?_
      simp only [Act.put, List.setIfInBounds_toArray, List.set_cons_zero, List.set_cons_succ]
      refine held_take (i := 2) (d := 22) (v := .pointer (some ⟨p, 0, none⟩)) rfl rfl (by kernel_rfl) (by kernel_rfl) (by kernel_rfl) (fun _ _ _ h => h) (by rfl) (fun W _ => run_move_is (.tmp 0) rfl rfl W) hHeld ?_
      simp only [Act.put, List.setIfInBounds_toArray, List.set_cons_zero, List.set_cons_succ]
      refine held_take (i := 3) (d := 23) (v := .pointer (some ⟨p, 0, none⟩)) rfl rfl (by kernel_rfl) (by kernel_rfl) (by kernel_rfl) (fun _ _ _ h => h) (by rfl) (fun W _ => by go_simp) hHeld ?_
      simp only [Act.put, List.setIfInBounds_toArray, List.set_cons_zero, List.set_cons_succ]
      refine held_take (i := 4) (d := 24) (v := .pointer (some ⟨p, 1, none⟩)) rfl rfl (by kernel_rfl) (by kernel_rfl) (by kernel_rfl) (fun _ _ _ h => h) (by rfl) (fun W _ => by go_simp) hHeld ?_
      simp only [Act.put, List.setIfInBounds_toArray, List.set_cons_zero, List.set_cons_succ]
      refine held_take (i := 5) (d := 25) (v := .slice A n cp) rfl rfl (by kernel_rfl) (by kernel_rfl) (by kernel_rfl) (fun _ _ _ h => h) (by rfl) (fun W hW => by have q := (HLD.out W hW).1; go_simp) hHeld ?_
      simp only [Act.put, List.setIfInBounds_toArray, List.set_cons_zero, List.set_cons_succ]
      refine held_take (i := 7) (d := 27) (v := .agg #[.int .i64 xp, .int .i64 xo, .int .u64 xh, .int .u64 xa, .int .i64 xe]) rfl rfl (by kernel_rfl) (by kernel_rfl) (by kernel_rfl) (fun _ _ _ h => h) (by rfl) (fun W hW => by obtain ⟨_, q, _⟩ := HLD.out W hW; obtain ⟨q0, q1, q2, q3, q4⟩ := q.cells; go_simp) hHeld ?_
      simp only [Act.put, List.setIfInBounds_toArray, List.set_cons_zero, List.set_cons_succ]
      refine held_two (i := 1) (j := 8) (by kernel_rfl) ?_ ?_
      · refine held_make (w' := w2.drew.alloc (.cells #[] 27)) (d := 21) rfl rfl (by rfl) (v := .slice (some ⟨w2.drew.heap.size, 0, none⟩) 0 0) (by go_simp) ⟨HD0.out.alloc HD0.out.size _, ?_⟩
        simp only [Act.put, List.setIfInBounds_toArray, List.set_cons_zero, List.set_cons_succ]
        have HM1 := Lib.hid ((OwnK.made0 ev5 27 w2.drew).down (B := w2.heap.size) HD0.out.size)
        have HD1 : Hid (Below w2.heap.size w2 (w2.drew.alloc (.cells #[] 27))) := Lib.hid (HD0.out.alloc HD0.out.size _)
        refine held_two (i := 6) (j := 8) (by kernel_rfl) ?_ ?_
        · refine held_appK (d := 26) rfl rfl rfl (.tmp 21) (.tmp 25) 35 rfl Try.underlying35 HIE.out HZE.out rfl HZ1.out (by omega) HM1.out rfl (HLD.out _ HD1.out).2.2 rfl (by simp; omega) HD1.out.size ?_
          intro v6 v6w ho6 hg6 he6
          have HO6 : Hid (OwnK ev5 27 v6w w2.heap.size v6 L) := Lib.hid (by simpa using ho6)
          have HD6 : Hid (Below w2.heap.size w2 v6w) := Lib.hid (HD1.out.grown hg6 HD1.out.size (fun g e => (HM1.out.ge e).1))
          clear ho6 hg6 he6 HM1 HD1
          clear hHeld
          have hHeld := HD6.out
          refine ⟨hHeld, ?_⟩
          simp only [Act.put, List.setIfInBounds_toArray, List.set_cons_zero, List.set_cons_succ]
          generalize v6w = z6 at *
          refine held_one (i := 8) (by kernel_rfl) ?_
          refine held_make (w' := z6.alloc (.cells #[.int .i64 xp, .int .i64 xo, .int .u64 xh, .int .u64 xa, .int .i64 xe] 27)) (d := 28) rfl rfl (by rfl) (v := .slice (some ⟨z6.heap.size, 0, none⟩) 1 1) (by go_simp) ⟨HD6.out.alloc HD6.out.size _, ?_⟩
          simp only [Act.put, List.setIfInBounds_toArray, List.set_cons_zero, List.set_cons_succ]
          have HK8 := Lib.hid (Kws.one_ z6 ⟨xp, xo, xh, xa, xe⟩)
          refine held_one (i := 9) (by kernel_rfl) ?_
          refine held_appK (d := 29) rfl rfl rfl (.tmp 26) (.tmp 28) 35 rfl Try.underlying35 HIE.out HZE.out rfl HZ1.out (by omega) (HO6.out.alloc _) rfl HK8.out rfl (by simp; omega) (by have := HD6.out.size; simp; omega) ?_
          intro v9 v9w ho9 hg9 he9
          have HO9 : Hid (OwnK ev5 27 v9w w2.heap.size v9 (L ++ [⟨xp, xo, xh, xa, xe⟩])) := Lib.hid ho9
          have HD9 : Hid (Below w2.heap.size w2 v9w) := Lib.hid ((HD6.out.alloc HD6.out.size _).grown hg9 (by have := HD6.out.size; simp; omega) (fun g e => (HO6.out.ge e).1))
          clear ho9 hg9 he9 HO6 HK8 HD6
          clear hHeld
          have hHeld := HD9.out
          refine ⟨hHeld, ?_⟩
          simp only [Act.put, List.setIfInBounds_toArray, List.set_cons_zero, List.set_cons_succ]
          generalize v9w = z9 at *
          refine wpAnyH_done (by kernel_rfl) ?_ _
          clear hHeld
          simp only [atEnd]
          obtain ⟨A9, n9, cp9, rfl, hx9⟩ := HO9.out.shape
          have hpl : p < z9.heap.size := Nat.lt_of_lt_of_le (Nat.lt_of_lt_of_le (Nat.lt_trans hlp hlz) HD9.out.size) (Nat.le_refl _)
          have h0 : Below tb w z9 := HB2.out.trans (HD9.out.mono (Nat.le_trans HTL.out HB2.out.size))
          have hbk9 := (h0.block p hlp).trans HBK.out
          have s1 := cell_of_row z9 p 1 _ _ _ hbk9
          simp only [List.getElem?_toArray, List.getElem?_cons_zero, List.getElem?_cons_succ] at s1
          have f1 := frozen_of_row z9 p 1 _ _ hbk9
          have HFI := Lib.hid (HPT.out (.int .i64 0) z9 A9 n9 cp9 h0 (HO9.out.down (Nat.le_of_lt hlz)))
          clear hbk9 hx9 HLD HD9 h0
          go_wp2
          go_ret
          rw [HE.out.1, HE.out.2]
          exact HFI.out
        · refine held_make (w' := (w2.drew.alloc (.cells #[] 27)).alloc (.cells #[.int .i64 xp, .int .i64 xo, .int .u64 xh, .int .u64 xa, .int .i64 xe] 27)) (d := 28) rfl rfl (by rfl) (v := .slice (some ⟨(w2.drew.alloc (.cells #[] 27)).heap.size, 0, none⟩) 1 1) (by go_simp) ⟨HD1.out.alloc HD1.out.size _, ?_⟩
          simp only [Act.put, List.setIfInBounds_toArray, List.set_cons_zero, List.set_cons_succ]
          have HM8 := Lib.hid (HM1.out.alloc (.cells #[.int .i64 xp, .int .i64 xo, .int .u64 xh, .int .u64 xa, .int .i64 xe] 27))
          have HK8 := Lib.hid (Kws.one_ (w2.drew.alloc (.cells #[] 27)) ⟨xp, xo, xh, xa, xe⟩)
          have HD8 : Hid (Below w2.heap.size w2 ((w2.drew.alloc (.cells #[] 27)).alloc (.cells #[.int .i64 xp, .int .i64 xo, .int .u64 xh, .int .u64 xa, .int .i64 xe] 27))) := Lib.hid (HD1.out.alloc HD1.out.size _)
          have HN8 : Hid ((some w2.drew.heap.size : Option Nat) ≠ some (w2.drew.alloc (.cells #[] 27)).heap.size) := Lib.hid (by simp)
          clear HM1 HD1
          generalize (w2.drew.alloc (.cells #[] 27)).alloc (.cells #[.int .i64 xp, .int .i64 xo, .int .u64 xh, .int .u64 xa, .int .i64 xe] 27) = z8 at *
          refine held_one (i := 6) (by kernel_rfl) ?_
          refine held_appK (d := 26) rfl rfl rfl (.tmp 21) (.tmp 25) 35 rfl Try.underlying35 HIE.out HZE.out rfl HZ1.out (by omega) HM8.out rfl (HLD.out _ HD8.out).2.2 rfl (by simp; omega) HD8.out.size ?_
          intro v6 v6w ho6 hg6 he6
          have HO6 : Hid (OwnK ev5 27 v6w w2.heap.size v6 L) := Lib.hid (by simpa using ho6)
          have HD6 : Hid (Below w2.heap.size w2 v6w) := Lib.hid (HD8.out.grown hg6 HD8.out.size (fun g e => (HM8.out.ge e).1))
          have HK6 := Lib.hid (HK8.out.grown_ hg6 HN8.out)
          clear ho6 hg6 he6 HK8 HD8 HM8
          clear hHeld
          have hHeld := HD6.out
          refine ⟨hHeld, ?_⟩
          simp only [Act.put, List.setIfInBounds_toArray, List.set_cons_zero, List.set_cons_succ]
          generalize v6w = z6 at *
          refine held_one (i := 9) (by kernel_rfl) ?_
          refine held_appK (d := 29) rfl rfl rfl (.tmp 26) (.tmp 28) 35 rfl Try.underlying35 HIE.out HZE.out rfl HZ1.out (by omega) HO6.out rfl HK6.out rfl (by omega) HD6.out.size ?_
          intro v9 v9w ho9 hg9 he9
          have HO9 : Hid (OwnK ev5 27 v9w w2.heap.size v9 (L ++ [⟨xp, xo, xh, xa, xe⟩])) := Lib.hid ho9
          have HD9 : Hid (Below w2.heap.size w2 v9w) := Lib.hid (HD6.out.grown hg9 HD6.out.size (fun g e => (HO6.out.ge e).1))
          clear ho9 hg9 he9 HO6 HK6 HD6
          clear hHeld
          have hHeld := HD9.out
          refine ⟨hHeld, ?_⟩
          simp only [Act.put, List.setIfInBounds_toArray, List.set_cons_zero, List.set_cons_succ]
          generalize v9w = z9 at *
          refine wpAnyH_done (by kernel_rfl) ?_ _
          clear hHeld
          simp only [atEnd]
          obtain ⟨A9, n9, cp9, rfl, hx9⟩ := HO9.out.shape
          have hpl : p < z9.heap.size := Nat.lt_of_lt_of_le (Nat.lt_of_lt_of_le (Nat.lt_trans hlp hlz) HD9.out.size) (Nat.le_refl _)
          have h0 : Below tb w z9 := HB2.out.trans (HD9.out.mono (Nat.le_trans HTL.out HB2.out.size))
          have hbk9 := (h0.block p hlp).trans HBK.out
          have s1 := cell_of_row z9 p 1 _ _ _ hbk9
          simp only [List.getElem?_toArray, List.getElem?_cons_zero, List.getElem?_cons_succ] at s1
          have f1 := frozen_of_row z9 p 1 _ _ hbk9
          have HFI := Lib.hid (HPT.out (.int .i64 0) z9 A9 n9 cp9 h0 (HO9.out.down (Nat.le_of_lt hlz)))
          clear hbk9 hx9 HLD HD9 h0
          go_wp2
          go_ret
          rw [HE.out.1, HE.out.2]
          exact HFI.out
      · refine held_make (w' := w2.drew.alloc (.cells #[.int .i64 xp, .int .i64 xo, .int .u64 xh, .int .u64 xa, .int .i64 xe] 27)) (d := 28) rfl rfl (by rfl) (v := .slice (some ⟨w2.drew.heap.size, 0, none⟩) 1 1) (by go_simp) ⟨HD0.out.alloc HD0.out.size _, ?_⟩
        simp only [Act.put, List.setIfInBounds_toArray, List.set_cons_zero, List.set_cons_succ]
        have HK1 := Lib.hid (Kws.one_ w2.drew ⟨xp, xo, xh, xa, xe⟩)
        have HD1 : Hid (Below w2.heap.size w2 (w2.drew.alloc (.cells #[.int .i64 xp, .int .i64 xo, .int .u64 xh, .int .u64 xa, .int .i64 xe] 27))) := Lib.hid (HD0.out.alloc HD0.out.size _)
        refine held_one (i := 1) (by kernel_rfl) ?_
        refine held_make (w' := (w2.drew.alloc (.cells #[.int .i64 xp, .int .i64 xo, .int .u64 xh, .int .u64 xa, .int .i64 xe] 27)).alloc (.cells #[] 27)) (d := 21) rfl rfl (by rfl) (v := .slice (some ⟨(w2.drew.alloc (.cells #[.int .i64 xp, .int .i64 xo, .int .u64 xh, .int .u64 xa, .int .i64 xe] 27)).heap.size, 0, none⟩) 0 0) (by go_simp) ⟨HD1.out.alloc HD1.out.size _, ?_⟩
        simp only [Act.put, List.setIfInBounds_toArray, List.set_cons_zero, List.set_cons_succ]
        have HM8 := Lib.hid ((OwnK.made0 ev5 27 (w2.drew.alloc (.cells #[.int .i64 xp, .int .i64 xo, .int .u64 xh, .int .u64 xa, .int .i64 xe] 27))).down (B := w2.heap.size) HD1.out.size)
        have HK8 := Lib.hid (HK1.out.below ((Below.refl (w2.drew.heap.size + 1) _).alloc (by simp) (.cells #[] 27)))
        have HD8 : Hid (Below w2.heap.size w2 ((w2.drew.alloc (.cells #[.int .i64 xp, .int .i64 xo, .int .u64 xh, .int .u64 xa, .int .i64 xe] 27)).alloc (.cells #[] 27))) := Lib.hid (HD1.out.alloc HD1.out.size _)
        have HN8 : Hid ((some (w2.drew.alloc (.cells #[.int .i64 xp, .int .i64 xo, .int .u64 xh, .int .u64 xa, .int .i64 xe] 27)).heap.size : Option Nat) ≠ some w2.drew.heap.size) := Lib.hid (by simp)
        clear HK1 HD1
        generalize (w2.drew.alloc (.cells #[.int .i64 xp, .int .i64 xo, .int .u64 xh, .int .u64 xa, .int .i64 xe] 27)).alloc (.cells #[] 27) = z8 at *
        refine held_one (i := 6) (by kernel_rfl) ?_
        refine held_appK (d := 26) rfl rfl rfl (.tmp 21) (.tmp 25) 35 rfl Try.underlying35 HIE.out HZE.out rfl HZ1.out (by omega) HM8.out rfl (HLD.out _ HD8.out).2.2 rfl (by simp; omega) HD8.out.size ?_
        intro v6 v6w ho6 hg6 he6
        have HO6 : Hid (OwnK ev5 27 v6w w2.heap.size v6 L) := Lib.hid (by simpa using ho6)
        have HD6 : Hid (Below w2.heap.size w2 v6w) := Lib.hid (HD8.out.grown hg6 HD8.out.size (fun g e => (HM8.out.ge e).1))
        have HK6 := Lib.hid (HK8.out.grown_ hg6 HN8.out)
        clear ho6 hg6 he6 HK8 HD8 HM8
        clear hHeld
        have hHeld := HD6.out
        refine ⟨hHeld, ?_⟩
        simp only [Act.put, List.setIfInBounds_toArray, List.set_cons_zero, List.set_cons_succ]
        generalize v6w = z6 at *
        refine held_one (i := 9) (by kernel_rfl) ?_
        refine held_appK (d := 29) rfl rfl rfl (.tmp 26) (.tmp 28) 35 rfl Try.underlying35 HIE.out HZE.out rfl HZ1.out (by omega) HO6.out rfl HK6.out rfl (by omega) HD6.out.size ?_
        intro v9 v9w ho9 hg9 he9
        have HO9 : Hid (OwnK ev5 27 v9w w2.heap.size v9 (L ++ [⟨xp, xo, xh, xa, xe⟩])) := Lib.hid ho9
        have HD9 : Hid (Below w2.heap.size w2 v9w) := Lib.hid (HD6.out.grown hg9 HD6.out.size (fun g e => (HO6.out.ge e).1))
        clear ho9 hg9 he9 HO6 HK6 HD6
        clear hHeld
        have hHeld := HD9.out
        refine ⟨hHeld, ?_⟩
        simp only [Act.put, List.setIfInBounds_toArray, List.set_cons_zero, List.set_cons_succ]
        generalize v9w = z9 at *
        refine wpAnyH_done (by kernel_rfl) ?_ _
        clear hHeld
        simp only [atEnd]
        obtain ⟨A9, n9, cp9, rfl, hx9⟩ := HO9.out.shape
        have hpl : p < z9.heap.size := Nat.lt_of_lt_of_le (Nat.lt_of_lt_of_le (Nat.lt_trans hlp hlz) HD9.out.size) (Nat.le_refl _)
        have h0 : Below tb w z9 := HB2.out.trans (HD9.out.mono (Nat.le_trans HTL.out HB2.out.size))
        have hbk9 := (h0.block p hlp).trans HBK.out
        have s1 := cell_of_row z9 p 1 _ _ _ hbk9
        simp only [List.getElem?_toArray, List.getElem?_cons_zero, List.getElem?_cons_succ] at s1
        have f1 := frozen_of_row z9 p 1 _ _ hbk9
        have HFI := Lib.hid (HPT.out (.int .i64 0) z9 A9 n9 cp9 h0 (HO9.out.down (Nat.le_of_lt hlz)))
        clear hbk9 hx9 HLD HD9 h0
        go_wp2
        go_ret
        rw [HE.out.1, HE.out.2]
        exact HFI.out
  · have hzb : (kc != 0) = true := by simpa using hz
    have HE : Hid (E = kc ∧ LL = L) := Lib.hid (by
      have h1 : E = kc := by rw [HAE.out, if_pos hz]
      exact ⟨h1, HNO.out (by omega)⟩)
    go_wp2
    go_ret
    rw [HE.out.1, HE.out.2]
    exact HST.out _ _ HB1.out
end
end Go.Proofs.Ytlgoiccekgjhnaa
