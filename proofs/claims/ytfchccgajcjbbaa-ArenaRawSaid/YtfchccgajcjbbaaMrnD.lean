/-
  Contract of the model's Read. Conditions: at most nine hundred allocated extents.
-/
import Derived.Test.YtfchccgajcjbbaaMrn
import Derived.Deep.RegionLaw
namespace Go.Proofs.Ytfchccgajcjbbaa
open Go.ChangeShapes Go.WideShapes Go.ChangeAt Go.RowKit
set_option maxHeartbeats 4000000
set_option maxRecDepth 100000

section
variable {P : Program}
/-- An append of one-cell values as one step of a region that draws. -/
theorem step_app (w : World) {ops : Array Oper} {o : Oper} {a : Act} {K : Act → World → Prop} {Q : Exit → Act → World → Prop} {E : Prop} (hgd : o.guard = none) (s x : Operand) (t : TypeId)
    (ho : o.op = .call { callee := .builtin .append, args := #[s, x], argTypes := #[t, t] })
    {e : TypeId} {i : TypeInfo} {z : Value} (ht : P.underlying t = some (.slice e)) (hi : P.info? e = some i) (hz : i.zero = some z) (hzs : z.cells.size = 1) (hsz : i.size = 1) (hby : i.bytes ≤ 64)
    {base : Nat} {v : Value} {xs : List Value} (hown : Own e w base v xs) (hs : a.eval s = v) {B : Nat} {A : Option Addr} {m c : Nat} {ys : List Value} (hy : Row w B A m c ys) (hx : a.eval x = .slice A m c) (h1 : ∀ u ∈ ys, u.oneCell' = true)
    (hsm : xs.length + m ≤ 4294967296) (hb : base ≤ w.heap.size)
    (h : ∀ v' w', Own e w' base v' (xs ++ ys) → Below base w w' → K (a.put o.dst v') w') :
    if Region.wanted o (yielded ops a.tmps) = true then Oper.wp P o a w K Q else E := by
  have hw : Region.wanted o (yielded ops a.tmps) = true := by simp [Region.wanted, hgd]
  rw [if_pos hw]
  obtain ⟨v', w', hrun, h2, h3⟩ := run_app (P := P) w t o.type e i z ht hi hz hzs hsz hby base v xs hown hy h1 hsm hb
  unfold Oper.wp execOp
  simp only [ho, resolve, invoke, builtin, Sem.run_bind, Sem.run_pure, Result.andThen_ok, List.map_toArray, List.map_cons, List.map_nil, hs, hx, hrun]
  exact h v' w' h2 h3
end

theorem readR_any (c : Nat → Nat) (q g : Nat) (U : List (Int × Int)) (bs : List Int) (x y off n : Int) (w : World) (h : Mrn w c q g U bs) (hi : Ins bs.length U) (hU : U.length ≤ 900) (hn : n ≤ 9223372036854775807) :
    Calls Try.prog 17 #[.pointer (some ⟨q, 0, none⟩), .agg #[.int .i64 x, .int .i64 y], .int .i64 off, .int .i64 n] w (RdE w (rdL U bs x y off n) (bytC U x y off n)) := by
  obtain ⟨i0, hi0, hz0, hz1, hz2⟩ := infoU8
  have hb0 : Below w.heap.size w (w.alloc (.cells #[.int .i64 x, .int .i64 y] 31)) := (Below.refl _ _).alloc (Nat.le_refl _) _
  have HBX := Lib.hid (Box.new (w := w) (x := x) (y := y))
  have HB0 := Lib.hid hb0
  have HR := Lib.hid (h.go hb0)
  have hsm := h.small
  have hqlt := h.lt
  have HIN := Lib.hid (fun hm => hi x y hm)
  have HI0 := Lib.hid hi0
  have HZ0 := Lib.hid hz0
  clear h hb0 hi hi0 hz0
  go_enter Try.func17, Try.ntmps17
  go_wp2
  generalize w.alloc (.cells #[.int .i64 x, .int .i64 y] 31) = w1 at *
  have a1 : ∀ m : Later w1, m.val.cell? ⟨w.heap.size, 0, none⟩ = some (.int .i64 x) := fun m => later_old m HBX.out.cell0
  have a2 : ∀ m : Later w1, m.val.cell? ⟨w.heap.size, 1, none⟩ = some (.int .i64 y) := fun m => later_old m HBX.out.cell1
  have H2 := Lib.hid (fun m : Later w1 => hasR_any c 2 q _ x y U m.val (HR.out.go m.2).mo (by omega))
  generalize hd : decide ((x, y) ∈ U) = d at *
  have HD := Lib.hid hd
  clear hd
  refine wp_region_later (by kernel_rfl) (by kernel_rfl) ?_
  repeat (go_big_quiet_step (first | (go_at_call 44; exact Calls.later (H2.out _))))
  refine wpQuiet_nil ?_
  rintro w4 ⟨⟨_, hq⟩, rfl⟩
  have HB4 := Lib.hid (Below.then HB0.out hq (Nat.le_refl _))
  have HE4 := Lib.hid (HBX.out.go hq)
  have HR4 := Lib.hid (HR.out.go hq)
  have g0 := HE4.out.cell0
  have g1 := HE4.out.cell1
  clear hq H2 HB0 HBX HR a1 a2
  cases d with
  | false =>
    have HC : Hid (bytC U x y off n = 6) := Lib.hid (if_neg (of_decide_eq_false HD.out))
    have HL : Hid (rdL U bs x y off n = []) := Lib.hid (by unfold rdL; rw [HC.out, if_neg (by omega)])
    go_wp2
    go_ret2
    exact ⟨_, by rw [HC.out]; rfl, by rw [HL.out]; exact Own.nil _ _ _, HB4.out⟩
  | true =>
    have HM := Lib.hid (of_decide_eq_true HD.out)
    obtain ⟨x0, y0, xy, y1⟩ := HIN.out HM.out
    by_cases hn0 : n < 0
    · have HC : Hid (bytC U x y off n = 1) := Lib.hid (by unfold bytC; rw [if_pos HM.out, if_pos hn0])
      have HL : Hid (rdL U bs x y off n = []) := Lib.hid (by unfold rdL; rw [HC.out, if_neg (by omega)])
      have dn : decide (n < 0) = true := decide_eq_true hn0
      go_wp2
      go_ret2
      exact ⟨_, by rw [HC.out]; rfl, by rw [HL.out]; exact Own.nil _ _ _, HB4.out⟩
    · have dn : decide (n < 0) = false := decide_eq_false hn0
      have HW := Lib.hid (fun W => withinR_any off n y W ⟨by omega, y1⟩ (by omega))
      have HC : Hid (bytC U x y off n = if wi off n y = true then 0 else 7) := Lib.hid (by unfold bytC; rw [if_pos HM.out, if_neg hn0])
      have HWI := Lib.hid (fun h : wi off n y = true => wi_is h)
      generalize wi off n y = b at *
      cases b with
      | false =>
        have HL : Hid (rdL U bs x y off n = []) := Lib.hid (by unfold rdL; rw [HC.out]; rfl)
        go_wp2_with fail
        refine (HW.out _).mono ?_
        rintro e w5 ⟨rfl, hb⟩
        have HB5 := Lib.hid (Below.then HB4.out hb (Nat.le_refl _))
        clear hb HW
        go_wp2
        go_ret2
        exact ⟨_, by rw [HC.out]; rfl, by rw [HL.out]; exact Own.nil _ _ _, HB5.out⟩
      | true =>
        obtain ⟨o0, o1⟩ := HWI.out rfl
        have HL : Hid (rdL U bs x y off n = (bs.drop (x + off).toNat).take n.toNat) := Lib.hid (by unfold rdL; rw [HC.out]; rfl)
        go_wp2_with fail
        refine (HW.out _).mono ?_
        rintro e w5 ⟨rfl, hb⟩
        have HB5 := Lib.hid (Below.then HB4.out hb (Nat.le_refl _))
        have HE5 := Lib.hid (HE4.out.go hb)
        have HR5 := Lib.hid (HR4.out.go hb)
        have hsl := slice_is (L := bs.length) g (x + off) (x + off + n) (by omega) (by omega) (by omega)
        have e1 : (x + off + n).toNat - (x + off).toNat = n.toNat := by omega
        rw [e1] at hsl
        have hq1 : 0 < n.toNat → vq bs.length (x + off).toNat = (x + off).toNat := fun hm => vq_is (m := n.toNat) (by omega) hm
        have HO : Hid (Own 5 (w5.drew.alloc (.cells #[] 5)) w5.heap.size (.slice (some ⟨w5.heap.size, 0, none⟩) 0 0) []) := Lib.hid (World.ownsRow_made w5.drew #[] 0 (Nat.le_refl _) (Nat.zero_le _) rfl)
        have hbd : Below w5.heap.size w5 (w5.drew.alloc (.cells #[] 5)) := (below_drewN (Below.refl _ _) 1).alloc (Nat.le_refl _) _
        have HBD := Lib.hid hbd
        have HX : Hid (Row (w5.drew.alloc (.cells #[] 5)) w5.heap.size (some ⟨g, vq bs.length (x + off).toNat, none⟩) n.toNat (bs.length - (x + off).toNat) (iv .u8 (rdL U bs x y off n))) := Lib.hid (by
          rw [HL.out]
          exact ((HR5.out.byt.sub (o := (x + off).toNat) (m := n.toNat) hsm (by omega) hq1).below hbd))
        have k0 := HE5.out.cell0
        have k1 := HE5.out.cell1
        have k2 := HR5.out.cell2
        have j0 := cell_under k0 (.cells #[] 5)
        have j1 := cell_under k1 (.cells #[] 5)
        have j2 := cell_under k2 (.cells #[] 5)
        generalize rdL U bs x y off n = l at *
        generalize vq bs.length (x + off).toNat = q1 at *
        have hN8 : n.toNat ≤ 1048576 := by omega
        generalize n.toNat = N at *
        generalize bs.length - (x + off).toNat = cp at *
        clear hb HW HB4 HE4 HR4 g0 g1 hbd HE5 HR5 hq1 e1
        have hw1 : IntKind.i64.wrap (x + off) = x + off := by rw [IntKind.wrap_i64]; omega
        have hw2 : IntKind.i64.wrap (x + off + n) = x + off + n := by rw [IntKind.wrap_i64]; omega
        go_wp2_with fail
        go_region_law
          (first
            | (refine step_app (w5.drew.alloc (.cells #[] 5)) rfl (.tmp 24) (.tmp 39) 40 rfl Try.underlying40 HI0.out HZ0.out rfl hz1 (by omega) HO.out rfl HX.out rfl iv_one (by simp; omega) (by simp) ?_
               intro v6 w6 ho6 hb6
               have HO6 := Lib.hid ho6
               have HB6 := Lib.hid (Below.then HB5.out (HBD.out.trans hb6) (Nat.le_refl _))
               clear ho6 hb6))
        all_goals
          obtain ⟨A6, n6, c6, rfl, _⟩ := HO6.out.shape
          go_wp2
          go_ret2
          refine ⟨.slice A6 n6 c6, by rw [HC.out]; rfl, ?_, HB6.out⟩
          simpa using HO6.out.down (B := w.heap.size) HB5.out.size
end Go.Proofs.Ytfchccgajcjbbaa
