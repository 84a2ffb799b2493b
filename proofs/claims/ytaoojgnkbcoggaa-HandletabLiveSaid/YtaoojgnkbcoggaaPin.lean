/-
  Contracts of New, Len, Put and Take of a pool of integers, and of a nil one. Conditions: at most a million items.
-/
import Derived.Test.YtaoojgnkbcoggaaPol
import Derived.Test.YtaoojgnkbcoggaaCell
namespace Go.Proofs.Ytaoojgnkbcoggaa
open Go.ChangeShapes Go.WideShapes Go.RowKit
set_option linter.unusedVariables false
set_option maxHeartbeats 4000000
set_option maxRecDepth 100000

/-- A pool of integers. -/
abbrev PolI := Pol int1 3 123
theorem infoI : (Try.prog.info? 3).map (fun i => (i.zero, i.size, i.bytes)) = some (some (.int .i64 0), 1, 8) := by kernel_rfl
theorem info_parts {P : Program} {t : TypeId} {z : Value} {s b : Nat} (h : (P.info? t).map (fun i => (i.zero, i.size, i.bytes)) = some (some z, s, b)) : ∃ i, P.info? t = some i ∧ i.zero = some z ∧ i.size = s ∧ i.bytes = b := by
  obtain ⟨i, h1, h2⟩ := Option.map_eq_some_iff.1 h
  simp only [Prod.mk.injEq] at h2
  exact ⟨i, h1, h2.1, h2.2.1, h2.2.2⟩
def ClI (w : World) (l : List Int) (e : Ending) (w' : World) : Prop := ∃ v, e = .returned v ∧ OwnK int1 3 w' w.heap.size v l ∧ Below w.heap.size w w'
theorem cloneI_any (A : Option Addr) (n c : Nat) (l : List Int) (w : World) (h : Kws int1 w w.heap.size A n c l) (hn : n ≤ 1000000) :
    Calls Try.prog 62 #[.slice A n c] w (ClI w l) := by
  obtain ⟨i0, hi, hz0, hz1, hz2⟩ := info_parts infoI
  have HX := Lib.hid h
  cases A with
  | none =>
    obtain rfl : c = 0 := h.nil rfl
    obtain rfl : n = 0 := by have := h.cap; omega
    obtain rfl : l = [] := List.eq_nil_of_length_eq_zero h.len
    have hq : ∀ W : World, (binOp .eql 67 (.slice none 0 0) (.slice none 0 0)).run Try.prog W = .ok (.bool true) W := fun W => Lib.run_eql_slice_nil W _ _ none 0 0 0 0 Try.underlying67
    clear h
    go_enter Try.func62, Try.ntmps62
    go_wp2
    go_ret
    exact ⟨_, rfl, OwnK.nil _ _ _ _, Below.refl _ _⟩
  | some a =>
    have hq : ∀ W : World, (binOp .eql 67 (.slice (some a) n c) (.slice none 0 0)).run Try.prog W = .ok (.bool false) W := fun W => Lib.run_eql_slice_nil W _ _ (some a) n c 0 0 Try.underlying67
    have HO : Hid (OwnK int1 3 (w.alloc (.cells #[] 3)) w.heap.size (.slice (some ⟨w.heap.size, 0, none⟩) 0 0) []) := Lib.hid (World.ownsRow_made w #[] 0 (Nat.le_refl _) (Nat.zero_le _) rfl)
    clear h
    go_enter Try.func62, Try.ntmps62
    go_wp2_with (at_builtin; go_must (refine wpList_appK _ rfl (.tmp 5) (.tmp 6) 67 rfl Try.underlying67 hi hz0 rfl hz1 (by omega) HO.out rfl (HX.out.alloc _) rfl (by simp; omega) (by simp) ?_); intro v2 w2 ho2 hb2 hg2)
    go_ret
    exact ⟨_, rfl, ho2, ((Below.refl _ _).alloc (Nat.le_refl _) _).trans hb2⟩
theorem newI_any (A : Option Addr) (n cc : Nat) (l : List Int) (w : World) (h : Kws int1 w w.heap.size A n cc l) (hn : n ≤ 1000000) (c : Nat → Nat) (k : Nat) :
    Calls Try.prog 51 #[.slice A n cc] w fun e w' => ∃ p, e = .returned (.pointer (some ⟨p, 0, none⟩)) ∧ w.heap.size ≤ p ∧ PolI w' (rc c w.heap.size k) k p l ∧ Below w.heap.size w w' := by
  have HC := Lib.hid (cloneI_any A n cc l w h hn)
  clear h
  go_enter Try.func51, Try.ntmps51
  go_wp2_with fail
  refine HC.out.mono ?_
  rintro e w2 ⟨v, rfl, ho, hb⟩
  have HO := Lib.hid ho
  have HB := Lib.hid hb
  obtain ⟨A2, n2, c2, rfl, hx2⟩ := ho.shape
  clear HC ho hb hx2
  go_wp2
  go_ret
  exact ⟨_, rfl, HB.out.size, Pol.new HO.out HB.out.size (fun g hg => rc_new hg), HB.out.alloc HB.out.size _⟩
theorem lenI_any (w : World) (c : Nat → Nat) (k p : Nat) (l : List Int) (h : PolI w c k p l) :
    Calls Try.prog 64 #[.pointer (some ⟨p, 0, none⟩)] w fun e w' => e = .returned (.int .i64 l.length) ∧ w = w' := by
  obtain ⟨v, h1, h2, h3, h4⟩ := h.ex
  obtain ⟨A, n, cc, rfl, hks⟩ := h2.shape
  have HLN := Lib.hid hks.len
  have k0 : w.cell? ⟨p, 0, none⟩ = some (.slice A n cc) := cell_of_row w p 0 _ _ _ h1
  clear h h1 h2 h3 h4 hks
  go_enter Try.func64, Try.ntmps64
  go_wp2
  go_ret
  exact ⟨by rw [HLN.out]; rfl, rfl⟩
theorem lenIN_any (w : World) : Calls Try.prog 64 #[.pointer none] w fun e w' => e = .returned (.int .i64 0) ∧ w = w' := by
  go_enter Try.func64, Try.ntmps64
  go_wp2
  go_ret
  exact ⟨rfl, rfl⟩
theorem putI_any (w : World) (c : Nat → Nat) (k p : Nat) (l : List Int) (x : Int) (h : PolI w c k p l) (hl : l.length ≤ 1000000) :
    Calls Try.prog 52 #[.pointer (some ⟨p, 0, none⟩), .int .i64 x] w fun e w' => (∃ v, e = .returned v) ∧ PolI w' (rc c w.heap.size k) k p (l ++ [x]) ∧ Kept c k w w' := by
  obtain ⟨i0, hi, hz0, hz1, hz2⟩ := info_parts infoI
  obtain ⟨v, h1, h2, h3, h4⟩ := h.ex
  have hpw := h.lt
  have H4 := Lib.hid h4
  have H3 := Lib.hid h3
  have H1 := Lib.hid h1
  have H2 := Lib.hid h2
  obtain ⟨A, n, cc, rfl, hks⟩ := h2.shape
  have HI := Lib.hid hi
  have HZ := Lib.hid hz0
  have hb1 : Below w.heap.size w (w.alloc (.cells #[.int .i64 x] 3)) := (Below.refl _ _).alloc (Nat.le_refl _) _
  have HB1 := Lib.hid hb1
  have HO1 := Lib.hid (h2.alloc (.cells #[.int .i64 x] 3))
  have k0 : w.cell? ⟨p, 0, none⟩ = some (.slice A n cc) := cell_of_row w p 0 _ _ _ h1
  have k1 : (w.alloc (.cells #[.int .i64 x] 3)).cell? ⟨p, 0, none⟩ = some (.slice A n cc) := cell_under k0 _
  have HY : Hid (Kws int1 (w.alloc (.cells #[.int .i64 x] 3)) (w.heap.size + 1) (some ⟨w.heap.size, 0, none⟩) 1 1 [x]) := Lib.hid (Kws.new (E := int1) w [x] _ _ 1 rfl rfl (by unfold maxLen; omega))
  clear h h1 h2 h3 h4 hks hi hz0 hb1
  go_enter Try.func52, Try.ntmps52
  go_wp2_with (at_builtin; go_must (refine wpList_appK _ rfl (.tmp 10) (.tmp 12) 67 rfl Try.underlying67 HI.out HZ.out rfl hz1 (by omega) HO1.out rfl HY.out rfl (by omega) (by simp) ?_); intro v2 w2 ho2 hb2 hg2; obtain ⟨A2, n2, c2, rfl, hx2⟩ := ho2.shape; have HP := Lib.hid (Pol.put (pt := 123) H1.out H2.out H3.out H4.out HB1.out ho2 hg2.1 hg2.2); have k2 : w2.cell? ⟨p, 0, none⟩ = some (.slice A n cc) := cell_of_row w2 p 0 _ _ _ HP.out.2.2; have k3 : w2.frozen? ⟨p, 0, none⟩ = false := frozen_of_row w2 p 0 _ _ HP.out.2.2; clear ho2 hb2 hg2 hx2)
  go_end0
  exact ⟨⟨_, rfl⟩, HP.out.1, HP.out.2.1⟩
theorem putIN_any (w : World) (x : Int) : Calls Try.prog 52 #[.pointer none, .int .i64 x] w fun e w' => (∃ v, e = .returned v) ∧ w = w' := by
  go_enter Try.func52, Try.ntmps52
  go_wp2
  go_end0
  exact ⟨⟨_, rfl⟩, rfl⟩
end Go.Proofs.Ytaoojgnkbcoggaa
