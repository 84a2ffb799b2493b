/-
  Contract of the model's Lookup. Conditions: at most 255 types registered.
-/
import Derived.Test.YtgddlpabgeeflaaMrg
import Derived.Test.YtgddlpabgeeflaaRgl
namespace Go.Proofs.Ytgddlpabgeeflaa
open Go.ChangeShapes Go.WideShapes Go.RowKit
set_option linter.unusedVariables false
set_option maxHeartbeats 4000000
set_option maxRecDepth 100000

/-- What the model's Lookup says. -/
def LrE (w : World) (x : Int × List (Int × Int)) (er : Int) (e : Ending) (w' : World) : Prop :=
  ∃ A m c, e = .returned (.tuple #[.agg #[.int .i64 x.1, .slice A m c], .int .i64 er]) ∧ Exs w' w'.heap.size A m c x.2 ∧ Below w.heap.size w w'
theorem lookupR_any (g : Int) (w : World) (c : Nat → Nat) (k p : Nat) (T : List (Int × List (Int × Int))) (hr : Mrg w c k p T) (hT : T.length ≤ 255) (hgb : -9223372036854775808 ≤ g ∧ g ≤ 9223372036854775807) :
    Calls Try.prog 27 #[.pointer (some ⟨p, 0, none⟩), .int .i64 g] w (LrE w (lkT T g) (lkE T g)) := by
  have hb1 : Below w.heap.size w (w.alloc (.cells #[.int .i64 0, .slice none 0 0] 35)) := (Below.refl _ _).alloc (Nat.le_refl _) _
  have HB1 := Lib.hid hb1
  have HT1 := Lib.hid (TyB.new (w := w) (n := 0) (A := none) (m := 0) (c := 0))
  have c0 := HT1.out.cell0
  have c1 := HT1.out.cell1
  have c2 := HT1.out.fr 0
  have c3 := HT1.out.fr 1
  obtain ⟨Av, nv, cv, rs, h1, ⟨hks, _⟩, h3, h5, h6⟩ := hr.ex
  have HF0 : Hid (∀ r ∈ rs, Ex0 w c r.A r.m r.c r.l) := Lib.hid h5
  have h1 := (hb1.block p hr.lt).trans h1
  have hks := hks.go hb1
  have hnv : nv = T.length := by rw [← h6, tys_len, hks.len]
  have HLN := Lib.hid hnv
  have hn255 : nv ≤ 255 := by omega
  have q0 : (w.alloc (.cells #[.int .i64 0, .slice none 0 0] 35)).cell? ⟨p, 0, none⟩ = some (.slice Av nv cv) := cell_of_row _ p 0 _ _ _ h1
  have hcapv := hks.cap
  have hsmv := hks.small
  unfold maxLen at hsmv
  obtain ⟨LT, hLT⟩ : ∃ LT, lkT T g = LT := ⟨_, rfl⟩
  obtain ⟨LE_, hLE⟩ : ∃ LE_, lkE T g = LE_ := ⟨_, rfl⟩
  rw [hLT, hLE]
  have HV := Lib.hid (And.intro hLT hLE)
  unfold lkT lkE at HV
  have HKS := Lib.hid hks
  have H6 := Lib.hid h6
  clear h1 h3 h5 h6 hks hnv hr hb1 hLT hLE
  by_cases hg : g < 1
  · have hd : decide (g < 1) = true := decide_eq_true hg
    have HVV : Hid (LT = (0, []) ∧ LE_ = 20) := Lib.hid ⟨by rw [← HV.out.1, if_pos (.inl hg)], by rw [← HV.out.2, if_pos (.inl hg)]⟩
    go_enter Try.func27, Try.ntmps27
    go_wp2
    exact bodyPost_ret (v := .tuple #[.agg #[.int .i64 0, .slice none 0 0], .int .i64 20]) (by simp [results, Try.results27, go_sem, c0, c1]) rfl ⟨_, _, _, by rw [HVV.out.1, HVV.out.2], by rw [HVV.out.1]; exact Exs.none_, HB1.out⟩
  · have hd : decide (g < 1) = false := decide_eq_false hg
    by_cases hg2 : (T.length : Int) < g
    · have hg3 : (nv : Int) < g := by have := HLN.out; omega
      have hd3 : decide ((nv : Int) < g) = true := decide_eq_true hg3
      have HVV : Hid (LT = (0, []) ∧ LE_ = 20) := Lib.hid ⟨by rw [← HV.out.1, if_pos (.inr hg2)], by rw [← HV.out.2, if_pos (.inr hg2)]⟩
      go_enter Try.func27, Try.ntmps27
      go_wp2
      exact bodyPost_ret (v := .tuple #[.agg #[.int .i64 0, .slice none 0 0], .int .i64 20]) (by simp [results, Try.results27, go_sem, c0, c1]) rfl ⟨_, _, _, by rw [HVV.out.1, HVV.out.2], by rw [HVV.out.1]; exact Exs.none_, HB1.out⟩
    · obtain ⟨i, rfl⟩ : ∃ i : Nat, g = (i : Int) + 1 := ⟨(g - 1).toNat, by omega⟩
      have hin : i < nv := by have := HLN.out; omega
      obtain ⟨b, o, r, hr, rfl, hb, g0, g1⟩ := HKS.out.ty hin
      have HX0 := Lib.hid (HF0.out r (List.mem_of_getElem? hr)).1
      have HVV : Hid (LT = r.t ∧ LE_ = 0) := Lib.hid ⟨by
        rw [← HV.out.1, if_neg (by omega), show ((i : Int) + 1 - 1).toNat = i by omega, List.getD_eq_getElem?_getD, ← H6.out, tys_at hr]
        rfl, by rw [← HV.out.2, if_neg (by omega)]⟩
      obtain ⟨rn, rA, rm, rc_, rl⟩ := r
      simp only [Ty.t] at HVV g0 g1 HX0
      have hi0 : (0 : Int) ≤ (i : Int) := by omega
      have hi1 : (i : Int) < (nv : Int) := by omega
      have hi2 : IntKind.i64.wrap ((i : Int) + 1 - 1) = (i : Int) := by rw [IntKind.wrap_i64]; omega
      clear hr hg2 hb
      go_enter Try.func27, Try.ntmps27
      have hd2 : decide ((nv : Int) < (i : Int) + 1) = false := decide_eq_false (by omega)
      have HB4 : Hid (Below w.heap.size w (w.alloc (.cells #[.int .i64 rn, .slice rA rm rc_] 35))) := Lib.hid ((Below.refl _ _).alloc (Nat.le_refl _) _)
      have HX4 : Hid (Exs (w.alloc (.cells #[.int .i64 rn, .slice rA rm rc_] 35)) (w.alloc (.cells #[.int .i64 rn, .slice rA rm rc_] 35)).heap.size rA rm rc_ rl) := Lib.hid (HX0.out.go HB4.out)
      have k0 := (TyB.new (w := w) (n := rn) (A := rA) (m := rm) (c := rc_)).cell0
      have k1 := (TyB.new (w := w) (n := rn) (A := rA) (m := rm) (c := rc_)).cell1
      go_wp2
      exact bodyPost_ret (v := .tuple #[.agg #[.int .i64 rn, .slice rA rm rc_], .int .i64 0]) (by simp [results, Try.results27, go_sem, k0, k1]) rfl ⟨_, _, _, by rw [HVV.out.1, HVV.out.2], by rw [HVV.out.1]; exact HX4.out, HB4.out⟩
end Go.Proofs.Ytgddlpabgeeflaa
