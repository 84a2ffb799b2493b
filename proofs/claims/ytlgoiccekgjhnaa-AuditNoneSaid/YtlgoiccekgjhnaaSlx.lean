/-
  Slice expressions of bytes with the address under a name; texts of different bytes differ. No conditions beyond those that each lemma states.
-/
import Derived.Test.YtlgoiccekgjhnaaEvr
namespace Go.Proofs.Ytlgoiccekgjhnaa
open Go.ChangeShapes Go.WideShapes Go.RowKit
set_option linter.unusedVariables false
set_option linter.unusedSimpArgs false
set_option maxHeartbeats 4000000
set_option maxRecDepth 100000

theorem str_list {s t : ByteArray} (h : s.toList = t.toList) : s = t := by
  rw [ByteArray.toList_eq, ByteArray.toList_eq] at h
  cases s
  cases t
  simp only [ByteArray.mk.injEq]
  exact Array.toList_inj.1 h
/-- Different bytes have different texts. -/
theorem str_inj {l m : List Int} (hl : Small l) (hm : Small m) (h : strOfNums l = strOfNums m) : l = m := by
  have h1 : l.map (fun n => UInt8.ofNat n.toNat) = m.map (fun n => UInt8.ofNat n.toNat) := by
    rw [← strOfNums_data, ← strOfNums_data, h]
  clear h
  induction l generalizing m with
  | nil =>
    cases m with
    | nil => rfl
    | cons y m => simp at h1
  | cons x l ih =>
    cases m with
    | nil => simp at h1
    | cons y m =>
      simp only [List.map_cons, List.cons.injEq] at h1
      have hx := hl x (by simp)
      have hy := hm y (by simp)
      have h2 := congrArg UInt8.toNat h1.1
      simp only [UInt8.toNat_ofNat'] at h2
      rw [Nat.mod_eq_of_lt (by omega), Nat.mod_eq_of_lt (by omega)] at h2
      have h3 : x = y := by omega
      rw [h3, ih (fun z hz => hl z (by simp [hz])) (fun z hz => hm z (by simp [hz])) h1.2]
/-- A cut from the right. -/
theorem cut_hi (A : Option Addr) (n c k : Nat) (l : List Int) (hk : k ≤ n) (hc : n ≤ c) :
    ∃ A', (∀ wx : World, (Instr.slice 52 (.slice A n c) none (some (.int .i64 (k : Int))) none).run Try.prog wx = .ok (.slice A' k c) wx) ∧ ∀ (w : World) (B : Nat), Bts w B A n c l → Bts w B A' k c (l.take k) := by
  refine ⟨if c = 0 then A else A.map (·.add 0), fun wx => ?_, fun w B h => ?_⟩
  · rw [run_slice_h (P := Try.prog) wx 52 A n c Try.underlying52 .i64 (k : Int) (by omega) (by omega)]
    simp [sliced, go_sem]
  · have h1 := (h.drop (k := 0) (by omega)).take (k := k) (by omega)
    simpa using h1
/-- A cut from both sides. -/
theorem cut_mid (A : Option Addr) (n c lo hi : Nat) (l : List Int) (h1 : lo ≤ hi) (h2 : hi ≤ n) (hc : n ≤ c) :
    ∃ A', (∀ wx : World, (Instr.slice 52 (.slice A n c) (some (.int .i64 (lo : Int))) (some (.int .i64 (hi : Int))) none).run Try.prog wx = .ok (.slice A' (hi - lo) (c - lo)) wx) ∧ ∀ (w : World) (B : Nat), Bts w B A n c l → Bts w B A' (hi - lo) (c - lo) ((l.drop lo).take (hi - lo)) := by
  refine ⟨if c = lo then A else A.map (·.add lo), fun wx => ?_, fun w B h => (h.drop (k := lo) (by omega)).take (k := hi - lo) (by omega)⟩
  rw [run_slice_lh (P := Try.prog) wx 52 A n c Try.underlying52 .i64 .i64 (lo : Int) (hi : Int) (by omega) (by omega) (by omega)]
  simp [sliced, go_sem]
end Go.Proofs.Ytlgoiccekgjhnaa
