/-
  Contract of the reference's Sum: what it returns is what the plain functions of the text Fnv say. Conditions: the slice holds bytes, at most a million.
-/
import Derived.Test.YtfhcpgcjahjnmaaEvm
import Derived.Test.YtfhcpgcjahjnmaaFnv
namespace Go.Proofs.Ytfhcpgcjahjnmaa
open Go.ChangeShapes Go.WideShapes Go.ChangeAt Go.RowKit
set_option maxHeartbeats 400000
set_option maxRecDepth 100000

/-- What a function that computes a number says. -/
def Num (w : World) (x : Int) (e : Ending) (w' : World) : Prop := e = .returned (.int .u64 x) ∧ w = w'

theorem sumR_any (A : Option Addr) (n c : Nat) (l : List Int) (w : World) {B : Nat} (h : Row w B A n c (iv .u8 l)) (hf : Fit .u8 l) (hn : n ≤ 1000000) :
    Calls Try.prog 20 #[.slice A n c] w (Num w (fnv start l)) := by
  have HB := Lib.hid h
  have HF := Lib.hid hf
  have hcap := h.cap
  have hsm := h.small
  unfold maxLen at hsm
  clear h hf
  go_enter Try.func20, Try.ntmps20
  go_wp2
  go_loop [3, 4] (fun x i => ∃ (k : Nat) (y : Int), k ≤ n ∧ i = .int .i64 k ∧ x = .int .u64 y ∧ Hid (y = fnv start (l.take k))) (fun _ i => n - (intOf i).toNat)
  case atStart => exact ⟨0, start, Nat.zero_le _, rfl, rfl, Lib.hid (by simp [fnv])⟩
  case round =>
    obtain ⟨k, y, hk, rfl, rfl, HY⟩ := hrel
    by_cases hlt : k < n
    · obtain ⟨b, o, rfl, _, hcell⟩ := HB.out.int hlt
      have hkl : k < l.length := by have := HB.out.len; rw [iv_len] at this; omega
      obtain ⟨c0, hc0⟩ : ∃ c0, l.getD k 0 = c0 := ⟨_, rfl⟩
      obtain ⟨b0, b1⟩ := byte_bd (HF.out.at_ (by decide) k)
      have HS : Hid (stp y c0 = fnv start (l.take (k + 1))) := Lib.hid (by rw [fnv_take hkl, ← HY.out, hc0])
      rw [hc0] at hcell b0 b1
      clear hc0
      go_wp2
      go_round
      case rel => exact ⟨k + 1, _, by omega, by go_num, rfl, HS⟩
      case measure => simp [intOf]; omega
    · obtain rfl : k = n := by omega
      have HE : Hid (y = fnv start l) := Lib.hid (by rw [HY.out, List.take_of_length_le (by have := HB.out.len; rw [iv_len] at this; omega)])
      go_wp2
      go_ret
      rw [HE.out]
      exact ⟨rfl, rfl⟩
end Go.Proofs.Ytfhcpgcjahjnmaa
