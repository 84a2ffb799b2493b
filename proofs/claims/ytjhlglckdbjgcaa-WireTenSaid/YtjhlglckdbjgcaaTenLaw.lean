/-
  The law WireTen as a walk: it returns true and changes nothing that was there. No conditions beyond the types of the arguments.
-/
import Derived.Test.YtjhlglckdbjgcaaWire
import Derived.Test.YtjhlglckdbjgcaaBlk
namespace Go.Proofs.Ytjhlglckdbjgcaa
open Go.ChangeShapes Go.WideShapes Go.ChangeAt Go.RowKit
set_option maxHeartbeats 1000000
set_option maxRecDepth 100000

theorem wireTen_walk (l : List Int) (a1 a2 : Int) (w : World) (hl : l.length = 11) (w0 : ∀ x ∈ l, (Lit.int .u8 x).wf = true) (w1 : (Lit.int .u16 a1).wf = true) (w2 : (Lit.int .u8 a2).wf = true) :
    Calls Try.prog 6 #[.agg (bv l).toArray, .int .u16 a1, .int .u8 a2] w fun e w' => e = .returned (.bool true) ∧ Below w.heap.size w w' := by
  have hs : Small l := fun x hx => byte_bd (w0 x hx)
  obtain ⟨x0, x1⟩ := byte_bd w2
  have y0 := Go.bounds_u16 w1
  have hz : (bv l).toArray.size = 11 := by simp [bv_len, hl]
  have HS := Lib.hid hs
  have HL := Lib.hid hl
  obtain ⟨t, ht⟩ : ∃ t, t = 31 := ⟨_, rfl⟩
  have HN := Lib.hid (Blk.new w l t)
  clear hs hl w0 w1 w2
  generalize (bv l).toArray = cs at *
  go_enter Try.func6, Try.ntmps6
  go_wp2
  rw [← ht]
  go_loopw [8] (fun iv wr => ∃ (k : Nat) (m : List Int), k ≤ 11 ∧ iv = .int .i64 k ∧ Hid (m.length = 11) ∧ Hid (Small m) ∧ Hid (Blk wr w.heap.size t m) ∧ Hid (Below w.heap.size w wr)) (fun iv _ => 11 - (intOf iv).toNat)
  case atStart => exact ⟨0, l, by omega, rfl, HL, HS, HN, (Below.refl _ _).alloc (Nat.le_refl _) _⟩
  case round =>
    obtain ⟨k, m, hk, rfl, HM, HSM, HBl, HW⟩ := hrel
    by_cases hlt : k < 11
    · have hcell := HBl.out.cell (k := k) (by rw [HM.out]; exact hlt)
      have hfr := HBl.out.thawed k
      obtain ⟨c0, c1⟩ := Small.at_ HSM.out k
      obtain ⟨c, hc⟩ : ∃ c, m.getD k 0 = c := ⟨_, rfl⟩
      rw [hc] at hcell c0 c1
      go_wp2
      · refine ⟨⟨k + 1, m.set k (bits BinOp.or IntKind.u8 c 128), by omega, by go_num, ?_, ?_, HBl.out.set k _, HW.out.setCell (Nat.le_refl _) _⟩, by simp [intOf]; omega⟩
        · exact Lib.hid (by rw [List.length_set]; exact HM.out)
        · have := byte_bd (wf_bits .or .u8 c 128)
          exact Lib.hid (set_small HSM.out k this.1 this.2)
      · exact ⟨⟨k + 1, m, by omega, by go_num, HM, HSM, HBl, HW⟩, by simp [intOf]; omega⟩
    · go_wp2_with fail
      refine (awake_any _).mono ?_
      rintro e w5 ⟨rfl, hb5⟩
      obtain ⟨q, hq, hq0, hq1⟩ : ∃ q : Nat, 8 + a2 % 4 = q ∧ 8 ≤ q ∧ q ≤ 11 := ⟨(8 + a2 % 4).toNat, by omega, by omega, by omega⟩
      have hB := (HBl.out.below hb5).byt (by unfold maxLen; rw [HM.out]; omega)
      rw [HM.out] at hB
      have hT := hB.take (k := q) hq1
      have HC := Lib.hid (same_any _ _ _ _ w5 hT (fun x hx => HSM.out x (List.mem_of_mem_take hx)) (by omega))
      have hb05 := HW.out.trans (hb5.mono HW.out.size)
      clear hB hT hb5
      go_wp2_with fail
      refine HC.out.mono ?_
      rintro e w6 ⟨rfl, hb6⟩
      go_wp2
      go_ret
      exact ⟨rfl, hb05.trans (hb6.mono hb05.size)⟩
end Go.Proofs.Ytjhlglckdbjgcaa
