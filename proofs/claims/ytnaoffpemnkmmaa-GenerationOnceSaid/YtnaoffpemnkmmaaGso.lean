/-
  The bundle's contracts for slots on their own (colour 1), with what lies below B untouched. Conditions: at most 4096 slots.
-/
import Derived.Test.YtnaoffpemnkmmaaGst2
namespace Go.Proofs.Ytnaoffpemnkmmaa
open Go.ChangeShapes Go.WideShapes Go.RowKit
set_option linter.unusedVariables false
set_option maxHeartbeats 4000000
set_option maxRecDepth 100000

theorem ns_ok {n first : Int} (h : 0 ≤ n ∧ n ≤ 4096) (h' : 1 ≤ first ∧ first ≤ 4294967295) : nsE n first = 0 := if_neg (by omega)
/-- Slots of their own; what lies below B has the colour 0. -/
structure Solo (Sl : World → (Nat → Nat) → Nat → Nat → Gs → Prop) (B N : Nat) (w : World) (p : Nat) (s : Gs) : Prop where
  ex : ∃ c : Nat → Nat, Sl w c 1 p s ∧ ∀ g, g < B → c g = 0
  wf : s.Wf N
  bd : B ≤ w.heap.size
  sm : N ≤ 4096
section
variable {Sl : World → (Nat → Nat) → Nat → Nat → Gs → Prop} {B N p : Nat} {w w2 : World} {s : Gs}
theorem Solo.go (C : Pc Sl) (h : Solo Sl B N w p s) (hb : Below w.heap.size w w2) : Solo Sl B N w2 p s := by
  obtain ⟨c, h1, h3⟩ := h.ex
  exact ⟨⟨c, C.go h1 hb, h3⟩, h.wf, Nat.le_trans h.bd hb.size, h.sm⟩
theorem Solo.new (C : Pc Sl) (n first : Int) (w : World) (hn : 0 ≤ n ∧ n ≤ 4096) (hf : 1 ≤ first ∧ first ≤ 4294967295) : Calls Try.prog 8 #[.int .i64 n, .int .i64 first] w fun e w' =>
    ∃ p, e = .returned (.tuple #[.pointer (some ⟨p, 0, none⟩), .int .i64 0]) ∧ Solo Sl w.heap.size n.toNat w' p (Gs.new n.toNat first) ∧ Below w.heap.size w w' := by
  refine (C.new n first w (fun _ => 0) 1 (fun _ _ => by omega)).mono ?_
  rintro e w' (⟨h1, _⟩ | ⟨_, p, rfl, hp, hS, hb⟩)
  · rw [ns_ok hn hf] at h1
    omega
  · exact ⟨p, rfl, ⟨⟨_, hS, fun g hg => rc_old hg⟩, Gs.wf_new hf, hb.size, by omega⟩, hb⟩
theorem Solo.issue (C : Pc Sl) (h : Solo Sl B N w p s) (d : Int) (hd : 0 ≤ d ∧ d < 18446744073709551616) : Calls Try.prog 14 #[.pointer (some ⟨p, 0, none⟩), .int .u64 d] w fun e w' =>
    e = .returned (.tuple #[.int .i64 (s.issV d).1, .int .i64 (s.issV d).2.1, .int .i64 (s.issV d).2.2]) ∧ Solo Sl B N w' p (s.issN d) ∧ Below B w w' := by
  obtain ⟨c, h1, h3⟩ := h.ex
  refine (C.issue w c 1 p N s d h1 h.wf h.sm hd).mono ?_
  rintro e w' ⟨rfl, hS, hk⟩
  have hb : Below B w w' := hk.below (fun g hg => by rw [h3 g hg]; omega) h.bd
  exact ⟨rfl, ⟨⟨_, hS, fun g hg => by rw [rc_old (Nat.lt_of_lt_of_le hg h.bd)]; exact h3 g hg⟩, h.wf.iss, Nat.le_trans h.bd hb.size, h.sm⟩, hb⟩
theorem Solo.end_ (C : Pc Sl) (h : Solo Sl B N w p s) (x : Int) : Calls Try.prog 16 #[.pointer (some ⟨p, 0, none⟩), .int .i64 x] w fun e w' =>
    e = .returned (.int .i64 (s.endV x)) ∧ Solo Sl B N w' p (s.endN x) ∧ Below B w w' := by
  obtain ⟨c, h1, h3⟩ := h.ex
  refine (C.end_ w c 1 p N s x h1 h.wf h.sm).mono ?_
  rintro e w' ⟨rfl, hS, hk⟩
  have hb : Below B w w' := hk.below (fun g hg => by rw [h3 g hg]; omega) h.bd
  exact ⟨rfl, ⟨⟨_, hS, fun g hg => by rw [rc_old (Nat.lt_of_lt_of_le hg h.bd)]; exact h3 g hg⟩, h.wf.end_, Nat.le_trans h.bd hb.size, h.sm⟩, hb⟩
theorem Solo.live (C : Pc Sl) (h : Solo Sl B N w p s) (x : Int) : Calls Try.prog 15 #[.pointer (some ⟨p, 0, none⟩), .int .i64 x] w fun e w' =>
    e = .returned (.tuple #[.int .i64 (s.of x).1, .bool (s.of x).2]) ∧ Solo Sl B N w' p s ∧ Below B w w' := by
  obtain ⟨c, h1, h3⟩ := h.ex
  refine (C.live w c 1 p N s x h1 h.wf).mono ?_
  rintro e w' ⟨rfl, hb⟩
  exact ⟨rfl, h.go C hb, hb.mono h.bd⟩
theorem Solo.size (C : Pc Sl) (h : Solo Sl B N w p s) : Calls Try.prog 17 #[.pointer (some ⟨p, 0, none⟩)] w fun e w' => e = .returned (.int .i64 (N : Int)) ∧ Solo Sl B N w' p s ∧ Below B w w' := by
  obtain ⟨c, h1, h3⟩ := h.ex
  refine (C.size w c 1 p N s h1 h.wf).mono ?_
  rintro e w' ⟨rfl, hb⟩
  exact ⟨rfl, h.go C hb, hb.mono h.bd⟩
theorem Solo.retired (C : Pc Sl) (h : Solo Sl B N w p s) : Calls Try.prog 18 #[.pointer (some ⟨p, 0, none⟩)] w fun e w' => e = .returned (.int .i64 s.gone) ∧ Solo Sl B N w' p s ∧ Below B w w' := by
  obtain ⟨c, h1, h3⟩ := h.ex
  refine (C.retired w c 1 p N s h1 h.wf h.sm).mono ?_
  rintro e w' ⟨rfl, hb⟩
  exact ⟨rfl, h.go C hb, hb.mono h.bd⟩
theorem Solo.pool (C : Pc Sl) (h : Solo Sl B N w p s) : Calls Try.prog 19 #[.pointer (some ⟨p, 0, none⟩)] w fun e w' => (∃ A n c, e = .returned (.slice A n c) ∧ n = s.free.length) ∧ Solo Sl B N w' p s ∧ Below B w w' := by
  obtain ⟨c, h1, h3⟩ := h.ex
  refine (C.pool w c 1 p N s h1 h.wf h.sm).mono ?_
  rintro e w' ⟨v, rfl, ho, hb⟩
  obtain ⟨A, n, c, rfl, hx⟩ := ho.shape
  exact ⟨⟨A, n, c, rfl, hx.len.symm⟩, h.go C hb, hb.mono h.bd⟩
end
end Go.Proofs.Ytnaoffpemnkmmaa
