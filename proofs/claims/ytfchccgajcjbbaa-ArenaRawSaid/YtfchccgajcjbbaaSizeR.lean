/-
  Contracts of the reference's AllSizes, Class and Round, and of the laws' own example. No conditions.
-/
import Derived.Test.YtfchccgajcjbbaaSize
import Derived.Maps.AppendAt
namespace Go.Proofs.Ytfchccgajcjbbaa
open Go.ChangeShapes Go.WideShapes Go.ChangeAt Go.RowKit Go.Shelf
attribute [local go_sem] Oper.semAt_some
set_option maxHeartbeats 2000000
set_option maxRecDepth 100000

theorem infoI : (Try.prog.info? 3).map (fun i => (i.zero, i.size, decide (i.bytes ≤ 64))) = some (some (.int .i64 0), 1, true) := by kernel_rfl
theorem info_int : ∃ i, Try.prog.info? 3 = some i ∧ i.zero = some (.int .i64 0) ∧ i.size = 1 ∧ i.bytes ≤ 64 := by
  have h := infoI
  cases hi : Try.prog.info? 3 with
  | none => rw [hi] at h; cases h
  | some i =>
    rw [hi] at h
    simp only [Option.map_some, Option.some.injEq, Prod.mk.injEq, decide_eq_true_eq] at h
    exact ⟨i, rfl, h.1, h.2.1, h.2.2⟩

/-- What AllSizes says. -/
def AllE (w : World) (e : Ending) (w' : World) : Prop := ∃ v, e = .returned v ∧ Own 3 w' w.heap.size v (iv .i64 (zl 43)) ∧ Below w.heap.size w w'
theorem all_any (w : World) : Calls Try.prog 65 #[] w (AllE w) := by
  obtain ⟨i0, hi, hz0, hz1, hz2⟩ := info_int
  go_enter Try.func65, Try.ntmps65
  go_wp2
  go_loopw [1, 2] (fun o s wr => ∃ k : Nat, k ≤ 8 ∧ s = .int .i64 (16 * ((k : Int) + 1)) ∧ Hid (Own 3 wr w.heap.size o (iv .i64 (zl k)) ∧ Below w.heap.size w wr)) (fun _ s _ => 200 - (intOf s).toNat)
  case atStart => exact ⟨0, by omega, rfl, Lib.hid ⟨Own.nil _ _ _, Below.refl _ _⟩⟩
  case round =>
    obtain ⟨k, hk, rfl, hh⟩ := hrel
    by_cases hlt : k < 8
    · obtain ⟨HO, hbw⟩ := hh.out
      have hln : (iv .i64 (zl k)).length ≤ 50 := by rw [iv_len, zl_len]; omega
      have HS := Lib.hid (sz_low k hlt)
      clear hh
      go_wp2_with (first
        | (at_builtin; go_must (refine wpList_app _ rfl (.tmp 9) (.tmp 11) 99 rfl Try.underlying99 hi hz0 rfl hz1 (by omega) (HO.alloc _) rfl (Row.new wr (iv .i64 [_]) _ _ rfl (by unfold maxLen; simp [iv])) rfl iv_one (by have e : ∀ x, (iv .i64 [x]).length = 1 := fun _ => rfl; rw [e]; omega) (by have := hbw.size; simp; omega) ?_)
           intro v2 w2 ho2 hb2))
      rw [iv_app, ← HS.out, ← zl_succ] at ho2
      exact ⟨⟨k + 1, by omega, by go_num, Lib.hid ⟨ho2, (hbw.alloc hbw.size _).trans hb2⟩⟩, by simp [intOf]; omega⟩
    · obtain rfl : k = 8 := by omega
      have HH := hh
      have e8 : (16 * (((8 : Nat) : Int) + 1)) = 144 := rfl
      clear hh
      rw [e8]
      clear e8
      go_wp2
      go_loopw [1, 3] (fun o s wr => ∃ k : Nat, 8 ≤ k ∧ k ≤ 12 ∧ s = .int .i64 (sz k) ∧ Hid (Own 3 wr w.heap.size o (iv .i64 (zl k)) ∧ Below w.heap.size w wr)) (fun _ s _ => 5000 - (intOf s).toNat)
      case atStart => exact ⟨8, by omega, by omega, rfl, HH⟩
      case round =>
        obtain ⟨k, hk0, hk, rfl, hh⟩ := hrel
        by_cases hlt : k < 12
        · obtain ⟨HO, hbw⟩ := hh.out
          have hln : (iv .i64 (zl k)).length ≤ 50 := by rw [iv_len, zl_len]; omega
          obtain ⟨hs1, hs2⟩ := sz_mid k hlt hk0
          have hs3 := sz_pos (k := k)
          have HS := Lib.hid hs2
          clear hh hs2
          go_wp2_with (first
            | (at_builtin; go_must (refine wpList_app _ rfl (.tmp 17) (.tmp 19) 99 rfl Try.underlying99 hi hz0 rfl hz1 (by omega) (HO.alloc _) rfl (Row.new wr (iv .i64 [_]) _ _ rfl (by unfold maxLen; simp [iv])) rfl iv_one (by have e : ∀ x, (iv .i64 [x]).length = 1 := fun _ => rfl; rw [e]; omega) (by have := hbw.size; simp; omega) ?_)
               intro v2 w2 ho2 hb2))
          rw [iv_app, ← zl_succ] at ho2
          exact ⟨⟨k + 1, by omega, by omega, by rw [HS.out], Lib.hid ⟨ho2, (hbw.alloc hbw.size _).trans hb2⟩⟩, by simp [intOf]; omega⟩
        · obtain rfl : k = 12 := by omega
          have hs1 : ¬ sz 12 ≤ 2048 := by decide
          have HH := hh
          clear hh
          go_wp2
          go_loopw [1, 4] (fun o s wr => ∃ k : Nat, 12 ≤ k ∧ k ≤ 43 ∧ s = .int .i64 (sz k) ∧ Hid (Own 3 wr w.heap.size o (iv .i64 (zl k)) ∧ Below w.heap.size w wr)) (fun _ s _ => 70000 - (intOf s).toNat)
          case atStart => exact ⟨12, by omega, by omega, rfl, HH⟩
          case round =>
            obtain ⟨k, hk0, hk, rfl, hh⟩ := hrel
            by_cases hlt : k < 43
            · obtain ⟨HO, hbw⟩ := hh.out
              have hln : (iv .i64 (zl k)).length ≤ 50 := by rw [iv_len, zl_len]; omega
              obtain ⟨hs1, hs2⟩ := sz_hi k hlt hk0
              have hs3 := sz_pos (k := k)
              have HS := Lib.hid hs2
              clear hh hs2
              go_wp2_with (first
                | (at_builtin; go_must (refine wpList_app _ rfl (.tmp 25) (.tmp 27) 99 rfl Try.underlying99 hi hz0 rfl hz1 (by omega) (HO.alloc _) rfl (Row.new wr (iv .i64 [_]) _ _ rfl (by unfold maxLen; simp [iv])) rfl iv_one (by have e : ∀ x, (iv .i64 [x]).length = 1 := fun _ => rfl; rw [e]; omega) (by have := hbw.size; simp; omega) ?_)
                   intro v2 w2 ho2 hb2))
              rw [iv_app, ← zl_succ] at ho2
              exact ⟨⟨k + 1, by omega, by omega, by rw [HS.out], Lib.hid ⟨ho2, (hbw.alloc hbw.size _).trans hb2⟩⟩, by simp [intOf]; omega⟩
            · obtain rfl : k = 43 := by omega
              have hs1 : ¬ sz 43 ≤ 65536 := by rw [sz_beyond]; omega
              have HH := hh
              clear hh
              go_wp2
              go_ret
              exact ⟨_, rfl, HH.out⟩

theorem classR_any (n : Int) (w : World) : Calls Try.prog 64 #[.int .i64 n] w fun e w' => e = .returned (.tuple #[.int .i64 (clR n), .int .i64 (erR n)]) ∧ Below w.heap.size w w' := by
  by_cases h1 : n < 1
  · obtain ⟨e1, _, e3⟩ := small_R h1
    rw [e1, e3]
    go_enter Try.func64, Try.ntmps64
    go_wp2
    go_ret2
    exact ⟨rfl, Below.refl _ _⟩
  · by_cases h2 : 65536 < n
    · obtain ⟨e1, _, e3⟩ := big_R h2
      rw [e1, e3]
      go_enter Try.func64, Try.ntmps64
      go_wp2
      go_ret2
      exact ⟨rfl, Below.refl _ _⟩
    · obtain ⟨e1, _, e3⟩ := mid_R (n := n) (by omega) (by omega)
      rw [e1, e3]
      clear e1 e3
      go_enter Try.func64, Try.ntmps64
      go_wp2_with fail
      refine (all_any w).mono ?_
      rintro e w1 ⟨v, rfl, ho, hb⟩
      obtain ⟨A, m, c, rfl, hx⟩ := ho.shape
      have HX := Lib.hid hx
      have HB := Lib.hid hb
      obtain rfl : m = 43 := by have := hx.len; rw [iv_len, zl_len] at this; omega
      have hcap := hx.cap
      have hsm := hx.small
      unfold maxLen at hsm
      clear ho hx hb
      go_wp2
      go_loopw [5] (fun s wr => ∃ k : Nat, k ≤ cls n ∧ s = .int .i64 k ∧ Hid (wr = w1)) (fun s _ => 43 - (intOf s).toNat)
      case atStart => exact ⟨0, by omega, rfl, Lib.hid rfl⟩
      case round =>
        obtain ⟨k, hk, rfl, hh⟩ := hrel
        obtain rfl := hh.out
        have hc43 := cls_in (n := n) (by omega)
        have hk43 : k < 43 := by omega
        obtain ⟨b, o, rfl, _, hcell⟩ := HX.out.int hk43
        rw [zl_at hk43] at hcell
        by_cases hlt : k < cls n
        · have hs : sz k < n := (cls_is (n := n) (by omega)).2 k hlt
          go_wp2
          go_roundw
          case rel => exact ⟨k + 1, by omega, by go_num, Lib.hid (by first | trivial | rfl)⟩
          case measure => simp [intOf]; omega
        · obtain rfl : k = cls n := by omega
          have hs : ¬ sz (cls n) < n := by have := (cls_is (n := n) (by omega)).1; omega
          go_wp2
          go_ret2
          exact ⟨rfl, HB.out⟩
theorem roundR_any (n : Int) (w : World) : Calls Try.prog 51 #[.int .i64 n] w fun e w' => e = .returned (.tuple #[.int .i64 (szR n), .int .i64 (erR n)]) ∧ Below w.heap.size w w' := by
  have H := Lib.hid (classR_any n w)
  by_cases h0 : erR n = 0
  · have hn : 1 ≤ n ∧ n ≤ 65536 := by
      unfold erR at h0
      split at h0
      · omega
      · split at h0 <;> omega
    obtain ⟨e1, e2, e3⟩ := mid_R hn.1 hn.2
    rw [e1, e3] at H
    rw [e2, e3]
    have hc43 := cls_in hn.2
    clear e1 e2 e3 h0 hn
    generalize cls n = k at *
    go_enter Try.func51, Try.ntmps51
    go_wp2_with fail
    refine H.out.mono ?_
    rintro e w1 ⟨rfl, hb1⟩
    have HB1 := Lib.hid hb1
    clear H hb1
    go_wp2_with fail
    refine (all_any w1).mono ?_
    rintro e w2 ⟨v, rfl, ho, hb⟩
    obtain ⟨A, m, c, rfl, hx⟩ := ho.shape
    have HB := Lib.hid (Below.then HB1.out hb (Nat.le_refl _))
    obtain rfl : m = 43 := by have := hx.len; rw [iv_len, zl_len] at this; omega
    have hcap := hx.cap
    have hsm := hx.small
    unfold maxLen at hsm
    obtain ⟨b, o, rfl, _, hcell⟩ := hx.int hc43
    rw [zl_at hc43] at hcell
    clear ho hx hb
    go_wp2
    go_ret2
    exact ⟨rfl, HB.out⟩
  · have hz : szR n = 0 := by
      unfold erR at h0
      unfold szR
      split at h0
      · rename_i h; rw [if_pos h]
      · rename_i h
        split at h0
        · rename_i h'; rw [if_neg h, if_pos h']
        · omega
    rw [hz]
    clear hz
    generalize erR n = ev at *
    generalize clR n = cv at *
    go_enter Try.func51, Try.ntmps51
    go_wp2_with fail
    refine H.out.mono ?_
    rintro e w1 ⟨rfl, hb1⟩
    have HB1 := Lib.hid hb1
    clear H hb1
    go_wp2
    go_ret2
    exact ⟨rfl, HB1.out⟩

end Go.Proofs.Ytfchccgajcjbbaa
