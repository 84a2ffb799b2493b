/-
  The law TypecodeNumbers as a walk. No conditions.
-/
import Derived.Test.YtebbnkjjebfgeaaTca
namespace Go.Proofs.Ytebbnkjjebfgeaa
open Go.ChangeShapes Go.WideShapes Go.RowKit
set_option linter.unusedVariables false
set_option maxHeartbeats 4000000
set_option maxRecDepth 100000

/-- A slice of bytes of at most k bytes, as a value. -/
def NumB (w : World) (v : Value) (k : Nat) : Prop := ∃ A n c l, v = .slice A n c ∧ Bts w w.heap.size A n c l ∧ Small l ∧ n ≤ k
theorem NumB.go {w w' : World} {v : Value} {k : Nat} (h : NumB w v k) (hb : Below w.heap.size w w') : NumB w' v k := by
  obtain ⟨A, n, c, l, e, h1, h2, h3⟩ := h
  exact ⟨A, n, c, l, e, h1.go hb, h2, h3⟩
theorem NumB.put {w w' : World} {l : List Int} {x : Int} {v : Value} {k n : Nat} (h : OwnB w' w.heap.size v (l ++ enc x.toNat)) (hs : Small l) (hl : l.length ≤ k) (h0 : 0 ≤ x) (h1 : x < 18446744073709551616) : NumB w' v (k + 10) := by
  obtain ⟨A, n, c, e, hb⟩ := h.shape
  refine ⟨A, n, c, _, e, hb, fun y hy => ?_, ?_⟩
  · rcases List.mem_append.1 hy with hy | hy
    · exact hs y hy
    · exact enc_bytes _ y hy
  · have h2 := hb.len
    have h3 := enc_len10 (n := x.toNat) (by omega)
    rw [List.length_append] at h2
    omega
theorem typecodeNumbers_walk (a0 : Option Addr) (len0 cap0 : Nat) (z0 : List Int) (f : Int) (w : World) (h0 : IsRow .u64 w a0 len0 cap0 z0) (h1 : (Lit.int .u8 f).wf = true) :
    Calls Try.prog 5 #[.slice a0 len0 cap0, .int .u8 f] w fun e w' => e = .returned (.bool true) ∧ Below w.heap.size w w' := by
  obtain ⟨hrow, hfit⟩ := h0.row
  generalize z0.take len0 = L at hrow hfit
  have HR := Lib.hid hrow
  have HF := Lib.hid hfit
  have hcap := hrow.cap
  have hsm := hrow.small
  unfold maxLen at hsm
  obtain ⟨f0, f1⟩ := byte_bd h1
  have HW1 := Lib.hid h1
  clear h0 h1 hrow hfit
  by_cases hm : len0 ≤ 70
  · have hmi : (len0 : Int) ≤ 70 := by omega
    go_enter Try.func5, Try.ntmps5
    go_wp2
    go_loopw [5, 6, 7] (fun bw cw kv wr => ∃ (j : Nat), j ≤ len0 ∧ kv = .int .i64 j ∧ Hid (NumB wr bw (10 * j) ∧ NumB wr cw (10 * j) ∧ Below w.heap.size w wr)) (fun _ _ kv _ => len0 - (intOf kv).toNat)
    case atStart => exact ⟨0, by omega, rfl, Lib.hid ⟨⟨none, 0, 0, [], rfl, Bts.none_, fun x hx => by (cases hx), by omega⟩, ⟨none, 0, 0, [], rfl, Bts.none_, fun x hx => by (cases hx), by omega⟩, Below.refl _ _⟩⟩
    case round =>
      obtain ⟨j, hj, rfl, hh⟩ := hrel
      obtain ⟨⟨A2, n2, c2, l2, rfl, hb2, hs2, hn2⟩, hc, hbw⟩ := hh.out
      by_cases hjm : j < len0
      · have hj1 : (j : Int) < (len0 : Int) := by omega
        obtain ⟨b, o, rfl, hb, hcell⟩ := (HR.out.below hbw).int hjm
        have hxb := u64_bd (HF.out.at_ (by decide) j)
        have HP := Lib.hid (fun x h0 h1 => putUintR_any A2 n2 c2 l2 x wr hb2 (by omega) h0 h1)
        have HQ : Hid (∀ (v : Value) (W : World) (x : Int), 0 ≤ x → x < 18446744073709551616 → OwnB W wr.heap.size v (l2 ++ enc x.toNat) → NumB W v (10 * j + 10)) := Lib.hid (fun v W x h0 h1 h => NumB.put (n := 0) h hs2 (by rw [hb2.len]; exact hn2) h0 h1)
        have HC := Lib.hid hc
        have HB := Lib.hid hbw
        obtain ⟨x0, x1⟩ := hxb
        generalize L.getD j 0 = x at *
        have HPX := Lib.hid (HP.out x x0 x1)
        unfold Made at HPX
        clear hh hb2 hs2 hn2 hc hbw hb HP
        go_wp2_with fail
        refine HPX.out.mono ?_
        rintro e w3 ⟨v3, rfl, ho3, hb3⟩
        have HN3 := Lib.hid (HQ.out v3 w3 x x0 x1 ho3)
        have HB3 := Lib.hid (Below.then HB.out hb3 (Nat.le_refl _))
        obtain ⟨A4, n4, c4, l4, rfl, hb4, hs4, hn4⟩ := HC.out.go hb3
        have HP4 := Lib.hid (fun x h0 h1 => putUintR_any A4 n4 c4 l4 x w3 hb4 (by omega) h0 h1)
        have HQ4 : Hid (∀ (v : Value) (W : World) (x : Int), 0 ≤ x → x < 18446744073709551616 → OwnB W w3.heap.size v (l4 ++ enc x.toNat) → NumB W v (10 * j + 10)) := Lib.hid (fun v W x h0 h1 h => NumB.put (n := 0) h hs4 (by rw [hb4.len]; exact hn4) h0 h1)
        unfold Made at HP4
        clear ho3 hb3 hb4 hs4 hn4 HPX HQ HC HB hcell
        by_cases hj2 : j = 1
        · have hjb : ((j : Int) != 1) = false := by subst hj2; rfl
          have g0 : 0 ≤ f % 36 := Int.emod_nonneg _ (by omega)
          have g1 : f % 36 < 36 := Int.emod_lt_of_pos _ (by omega)
          have HPF := Lib.hid (HP4.out (f % 36) g0 (by omega))
          clear HP4 hj2
          go_wp2_with fail
          refine HPF.out.mono ?_
          rintro e w5 ⟨v5, rfl, ho5, hb5⟩
          have HN5 := Lib.hid (HQ4.out v5 w5 (f % 36) g0 (by omega) ho5)
          have HM5 := Lib.hid (HN3.out.go hb5)
          have HB5 := Lib.hid (Below.then HB3.out hb5 (Nat.le_refl _))
          clear ho5 hb5 HPF HQ4 HN3 HB3 hjb
          go_wp2
          go_roundw
          case rel => exact ⟨j + 1, by omega, by go_num, Lib.hid ⟨HM5.out, HN5.out, HB5.out⟩⟩
          case measure => simp [intOf]; omega
        · have hjb : ((j : Int) != 1) = true := by rw [bne_iff_ne]; omega
          have g0 : 0 ≤ x % 70000 := Int.emod_nonneg _ (by omega)
          have g1 : x % 70000 < 70000 := Int.emod_lt_of_pos _ (by omega)
          have HPF := Lib.hid (HP4.out (x % 70000) g0 (by omega))
          clear HP4 hj2
          go_wp2_with fail
          refine HPF.out.mono ?_
          rintro e w5 ⟨v5, rfl, ho5, hb5⟩
          have HN5 := Lib.hid (HQ4.out v5 w5 (x % 70000) g0 (by omega) ho5)
          have HM5 := Lib.hid (HN3.out.go hb5)
          have HB5 := Lib.hid (Below.then HB3.out hb5 (Nat.le_refl _))
          clear ho5 hb5 HPF HQ4 HN3 HB3 hjb
          go_wp2
          go_roundw
          case rel => exact ⟨j + 1, by omega, by go_num, Lib.hid ⟨HM5.out, HN5.out, HB5.out⟩⟩
          case measure => simp [intOf]; omega
      · obtain rfl : j = len0 := by omega
        have hjj : ¬ (j : Int) < (j : Int) := by omega
        have HB2 := Lib.hid hb2
        have HC := Lib.hid hc
        have HB := Lib.hid hbw
        have HS2 := Lib.hid hs2
        have hn3 : n2 ≤ 1000 := by omega
        clear hh hb2 hc hbw hs2
        go_wp2_with fail
        refine (awake9_any wr).mono ?_
        rintro e w3 ⟨rfl, hb3⟩
        have HS := Lib.hid (same9_any A2 n2 c2 l2 w3 (HB2.out.go hb3) HS2.out (by omega))
        have HC3 := Lib.hid (HC.out.go hb3)
        have HB3 := Lib.hid (Below.then HB.out hb3 (Nat.le_refl _))
        clear hb3 HB2 HC HB
        go_wp2_with fail
        refine HS.out.mono ?_
        rintro e w4 ⟨rfl, hb4⟩
        obtain ⟨A5, n5, c5, l5, rfl, hb5, hs5, hn5⟩ := HC3.out.go hb4
        have HT := Lib.hid (same9_any A5 n5 c5 l5 w4 hb5 hs5 (by omega))
        have HB4 := Lib.hid (Below.then HB3.out hb4 (Nat.le_refl _))
        clear hb4 hb5 hs5 HS HC3 HB3
        go_wp2_with fail
        refine HT.out.mono ?_
        rintro e w6 ⟨rfl, hb6⟩
        have HB6 := Lib.hid (Below.then HB4.out hb6 (Nat.le_refl _))
        clear hb6 HT HB4
        go_wp2
        go_ret
        exact ⟨rfl, HB6.out⟩
  · have hmi : ¬ (len0 : Int) ≤ 70 := by omega
    have hmj : (70 : Int) < (len0 : Int) := by omega
    go_enter Try.func5, Try.ntmps5
    go_wp2_with fail
    refine (awake9_any w).mono ?_
    rintro e w2 ⟨rfl, hb⟩
    have HB2 := Lib.hid hb
    clear hb
    go_wp2
    go_ret
    exact ⟨rfl, HB2.out⟩
end Go.Proofs.Ytebbnkjjebfgeaa
