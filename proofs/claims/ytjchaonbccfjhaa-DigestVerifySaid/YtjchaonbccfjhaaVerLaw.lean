/-
  The law DigestVerify as a walk: it returns true and changes nothing that was there. No conditions beyond the types of the arguments.
-/
import Derived.Test.YtjchaonbccfjhaaVer
namespace Go.Proofs.Ytjchaonbccfjhaa
open Go.ChangeShapes Go.WideShapes Go.ChangeAt Go.RowKit
set_option maxHeartbeats 4000000
set_option maxRecDepth 100000

/-- The end of the walk of DigestVerify is typed once for each way. -/
theorem digestVerify_walk (a0 : Option Addr) (len0 cap0 : Nat) (rs : List Rec) (a1 : Option Addr) (len1 cap1 : Nat) (z1 : List Int) (a2 a3 : Int) (a4 : Bool) (w : World) (w0 : IsRecs w a0 len0 cap0 rs) (w1 : IsRow .u64 w a1 len1 cap1 z1) (w2 : (Lit.int .u8 a2).wf = true) (w3 : (Lit.int .u64 a3).wf = true) :
    Calls Try.prog 5 #[.slice a0 len0 cap0, .slice a1 len1 cap1, .int .u8 a2, .int .u64 a3, .bool a4] w fun e w' => e = .returned (.bool true) ∧ Below w.heap.size w w' := by
  have hA : Arg w a0 len0 cap0 rs := ⟨w0.1, w0.2⟩
  obtain ⟨hR1, _⟩ := w1.row
  obtain ⟨x0, x1⟩ := byte_bd w2
  obtain ⟨y0, y1⟩ := u64_bd w3
  have hcap := hA.row.cap
  have hsm := hA.row.small
  have hcap1 := hR1.cap
  have hsm1 := hR1.small
  unfold maxLen at hsm hsm1
  generalize z1.take len1 = raw at *
  have HG := Lib.hid hA
  have HR := Lib.hid hR1
  have HF := Lib.hid (few_any _ _ _ _ w hA)
  have HA := Lib.hid (awake_any w)
  have hDl : (dig start (bs rs)).length = len0 := by rw [dig_len, bs_len, hA.len]
  obtain ⟨D, hD⟩ : ∃ D, dig start (bs rs) = D := ⟨_, rfl⟩
  rw [hD] at hDl
  have HDD := Lib.hid hD
  have HDL := Lib.hid hDl
  obtain ⟨t, rfl⟩ : ∃ t : Nat, a2 = t := ⟨a2.toNat, by omega⟩
  clear hA w0 w1 w2 w3 z1 hR1 hDl hD
  go_enter Try.func5, Try.ntmps5
  go_wp2_with fail
  refine HF.out.mono ?_
  rintro e w' ⟨b, rfl, rfl, hb⟩
  clear HF
  cases b with
  | false =>
    clear hb
    go_wp2_with fail
    refine HA.out.mono ?_
    rintro e w' ⟨rfl, hb⟩
    go_wp2
    go_ret
    exact ⟨rfl, hb⟩
  | true =>
    obtain ⟨hn, hs⟩ := hb rfl
    have HS : Hid (Short 1000 rs) := Lib.hid fun r hr => by have := hs r hr; omega
    clear hb hs
    by_cases hraw : 14 < len1
    · go_wp2_with fail
      refine HA.out.mono ?_
      rintro e w' ⟨rfl, hb⟩
      go_wp2
      go_ret
      exact ⟨rfl, hb⟩
    · clear HA
      have CD := Lib.hid (digestsR_any _ _ _ _ w HG.out (by omega) HS.out)
      rw [HDD.out] at CD
      go_wp2_with fail
      refine CD.out.mono ?_
      rintro e w2 ⟨v2, rfl, ho2, hb2⟩
      have HG2 := Lib.hid (HG.out.go hb2)
      have HR2 := Lib.hid (HR.out.go hb2)
      have HW2 := Lib.hid hb2
      clear CD hb2
      by_cases h0 : len0 = 0
      · subst h0
        obtain ⟨A2, n2, c2, rfl, hB2⟩ := ho2.shape
        obtain rfl : n2 = 0 := by have := hB2.len; rw [iv_len, HDL.out] at this; exact this.symm
        have HG3 := HG2
        have HR3 := HR2
        have HE3 := Lib.hid hB2
        have HW3 := HW2
        clear ho2 hB2 HG2 HR2 HW2 HG HR
        cases a4
        all_goals
          have C1 := Lib.hid (verify_any a0 _ cap0 rs a1 len1 cap1 raw w2 HG3.out (by omega) HS.out HR3.out)
          rw [HDD.out] at C1
          go_wp2_with fail
          refine C1.out.mono ?_
          rintro e w4 ⟨rfl, hb4⟩
          have HW4 : Hid (Below w.heap.size w w4) := Lib.hid (HW3.out.trans (hb4.mono HW3.out.size))
          have HG4 := Lib.hid (HG3.out.go hb4)
          have HR4 := Lib.hid (HR3.out.go hb4)
          have HE4 := Lib.hid (HE3.out.go hb4)
          clear C1 hb4 HG3 HR3 HE3 HW3
          have C2 := Lib.hid (verifyR_any a0 _ cap0 rs a1 len1 cap1 raw w4 HG4.out (by omega) HS.out HR4.out)
          rw [HDD.out] at C2
          go_wp2_with fail
          refine C2.out.mono ?_
          rintro e w5 ⟨rfl, hb5⟩
          generalize (verR D raw).1 = p1
          generalize (verR D raw).2 = p2
          have HW5 : Hid (Below w.heap.size w w5) := Lib.hid (HW4.out.trans (hb5.mono HW4.out.size))
          have HG5 := Lib.hid (HG4.out.go hb5)
          have HE5 := Lib.hid (HE4.out.go hb5)
          clear C2 hb5 HG4 HR4 HE4 HW4
          have C3 := Lib.hid (verify_any a0 _ cap0 rs _ _ _ _ w5 HG5.out (by omega) HS.out HE5.out)
          rw [HDD.out] at C3
          go_wp2_with fail
          refine C3.out.mono ?_
          rintro e w6 ⟨rfl, hb6⟩
          have HW6 : Hid (Below w.heap.size w w6) := Lib.hid (HW5.out.trans (hb6.mono HW5.out.size))
          have HG6 := Lib.hid (HG5.out.go hb6)
          have HE6 := Lib.hid (HE5.out.go hb6)
          clear C3 hb6 HG5 HE5 HW5
          have C4 := Lib.hid (verifyR_any a0 _ cap0 rs _ _ _ _ w6 HG6.out (by omega) HS.out HE6.out)
          rw [HDD.out] at C4
          go_wp2_with fail
          refine C4.out.mono ?_
          rintro e w7 ⟨rfl, hb7⟩
          generalize (verR D D).1 = q1
          generalize (verR D D).2 = q2
          have HW7 : Hid (Below w.heap.size w w7) := Lib.hid (HW6.out.trans (hb7.mono HW6.out.size))
          clear C4 hb7 HG6 HE6 HW6
          go_wp2_with fail
          refine (awake_any w7).mono ?_
          rintro e w8 ⟨rfl, hb8⟩
          go_wp2
          go_ret
          exact ⟨rfl, HW7.out.trans (hb8.mono HW7.out.size)⟩
      · have hp : 0 < len0 := by omega
        have hk : t % len0 < len0 := Nat.mod_lt _ hp
        obtain ⟨j, hj⟩ : ∃ j, t % len0 = j := ⟨_, rfl⟩
        rw [hj] at hk
        have hj1 : (t : Int).tmod (len0 : Int) = (j : Int) := by
          rw [← hj, Int.tmod_eq_emod_of_nonneg (by omega)]; rfl
        have hj2 : (t : Int) % (len0 : Int) = (j : Int) := by rw [← hj]; rfl
        have hlen : (iv .u64 D).length = len0 := by rw [iv_len, HDL.out]
        obtain ⟨g, c2, e, hg0, hg1, hcell, hfr, hset⟩ := ho2.store (k := j) (by rw [hlen]; exact hk)
        rw [hlen] at e
        subst e
        rw [iv_at (by rw [HDL.out]; exact hk)] at hcell
        have hB2 : c2 ≤ maxLen ∧ len0 ≤ c2 := by
          obtain ⟨A', n', c', e', h'⟩ := ho2.shape
          injection e' with e1 e2 e3
          subst e2 e3
          exact ⟨h'.small, h'.cap⟩
        obtain ⟨hs2, hc2⟩ := hB2
        unfold maxLen at hs2
        generalize D.getD j 0 = q at *
        have HSet := Lib.hid hset
        clear hset hj hlen ho2 h0
        have H3 : Hid (∀ x, Own 23 (w2.setCell ⟨g, j, none⟩ (.int .u64 x)) w.heap.size (.slice (some ⟨g, 0, none⟩) len0 c2) (iv .u64 (D.set j x)) ∧ Below w.heap.size w (w2.setCell ⟨g, j, none⟩ (.int .u64 x))) :=
          Lib.hid fun x => ⟨by have := HSet.out (.int .u64 x); rwa [iv_set] at this, HW2.out.setCell hg0 _⟩
        clear HSet
        obtain ⟨x, hx⟩ : ∃ x, bits .xor .u64 q a3 = x := ⟨_, rfl⟩
        have HX := Lib.hid hx
        obtain ⟨ho3, hb3⟩ := H3.out x
        have HG3 := Lib.hid (HG.out.go hb3)
        have HR3 := Lib.hid (HR.out.go hb3)
        have HW3 := Lib.hid hb3
        obtain ⟨A3, n3, c3, e3, hB3⟩ := ho3.shape
        injection e3 with e1 e2 e3
        subst e1 e2 e3
        have HB3 := Lib.hid hB3
        clear ho3 hB3 hb3 H3 HG2 HR2 HW2 hx HG HR
        obtain ⟨w3, hw3⟩ : ∃ w3, w2.setCell ⟨g, j, none⟩ (.int .u64 x) = w3 := ⟨_, rfl⟩
        rw [hw3] at HG3 HR3 HW3 HB3
        have HW := Lib.hid hw3
        clear hw3
        cases a4 with
        | false =>
          have HE3 := HB3
          go_wp2_with fail
          rw [HX.out, HW.out]
          clear HB3 HW HX hcell hfr
          have C1 := Lib.hid (verify_any a0 _ cap0 rs a1 len1 cap1 raw w3 HG3.out (by omega) HS.out HR3.out)
          rw [HDD.out] at C1
          go_wp2_with fail
          refine C1.out.mono ?_
          rintro e w4 ⟨rfl, hb4⟩
          have HW4 : Hid (Below w.heap.size w w4) := Lib.hid (HW3.out.trans (hb4.mono HW3.out.size))
          have HG4 := Lib.hid (HG3.out.go hb4)
          have HR4 := Lib.hid (HR3.out.go hb4)
          have HE4 := Lib.hid (HE3.out.go hb4)
          clear C1 hb4 HG3 HR3 HE3 HW3
          have C2 := Lib.hid (verifyR_any a0 _ cap0 rs a1 len1 cap1 raw w4 HG4.out (by omega) HS.out HR4.out)
          rw [HDD.out] at C2
          go_wp2_with fail
          refine C2.out.mono ?_
          rintro e w5 ⟨rfl, hb5⟩
          generalize (verR D raw).1 = p1
          generalize (verR D raw).2 = p2
          have HW5 : Hid (Below w.heap.size w w5) := Lib.hid (HW4.out.trans (hb5.mono HW4.out.size))
          have HG5 := Lib.hid (HG4.out.go hb5)
          have HE5 := Lib.hid (HE4.out.go hb5)
          clear C2 hb5 HG4 HR4 HE4 HW4
          have C3 := Lib.hid (verify_any a0 _ cap0 rs _ _ _ _ w5 HG5.out (by omega) HS.out HE5.out)
          rw [HDD.out] at C3
          go_wp2_with fail
          refine C3.out.mono ?_
          rintro e w6 ⟨rfl, hb6⟩
          have HW6 : Hid (Below w.heap.size w w6) := Lib.hid (HW5.out.trans (hb6.mono HW5.out.size))
          have HG6 := Lib.hid (HG5.out.go hb6)
          have HE6 := Lib.hid (HE5.out.go hb6)
          clear C3 hb6 HG5 HE5 HW5
          have C4 := Lib.hid (verifyR_any a0 _ cap0 rs _ _ _ _ w6 HG6.out (by omega) HS.out HE6.out)
          rw [HDD.out] at C4
          go_wp2_with fail
          refine C4.out.mono ?_
          rintro e w7 ⟨rfl, hb7⟩
          generalize (verR D (D.set j x)).1 = q1
          generalize (verR D (D.set j x)).2 = q2
          have HW7 : Hid (Below w.heap.size w w7) := Lib.hid (HW6.out.trans (hb7.mono HW6.out.size))
          clear C4 hb7 HG6 HE6 HW6
          go_wp2_with fail
          refine (awake_any w7).mono ?_
          rintro e w8 ⟨rfl, hb8⟩
          go_wp2
          go_ret
          exact ⟨rfl, HW7.out.trans (hb8.mono HW7.out.size)⟩
        | true =>
          by_cases hc1 : c2 = 1
          · subst hc1
            have HE3 : Hid (Row w3 w3.heap.size (some ⟨g, 0, none⟩) 0 0 (iv .u64 ((D.set j x).drop 1))) := Lib.hid (by
              have := HB3.out.drop (k := 1) (by omega)
              rw [iv_drop, if_pos rfl, show len0 - 1 = 0 by omega] at this
              exact this)
            generalize (D.set j x).drop 1 = m at HE3
            go_wp2_with fail
            rw [HX.out, HW.out]
            clear HB3 HW HX hcell hfr
            have C1 := Lib.hid (verify_any a0 _ cap0 rs a1 len1 cap1 raw w3 HG3.out (by omega) HS.out HR3.out)
            rw [HDD.out] at C1
            go_wp2_with fail
            refine C1.out.mono ?_
            rintro e w4 ⟨rfl, hb4⟩
            have HW4 : Hid (Below w.heap.size w w4) := Lib.hid (HW3.out.trans (hb4.mono HW3.out.size))
            have HG4 := Lib.hid (HG3.out.go hb4)
            have HR4 := Lib.hid (HR3.out.go hb4)
            have HE4 := Lib.hid (HE3.out.go hb4)
            clear C1 hb4 HG3 HR3 HE3 HW3
            have C2 := Lib.hid (verifyR_any a0 _ cap0 rs a1 len1 cap1 raw w4 HG4.out (by omega) HS.out HR4.out)
            rw [HDD.out] at C2
            go_wp2_with fail
            refine C2.out.mono ?_
            rintro e w5 ⟨rfl, hb5⟩
            generalize (verR D raw).1 = p1
            generalize (verR D raw).2 = p2
            have HW5 : Hid (Below w.heap.size w w5) := Lib.hid (HW4.out.trans (hb5.mono HW4.out.size))
            have HG5 := Lib.hid (HG4.out.go hb5)
            have HE5 := Lib.hid (HE4.out.go hb5)
            clear C2 hb5 HG4 HR4 HE4 HW4
            have C3 := Lib.hid (verify_any a0 _ cap0 rs _ _ _ _ w5 HG5.out (by omega) HS.out HE5.out)
            rw [HDD.out] at C3
            go_wp2_with fail
            refine C3.out.mono ?_
            rintro e w6 ⟨rfl, hb6⟩
            have HW6 : Hid (Below w.heap.size w w6) := Lib.hid (HW5.out.trans (hb6.mono HW5.out.size))
            have HG6 := Lib.hid (HG5.out.go hb6)
            have HE6 := Lib.hid (HE5.out.go hb6)
            clear C3 hb6 HG5 HE5 HW5
            have C4 := Lib.hid (verifyR_any a0 _ cap0 rs _ _ _ _ w6 HG6.out (by omega) HS.out HE6.out)
            rw [HDD.out] at C4
            go_wp2_with fail
            refine C4.out.mono ?_
            rintro e w7 ⟨rfl, hb7⟩
            generalize (verR D m).1 = q1
            generalize (verR D m).2 = q2
            have HW7 : Hid (Below w.heap.size w w7) := Lib.hid (HW6.out.trans (hb7.mono HW6.out.size))
            clear C4 hb7 HG6 HE6 HW6
            go_wp2_with fail
            refine (awake_any w7).mono ?_
            rintro e w8 ⟨rfl, hb8⟩
            go_wp2
            go_ret
            exact ⟨rfl, HW7.out.trans (hb8.mono HW7.out.size)⟩
          · have HE3 : Hid (Row w3 w3.heap.size (some ⟨g, 1, none⟩) (len0 - 1) (c2 - 1) (iv .u64 ((D.set j x).drop 1))) := Lib.hid (by
              have := HB3.out.drop (k := 1) (by omega)
              rw [iv_drop, if_neg hc1] at this
              simpa [Addr.add_lit] using this)
            generalize (D.set j x).drop 1 = m at HE3
            go_wp2_with fail
            rw [HX.out, HW.out]
            clear HB3 HW HX hcell hfr
            have C1 := Lib.hid (verify_any a0 _ cap0 rs a1 len1 cap1 raw w3 HG3.out (by omega) HS.out HR3.out)
            rw [HDD.out] at C1
            go_wp2_with fail
            refine C1.out.mono ?_
            rintro e w4 ⟨rfl, hb4⟩
            have HW4 : Hid (Below w.heap.size w w4) := Lib.hid (HW3.out.trans (hb4.mono HW3.out.size))
            have HG4 := Lib.hid (HG3.out.go hb4)
            have HR4 := Lib.hid (HR3.out.go hb4)
            have HE4 := Lib.hid (HE3.out.go hb4)
            clear C1 hb4 HG3 HR3 HE3 HW3
            have C2 := Lib.hid (verifyR_any a0 _ cap0 rs a1 len1 cap1 raw w4 HG4.out (by omega) HS.out HR4.out)
            rw [HDD.out] at C2
            go_wp2_with fail
            refine C2.out.mono ?_
            rintro e w5 ⟨rfl, hb5⟩
            generalize (verR D raw).1 = p1
            generalize (verR D raw).2 = p2
            have HW5 : Hid (Below w.heap.size w w5) := Lib.hid (HW4.out.trans (hb5.mono HW4.out.size))
            have HG5 := Lib.hid (HG4.out.go hb5)
            have HE5 := Lib.hid (HE4.out.go hb5)
            clear C2 hb5 HG4 HR4 HE4 HW4
            have C3 := Lib.hid (verify_any a0 _ cap0 rs _ _ _ _ w5 HG5.out (by omega) HS.out HE5.out)
            rw [HDD.out] at C3
            go_wp2_with fail
            refine C3.out.mono ?_
            rintro e w6 ⟨rfl, hb6⟩
            have HW6 : Hid (Below w.heap.size w w6) := Lib.hid (HW5.out.trans (hb6.mono HW5.out.size))
            have HG6 := Lib.hid (HG5.out.go hb6)
            have HE6 := Lib.hid (HE5.out.go hb6)
            clear C3 hb6 HG5 HE5 HW5
            have C4 := Lib.hid (verifyR_any a0 _ cap0 rs _ _ _ _ w6 HG6.out (by omega) HS.out HE6.out)
            rw [HDD.out] at C4
            go_wp2_with fail
            refine C4.out.mono ?_
            rintro e w7 ⟨rfl, hb7⟩
            generalize (verR D m).1 = q1
            generalize (verR D m).2 = q2
            have HW7 : Hid (Below w.heap.size w w7) := Lib.hid (HW6.out.trans (hb7.mono HW6.out.size))
            clear C4 hb7 HG6 HE6 HW6
            go_wp2_with fail
            refine (awake_any w7).mono ?_
            rintro e w8 ⟨rfl, hb8⟩
            go_wp2
            go_ret
            exact ⟨rfl, HW7.out.trans (hb8.mono HW7.out.size)⟩
end Go.Proofs.Ytjchaonbccfjhaa
