/-
  The law TypecodeOnly as a walk. No conditions.
-/
import Derived.Test.YtebbnkjjebfgeaaTca
import Derived.Test.YtebbnkjjebfgeaaLater
namespace Go.Proofs.Ytebbnkjjebfgeaa
open Go.ChangeShapes Go.WideShapes Go.RowKit
set_option linter.unusedVariables false
set_option maxHeartbeats 4000000
set_option maxRecDepth 100000

theorem typecodeOnly_walk (A : Option Addr) (n c : Nat) (z : List Int) (w : World) (h : IsRow .u8 w A n c z) :
    Calls Try.prog 7 #[.slice A n c] w fun e w' => e = .returned (.bool true) ∧ Below w.heap.size w w' := by
  obtain ⟨hrow, hfit⟩ := h.row
  generalize z.take n = b at hrow hfit
  have HB := Lib.hid hrow.bts
  have HS := Lib.hid hfit.small
  have hcap := hrow.cap
  have hsm := hrow.small
  have HLN := Lib.hid hrow.bts.len
  unfold maxLen at hsm
  clear hrow hfit h
  by_cases hbig : 120 < n
  · have hbi : (120 : Int) < (n : Int) := by omega
    go_enter Try.func7, Try.ntmps7
    go_wp2_with fail
    refine (awake9_any w).mono ?_
    rintro e w1 ⟨rfl, hb⟩
    have HB1 := Lib.hid hb
    clear hb
    go_wp2
    go_ret
    exact ⟨rfl, HB1.out⟩
  · have hbi : ¬ (120 : Int) < (n : Int) := by omega
    have H1 := Lib.hid (decode_any A n c b w HB.out HS.out (by omega))
    have HER := Lib.hid (fun h => dc_err (b := b) (e := dcE b) rfl h)
    have HOK := Lib.hid (fun h => dc_only HS.out (h : dcE b = 0))
    have HLO := Lib.hid (fun h => chk_0 (n := dcN b) (l := dcL b) h)
    have HEN : Hid (chk (dcN b) (dcL b) = 0 → encO (dcN b) (dcL b) = encT (dcN b) (dcL b)) := Lib.hid (fun h => by unfold encO; rw [if_pos h])
    unfold DcE at H1
    generalize dcN b = dn at *
    generalize dcK b = dk at *
    generalize dcE b = de at *
    generalize dcL b = dl at *
    go_enter Try.func7, Try.ntmps7
    go_wp2_with fail
    refine H1.out.mono ?_
    rintro e w2 ⟨A2, m2, c2, rfl, hx2, hb2⟩
    have hb3 := hb2.alloc hb2.size (.cells #[.int .i64 dn, .slice A2 m2 c2] 24)
    have HB3 := Lib.hid hb3
    have HT3 := Lib.hid (TyB.new (w := w2) (n := dn) (A := A2) (m := m2) (c := c2))
    have HX3 := Lib.hid (hx2.go ((Below.refl w2.heap.size w2).alloc (Nat.le_refl _) (.cells #[.int .i64 dn, .slice A2 m2 c2] 24)))
    have HML := Lib.hid hx2.len
    have hcap2 := hx2.cap
    have hsm2 := hx2.small
    unfold maxLen at hsm2
    clear hx2 hb2 hb3 H1
    by_cases hz : de = 0
    · subst hz
      obtain ⟨k0, k1, htk, hchk⟩ := HOK.out rfl
      obtain ⟨_, _, hl32, _, _⟩ := HLO.out hchk
      rw [HML.out] at hl32
      obtain ⟨K, rfl⟩ := Int.eq_ofNat_of_zero_le k0
      rw [Int.toNat_natCast] at htk
      have hKn : (K : Int) ≤ (n : Int) := by rw [← HLN.out]; exact k1
      have HE := Lib.hid (encode_any dn A2 m2 c2 dl _ HX3.out (by omega))
      unfold EncE at HE
      rw [hchk, HEN.out hchk, ← htk] at HE
      have c0 := HT3.out.cell0
      have c1 := HT3.out.cell1
      have HLK : Hid ((b.take K).length = K) := Lib.hid (by rw [List.length_take, HLN.out]; omega)
      clear htk hchk HEN HOK HER HLO k0 k1
      go_wp2_with fail
      generalize w2.alloc (.cells #[.int .i64 dn, .slice A2 m2 c2] 24) = w3 at *
      generalize w2.heap.size = t1 at *
      refine HE.out.mono ?_
      rintro e w4 ⟨v4, rfl, ho4, hb4⟩
      have hb4' := Below.then HB3.out hb4 (Nat.le_refl _)
      have HB4 := Lib.hid hb4'
      obtain ⟨A4, n4, c4, rfl, hbt4⟩ := ho4.shape
      have hn4 : n4 = K := by rw [← hbt4.len]; exact HLK.out
      subst hn4
      have hcap4 := hbt4.cap
      have hsm4 := hbt4.small
      unfold maxLen at hsm4
      have hraw := (HB.out.take (k := n4) (by omega)).below hb4'
      obtain ⟨T, hT⟩ : ∃ T, strOfNums (b.take n4) = T := ⟨_, rfl⟩
      have HT := Lib.hid hT
      have t1 : ∀ q : Later w4, (convert 30 9 (.slice A n4 c)).run Try.prog q.val = .ok (.string T) q.val := fun q => bts_as (hraw.below (q.2.mono HB4.out.size)) HT
      have t2 : ∀ q : Later w4, (convert 30 9 (.slice A4 n4 c4)).run Try.prog q.val = .ok (.string T) q.val := fun q => bts_as (hbt4.below q.2) HT
      have hnc : (n4 : Int) ≤ (c : Int) := by omega
      clear hT ho4 hb4 hb4' hbt4 hraw c0 c1 HE
      go_wp2
      refine wp_region_later (by kernel_rfl) (by kernel_rfl) ?_
      repeat (go_big_quiet_step ((go_at_call 8; exact Calls.later (awake9_any _))))
      refine wpQuiet_nil ?_
      rintro w8 ⟨⟨_, hq⟩, rfl⟩
      have HB8 := Lib.hid (Below.then HB4.out hq (Nat.le_refl _))
      clear hq t1 t2
      go_wp2
      go_ret
      exact ⟨rfl, HB8.out⟩
    · have d1 : (de != 0) = true := by simpa using hz
      obtain ⟨rfl, rfl, rfl⟩ := HER.out hz
      have hm0 : m2 = 0 := by rw [← HML.out]; rfl
      subst hm0
      clear HER HOK HLO HEN
      go_wp2_with fail
      generalize w2.alloc (.cells #[.int .i64 0, .slice A2 0 c2] 24) = w3 at *
      generalize w2.heap.size = t1 at *
      refine (awake9_any w3).mono ?_
      rintro e w4 ⟨rfl, hb4⟩
      have HT4 := Lib.hid (HT3.out.go hb4)
      have HB4 := Lib.hid (Below.then HB3.out hb4 (Nat.le_refl _))
      have c0 := HT4.out.cell0
      have c1 := HT4.out.cell1
      clear hb4
      go_wp2
      go_ret
      exact ⟨rfl, HB4.out⟩
end Go.Proofs.Ytebbnkjjebfgeaa
