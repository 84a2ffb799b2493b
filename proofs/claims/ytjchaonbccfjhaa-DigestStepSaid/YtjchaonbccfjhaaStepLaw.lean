/-
  The law DigestStep as a walk: it returns true and changes nothing that was there. No conditions beyond the types of the arguments.
-/
import Derived.Test.YtjchaonbccfjhaaVer
import Derived.Deep.RegionHeld3
import Derived.Deep.RegionWith
namespace Go.Proofs.Ytjchaonbccfjhaa
open Go.ChangeShapes Go.WideShapes Go.ChangeAt Go.RowKit
set_option maxHeartbeats 4000000
set_option maxRecDepth 100000

theorem getD_snoc (a : List Int) (y : Int) : (a ++ [y]).getD a.length 0 = y := by simp
theorem getD_left (a b : List Int) (k : Nat) (h : k < a.length) : (a ++ b).getD k 0 = a.getD k 0 := by simp [List.getD, List.getElem?_append_left h]

theorem digestStep_walk (a0 : Option Addr) (len0 cap0 : Nat) (rs : List Rec) (a1 : Option Addr) (len1 cap1 : Nat) (z1 : List Int) (w : World) (w0 : IsRecs w a0 len0 cap0 rs) (w1 : IsRow .u8 w a1 len1 cap1 z1) :
    Calls Try.prog 7 #[.slice a0 len0 cap0, .slice a1 len1 cap1] w fun e w' => e = .returned (.bool true) ∧ Below w.heap.size w w' := by
  obtain ⟨i0, hi, hz0, hz1, hz2⟩ := info_parts infoS
  have hA : Arg w a0 len0 cap0 rs := ⟨w0.1, w0.2⟩
  obtain ⟨hR1, hF1⟩ := w1.row
  have hcap := hA.row.cap
  have hsm := hA.row.small
  have hcap1 := hR1.cap
  have hsm1 := hR1.small
  unfold maxLen at hsm hsm1
  generalize z1.take len1 = l at *
  have HG := Lib.hid hA
  have HR := Lib.hid hR1
  have HFit := Lib.hid hF1
  have HF := Lib.hid (few_any _ _ _ _ w hA)
  have HA := Lib.hid (awake_any w)
  have HL := Lib.hid hA.len
  clear hA w0 w1 z1 hR1 hF1
  go_enter Try.func7, Try.ntmps7
  go_wp2_with fail
  refine HF.out.mono ?_
  rintro e w' ⟨b, rfl, rfl, hb⟩
  clear HF
  cases b with
  | false =>
    clear hb
    go_wp2_with fail
    refine HA.out.mono ?_
    rintro e w' ⟨rfl, hb⟩
    go_wp2
    go_ret
    exact ⟨rfl, hb⟩
  | true =>
    obtain ⟨hn, hs⟩ := hb rfl
    have HS := Lib.hid hs
    clear hb hs
    by_cases hbig : 60 < len1
    · go_wp2_with fail
      refine HA.out.mono ?_
      rintro e w' ⟨rfl, hb⟩
      go_wp2
      go_ret
      exact ⟨rfl, hb⟩
    · clear HA
      have hrl : (rv rs).length = len0 := by rw [rv_len, HL.out]
      have HRL := Lib.hid hrl
      clear hrl
      go_wp2_with (first
        | (at_builtin; (refine wpList_app _ rfl (.tmp 16) (.tmp 17) 28 rfl Try.underlying28 hi hz0 rfl hz1 (by omega) (base := w.heap.size) (xs := []) (World.ownsRow_lit w #[] 0 (Nat.le_refl _) (Nat.zero_le _) rfl) rfl (HG.out.row.alloc _) rfl rv_one (by simp; omega) (by simp) ?_)
           intro v2 w2 ho2 hb2
           have HO2 := Lib.hid (show Own 22 w2 w.heap.size v2 (rv rs) from ho2)
           have HW2 : Hid (Below w.heap.size w w2) := Lib.hid (((Below.refl _ _).alloc (Nat.le_refl _) _).trans hb2)
           clear ho2 hb2)
        | (at_builtin; (refine wpList_app _ rfl (.tmp 18) (.tmp 20) 28 rfl Try.underlying28 hi hz0 rfl hz1 (by omega) (HO2.out.alloc _) rfl (Row.new w2 (rv [⟨a1, len1, cap1, l⟩]) _ _ rfl (by unfold maxLen; simp [rv])) rfl rv_one (by rw [HRL.out]; simp [rv]; omega) (by have := HW2.out.size; simp; omega) ?_)
           intro v3 w3 ho3 hb3
           have HO3 : Hid (Own 22 w3 w.heap.size v3 (rv (rs ++ [⟨a1, len1, cap1, l⟩]))) := Lib.hid (by
             have e : rv rs ++ rv [⟨a1, len1, cap1, l⟩] = rv (rs ++ [⟨a1, len1, cap1, l⟩]) := by simp [rv]
             rw [← e]
             exact ho3)
           have HW3 : Hid (Below w.heap.size w w3) := Lib.hid ((HW2.out.alloc HW2.out.size _).trans hb3)
           clear ho3 hb3))
      obtain ⟨A3, n3, c3, rfl, hB3⟩ := HO3.out.shape
      have hn3 : n3 = len0 + 1 := by have := hB3.len; rw [rv_len, List.length_append, HL.out] at this; exact this.symm
      have hA3 : Arg w3 A3 n3 c3 (rs ++ [⟨a1, len1, cap1, l⟩]) := ⟨hB3, fun r hr => by
        rcases List.mem_append.1 hr with h | h
        · exact (HG.out.recs.go HW3.out) r h
        · simp at h; subst h; exact ⟨HR.out.go HW3.out, HFit.out⟩⟩
      have CD := Lib.hid (digests_any A3 n3 c3 _ w3 hA3 (by omega) (fun r hr => by
        rcases List.mem_append.1 hr with h | h
        · have := HS.out r h; omega
        · simp at h; subst h; show len1 ≤ 1000; omega))
      obtain ⟨E, hE⟩ : ∃ E, dig start (bs (rs ++ [⟨a1, len1, cap1, l⟩])) = E := ⟨_, rfl⟩
      rw [hE] at CD
      have hbl : (bs rs).length = len0 := by rw [bs_len, HL.out]
      have hE2 : E = dig start (bs rs) ++ [chn (lst start (bs rs)) l] := by
        rw [← hE, show bs (rs ++ [⟨a1, len1, cap1, l⟩]) = bs rs ++ [l] by simp [bs], dig_app]
        rfl
      have hx := lst_bd start_bd.1 start_bd.2 (bs rs)
      have hEl : E.length = len0 + 1 := by rw [hE2, List.length_append, dig_len, hbl]; rfl
      have hEy : E.getD len0 0 = chn (lst start (bs rs)) l := by
        rw [hE2, show len0 = (dig start (bs rs)).length by rw [dig_len, hbl], getD_snoc]
      have hEx : 0 < len0 → E.getD (len0 - 1) 0 = lst start (bs rs) := fun hp => by
        rw [hE2, getD_left _ _ _ (by rw [dig_len, hbl]; omega), ← hbl, dig_last]
        intro h
        rw [h] at hbl
        simp at hbl
        omega
      have hEs : len0 = 0 → lst start (bs rs) = start := fun hp => by
        have : bs rs = [] := List.eq_nil_of_length_eq_zero (by omega)
        rw [this]; rfl
      generalize lst start (bs rs) = x at *
      obtain ⟨y, hy⟩ : ∃ y, chn x l = y := ⟨_, rfl⟩
      rw [hy] at hEy
      have HY := Lib.hid hy
      have HEl := Lib.hid hEl
      have HEy := Lib.hid hEy
      have HEx := Lib.hid hEx
      have HEs := Lib.hid hEs
      clear hB3 hA3 hE hbl hE2 hEl hEy hEx hEs hy HO3 HO2 HW2 HRL
      obtain rfl := hn3
      refine CD.out.mono ?_
      rintro e w4 ⟨v4, rfl, ho4, hb4⟩
      have HW4 : Hid (Below w.heap.size w w4) := Lib.hid (HW3.out.trans (hb4.mono HW3.out.size))
      obtain ⟨A4, n4, c4, rfl, hB4⟩ := ho4.shape
      obtain rfl : n4 = len0 + 1 := by have := hB4.len; rw [iv_len, HEl.out] at this; exact this.symm
      have hc4 := hB4.cap
      have hs4 := hB4.small
      unfold maxLen at hs4
      obtain ⟨b, o, rfl, hbl, hcell⟩ := hB4.int (j := len0) (by omega)
      rw [HEy.out] at hcell
      have HB4 := Lib.hid hB4
      have CS := Lib.hid (sum_any none 0 0 [] w4 (B := 0) Row.none_ (fun x hx => by cases hx) (by omega))
      rw [fnv_nil] at CS
      clear CD hb4 HW3 ho4 hB4
      go_wp2_with fail
      refine CS.out.mono ?_
      rintro e w' ⟨rfl, rfl⟩
      clear CS
      by_cases h0 : len0 = 0
      · obtain rfl : x = start := HEs.out h0
        have h1 : ¬ 0 < len0 := by omega
        clear HEs HEx HB4 h0
        go_wp2
        go_region_with (first
          | (go_at_call 9
             refine (awake_any _).mono ?_
             rintro e w5 ⟨rfl, hb5⟩
             have hbd : Below w4.heap.size w4 w5 := ((Below.refl w4.heap.size w4).drew).trans hb5
             have HW5 : Hid (Below w.heap.size w w5) := Lib.hid (HW4.out.trans (hbd.mono HW4.out.size))
             have g5 : w5.cell? ⟨b, o + len0, none⟩ = some (.int .u64 y) := (hbd.cell (p := ⟨b, o + len0, none⟩) hbl).trans hcell
             have HK := Lib.hid (chain_any _ a1 len1 cap1 l w5 (HR.out.go HW5.out) HFit.out (by omega) hx.1 hx.2)
             rw [HY.out] at HK
             clear hbd hb5)
          | (go_at_call 12
             refine HK.out.mono ?_
             rintro e w6 ⟨rfl, rfl⟩))
        all_goals
          go_wp2
          go_ret
          exact ⟨rfl, HW5.out⟩
      · have hp : 0 < len0 := by omega
        obtain ⟨b', o', e', _, hcell'⟩ := HB4.out.int (j := len0 - 1) (by omega)
        injection e' with e'
        injection e' with e1 e2
        subst e1 e2
        rw [HEx.out hp] at hcell'
        clear HEs HEx HB4 h0
        go_wp2
        go_region_with (first
          | (go_at_call 9
             refine (awake_any _).mono ?_
             rintro e w5 ⟨rfl, hb5⟩
             have hbd : Below w4.heap.size w4 w5 := ((Below.refl w4.heap.size w4).drew).trans hb5
             have HW5 : Hid (Below w.heap.size w w5) := Lib.hid (HW4.out.trans (hbd.mono HW4.out.size))
             have g5 : w5.cell? ⟨b, o + len0, none⟩ = some (.int .u64 y) := (hbd.cell (p := ⟨b, o + len0, none⟩) hbl).trans hcell
             have HK := Lib.hid (chain_any _ a1 len1 cap1 l w5 (HR.out.go HW5.out) HFit.out (by omega) hx.1 hx.2)
             rw [HY.out] at HK
             clear hbd hb5)
          | (go_at_call 12
             refine HK.out.mono ?_
             rintro e w6 ⟨rfl, rfl⟩))
        all_goals
          go_wp2
          go_ret
          exact ⟨rfl, HW5.out⟩
end Go.Proofs.Ytjchaonbccfjhaa
