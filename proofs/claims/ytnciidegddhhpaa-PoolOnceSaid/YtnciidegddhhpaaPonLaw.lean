/-
  The law PoolOnce as a walk: called with any arguments of its types it returns true. No conditions.
-/
import Derived.Test.YtnciidegddhhpaaPaw
import Derived.Test.YtnciidegddhhpaaPou
namespace Go.Proofs.Ytnciidegddhhpaa
open Go.ChangeShapes Go.WideShapes Go.RowKit
set_option linter.unusedVariables false
set_option linter.unusedSimpArgs false
set_option maxHeartbeats 8000000
set_option maxRecDepth 100000

theorem infoB : (Try.prog.info? 4).map (fun i => (i.zero, i.size, i.bytes)) = some (some (.bool false), 1, 1) := by kernel_rfl
/-- The law's state: the pool, and the marks of what was taken. -/
structure Po (w0 : World) (K p : Nat) (v : Value) (i : Nat) (w : World) (c : Nat → Nat) (l : List Int) (S : List Bool) : Prop where
  pol : PolI w c 1 p l
  own : OwC 2 bool1 4 w c v S
  low : ∀ g, g < w0.heap.size → c g ≠ 1 ∧ c g ≠ 2
  bel : Below w0.heap.size w0 w
  len : l.length = K - i
  sl : S.length = K
  nd : l.Nodup
  un : ∀ x ∈ l, ∃ j : Nat, x = (j : Int) ∧ S[j]? = some false
section
variable {w0 w w' : World} {K p g i j : Nat} {c : Nat → Nat} {l : List Int} {S : List Bool} {d : Int}
/-- A round: one item is taken and marked. -/
theorem Po.take (h : Po w0 K p (.slice (some ⟨g, 0, none⟩) K K) i w c l S) (hi : i < K) (hP : PolI w' c 1 p (tkL 0 l d)) (hk : Kept c 1 w w') :
    ∃ j : Nat, tkX 0 l d = (j : Int) ∧ j < K ∧ w'.cell? ⟨g, j, none⟩ = some (.bool false) ∧ w'.frozen? ⟨g, j, none⟩ = false ∧
      Po w0 K p (.slice (some ⟨g, 0, none⟩) K K) (i + 1) (w'.setCell ⟨g, j, none⟩ (.bool true)) c (tkL 0 l d) (S.set j true) := by
  have hne : l ≠ [] := fun e => by have := h.len; rw [e] at this; simp at this; omega
  have hperm := tk_perm (z := 0) (d := d) hne
  obtain ⟨j, hx, hj⟩ := h.un _ (tk_mem (z := 0) (d := d) hne)
  have hjS : j < S.length := (List.getElem?_eq_some_iff.1 hj).1
  have hnd : (tkX 0 l d :: tkL 0 l d).Nodup := hperm.nodup_iff.2 h.nd
  rw [List.nodup_cons] at hnd
  have ho := h.own.kept hk (by omega) (fun _ _ => rfl)
  obtain ⟨g', cap', e, hb, hg, h1, h2, h3⟩ := ho.1.store (i := j) (j := 0) (y := true) (u' := .bool true) hj rfl rfl
  cases e
  rw [show bool1.k = 1 from rfl, Nat.mul_one, Nat.add_zero] at h1 h2 h3
  have hs := run_setAt w' g j (.bool true)
  have hcg : c g = 2 := h.own.2 g rfl
  have hks : Kept c 2 w' (w'.setCell ⟨g, j, none⟩ (.bool true)) := Kept.ofGrown hs (fun q e => by cases e; exact hcg)
  refine ⟨j, hx, by have := h.sl; omega, h1, h2, hP.kept hks (by omega) (fun _ _ => rfl), ⟨h3, fun q hq => by cases hq; exact hcg⟩, h.low, ?_, ?_, ?_, hnd.2, fun y hy => ?_⟩
  · refine (h.bel.trans (hk.below (fun q hq => (h.low q hq).1) h.bel.size)).trans (hks.below (fun q hq => (h.low q hq).2) ?_)
    have := h.bel.size
    have := hk.size
    omega
  · rw [tkL_len, h.len]
    omega
  · rw [List.length_set, h.sl]
  · obtain ⟨q, rfl, hq⟩ := h.un y (tk_sub hy)
    refine ⟨q, rfl, ?_⟩
    rw [List.getElem?_set_ne, hq]
    rintro rfl
    rw [hx] at hnd
    exact hnd.1 hy
end
theorem poolOnce_walk (n : Int) (a1 : Option Addr) (len1 cap1 : Nat) (z1 : List Int) (w : World) (w0 : (Lit.int .u8 n).wf = true) (w1 : IsRow .u64 w a1 len1 cap1 z1) :
    Calls Try.prog 5 #[.int .u8 n, .slice a1 len1 cap1] w fun e w' => e = .returned (.bool true) ∧ Below w.heap.size w w' := by
  obtain ⟨i0, hi, hz0, hz1, hz2⟩ := info_parts infoB
  obtain ⟨hrow, hfit⟩ := w1.row
  generalize z1.take len1 = L at *
  have HROW := Lib.hid hrow
  have HFIT := Lib.hid hfit
  have b0 := Go.bounds_u8 w0
  obtain ⟨K, hK⟩ : ∃ K : Nat, n % 40 = (K : Int) := ⟨(n % 40).toNat, by omega⟩
  have hK40 : K < 40 := by omega
  have hkl : L.length = len1 := by have := hrow.len; rwa [iv_len] at this
  have HN := Lib.hid (newI_any none 0 0 [] w Kws.none_ (by omega) (fun _ => 0) 1)
  clear w0 w1 hrow hfit
  go_enter Try.func5, Try.ntmps5
  go_wp2_with fail
  rw [hK]
  refine HN.out.mono ?_
  rintro e w2 ⟨p, rfl, hp, hP, hb2⟩
  have HS2 : Hid (∃ c, PolI w2 c 1 p (rng 0) ∧ (∀ g, g < w.heap.size → c g = 0) ∧ Below w.heap.size w w2) := Lib.hid ⟨_, hP, fun g hg => rc_old hg, hb2⟩
  clear hP hb2 HN
  go_wp2
  go_loopw [7] (fun kv wr => ∃ i : Nat, i ≤ K ∧ kv = .int .i64 i ∧ Hid (∃ c, PolI wr c 1 p (rng i) ∧ (∀ g, g < w.heap.size → c g = 0) ∧ Below w.heap.size w wr)) (fun kv _ => K - (intOf kv).toNat)
  case atStart => exact ⟨0, by omega, rfl, HS2⟩
  case round =>
    obtain ⟨i, hi', rfl, hh⟩ := hrel
    by_cases hik : i < K
    · have hik1 : (i : Int) < (K : Int) := by omega
      obtain ⟨c, hP, hc, hb⟩ := hh.out
      have HPT := Lib.hid (putI_any wr c 1 p (rng i) (i : Int) hP (by rw [rng_len]; omega))
      have HC := Lib.hid hc
      have HB := Lib.hid hb
      clear hP hc hb hh
      go_wp2_with fail
      refine HPT.out.mono ?_
      rintro e w3 ⟨⟨v3, rfl⟩, hP3, hk3⟩
      rw [← rng_succ] at hP3
      have HS3 : Hid (∃ c, PolI w3 c 1 p (rng (i + 1)) ∧ (∀ g, g < w.heap.size → c g = 0) ∧ Below w.heap.size w w3) := Lib.hid ⟨_, hP3, fun g hg => by
        rw [rc_old (by have := HB.out.size; omega)]
        exact HC.out g hg, HB.out.trans (hk3.below (fun g hg => by rw [HC.out g hg]; omega) HB.out.size)⟩
      clear hP3 hk3 HPT HC HB
      go_wp2
      go_roundw
      case rel => exact ⟨i + 1, by omega, by go_num, HS3⟩
      case measure => simp [intOf]; omega
    · obtain rfl : i = K := by omega
      have hik1 : ¬ (i : Int) < (i : Int) := by omega
      go_wp2_with (at_make; go_must (refine wpList_make_full _ rfl _ _ 51 rfl wr.heap.size 4 i0 _ 1 Try.underlying51 hi hz0 hz1 _ _ _ _ i rfl rfl rfl rfl (by rw [hz2]; omega) (by unfold maxLen; omega) (Nat.le_refl _) ?_); intro w4 hown hg; have HO4 := Lib.hid hown; have HG4 := Lib.hid hg; clear hown hg)
      obtain ⟨c, hP, hc, hb⟩ := hh.out
      have hb4 : Below wr.heap.size wr w4 := (Below.refl _ _).grown HG4.out (Nat.le_refl _) (fun k e => by cases e)
      have HS4 : Hid (∃ c l S, Po w i p (.slice (some ⟨wr.heap.size, 0, none⟩) i i) 0 w4 c l S) := Lib.hid ⟨rc c wr.heap.size 2, rng i, List.replicate i false, by
        have hz := hb.size
        refine ⟨hP.kept (j := 2) (Kept.ofBelow hb4) (by omega) (fun g hg => rc_old hg), ⟨?_, fun g hg => ?_⟩, fun g hg => ?_, Below.then hb hb4 (Nat.le_refl _), by rw [rng_len]; omega, by simp, rng_nodup, fun x hx => ?_⟩
        · have e : (madeCells (Value.bool false).cells (i * 1)).toList = bool1.row (List.replicate i false) := by
            rw [Nat.mul_one, show (Value.bool false).cells = #[.bool false] from rfl, toList_madeCells_one, bool_rep]
          have h1 := HO4.out
          rw [e] at h1
          unfold OwnK
          rw [List.length_replicate]
          exact World.ownsRow.mono h1 (Nat.zero_le _)
        · cases hg
          exact rc_new (Nat.le_refl _)
        · rw [rc_old (by omega), hc g hg]
          omega
        · obtain ⟨j, rfl, hj⟩ := rng_mem hx
          exact ⟨j, rfl, by rw [List.getElem?_replicate, if_pos hj]⟩⟩
      have HZ4 : Hid (w.heap.size ≤ wr.heap.size) := Lib.hid hb.size
      clear HO4 HG4 hP hc hb hh hb4
      generalize wr.heap.size = gs at *
      go_loopw [9] (fun kv wr => ∃ j : Nat, j ≤ i ∧ kv = .int .i64 j ∧ Hid (∃ c l S, Po w i p (.slice (some ⟨gs, 0, none⟩) i i) j wr c l S)) (fun kv _ => i - (intOf kv).toNat)
      case atStart => exact ⟨0, by omega, rfl, HS4⟩
      case round =>
        obtain ⟨j, hj, rfl, hh⟩ := hrel
        obtain ⟨c, l, S, hS⟩ := hh.out
        have HS := Lib.hid hS
        have HTK := Lib.hid (fun d hd => takeI_any wr c 1 p l d hS.pol (by have := hS.len; omega) hd)
        clear hS hh
        by_cases hji : j < i
        · have hji1 : (j : Int) < (i : Int) := by omega
          have hlne : Hid ((!l.isEmpty) = true) := Lib.hid (by
            have := HS.out.len
            cases l with
            | nil => simp at this; omega
            | cons a t => rfl)
          have HRD : Hid (∀ (d : Int) (w5 : World), PolI w5 c 1 p (tkL 0 l d) → Kept c 1 wr w5 → ∃ q : Nat, tkX 0 l d = (q : Int) ∧ q < i ∧ w5.cell? ⟨gs, q, none⟩ = some (.bool false) ∧ w5.frozen? ⟨gs, q, none⟩ = false ∧
              Po w i p (.slice (some ⟨gs, 0, none⟩) i i) (j + 1) (w5.setCell ⟨gs, q, none⟩ (.bool true)) c (tkL 0 l d) (S.set q true)) := Lib.hid (fun d w5 h1 h2 => HS.out.take hji h1 h2)
          by_cases hjl : j < len1
          · have hjl1 : (j : Int) < (len1 : Int) := by omega
            obtain ⟨b, o, rfl, hbw, hcell⟩ := (HROW.out.below HS.out.bel).int (j := j) (by omega)
            have hd := u64_bd (HFIT.out.at_ rfl j)
            generalize L.getD j 0 = d at *
            have HT := Lib.hid (HTK.out d hd)
            unfold TkI at HT
            rw [hlne.out] at HT
            go_wp2_with fail
            refine HT.out.mono ?_
            rintro e w5 ⟨rfl, hP5, hk5, _⟩
            obtain ⟨q, hq, hqi, q1, q2, hq3⟩ := HRD.out d w5 hP5 hk5
            have HS5 := Lib.hid hq3
            have hqi1 : (q : Int) < (i : Int) := by omega
            rw [hq]
            clear hP5 hk5 HT HTK HRD hq3 hq hcell
            go_wp2
            go_roundw
            case rel => exact ⟨j + 1, by omega, by go_num, Lib.hid ⟨_, _, _, HS5.out⟩⟩
            case measure => simp [intOf]; omega
          · have hjl1 : ¬ (j : Int) < (len1 : Int) := by omega
            have HT := Lib.hid (HTK.out (j : Int) (by omega))
            unfold TkI at HT
            rw [hlne.out] at HT
            go_wp2_with fail
            refine HT.out.mono ?_
            rintro e w5 ⟨rfl, hP5, hk5, _⟩
            obtain ⟨q, hq, hqi, q1, q2, hq3⟩ := HRD.out (j : Int) w5 hP5 hk5
            have HS5 := Lib.hid hq3
            have hqi1 : (q : Int) < (i : Int) := by omega
            rw [hq]
            clear hP5 hk5 HT HTK HRD hq3 hq
            go_wp2
            go_roundw
            case rel => exact ⟨j + 1, by omega, by go_num, Lib.hid ⟨_, _, _, HS5.out⟩⟩
            case measure => simp [intOf]; omega
        · obtain rfl : j = i := by omega
          have hl0 : l = [] := by
            have := HS.out.len
            exact List.eq_nil_of_length_eq_zero (by omega)
          subst hl0
          have HT := Lib.hid (HTK.out 7 (by omega))
          unfold TkI at HT
          clear HTK
          go_wp2_with fail
          refine HT.out.mono ?_
          rintro e w5 ⟨rfl, hP5, hk5, _⟩
          have HP5 := Lib.hid hP5
          have HB5 : Hid (Below w.heap.size w w5) := Lib.hid (HS.out.bel.trans (hk5.below (fun g hg => (HS.out.low g hg).1) HS.out.bel.size))
          clear hP5 hk5 HT
          go_wp2_with fail
          refine (awake11_any w5).mono ?_
          rintro e w6 ⟨rfl, hb6⟩
          have HB6 := Lib.hid (Below.then HB5.out hb6 (Nat.le_refl _))
          have HL := Lib.hid (lenI_any w6 c 1 p _ (HP5.out.go hb6))
          rw [show ((tkL (0 : Int) [] 7).length : Int) = 0 from rfl] at HL
          clear hb6 HP5 HB5
          go_wp2_with fail
          refine HL.out.mono ?_
          rintro e w7 ⟨rfl, rfl⟩
          go_wp2
          go_ret
          exact ⟨rfl, HB6.out⟩
end Go.Proofs.Ytnciidegddhhpaa
