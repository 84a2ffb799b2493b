/-
  The law PoolPlays as a walk: called with any arguments of its types it returns true. No conditions.
-/
import Derived.Test.YtnciidegddhhpaaPaw
import Derived.Test.YtnciidegddhhpaaPal
import Derived.Test.YtnciidegddhhpaaPcm
namespace Go.Proofs.Ytnciidegddhhpaa
open Go.ChangeShapes Go.WideShapes Go.RowKit
set_option linter.unusedVariables false
set_option linter.unusedSimpArgs false
set_option maxHeartbeats 8000000
set_option maxRecDepth 100000

/-- The law's state: the pool, and the model's list. -/
structure Pp (w0 : World) (p : Nat) (v : Value) (N : Nat) (w : World) (c : Nat → Nat) (l : List Int) : Prop where
  pol : PolI w c 2 p l
  own : OwC 0 int1 3 w c v l
  low : ∀ g, g < w0.heap.size → c g = 0
  bel : Below w0.heap.size w0 w
  len : l.length ≤ N
section
variable {w0 w w' : World} {p N : Nat} {v v' : Value} {c c' : Nat → Nat} {l l' : List Int}
theorem Pp.go (h : Pp w0 p v N w c l) (hb : Below w.heap.size w w') : Pp w0 p v N w' c l :=
  ⟨h.pol.go hb, h.own.kept (j := 1) (Kept.ofBelow hb) (by omega) (fun _ _ => rfl), h.low, Below.then h.bel hb (Nat.le_refl _), h.len⟩
theorem Pp.more {N' : Nat} (h : Pp w0 p v N w c l) (hN : N ≤ N') : Pp w0 p v N' w c l := ⟨h.pol, h.own, h.low, h.bel, Nat.le_trans h.len hN⟩
/-- The pool has been written; the model's list is what it was. -/
theorem Pp.pool (h : Pp w0 p v N w c l) (hP : PolI w' c' 2 p l') (hk : Kept c 2 w w') (hc : ∀ g, g < w.heap.size → c' g = c g) : PolI w' c' 2 p l' ∧ OwC 0 int1 3 w' c' v l ∧ (∀ g, g < w0.heap.size → c' g = 0) ∧ Below w0.heap.size w0 w' :=
  ⟨hP, h.own.kept hk (by omega) hc, fun g hg => (hc g (Nat.lt_of_lt_of_le hg h.bel.size)).trans (h.low g hg), h.bel.trans (hk.below (fun g hg => by rw [h.low g hg]; omega) h.bel.size)⟩
/-- The model's list is made anew. -/
theorem Pp.model {B : Nat} (hP : PolI w c 2 p l) (hl : ∀ g, g < w0.heap.size → c g = 0) (hb0 : Below w0.heap.size w0 w) (hb : Below w.heap.size w w') (ho : OwnK int1 3 w' B v l) (hB : w.heap.size ≤ B) (hN : l.length ≤ N) : Pp w0 p v N w' (rc c w.heap.size 0) l :=
  ⟨hP.kept (j := 1) (Kept.ofBelow hb) (by omega) (fun _ hg => rc_old hg), ⟨ho.down (Nat.zero_le _), fun g hg => rc_new (Nat.le_trans hB (ho.ge hg).1)⟩, fun g hg => (rc_old (Nat.lt_of_lt_of_le hg hb0.size)).trans (hl g hg), Below.then hb0 hb (Nat.le_refl _), hN⟩
theorem Pp.kws {A : Option Addr} {n cc : Nat} (h : Pp w0 p (.slice A n cc) N w c l) : Kws int1 w w.heap.size A n cc l := by
  obtain ⟨A', n', c', e, hk⟩ := h.own.1.shape
  cases e
  exact hk
end
theorem poolPlays_walk (a0 : Option Addr) (len0 cap0 : Nat) (z0 : List Int) (a1 : Option Addr) (len1 cap1 : Nat) (z1 : List Int) (puts : Int) (w : World) (w0 : IsRow .i64 w a0 len0 cap0 z0) (w1 : IsRow .u64 w a1 len1 cap1 z1) (w2 : (Lit.int .u16 puts).wf = true) :
    Calls Try.prog 3 #[.slice a0 len0 cap0, .slice a1 len1 cap1, .int .u16 puts] w fun e w' => e = .returned (.bool true) ∧ Below w.heap.size w w' := by
  obtain ⟨i0, hi, hz0, hz1, hz2⟩ := info_parts infoI
  have HI := Lib.hid hi
  have HZ := Lib.hid hz0
  obtain ⟨hrow0, _⟩ := w0.row
  obtain ⟨hrow1, hfit1⟩ := w1.row
  generalize z0.take len0 = L0 at *
  generalize z1.take len1 = L1 at *
  have HK0 := Lib.hid hrow0.kws
  have hl0 : L0.length = len0 := hrow0.kws.len
  have HROW1 := Lib.hid hrow1
  have HFIT1 := Lib.hid hfit1
  have hl1 : L1.length = len1 := by have := hrow1.len; rwa [iv_len] at this
  have hc0 := hrow0.cap
  have hs0 := hrow0.small
  have hc1 := hrow1.cap
  have hs1 := hrow1.small
  unfold maxLen at hs0 hs1
  have b2 := u16_bd w2
  clear w0 w1 w2 hrow0 hrow1 hfit1 hi hz0
  go_enter Try.func3, Try.ntmps3
  go_wp2_with fail
  refine (awake11_any w).mono ?_
  rintro e w3 ⟨rfl, hb3⟩
  have HB3 := Lib.hid hb3
  clear hb3
  by_cases hbig : 20 < len0 ∨ 30 < len1
  · by_cases h20 : 20 < len0
    · have h20' : (20 : Int) < (len0 : Int) := by omega
      go_wp2_with fail
      refine (awake11_any w3).mono ?_
      rintro e w4 ⟨rfl, hb4⟩
      go_wp2
      go_ret
      exact ⟨rfl, Below.then HB3.out hb4 (Nat.le_refl _)⟩
    · have h20' : ¬ (20 : Int) < (len0 : Int) := by omega
      have h30' : (30 : Int) < (len1 : Int) := by omega
      go_wp2_with fail
      refine (awake11_any w3).mono ?_
      rintro e w4 ⟨rfl, hb4⟩
      go_wp2
      go_ret
      exact ⟨rfl, Below.then HB3.out hb4 (Nat.le_refl _)⟩
  · have h20' : ¬ (20 : Int) < (len0 : Int) := by omega
    have h30' : ¬ (30 : Int) < (len1 : Int) := by omega
    have HN := Lib.hid (newI_any a0 len0 cap0 L0 w3 ((HK0.out.go HB3.out)) (by omega) (fun _ => 0) 2)
    go_wp2_with fail
    refine HN.out.mono ?_
    rintro e w4 ⟨p, rfl, hp, hP4, hb4⟩
    have HP4 := Lib.hid hP4
    have HB4 := Lib.hid (Below.then HB3.out hb4 (Nat.le_refl _))
    have HO4 : Hid (OwnK int1 3 (w4.alloc (.cells #[] 3)) w4.heap.size (.slice (some ⟨w4.heap.size, 0, none⟩) 0 0) []) := Lib.hid (World.ownsRow_made w4 #[] 0 (Nat.le_refl _) (Nat.zero_le _) rfl)
    have HBA : Hid (Below w4.heap.size w4 (w4.alloc (.cells #[] 3))) := Lib.hid ((Below.refl _ _).alloc (Nat.le_refl _) _)
    have HK4 := Lib.hid (HK0.out.go (HB4.out.trans (HBA.out.mono HB4.out.size)))
    have HC4 : Hid (∀ g, g < w.heap.size → rc (fun _ => 0) w3.heap.size 2 g = 0) := Lib.hid (fun g hg => rc_old (by have := HB3.out.size; omega))
    clear hP4 hb4 HN
    go_wp2_with (at_builtin; go_must (refine wpList_appK _ rfl (.tmp 26) (.tmp 27) 22 rfl Try.underlying22 HI.out HZ.out rfl hz1 (by omega) HO4.out rfl HK4.out rfl (by simp; omega) (by simp) ?_); intro v5 w5 ho5 hb5 hg5; rw [List.nil_append] at ho5; obtain ⟨A5, n5, c5, rfl, hx5⟩ := ho5.shape; have HS5 := Lib.hid (Pp.model HP4.out HC4.out HB4.out (HBA.out.trans hb5) ho5 (Nat.le_refl _) (show L0.length ≤ 20 + 0 by omega)); clear ho5 hb5 hg5 hx5)
    clear HO4 HBA HK4 HC4 HP4 HB4 HB3 HK0
    go_loopw [8, 9] (fun vm kv wr => ∃ (i : Nat) (A : Option Addr) (n cm : Nat), i ≤ len1 ∧ kv = .int .i64 i ∧ vm = .slice A n cm ∧ Hid (∃ c l, Pp w p (.slice A n cm) (20 + i) wr c l)) (fun _ kv _ => len1 - (intOf kv).toNat)
    case atStart => exact ⟨0, A5, n5, c5, by omega, rfl, rfl, Lib.hid ⟨_, _, HS5.out⟩⟩
    case round =>
      clear HS5
      obtain ⟨i, A, n, cm, hi1, rfl, rfl, hh⟩ := hrel
      obtain ⟨c, l, hS⟩ := hh.out
      have HS := Lib.hid hS
      have hks := hS.kws
      have hnl : n = l.length := hks.len.symm
      have HNL := Lib.hid hnl
      have hcm := hks.cap
      have hsm := hks.small
      unfold maxLen at hsm
      have hlen := hS.len
      by_cases hil : i < len1
      · have hil1 : (i : Int) < (len1 : Int) := by omega
        obtain ⟨b, o, rfl, hbw, hcell⟩ := (HROW1.out.below hS.bel).int (j := i) (by omega)
        have hcell' : Hid (∀ W, Below w.heap.size w W → W.cell? ⟨b, o + i, none⟩ = some (.int .u64 (L1.getD i 0))) := Lib.hid (fun W hW => by
          obtain ⟨b', o', e', _, h⟩ := (HROW1.out.below hW).int (j := i) (by omega)
          cases e'
          exact h)
        have hd := u64_bd (HFIT1.out.at_ rfl i)
        generalize L1.getD i 0 = d at *
        have HT := Lib.hid (takeI_any wr c 2 p l d hS.pol (by omega) hd)
        unfold TkI at HT
        clear hS hh hks hnl
        by_cases hl : l = []
        · subst hl
          obtain rfl : n = 0 := HNL.out
          rw [(tk_nil (z := (0 : Int)) (d := d)).1, (tk_nil (z := (0 : Int)) (d := d)).2, show (!([] : List Int).isEmpty) = false from rfl] at HT
          go_wp2_with fail
          refine HT.out.mono ?_
          rintro e w5 ⟨rfl, hP5, hk5, _⟩
          have hq := HS.out.pool hP5 hk5 (fun _ _ => rfl)
          have HS7 : Hid (Pp w p (.slice A 0 cm) (20 + i) w5 c []) := Lib.hid ⟨hq.1, hq.2.1, hq.2.2.1, hq.2.2.2, by simp⟩
          clear hq hP5 hk5 HT HS hcell hcell'
          obtain ⟨l', hl'⟩ : ∃ l' : List Int, l' = [] := ⟨_, rfl⟩
          rw [← hl'] at HS7
          clear hl' HNL
          obtain ⟨x, hx⟩ : ∃ x : Int, x = 0 := ⟨_, rfl⟩
          rename_i wr0
          have HLI := Lib.hid (listed_any c 2 p l' w5 HS7.out.pol (by have := HS7.out.len; omega))
          go_wp2_with fail
          refine HLI.out.mono ?_
          rintro e w8 ⟨v8, rfl, ho8, hb8⟩
          obtain ⟨A8, n8, c8, rfl, hx8⟩ := ho8.shape
          have HS8 := Lib.hid (HS7.out.go hb8)
          have HSM := Lib.hid (sameI_any A8 A n8 0 c8 cm l' l' w8 hx8 HS8.out.kws)
          rw [show decide (l' = l') = true from decide_eq_true rfl] at HSM
          clear ho8 hb8 hx8 HLI HS7
          go_wp2_with fail
          refine HSM.out.mono ?_
          rintro e w9 ⟨rfl, hb9⟩
          have HS9 := Lib.hid (HS8.out.go hb9)
          have HL9 := Lib.hid (lenI_any w9 c 2 p l' HS9.out.pol)
          have hnn : 0 = l'.length := HS9.out.kws.len.symm
          rw [← hnn] at HL9
          have HNN := Lib.hid hnn
          clear hb9 HSM HS8 hnn
          go_wp2_with fail
          refine HL9.out.mono ?_
          rintro e w10 ⟨rfl, rfl⟩
          clear HL9
          cases hbit : (bits BinOp.and IntKind.u16 (puts / 2 ^ (i % 16)) 1 == 1)
          · go_wp2
            go_roundw
            case rel => exact ⟨i + 1, _, _, _, by omega, by go_num, rfl, Lib.hid ⟨_, _, HS9.out.more (by omega)⟩⟩
            case measure => simp [intOf]; omega
          · have HPT := Lib.hid (putI_any w9 c 2 p l' (i : Int) HS9.out.pol (by have := HS9.out.len; omega))
            go_wp2_with fail
            refine HPT.out.mono ?_
            rintro e w11 ⟨⟨v11, rfl⟩, hP11, hk11⟩
            have hq := HS9.out.pool hP11 hk11 (fun _ hg => rc_old hg)
            have HQ := Lib.hid hq
            obtain ⟨A', n', c', e', hk11'⟩ := hq.2.1.1.shape
            cases e'
            have HO11 : Hid (OwnK int1 3 (w11.alloc (.cells #[] 3)) w11.heap.size (.slice (some ⟨w11.heap.size, 0, none⟩) 0 0) []) := Lib.hid (World.ownsRow_made w11 #[] 0 (Nat.le_refl _) (Nat.zero_le _) rfl)
            have HB11 : Hid (Below w11.heap.size w11 (w11.alloc (.cells #[] 3))) := Lib.hid ((Below.refl _ _).alloc (Nat.le_refl _) _)
            have HK11 := Lib.hid (hk11'.alloc (.cells #[] 3))
            have HLN := Lib.hid HS9.out.len
            clear hq hP11 hk11 hk11' HPT HS9
            go_wp2_with (at_builtin; go_must (first
              | (refine wpList_appK _ rfl (.tmp 88) (.tmp 89) 22 rfl Try.underlying22 HI.out HZ.out rfl hz1 (by omega) HO11.out rfl HK11.out rfl (by have := HLN.out; have := HNN.out; simp <;> omega) (by simp) ?_
                 intro v12 w12 ho12 hb12 hg12
                 rw [List.nil_append] at ho12
                 obtain ⟨A12, n12, c12, rfl, hx12⟩ := ho12.shape
                 have HB12 := Lib.hid (HB11.out.trans hb12)
                 have HO12 := Lib.hid (ho12.alloc (.cells #[.int .i64 (i : Int)] 3))
                 have HY12 : Hid (Kws int1 (w12.alloc (.cells #[.int .i64 (i : Int)] 3)) (w12.heap.size + 1) (some ⟨w12.heap.size, 0, none⟩) 1 1 [(i : Int)]) := Lib.hid (Kws.new (E := int1) w12 [(i : Int)] _ _ 1 rfl rfl (by unfold maxLen; omega))
                 have hz12 := HB12.out.size
                 clear ho12 hb12 hg12 hx12)
              | (refine wpList_appK _ rfl (.tmp 90) (.tmp 92) 22 rfl Try.underlying22 HI.out HZ.out rfl hz1 (by omega) HO12.out rfl HY12.out rfl (by have := HLN.out; omega) (by simp; omega) ?_
                 intro v14 w14 ho14 hb14 hg14
                 obtain ⟨A14, n14, c14, rfl, hx14⟩ := ho14.shape
                 have HS14 := Lib.hid (Pp.model (N := 20 + (i + 1)) HQ.out.1 HQ.out.2.2.1 HQ.out.2.2.2 ((HB12.out.alloc hz12 _).trans hb14) ho14 (Nat.le_refl _) (by rw [List.length_append]; have := HLN.out; simp; omega))
                 clear ho14 hb14 hg14 hx14)))
            go_roundw
            case rel => exact ⟨i + 1, _, _, _, by omega, by go_num, rfl, Lib.hid ⟨_, _, HS14.out⟩⟩
            case measure => simp [intOf]; omega
        · have hp0 : 0 < l.length := List.length_pos_iff.2 hl
          have hn0 : (0 : Int) < (n : Int) := by have := HNL.out; omega
          have hn1 : 0 < n := by omega
          have hn2 : decide (0 < n) = true := by simpa using hn1
          have hne : (!l.isEmpty) = true := by
            cases l with
            | nil => exact absurd rfl hl
            | cons a t => rfl
          rw [hne] at HT
          go_wp2_with fail
          refine HT.out.mono ?_
          rintro e w5 ⟨rfl, hP5, hk5, _⟩
          have hq := HS.out.pool hP5 hk5 (fun _ _ => rfl)
          have HQ := Lib.hid hq
          obtain ⟨A', n', c', e', hk5'⟩ := hq.2.1.1.shape
          cases e'
          have HR := Lib.hid (refTI_any A n cm l d w5 hk5' hl (by omega) hd)
          have hcell5 := hcell'.out w5 hq.2.2.2
          unfold RtE at HR
          obtain ⟨x, hx⟩ : ∃ x, tkX 0 l d = x := ⟨_, rfl⟩
          rw [hx] at HR ⊢
          clear hq hP5 hk5 hk5' HT HS hcell hcell' hne
          go_wp2_with fail
          refine HR.out.mono ?_
          rintro e w7 ⟨v7, rfl, ho7, hb7⟩
          obtain ⟨A7, n7, cm7, rfl, hx7⟩ := ho7.shape
          have HS7 := Lib.hid (Pp.model (N := 20 + i) HQ.out.1 HQ.out.2.2.1 HQ.out.2.2.2 hb7 ho7 (Nat.le_refl _) (by rw [tkL_len]; omega))
          clear ho7 hb7 hx7 HR HQ hx
          generalize tkL 0 l d = l' at *
          generalize rc c w5.heap.size 0 = c7 at *
          have HLI := Lib.hid (listed_any c7 2 p l' w7 HS7.out.pol (by have := HS7.out.len; omega))
          go_wp2_with fail
          refine HLI.out.mono ?_
          rintro e w8 ⟨v8, rfl, ho8, hb8⟩
          obtain ⟨A8, n8, c8, rfl, hx8⟩ := ho8.shape
          have HS8 := Lib.hid (HS7.out.go hb8)
          have HSM := Lib.hid (sameI_any A8 A7 n8 n7 c8 cm7 l' l' w8 hx8 HS8.out.kws)
          rw [show decide (l' = l') = true from decide_eq_true rfl] at HSM
          clear ho8 hb8 hx8 HLI HS7
          go_wp2_with fail
          refine HSM.out.mono ?_
          rintro e w9 ⟨rfl, hb9⟩
          have HS9 := Lib.hid (HS8.out.go hb9)
          have HL9 := Lib.hid (lenI_any w9 c7 2 p l' HS9.out.pol)
          have hnn : n7 = l'.length := HS9.out.kws.len.symm
          rw [← hnn] at HL9
          have HNN := Lib.hid hnn
          clear hb9 HSM HS8 hnn
          go_wp2_with fail
          refine HL9.out.mono ?_
          rintro e w10 ⟨rfl, rfl⟩
          clear HL9
          cases hbit : (bits BinOp.and IntKind.u16 (puts / 2 ^ (i % 16)) 1 == 1)
          · go_wp2
            go_roundw
            case rel => exact ⟨i + 1, _, _, _, by omega, by go_num, rfl, Lib.hid ⟨_, _, HS9.out.more (by omega)⟩⟩
            case measure => simp [intOf]; omega
          · have HPT := Lib.hid (putI_any w9 c7 2 p l' (i : Int) HS9.out.pol (by have := HS9.out.len; omega))
            go_wp2_with fail
            refine HPT.out.mono ?_
            rintro e w11 ⟨⟨v11, rfl⟩, hP11, hk11⟩
            have hq := HS9.out.pool hP11 hk11 (fun _ hg => rc_old hg)
            have HQ := Lib.hid hq
            obtain ⟨A', n', c', e', hk11'⟩ := hq.2.1.1.shape
            cases e'
            have HO11 : Hid (OwnK int1 3 (w11.alloc (.cells #[] 3)) w11.heap.size (.slice (some ⟨w11.heap.size, 0, none⟩) 0 0) []) := Lib.hid (World.ownsRow_made w11 #[] 0 (Nat.le_refl _) (Nat.zero_le _) rfl)
            have HB11 : Hid (Below w11.heap.size w11 (w11.alloc (.cells #[] 3))) := Lib.hid ((Below.refl _ _).alloc (Nat.le_refl _) _)
            have HK11 := Lib.hid (hk11'.alloc (.cells #[] 3))
            have HLN := Lib.hid HS9.out.len
            clear hq hP11 hk11 hk11' HPT HS9
            go_wp2_with (at_builtin; go_must (first
              | (refine wpList_appK _ rfl (.tmp 88) (.tmp 89) 22 rfl Try.underlying22 HI.out HZ.out rfl hz1 (by omega) HO11.out rfl HK11.out rfl (by have := HLN.out; have := HNN.out; simp <;> omega) (by simp) ?_
                 intro v12 w12 ho12 hb12 hg12
                 rw [List.nil_append] at ho12
                 obtain ⟨A12, n12, c12, rfl, hx12⟩ := ho12.shape
                 have HB12 := Lib.hid (HB11.out.trans hb12)
                 have HO12 := Lib.hid (ho12.alloc (.cells #[.int .i64 (i : Int)] 3))
                 have HY12 : Hid (Kws int1 (w12.alloc (.cells #[.int .i64 (i : Int)] 3)) (w12.heap.size + 1) (some ⟨w12.heap.size, 0, none⟩) 1 1 [(i : Int)]) := Lib.hid (Kws.new (E := int1) w12 [(i : Int)] _ _ 1 rfl rfl (by unfold maxLen; omega))
                 have hz12 := HB12.out.size
                 clear ho12 hb12 hg12 hx12)
              | (refine wpList_appK _ rfl (.tmp 90) (.tmp 92) 22 rfl Try.underlying22 HI.out HZ.out rfl hz1 (by omega) HO12.out rfl HY12.out rfl (by have := HLN.out; omega) (by simp; omega) ?_
                 intro v14 w14 ho14 hb14 hg14
                 obtain ⟨A14, n14, c14, rfl, hx14⟩ := ho14.shape
                 have HS14 := Lib.hid (Pp.model (N := 20 + (i + 1)) HQ.out.1 HQ.out.2.2.1 HQ.out.2.2.2 ((HB12.out.alloc hz12 _).trans hb14) ho14 (Nat.le_refl _) (by rw [List.length_append]; have := HLN.out; simp; omega))
                 clear ho14 hb14 hg14 hx14)))
            go_roundw
            case rel => exact ⟨i + 1, _, _, _, by omega, by go_num, rfl, Lib.hid ⟨_, _, HS14.out⟩⟩
            case measure => simp [intOf]; omega
      · obtain rfl : i = len1 := by omega
        have hii : ¬ (i : Int) < (i : Int) := by omega
        clear hS hh hks hnl
        go_wp2_with fail
        refine (awake11_any wr).mono ?_
        rintro e w5 ⟨rfl, hb5⟩
        have HS7 := Lib.hid (HS.out.go hb5)
        have HLI := Lib.hid (listed_any c 2 p l w5 HS7.out.pol (by omega))
        clear hb5 HS
        go_wp2_with fail
        refine HLI.out.mono ?_
        rintro e w8 ⟨v8, rfl, ho8, hb8⟩
        obtain ⟨A8, n8, c8, rfl, hx8⟩ := ho8.shape
        have HS8 := Lib.hid (HS7.out.go hb8)
        have HSM := Lib.hid (sameI_any A8 A n8 n c8 cm l l w8 hx8 HS8.out.kws)
        rw [show decide (l = l) = true from decide_eq_true rfl] at HSM
        clear ho8 hb8 hx8 HLI HS7
        go_wp2_with fail
        refine HSM.out.mono ?_
        rintro e w9 ⟨rfl, hb9⟩
        go_wp2
        go_ret
        exact ⟨rfl, Below.then HS8.out.bel hb9 (Nat.le_refl _)⟩
end Go.Proofs.Ytnciidegddhhpaa
