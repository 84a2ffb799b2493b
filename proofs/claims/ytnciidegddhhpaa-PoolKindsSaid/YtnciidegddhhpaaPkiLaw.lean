/-
  The law PoolKinds as a walk: called with any arguments of its types it returns true. No conditions.
-/
import Derived.Test.YtnciidegddhhpaaPaw
import Derived.Test.YtnciidegddhhpaaPou
import Derived.Test.YtnciidegddhhpaaPpr
import Derived.Test.YtnciidegddhhpaaOst
namespace Go.Proofs.Ytnciidegddhhpaa
open Go.ChangeShapes Go.WideShapes Go.RowKit
set_option linter.unusedVariables false
set_option linter.unusedSimpArgs false
set_option maxHeartbeats 8000000
set_option maxRecDepth 100000

/-- The law's state: three pools, of strings, pairs and numbers. -/
structure Pk (w0 : World) (p q r : Nat) (w : World) (c : Nat → Nat) (lp : List ByteArray) (lq : List (Int × Int)) (l : List Int) : Prop where
  ps : PolS w c 2 p lp
  pp : PolP w c 3 q lq
  pi : PolI w c 4 r l
  low : ∀ g, g < w0.heap.size → c g = 0
  bel : Below w0.heap.size w0 w
section
variable {w0 w w' : World} {p q r k : Nat} {c c' : Nat → Nat} {lp lp' : List ByteArray} {lq lq' : List (Int × Int)} {l l' : List Int}
theorem Pk.low' (h : Pk w0 p q r w c lp lq l) (hc : ∀ g, g < w.heap.size → c' g = c g) : ∀ g, g < w0.heap.size → c' g = 0 := fun g hg => (hc g (Nat.lt_of_lt_of_le hg h.bel.size)).trans (h.low g hg)
theorem Pk.bel' (h : Pk w0 p q r w c lp lq l) (hk : Kept c k w w') (hk0 : k ≠ 0) : Below w0.heap.size w0 w' := h.bel.trans (hk.below (fun g hg => by rw [h.low g hg]; omega) h.bel.size)
theorem Pk.go (h : Pk w0 p q r w c lp lq l) (hb : Below w.heap.size w w') (hc : ∀ g, g < w.heap.size → c' g = c g) : Pk w0 p q r w' c' lp lq l :=
  ⟨h.ps.kept (j := 1) (Kept.ofBelow hb) (by omega) hc, h.pp.kept (j := 1) (Kept.ofBelow hb) (by omega) hc, h.pi.kept (j := 1) (Kept.ofBelow hb) (by omega) hc, h.low' hc, Below.then h.bel hb (Nat.le_refl _)⟩
theorem Pk.setS (h : Pk w0 p q r w c lp lq l) (hP : PolS w' c' 2 p lp') (hk : Kept c 2 w w') (hc : ∀ g, g < w.heap.size → c' g = c g) : Pk w0 p q r w' c' lp' lq l :=
  ⟨hP, h.pp.kept hk (by omega) hc, h.pi.kept hk (by omega) hc, h.low' hc, h.bel' hk (by omega)⟩
theorem Pk.setP (h : Pk w0 p q r w c lp lq l) (hP : PolP w' c' 3 q lq') (hk : Kept c 3 w w') (hc : ∀ g, g < w.heap.size → c' g = c g) : Pk w0 p q r w' c' lp lq' l :=
  ⟨h.ps.kept hk (by omega) hc, hP, h.pi.kept hk (by omega) hc, h.low' hc, h.bel' hk (by omega)⟩
theorem Pk.setI (h : Pk w0 p q r w c lp lq l) (hP : PolI w' c' 4 r l') (hk : Kept c 4 w w') (hc : ∀ g, g < w.heap.size → c' g = c g) : Pk w0 p q r w' c' lp lq l' :=
  ⟨h.ps.kept hk (by omega) hc, h.pp.kept hk (by omega) hc, hP, h.low' hc, h.bel' hk (by omega)⟩
end
/-- The name and the pair that belong to a number. -/
def nm (names : List ByteArray) (j : Int) : ByteArray := names.getD j.toNat ⟨#[]⟩
def pr (j : Int) : Int × Int := (j, -j)
theorem nm_rng (names : List ByteArray) : (rng names.length).map (nm names) = names := by
  refine List.ext_getElem? fun i => ?_
  rw [List.getElem?_map]
  unfold rng
  rw [List.getElem?_map]
  by_cases hi : i < names.length
  · rw [List.getElem?_range hi]
    simp [nm, hi]
  · rw [List.getElem?_eq_none (by simpa using hi), List.getElem?_eq_none (by omega)]
    rfl
theorem eq_pair (a b c d : Int) (w : World) : (Op.equalIn 10000 44 (.agg #[.int .i64 a, .int .i64 b]) (.agg #[.int .i64 c, .int .i64 d])).run Try.prog w = .ok (a == c && b == d) w := by
  have u3 := Try.underlying3
  have a3 := Try.isAgg3
  have z3 := Try.sizeOf3
  rw [show (10000 : Nat) = 9999 + 1 from rfl, Op.equalIn]
  simp only [Sem.run_bind, run_underlying Try.underlying44, Result.andThen_ok]
  simp only [Std.Legacy.Range.forIn_eq_forIn_range', Std.Legacy.Range.size, Nat.sub_zero, Nat.add_sub_cancel, Nat.div_one, List.range'_succ, List.range'_zero, List.forIn_cons, List.forIn_nil]
  go_simp
  by_cases h1 : a = c <;> by_cases h2 : b = d <;> simp [h1, h2]
theorem same_pair (a b : Int) (w : World) : (Op.equalIn 10000 44 (.agg #[.int .i64 a, .int .i64 b]) (.agg #[.int .i64 a, .int .i64 b])).run Try.prog w = .ok true w := by
  rw [eq_pair]
  simp
theorem poolKinds_walk (a0 : Option Addr) (len0 cap0 : Nat) (names : List ByteArray) (a1 : Option Addr) (len1 cap1 : Nat) (z1 : List Int) (w : World) (w0 : IsStrs w a0 len0 cap0 names) (w1 : IsRow .u64 w a1 len1 cap1 z1) :
    Calls Try.prog 4 #[.slice a0 len0 cap0, .slice a1 len1 cap1] w fun e w' => e = .returned (.bool true) ∧ Below w.heap.size w w' := by
  obtain ⟨hrow1, hfit1⟩ := w1.row
  generalize z1.take len1 = L1 at *
  have HK0 : Hid (Kws str1 w w.heap.size a0 len0 cap0 names) := Lib.hid w0
  have hl0 : names.length = len0 := HK0.out.len
  have HROW1 := Lib.hid hrow1
  have HFIT1 := Lib.hid hfit1
  have hl1 : L1.length = len1 := by have := hrow1.len; rwa [iv_len] at this
  have hc0 := HK0.out.cap
  have hs0 := HK0.out.small
  have hc1 := hrow1.cap
  have hs1 := hrow1.small
  unfold maxLen at hs0 hs1
  clear w0 w1 hrow1 hfit1
  by_cases hbig : 16 < len0 ∨ 20 < len1
  · by_cases h20 : 16 < len0
    · have h20' : (16 : Int) < (len0 : Int) := by omega
      go_enter Try.func4, Try.ntmps4
      go_wp2_with fail
      refine (awake11_any w).mono ?_
      rintro e w4 ⟨rfl, hb4⟩
      go_wp2
      go_ret
      exact ⟨rfl, hb4⟩
    · have h20' : ¬ (16 : Int) < (len0 : Int) := by omega
      have h30' : (20 : Int) < (len1 : Int) := by omega
      go_enter Try.func4, Try.ntmps4
      go_wp2_with fail
      refine (awake11_any w).mono ?_
      rintro e w4 ⟨rfl, hb4⟩
      go_wp2
      go_ret
      exact ⟨rfl, hb4⟩
  · have h20' : ¬ (16 : Int) < (len0 : Int) := by omega
    have h30' : ¬ (20 : Int) < (len1 : Int) := by omega
    have HN := Lib.hid (newS_any a0 len0 cap0 names w HK0.out (by omega) (fun _ => 0) 2)
    go_enter Try.func4, Try.ntmps4
    go_wp2_with fail
    refine HN.out.mono ?_
    rintro e w3 ⟨p, rfl, hp, hP3, hb3⟩
    have HP3 := Lib.hid hP3
    have HB3 := Lib.hid hb3
    have HN := Lib.hid (newP_any none 0 0 [] w3 Kws.none_ (by omega) (rc (fun _ => 0) w.heap.size 2) 3)
    clear hP3 hb3
    go_wp2_with fail
    refine HN.out.mono ?_
    rintro e w4 ⟨q, rfl, hq, hP4, hb4⟩
    have HP4 := Lib.hid hP4
    have HB4 := Lib.hid hb4
    have HN := Lib.hid (newI_any none 0 0 [] w4 Kws.none_ (by omega) (rc (rc (fun _ => 0) w.heap.size 2) w3.heap.size 3) 4)
    clear hP4 hb4
    go_wp2_with fail
    refine HN.out.mono ?_
    rintro e w5 ⟨r, rfl, hr, hP5, hb5⟩
    have HS5 : Hid (Pk w p q r w5 (rc (rc (rc (fun _ => 0) w.heap.size 2) w3.heap.size 3) w4.heap.size 4) names ((rng 0).map pr) (rng 0)) := Lib.hid (by
      have z3 := HB3.out.size
      have z4 := HB4.out.size
      refine ⟨((HP3.out.kept (j := 1) (Kept.ofBelow HB4.out) (by omega) (fun _ hg => rc_old hg))).kept (j := 1) (Kept.ofBelow hb5) (by omega) (fun _ hg => rc_old hg), HP4.out.kept (j := 1) (Kept.ofBelow hb5) (by omega) (fun _ hg => rc_old hg), hP5, fun g hg => ?_, Below.then (Below.then HB3.out HB4.out (Nat.le_refl _)) hb5 (Nat.le_refl _)⟩
      rw [rc_old (by omega), rc_old (by omega), rc_old hg])
    clear hP5 hb5 HN HP3 HP4 HB3 HB4
    go_wp2
    go_loopw [31] (fun kv wr => ∃ i : Nat, i ≤ len0 ∧ kv = .int .i64 i ∧ Hid (∃ c, Pk w p q r wr c names ((rng i).map pr) (rng i))) (fun kv _ => len0 - (intOf kv).toNat)
    case atStart => exact ⟨0, by omega, rfl, Lib.hid ⟨_, HS5.out⟩⟩
    case round =>
      clear HS5
      obtain ⟨i, hi', rfl, hh⟩ := hrel
      by_cases hik : i < len0
      · have hik1 : (i : Int) < (len0 : Int) := by omega
        obtain ⟨c, hS⟩ := hh.out
        have HS := Lib.hid hS
        have HPT := Lib.hid (putP_any wr c 3 q ((rng i).map pr) (i : Int) (-(i : Int)) hS.pp (by rw [List.length_map, rng_len]; omega))
        clear hS hh
        go_wp2_with fail
        refine HPT.out.mono ?_
        rintro e w6 ⟨⟨v6, rfl⟩, hP6, hk6⟩
        have HS6 := Lib.hid (HS.out.setP hP6 hk6 (fun _ hg => rc_old hg))
        generalize rc c wr.heap.size 3 = c6 at *
        have HPT := Lib.hid (putI_any w6 c6 4 r (rng i) (i : Int) HS6.out.pi (by rw [rng_len]; omega))
        clear hP6 hk6 HS
        go_wp2_with fail
        refine HPT.out.mono ?_
        rintro e w7 ⟨⟨v7, rfl⟩, hP7, hk7⟩
        have HS7 := Lib.hid (HS6.out.setI hP7 hk7 (fun _ hg => rc_old hg))
        rw [show (rng i).map pr ++ [((i : Int), -(i : Int))] = (rng (i + 1)).map pr by rw [rng_succ, List.map_append]; rfl, ← rng_succ] at HS7
        clear hP7 hk7 HS6 HPT
        go_wp2
        go_roundw
        case rel => exact ⟨i + 1, by omega, by go_num, Lib.hid ⟨_, HS7.out⟩⟩
        case measure => simp [intOf]; omega
      · obtain rfl : i = len0 := by omega
        have hik1 : ¬ (i : Int) < (i : Int) := by omega
        go_wp2
        have HS2 : Hid (∃ c l, Pk w p q r wr c (l.map (nm names)) (l.map pr) l ∧ (∀ x ∈ l, ∃ j : Nat, x = (j : Int) ∧ j < i) ∧ l.length ≤ i) := Lib.hid (by
          obtain ⟨c, hS⟩ := hh.out
          refine ⟨c, rng i, ?_, fun x hx => rng_mem hx, by rw [rng_len]; exact Nat.le_refl _⟩
          have e := nm_rng names
          rw [hl0] at e
          rw [e]
          exact hS)
        clear hh HN
        go_loopw [9] (fun kv wr => ∃ k : Nat, k ≤ len1 ∧ kv = .int .i64 k ∧ Hid (∃ c l, Pk w p q r wr c (l.map (nm names)) (l.map pr) l ∧ (∀ x ∈ l, ∃ j : Nat, x = (j : Int) ∧ j < i) ∧ l.length ≤ i)) (fun kv _ => len1 - (intOf kv).toNat)
        case atStart => exact ⟨0, by omega, rfl, HS2⟩
        case round =>
          clear HS2
          obtain ⟨k, hk', rfl, hh⟩ := hrel
          obtain ⟨c, l, hS, hun, hli⟩ := hh.out
          have HS := Lib.hid hS
          have HUN := Lib.hid hun
          have hll : l.length ≤ 1000000 := by omega
          clear hS hun hh
          by_cases hkl : k < len1
          · have hkl1 : (k : Int) < (len1 : Int) := by omega
            obtain ⟨b, o, rfl, hbw, _⟩ := HROW1.out.int (j := k) (by omega)
            have hcellW : Hid (∀ W, Below w.heap.size w W → W.cell? ⟨b, o + k, none⟩ = some (.int .u64 (L1.getD k 0))) := Lib.hid (fun W hW => by
              obtain ⟨b', o', e', _, h⟩ := (HROW1.out.below hW).int (j := k) (by omega)
              cases e'
              exact h)
            have hd := u64_bd (HFIT1.out.at_ rfl k)
            generalize L1.getD k 0 = d at *
            have hcell := hcellW.out wr HS.out.bel
            have HTS := Lib.hid (takeS_any wr c 2 p (l.map (nm names)) d HS.out.ps (by rw [List.length_map]; omega) hd)
            unfold TkS at HTS
            rw [tkL_map (z := (0 : Int)) (nm names)] at HTS
            by_cases hl : l = []
            · subst hl
              rw [(tk_nil (z := (0 : Int)) (d := d)).2, show tkX (⟨#[]⟩ : ByteArray) (List.map (nm names) []) d = ⟨#[]⟩ from rfl, show (!(List.map (nm names) []).isEmpty) = false from rfl] at HTS
              go_wp2_with fail
              refine HTS.out.mono ?_
              rintro e w6 ⟨rfl, hP6, hk6, _⟩
              have HS6 := Lib.hid (HS.out.setS hP6 hk6 (fun _ _ => rfl))
              have hcell6 := hcellW.out w6 HS6.out.bel
              have HTP := Lib.hid (takeP_any w6 c 3 q (([] : List Int).map pr) d HS6.out.pp (by simp) hd)
              unfold TkP at HTP
              rw [tkL_map (z := (0 : Int)) pr, (tk_nil (z := (0 : Int)) (d := d)).2, show tkX ((0, 0) : Int × Int) (List.map pr []) d = (0, 0) from rfl, show (!(List.map pr []).isEmpty) = false from rfl] at HTP
              clear hP6 hk6 HTS HS hcell
              go_wp2_with fail
              refine HTP.out.mono ?_
              rintro e w7 ⟨rfl, hP7, hk7, _⟩
              have HS7 := Lib.hid (HS6.out.setP hP7 hk7 (fun _ _ => rfl))
              have hb8 : Below w7.heap.size w7 (w7.alloc (.cells #[.int .i64 0, .int .i64 0] 44)) := (Below.refl _ _).alloc (Nat.le_refl _) _
              have HS8 := Lib.hid (HS7.out.go (c' := rc c w7.heap.size 0) hb8 (fun _ hg => rc_old hg))
              have HBX := Lib.hid (Bp.new (w := w7) (x := 0) (y := 0))
              have hcell8 := hcellW.out _ HS8.out.bel
              have HTI := Lib.hid (takeI_any _ (rc c w7.heap.size 0) 4 r [] d HS8.out.pi (by simp) hd)
              unfold TkI at HTI
              rw [(tk_nil (z := (0 : Int)) (d := d)).1, (tk_nil (z := (0 : Int)) (d := d)).2, show (!([] : List Int).isEmpty) = false from rfl] at HTI
              clear hP7 hk7 HTP HS6 HS7 hcell6 hb8
              go_wp2_with fail
              have hcb : rc c w7.heap.size 0 w7.heap.size = 0 := rc_new (Nat.le_refl _)
              generalize w7.alloc (.cells #[.int .i64 0, .int .i64 0] 44) = w8 at *
              generalize rc c w7.heap.size 0 = c8 at *
              generalize w7.heap.size = bx at *
              refine HTI.out.mono ?_
              rintro e w9 ⟨rfl, hP9, hk9, _⟩
              have HS9 := Lib.hid (HS8.out.setI hP9 hk9 (fun _ _ => rfl))
              have HBX9 : Hid (Bp w9 bx 0 0) := Lib.hid ((hk9.block bx HBX.out.lt (by rw [hcb]; omega)).trans HBX.out)
              have e0 := HBX9.out.cell0
              have e1 := HBX9.out.cell1
              have heq := same_pair 0 0
              clear hP9 hk9 HTI HS8 HBX hcell8
              go_wp2
              go_roundw
              case rel => exact ⟨k + 1, by omega, by go_num, Lib.hid ⟨_, [], HS9.out, fun x hx => (by cases hx), by simp⟩⟩
              case measure => simp [intOf]; omega
            · have hne : (!l.isEmpty) = true := by
                cases l with
                | nil => exact absurd rfl hl
                | cons a t => rfl
              have hne' : ∀ {β : Type} (f : Int → β), (!(l.map f).isEmpty) = true := fun f => by
                cases l with
                | nil => exact absurd rfl hl
                | cons a t => rfl
              obtain ⟨j, hxj, hji⟩ := HUN.out _ (tk_mem (z := 0) (d := d) hl)
              have HUN' : Hid (∀ x ∈ tkL 0 l d, ∃ j : Nat, x = (j : Int) ∧ j < i) := Lib.hid (fun x hx => HUN.out x (tk_sub hx))
              obtain ⟨b0, o0, y, hy, rfl, hb0, _⟩ := HK0.out.at_ (i := j) (by omega)
              have hnmj : nm names (j : Int) = y := by
                unfold nm
                rw [List.getD_eq_getElem?_getD, Int.toNat_natCast, hy]
                rfl
              have hnameW : Hid (∀ W, Below w.heap.size w W → W.cell? ⟨b0, o0 + j, none⟩ = some (.string y)) := Lib.hid (fun W hW => by
                obtain ⟨b', o', y', h1, h2, _, h4⟩ := (HK0.out.below hW).at_ (i := j) (by omega)
                cases h2
                rw [hy] at h1
                obtain rfl := Option.some.inj h1
                have h5 := h4 0 _ rfl
                rwa [show str1.k = 1 from rfl, Nat.mul_one, Nat.add_zero] at h5)
              rw [tkX_map (nm names) _ hl (z := 0), hxj, hnmj, hne'] at HTS
              go_wp2_with fail
              refine HTS.out.mono ?_
              rintro e w6 ⟨rfl, hP6, hk6, _⟩
              have HS6 := Lib.hid (HS.out.setS hP6 hk6 (fun _ _ => rfl))
              have hcell6 := hcellW.out w6 HS6.out.bel
              have HTP := Lib.hid (takeP_any w6 c 3 q (l.map pr) d HS6.out.pp (by rw [List.length_map]; omega) hd)
              unfold TkP at HTP
              rw [tkL_map (z := (0 : Int)) pr, tkX_map pr _ hl (z := 0), hxj, hne'] at HTP
              simp only [pr] at HTP
              clear hP6 hk6 HTS HS hcell
              go_wp2_with fail
              refine HTP.out.mono ?_
              rintro e w7 ⟨rfl, hP7, hk7, _⟩
              have HS7 := Lib.hid (HS6.out.setP hP7 hk7 (fun _ _ => rfl))
              have hb8 : Below w7.heap.size w7 (w7.alloc (.cells #[.int .i64 (j : Int), .int .i64 (-(j : Int))] 44)) := (Below.refl _ _).alloc (Nat.le_refl _) _
              have HS8 := Lib.hid (HS7.out.go (c' := rc c w7.heap.size 0) hb8 (fun _ hg => rc_old hg))
              have HBX := Lib.hid (Bp.new (w := w7) (x := (j : Int)) (y := -(j : Int)))
              have hcell8 := hcellW.out _ HS8.out.bel
              have HTI := Lib.hid (takeI_any _ (rc c w7.heap.size 0) 4 r l d HS8.out.pi (by omega) hd)
              unfold TkI at HTI
              rw [hxj, hne] at HTI
              clear hP7 hk7 HTP HS6 HS7 hcell6 hb8
              go_wp2_with fail
              have hcb : rc c w7.heap.size 0 w7.heap.size = 0 := rc_new (Nat.le_refl _)
              generalize w7.alloc (.cells #[.int .i64 (j : Int), .int .i64 (-(j : Int))] 44) = w8 at *
              generalize rc c w7.heap.size 0 = c8 at *
              generalize w7.heap.size = bx at *
              refine HTI.out.mono ?_
              rintro e w9 ⟨rfl, hP9, hk9, _⟩
              have HS9 := Lib.hid (HS8.out.setI hP9 hk9 (fun _ _ => rfl))
              have HBX9 : Hid (Bp w9 bx (j : Int) (-(j : Int))) := Lib.hid ((hk9.block bx HBX.out.lt (by rw [hcb]; omega)).trans HBX.out)
              have hnm9 := hnameW.out w9 HS9.out.bel
              have e0 := HBX9.out.cell0
              have e1 := HBX9.out.cell1
              have hji1 : (j : Int) < (i : Int) := by omega
              have heq := same_pair (j : Int) (-(j : Int))
              have hji2 : ¬ (j : Int) ≥ (i : Int) := by omega
              clear hP9 hk9 HTI HS8 HBX hcell8
              go_wp2
              go_roundw
              case rel => exact ⟨k + 1, by omega, by go_num, Lib.hid ⟨_, _, HS9.out, HUN'.out, by rw [tkL_len]; omega⟩⟩
              case measure => simp [intOf]; omega
          · obtain rfl : k = len1 := by omega
            have hkk : ¬ (k : Int) < (k : Int) := by omega
            go_wp2_with fail
            refine (awake11_any wr).mono ?_
            rintro e w6 ⟨rfl, hb6⟩
            have HS6 := Lib.hid (HS.out.go hb6 (fun _ _ => rfl))
            have HL1 := Lib.hid (lenS_any w6 c 2 p _ HS6.out.ps)
            have HL2 := Lib.hid (lenP_any w6 c 3 q _ HS6.out.pp)
            have HL3 := Lib.hid (lenI_any w6 c 4 r _ HS6.out.pi)
            rw [List.length_map] at HL1 HL2
            generalize l.length = n at *
            clear hb6 HS
            go_wp2_with fail
            refine HL1.out.mono ?_
            rintro e w7 ⟨rfl, rfl⟩
            go_wp2_with fail
            refine HL3.out.mono ?_
            rintro e w7 ⟨rfl, rfl⟩
            go_wp2_with fail
            refine HL2.out.mono ?_
            rintro e w7 ⟨rfl, rfl⟩
            go_wp2_with fail
            refine HL3.out.mono ?_
            rintro e w7 ⟨rfl, rfl⟩
            go_wp2
            go_ret
            exact ⟨rfl, HS6.out.bel⟩
end Go.Proofs.Ytnciidegddhhpaa
