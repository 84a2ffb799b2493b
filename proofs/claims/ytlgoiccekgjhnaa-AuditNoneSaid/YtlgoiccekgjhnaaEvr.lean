/-
  Contract of package event's Decode: it says what the plain functions of the text Evp say. Conditions: the bytes are bytes, at most a million.
-/
import Derived.Test.YtlgoiccekgjhnaaEvd
import Derived.Test.YtlgoiccekgjhnaaHnd
namespace Go.Proofs.Ytlgoiccekgjhnaa
open Go.ChangeShapes Go.WideShapes Go.RowKit
set_option linter.unusedVariables false
set_option linter.unusedSimpArgs false
set_option maxHeartbeats 4000000
set_option maxRecDepth 100000

/-- A box with five numbers. -/
def IvB (w : World) (b : Nat) (l : List Int) : Prop := w.heap[b]? = some (.cells (iv .u64 l).toArray 108 (0, 0))
section
variable {w w' : World} {t : Nat} {l : List Int}
theorem IvB.lt (x : IvB w t l) : t < w.heap.size := (Array.getElem?_eq_some_iff.1 x).1
theorem IvB.go (x : IvB w t l) (hb : Below w.heap.size w w') : IvB w' t l := (hb.block t x.lt).trans x
theorem IvB.cell (x : IvB w t l) {k : Nat} (hk : k < l.length) : w.cell? ⟨t, k, none⟩ = some (.int .u64 (l.getD k 0)) := by
  rw [cell_of_row w t k _ _ (0, 0) x]
  simp [iv, List.getD, hk]
theorem IvB.fr (x : IvB w t l) (k : Nat) : w.frozen? ⟨t, k, none⟩ = false := frozen_of_row w t k _ _ x
theorem IvB.set (x : IvB w t l) (k : Nat) (y : Int) : IvB (w.setCell ⟨t, k, none⟩ (.int .u64 y)) t (l.set k y) := by
  unfold IvB
  rw [heap_setCell_same w t k _ _ _ x]
  simp [iv, List.map_set]
end
/-- The numbers read so far; zeros behind them. -/
def ivs (b : List Int) (j : Nat) : List Int := [if 0 < j then rX b 0 else 0, if 1 < j then rX b 1 else 0, if 2 < j then rX b 2 else 0, if 3 < j then rX b 3 else 0, if 4 < j then rX b 4 else 0]
theorem ivs_len (b : List Int) (j : Nat) : (ivs b j).length = 5 := rfl
theorem ivs_set (b : List Int) {j : Nat} (hj : j < 5) : (ivs b j).set j (rX b j) = ivs b (j + 1) := by
  obtain rfl | rfl | rfl | rfl | rfl : j = 0 ∨ j = 1 ∨ j = 2 ∨ j = 3 ∨ j = 4 := by omega
  all_goals simp [ivs]
theorem ivs_all (b : List Int) : ivs b 5 = [rX b 0, rX b 1, rX b 2, rX b 3, rX b 4] := by simp [ivs]
/-- A cut from the left. -/
theorem cut_lo (A : Option Addr) (n c k : Nat) (l : List Int) (hk : k ≤ n) (hc : n ≤ c) :
    ∃ A', (∀ wx : World, (Instr.slice 52 (.slice A n c) (some (.int .i64 (k : Int))) none none).run Try.prog wx = .ok (.slice A' (n - k) (c - k)) wx) ∧ ∀ (w : World) (B : Nat), Bts w B A n c l → Bts w B A' (n - k) (c - k) (l.drop k) := by
  refine ⟨if c = k then A else A.map (·.add k), fun wx => ?_, fun w B h => h.drop hk⟩
  rw [run_slice_l (P := Try.prog) wx 52 A n c Try.underlying52 .i64 (k : Int) (by omega) (by omega)]
  simp [sliced, go_sem]
/-- An event with zeros all over. -/
theorem EvB.zero {w : World} : EvB (w.alloc (.cells #[.int .i64 0, .int .i64 0, .int .u64 0, .int .u64 0, .int .i64 0] 27)) w.heap.size 0 0 0 0 0 := EvB.new

theorem decode_any (A : Option Addr) (n c : Nat) (b : List Int) (w : World) (h : Bts w w.heap.size A n c b) (hs : Small b) (hn : n ≤ 1000000) :
    Calls Try.prog 55 #[.slice A n c] w (EvE w (dcE b) (rX b 0) (rX b 1) (rX b 2) (rX b 3) (rX b 4)) := by
  have hb0 : Below w.heap.size w (((w.alloc (.cells #[.int .i64 0, .int .i64 0, .int .u64 0, .int .u64 0, .int .i64 0] 27)).alloc (.cells #[.int .u64 0, .int .u64 0, .int .u64 0, .int .u64 0, .int .u64 0] 108))) := ((Below.refl _ _).alloc (Nat.le_refl _) _).alloc (by simp) _
  have HB1 := Lib.hid hb0
  have hs0 : (w.alloc (.cells #[.int .i64 0, .int .i64 0, .int .u64 0, .int .u64 0, .int .i64 0] 27)).heap.size = w.heap.size + 1 := by simp
  have HR1 : Hid (EvB (((w.alloc (.cells #[.int .i64 0, .int .i64 0, .int .u64 0, .int .u64 0, .int .i64 0] 27)).alloc (.cells #[.int .u64 0, .int .u64 0, .int .u64 0, .int .u64 0, .int .u64 0] 108))) w.heap.size 0 0 0 0 0) := Lib.hid (EvB.zero.go ((Below.refl _ _).alloc (Nat.le_refl _) _))
  have hi1 : IvB (((w.alloc (.cells #[.int .i64 0, .int .i64 0, .int .u64 0, .int .u64 0, .int .i64 0] 27)).alloc (.cells #[.int .u64 0, .int .u64 0, .int .u64 0, .int .u64 0, .int .u64 0] 108))) (w.heap.size + 1) (ivs b 0) := by
    have := heap_alloc_new (w.alloc (.cells #[.int .i64 0, .int .i64 0, .int .u64 0, .int .u64 0, .int .i64 0] 27)) (.cells #[.int .u64 0, .int .u64 0, .int .u64 0, .int .u64 0, .int .u64 0] 108)
    rw [hs0] at this
    exact this
  have HI1 := Lib.hid hi1
  have HSL : Hid (Bts (((w.alloc (.cells #[.int .i64 0, .int .i64 0, .int .u64 0, .int .u64 0, .int .i64 0] 27)).alloc (.cells #[.int .u64 0, .int .u64 0, .int .u64 0, .int .u64 0, .int .u64 0] 108))) w.heap.size A n c (b.drop (rA b 0))) := Lib.hid (h.below hb0)
  have HS := Lib.hid hs
  have HBL := Lib.hid h.len
  have HEE : Hid (∀ (W : World), Below w.heap.size w W → EvE w (dcE b) (rX b 0) (rX b 1) (rX b 2) (rX b 3) (rX b 4) (.returned (.tuple #[.agg #[.int .i64 (okV (dcE b) (rX b 0)), .int .i64 (okV (dcE b) (rX b 1)), .int .u64 (okV (dcE b) (rX b 2)), .int .u64 (okV (dcE b) (rX b 3)), .int .i64 (okV (dcE b) (rX b 4))], .int .i64 (dcE b)])) W) := Lib.hid (fun W h => ⟨rfl, h⟩)
  have HDC : Hid (dcE b = if fE b 5 = 0 then (if rA b 5 < b.length then 3 else chkV (rX b 0) (rX b 1) (rX b 4)) else fE b 5) := Lib.hid rfl
  have HXB := Lib.hid (fun k => rX_bd hs k)
  have HO : Hid (∀ x, okV 0 x = x) := Lib.hid (fun x => rfl)
  have HN : Hid (∀ c x, c ≠ 0 → okV c x = 0) := Lib.hid (fun c x h => if_neg h)
  generalize dcE b = dk at *
  generalize hw1 : ((w.alloc (.cells #[.int .i64 0, .int .i64 0, .int .u64 0, .int .u64 0, .int .i64 0] 27)).alloc (.cells #[.int .u64 0, .int .u64 0, .int .u64 0, .int .u64 0, .int .u64 0] 108)) = w1 at *
  generalize htb : w.heap.size = tb at *
  clear h hs hb0 hi1 hs0
  go_enter Try.func55, Try.ntmps55
  go_wp2
  have HTB : Hid (tb ≤ w.heap.size) := Lib.hid (by omega)
  clear hw1 htb
  go_loopw [0, 9] (fun bv iv_ wq => ∃ (j : Nat), j ≤ 5 ∧ iv_ = .int .i64 j ∧ ∃ A n c, bv = .slice A n c ∧ n ≤ c ∧ c ≤ 9223372036854775807 ∧ n ≤ 1000000 ∧ Hid (Bts wq tb A n c (b.drop (rA b j)) ∧ IvB wq (tb + 1) (ivs b j) ∧ EvB wq tb 0 0 0 0 0 ∧ fE b j = 0 ∧ Below tb w wq)) (fun _ iv_ _ => 5 - (intOf iv_).toNat)
  case atStart => exact ⟨0, by omega, rfl, A, n, c, rfl, HSL.out.cap, by have := HSL.out.small; unfold maxLen at this; omega, hn, Lib.hid ⟨HSL.out, HI1.out, HR1.out, rfl, HB1.out⟩⟩
  case round =>
    obtain ⟨j, hj, rfl, A, n, c, rfl, hcap, hsm, hn1, hh⟩ := hrel
    clear HB1 HR1 HI1 HSL
    have hi := hh.out.2.1
    have hr := hh.out.2.2.1
    have HBW := Lib.hid hh.out.2.2.2.2
    have HFE := Lib.hid hh.out.2.2.2.1
    have HBT := Lib.hid hh.out.1
    obtain ⟨r0, r1, r2, r3, r4⟩ := hr.cells
    have q0 := hr.fr 0
    have q1 := hr.fr 1
    have q2 := hr.fr 2
    have q3 := hr.fr 3
    have q4 := hr.fr 4
    have hrl := hr.lt
    have hil := hi.lt
    have HI := Lib.hid hi
    have HR := Lib.hid hr
    clear hh hi hr
    by_cases hj5 : j < 5
    · have hj5' : (j : Int) < 5 := by omega
      obtain ⟨z0, z1, z2, z3, z4⟩ := rd_bd (HS.out.drop (rA b j))
      have HU := Lib.hid (uint_any A n c _ wr HBT.out (HS.out.drop (rA b j)) hn1)
      have HLN := Lib.hid HBT.out.len
      rw [List.length_drop] at z3
      have HA : Hid (rA b (j + 1) = rA b j + (rdK (b.drop (rA b j))).toNat) := Lib.hid rfl
      have HX : Hid (rX b j = rdX (b.drop (rA b j))) := Lib.hid rfl
      have HER : Hid (rE b j = rdE (b.drop (rA b j))) := Lib.hid rfl
      have z5 : rdK (b.drop (rA b j)) ≤ n := by have := HLN.out; rw [List.length_drop] at this; omega
      unfold GotU at HU
      generalize rdX (b.drop (rA b j)) = x at *
      generalize rdK (b.drop (rA b j)) = kk at *
      generalize rdE (b.drop (rA b j)) = er at *
      obtain ⟨kz, rfl⟩ : ∃ kz : Nat, kk = kz := ⟨kk.toNat, by omega⟩
      go_wp2_with fail
      refine HU.out.mono ?_
      rintro e w2 ⟨rfl, hww⟩
      subst hww
      clear HU
      by_cases her : er = 0
      · subst her
        obtain ⟨A2, hsl, hcut⟩ := cut_lo A n c kz (b.drop (rA b j)) (by omega) hcap
        have c6 := HI.out.cell (k := j) (by rw [ivs_len]; exact hj5)
        have f6 := HI.out.fr j
        have d6 : wr.drew.cell? ⟨tb + 1, j, none⟩ = some (.int .u64 ((ivs b j).getD j 0)) := c6
        have g6 : wr.drew.frozen? ⟨tb + 1, j, none⟩ = false := f6
        have HC := Lib.hid hcut
        have hkz : (kz : Int) ≤ n := z5
        clear c6 f6 hcut
        go_wp2
        refine wp_region_hand 8 (fun _ => True) (by kernel_rfl) (by kernel_rfl) ?_
        rw [show Array.replicate 8 false = #[false, false, false, false, false, false, false, false] from rfl]
        have hHeld := trivial
        refine held_take (i := 0) (d := 22) (v := .int .i64 (j : Int)) rfl rfl (by kernel_rfl) (by kernel_rfl) (by kernel_rfl) (fun _ _ _ h => h) (by rfl) (fun W _ => run_move_is (.tmp 5) rfl rfl W) hHeld ?_
        simp only [Act.put, List.setIfInBounds_toArray, List.set_cons_zero, List.set_cons_succ]
        refine held_take (i := 1) (d := 23) (v := .int .u64 x) rfl rfl (by kernel_rfl) (by kernel_rfl) (by kernel_rfl) (fun _ _ _ h => h) (by rfl) (fun W _ => run_move_is (.tmp 6) rfl rfl W) hHeld ?_
        simp only [Act.put, List.setIfInBounds_toArray, List.set_cons_zero, List.set_cons_succ]
        refine held_take (i := 2) (d := 24) (v := .slice A n c) rfl rfl (by kernel_rfl) (by kernel_rfl) (by kernel_rfl) (fun _ _ _ h => h) (by rfl) (fun W _ => run_move_is (.tmp 0) rfl rfl W) hHeld ?_
        simp only [Act.put, List.setIfInBounds_toArray, List.set_cons_zero, List.set_cons_succ]
        refine held_take (i := 3) (d := 25) (v := .int .i64 (kz : Int)) rfl rfl (by kernel_rfl) (by kernel_rfl) (by kernel_rfl) (fun _ _ _ h => h) (by rfl) (fun W _ => run_move_is (.tmp 7) rfl rfl W) hHeld ?_
        simp only [Act.put, List.setIfInBounds_toArray, List.set_cons_zero, List.set_cons_succ]
        refine held_take (i := 4) (d := 26) (v := .slice A2 (n - kz) (c - kz)) rfl rfl (by kernel_rfl) (by kernel_rfl) (by kernel_rfl) (fun _ _ _ h => h) (by rfl) (fun W _ => by go_simp) hHeld ?_
        simp only [Act.put, List.setIfInBounds_toArray, List.set_cons_zero, List.set_cons_succ]
        refine held_take (i := 5) (d := 27) (v := .pointer (some ⟨tb + 1, j, none⟩)) rfl rfl (by kernel_rfl) (by kernel_rfl) (by kernel_rfl) (fun _ _ _ h => h) (by rfl) (fun W _ => by go_simp) hHeld ?_
        simp only [Act.put, List.setIfInBounds_toArray, List.set_cons_zero, List.set_cons_succ]
        refine held_one (i := 6) (by kernel_rfl) ?_
        refine held_skip (w' := wr.drew.setCell ⟨tb + 1, j, none⟩ (.int .u64 x)) rfl rfl (by rfl) (by go_simp) ⟨trivial, ?_⟩
        have hHeld := trivial
        refine held_take (i := 7) (d := 0) (v := .slice A2 (n - kz) (c - kz)) rfl rfl (by kernel_rfl) (by kernel_rfl) (by kernel_rfl) (fun _ _ _ h => h) (by rfl) (fun W _ => by go_simp) hHeld ?_
        simp only [Act.put, List.setIfInBounds_toArray, List.set_cons_zero, List.set_cons_succ]
        refine wpAnyH_done (by kernel_rfl) ?_ _
        clear hHeld
        have hbq : Below (tb + 1) wr (wr.drew.setCell ⟨tb + 1, j, none⟩ (.int .u64 x)) := (below_drewN (Below.refl _ wr) 1).setCell (p := ⟨tb + 1, j, none⟩) (Nat.le_refl _) _
        have HF : Hid (Bts (wr.drew.setCell ⟨tb + 1, j, none⟩ (.int .u64 x)) tb A2 (n - kz) (c - kz) (b.drop (rA b (j + 1))) ∧ IvB (wr.drew.setCell ⟨tb + 1, j, none⟩ (.int .u64 x)) (tb + 1) (ivs b (j + 1)) ∧ EvB (wr.drew.setCell ⟨tb + 1, j, none⟩ (.int .u64 x)) tb 0 0 0 0 0 ∧ fE b (j + 1) = 0 ∧ Below tb w (wr.drew.setCell ⟨tb + 1, j, none⟩ (.int .u64 x))) := Lib.hid (by
          refine ⟨?_, ?_, ?_, ?_, ?_⟩
          · have := (HC.out wr tb HBT.out).below (hbq.mono (by omega))
            rw [List.drop_drop] at this
            rw [HA.out]
            exact this
          · rw [← ivs_set b hj5, HX.out]
            exact IvB.set (w := wr.drew) HI.out j x
          · exact (hbq.block tb (by omega)).trans HR.out
          · rw [fE_next HFE.out, HER.out]
          · exact HBW.out.trans (hbq.mono (by omega)))
        generalize wr.drew.setCell ⟨tb + 1, j, none⟩ (.int .u64 x) = w4 at *
        clear hbq d6 g6 hsl HC HA HX HER HLN HBT HI HR HBW HFE r0 r1 r2 r3 r4 q0 q1 q2 q3 q4
        go_wp2
        go_roundw
        case rel => exact ⟨j + 1, by omega, by go_num, A2, n - kz, c - kz, rfl, by omega, by omega, by omega, HF⟩
        case measure => simp [intOf]; omega
      · have hq := HR.out.set5 0 0 0 0 0
        have hbq := Below.sets5 HBW.out (Nat.le_refl tb) 0 0 0 0 0
        obtain ⟨k0, k1, k2, k3, k4⟩ := hq.cells
        obtain rfl : dk = er := by
          have h1 : fE b (j + 1) = er := by rw [fE_next HFE.out, HER.out]
          have h2 := fE_mono (b := b) (j := j + 1) (k := 5) (by rw [h1]; exact her) (by omega)
          rw [HDC.out, h2, h1, if_neg her]
        have HE1 := Lib.hid (HEE.out _ hbq)
        rw [HN.out dk _ her, HN.out dk _ her, HN.out dk _ her, HN.out dk _ her, HN.out dk _ her] at HE1
        have herb : (dk != 0) = true := by simpa using her
        clear HEE HDC HXB HO HN hq hbq HA HX HER HLN HBT HI HR HBW HFE
        go_wp2
        exact bodyPost_ret (v := .tuple #[.agg #[.int .i64 0, .int .i64 0, .int .u64 0, .int .u64 0, .int .i64 0], .int .i64 dk]) (by simp [results, Try.results55, go_sem, k0, k1, k2, k3, k4]) rfl HE1.out
    · obtain rfl : j = 5 := by omega
      have hlen := HBT.out.len
      rw [List.length_drop] at hlen
      have hra := rA_le HS.out 5
      have hi := HI.out
      rw [ivs_all] at hi
      have i0 := hi.cell (k := 0) (by simp)
      have i1 := hi.cell (k := 1) (by simp)
      have i2 := hi.cell (k := 2) (by simp)
      have i3 := hi.cell (k := 3) (by simp)
      have i4 := hi.cell (k := 4) (by simp)
      simp only [List.getD, List.getElem?_cons_zero, List.getElem?_cons_succ, Option.getD_some] at i0 i1 i2 i3 i4
      have HFN := Lib.hid (fromNumbers_any (rX b 0) (rX b 1) (rX b 2) (rX b 3) (rX b 4) wr (HXB.out 0) (HXB.out 1) (HXB.out 2) (HXB.out 3) (HXB.out 4))
      have HD1 : Hid (0 < n → dk = 3) := Lib.hid (fun h => by rw [HDC.out, if_pos HFE.out, if_pos (by omega)])
      have HD2 : Hid (n = 0 → dk = chkV (rX b 0) (rX b 1) (rX b 4)) := Lib.hid (fun h => by rw [HDC.out, if_pos HFE.out, if_neg (by omega)])
      unfold EvE at HFN
      generalize rX b 0 = y0 at *
      generalize rX b 1 = y1 at *
      generalize rX b 2 = y2 at *
      generalize rX b 3 = y3 at *
      generalize rX b 4 = y4 at *
      clear hi HXB HDC HFE HI HBT hlen hra HS
      by_cases hn0 : n = 0
      · clear hn1 hsm hcap
        subst hn0
        obtain rfl := HD2.out rfl
        clear HD1 HD2
        go_wp2_with fail
        refine HFN.out.mono ?_
        rintro e w3 ⟨rfl, hb3⟩
        have hr3 := HR.out.go hb3
        have hbw := Below.then HBW.out hb3 HTB.out
        obtain ⟨c0, c1, c2, c3, c4⟩ := hr3.cells
        have f0 := hr3.fr 0
        have f1 := hr3.fr 1
        have f2 := hr3.fr 2
        have f3 := hr3.fr 3
        have f4 := hr3.fr 4
        have hlr := hr3.lt
        generalize chkV y0 y1 y4 = ck at *
        generalize okV ck y0 = v0 at *
        generalize okV ck y1 = v1 at *
        generalize okV ck y2 = v2 at *
        generalize okV ck y3 = v3 at *
        generalize okV ck y4 = v4 at *
        have hq := hr3.set5 v0 v1 v2 v3 v4
        have HE1 := Lib.hid (HEE.out _ (Below.sets5 hbw (Nat.le_refl tb) v0 v1 v2 v3 v4))
        obtain ⟨k0, k1, k2, k3, k4⟩ := hq.cells
        clear hr3 hbw hb3 HFN HR HBW hq HEE HO HN r0 r1 r2 r3 r4 q0 q1 q2 q3 q4 i0 i1 i2 i3 i4
        go_wp2
        exact bodyPost_ret (v := .tuple #[.agg #[.int .i64 v0, .int .i64 v1, .int .u64 v2, .int .u64 v3, .int .i64 v4], .int .i64 ck]) (by simp [results, Try.results55, go_sem, k0, k1, k2, k3, k4]) rfl HE1.out
      · have hnp : 0 < n := by omega
        obtain rfl := HD1.out (by omega)
        have hq := HR.out.set5 0 0 0 0 0
        have HE1 := Lib.hid (HEE.out _ (Below.sets5 HBW.out (Nat.le_refl tb) 0 0 0 0 0))
        obtain ⟨k0, k1, k2, k3, k4⟩ := hq.cells
        rw [HN.out 3 _ (by omega), HN.out 3 _ (by omega), HN.out 3 _ (by omega), HN.out 3 _ (by omega), HN.out 3 _ (by omega)] at HE1
        clear HD1 HD2 HFN HR HBW hq HEE HO HN i0 i1 i2 i3 i4
        go_wp2
        exact bodyPost_ret (v := .tuple #[.agg #[.int .i64 0, .int .i64 0, .int .u64 0, .int .u64 0, .int .i64 0], .int .i64 3]) (by simp [results, Try.results55, go_sem, k0, k1, k2, k3, k4]) rfl HE1.out
end Go.Proofs.Ytlgoiccekgjhnaa
