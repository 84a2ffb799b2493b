/-
  Contract of the definition's DecodeEvent: it says what the plain functions of the text Evp say. Conditions: the bytes are bytes, at most a million.
-/
import Derived.Test.YtlgoiccekgjhnaaEvr
namespace Go.Proofs.Ytlgoiccekgjhnaa
open Go.ChangeShapes Go.WideShapes Go.RowKit
set_option linter.unusedVariables false
set_option linter.unusedSimpArgs false
set_option maxHeartbeats 4000000
set_option maxRecDepth 100000

theorem chk_two (p o e : Int) (h : chkV p o e ≠ 0) : chkV p o e = 1 := by
  unfold chkV at *
  split at h
  · exact absurd rfl h
  · rename_i h1; rw [if_neg h1]
theorem decodeR_any (A : Option Addr) (n c : Nat) (b : List Int) (w : World) (h : Bts w w.heap.size A n c b) (hs : Small b) (hn : n ≤ 1000000) :
    Calls Try.prog 62 #[.slice A n c] w (EvE w (dcE b) (rX b 0) (rX b 1) (rX b 2) (rX b 3) (rX b 4)) := by
  have hb0 : Below w.heap.size w (((w.alloc (.cells #[.int .i64 0, .int .i64 0, .int .u64 0, .int .u64 0, .int .i64 0] 27)).alloc (.cells #[.int .u64 0, .int .u64 0, .int .u64 0, .int .u64 0, .int .u64 0] 108))) := ((Below.refl _ _).alloc (Nat.le_refl _) _).alloc (by simp) _
  have HB1 := Lib.hid hb0
  have hs0 : (w.alloc (.cells #[.int .i64 0, .int .i64 0, .int .u64 0, .int .u64 0, .int .i64 0] 27)).heap.size = w.heap.size + 1 := by simp
  have HR1 : Hid (EvB (((w.alloc (.cells #[.int .i64 0, .int .i64 0, .int .u64 0, .int .u64 0, .int .i64 0] 27)).alloc (.cells #[.int .u64 0, .int .u64 0, .int .u64 0, .int .u64 0, .int .u64 0] 108))) w.heap.size 0 0 0 0 0) := Lib.hid (EvB.zero.go ((Below.refl _ _).alloc (Nat.le_refl _) _))
  have hi1 : IvB (((w.alloc (.cells #[.int .i64 0, .int .i64 0, .int .u64 0, .int .u64 0, .int .i64 0] 27)).alloc (.cells #[.int .u64 0, .int .u64 0, .int .u64 0, .int .u64 0, .int .u64 0] 108))) (w.heap.size + 1) (ivs b 0) := by
    have := heap_alloc_new (w.alloc (.cells #[.int .i64 0, .int .i64 0, .int .u64 0, .int .u64 0, .int .i64 0] 27)) (.cells #[.int .u64 0, .int .u64 0, .int .u64 0, .int .u64 0, .int .u64 0] 108)
    rw [hs0] at this
    exact this
  have HI1 := Lib.hid hi1
  have HSL := Lib.hid (h.below hb0)
  have HS := Lib.hid hs
  have hbl := h.len
  have HBL := Lib.hid h.len
  have hcap := h.cap
  have hsm := h.small
  unfold maxLen at hsm
  have HEE : Hid (∀ (W : World), Below w.heap.size w W → EvE w (dcE b) (rX b 0) (rX b 1) (rX b 2) (rX b 3) (rX b 4) (.returned (.tuple #[.agg #[.int .i64 (okV (dcE b) (rX b 0)), .int .i64 (okV (dcE b) (rX b 1)), .int .u64 (okV (dcE b) (rX b 2)), .int .u64 (okV (dcE b) (rX b 3)), .int .i64 (okV (dcE b) (rX b 4))], .int .i64 (dcE b)])) W) := Lib.hid (fun W h => ⟨rfl, h⟩)
  have HDC : Hid (dcE b = if fE b 5 = 0 then (if rA b 5 < b.length then 3 else chkV (rX b 0) (rX b 1) (rX b 4)) else fE b 5) := Lib.hid rfl
  have HXB := Lib.hid (fun k => rX_bd hs k)
  have HO : Hid (∀ x, okV 0 x = x) := Lib.hid (fun x => rfl)
  have HN : Hid (∀ c x, c ≠ 0 → okV c x = 0) := Lib.hid (fun c x h => if_neg h)
  generalize dcE b = dk at *
  generalize hw1 : ((w.alloc (.cells #[.int .i64 0, .int .i64 0, .int .u64 0, .int .u64 0, .int .i64 0] 27)).alloc (.cells #[.int .u64 0, .int .u64 0, .int .u64 0, .int .u64 0, .int .u64 0] 108)) = w1 at *
  generalize htb : w.heap.size = tb at *
  clear h hs hb0 hi1 hs0 hbl
  go_enter Try.func62, Try.ntmps62
  go_wp2
  have HTB : Hid (tb ≤ w.heap.size) := Lib.hid (by omega)
  clear hw1 htb
  go_loopw [5, 6] (fun av iv_ wq => ∃ (j : Nat), j ≤ 5 ∧ iv_ = .int .i64 j ∧ ∃ p : Nat, av = .int .i64 p ∧ p ≤ n ∧ Hid (p = rA b j) ∧ Hid (Bts wq tb A n c b ∧ IvB wq (tb + 1) (ivs b j) ∧ EvB wq tb 0 0 0 0 0 ∧ fE b j = 0 ∧ Below tb w wq)) (fun _ iv_ _ => 5 - (intOf iv_).toNat)
  case atStart => exact ⟨0, by omega, rfl, 0, rfl, by omega, Lib.hid rfl, Lib.hid ⟨HSL.out, HI1.out, HR1.out, rfl, HB1.out⟩⟩
  case round =>
    obtain ⟨j, hj, rfl, p, rfl, hp, HP, hh⟩ := hrel
    clear HB1 HR1 HI1 HSL
    have hi := hh.out.2.1
    have hr := hh.out.2.2.1
    have HBW := Lib.hid hh.out.2.2.2.2
    have HFE := Lib.hid hh.out.2.2.2.1
    have HBT := Lib.hid hh.out.1
    obtain ⟨r0, r1, r2, r3, r4⟩ := hr.cells
    have q0 := hr.fr 0
    have q1 := hr.fr 1
    have q2 := hr.fr 2
    have q3 := hr.fr 3
    have q4 := hr.fr 4
    have hrl := hr.lt
    have hil := hi.lt
    have HI := Lib.hid hi
    have HR := Lib.hid hr
    clear hh hi hr
    by_cases hj5 : j < 5
    · have hj5' : (j : Int) < 5 := by omega
      have hpi : (p : Int) ≤ (n : Int) := by omega
      obtain ⟨z0, z1, z2, z3, z4⟩ := rd_bd (HS.out.drop p)
      obtain ⟨A2, hsl, hcut⟩ := cut_lo A n c p b hp hcap
      have HU := Lib.hid (uintR_any A2 (n - p) (c - p) _ wr (hcut _ _ HBT.out) (HS.out.drop p) (by omega))
      rw [List.length_drop] at z3
      have HA : Hid (rA b (j + 1) = p + (rdK (b.drop p)).toNat) := Lib.hid (by rw [HP.out]; rfl)
      have HX : Hid (rX b j = rdX (b.drop p)) := Lib.hid (by rw [HP.out]; rfl)
      have HER : Hid (rE b j = rdE (b.drop p)) := Lib.hid (by rw [HP.out]; rfl)
      have z5 : (p : Int) + rdK (b.drop p) ≤ n := by have := HBL.out; omega
      unfold GotU at HU
      generalize rdX (b.drop p) = x at *
      generalize rdK (b.drop p) = kk at *
      generalize rdE (b.drop p) = er at *
      obtain ⟨kz, rfl⟩ : ∃ kz : Nat, kk = kz := ⟨kk.toNat, by omega⟩
      clear hcut
      go_wp2_with fail
      refine HU.out.mono ?_
      rintro e w2 ⟨rfl, hww⟩
      subst hww
      clear HU hsl
      by_cases her : er = 0
      · subst her
        have c6 := HI.out.cell (k := j) (by rw [ivs_len]; exact hj5)
        have f6 := HI.out.fr j
        have hbq : Below (tb + 1) wr (wr.setCell ⟨tb + 1, j, none⟩ (.int .u64 x)) := (Below.refl _ _).setCell (p := ⟨tb + 1, j, none⟩) (Nat.le_refl _) _
        have HF : Hid (Bts (wr.setCell ⟨tb + 1, j, none⟩ (.int .u64 x)) tb A n c b ∧ IvB (wr.setCell ⟨tb + 1, j, none⟩ (.int .u64 x)) (tb + 1) (ivs b (j + 1)) ∧ EvB (wr.setCell ⟨tb + 1, j, none⟩ (.int .u64 x)) tb 0 0 0 0 0 ∧ fE b (j + 1) = 0 ∧ Below tb w (wr.setCell ⟨tb + 1, j, none⟩ (.int .u64 x))) := Lib.hid (by
          refine ⟨HBT.out.below (hbq.mono (by omega)), ?_, ?_, ?_, ?_⟩
          · rw [← ivs_set b hj5, HX.out]
            exact HI.out.set j x
          · exact (hbq.block tb (by omega)).trans HR.out
          · rw [fE_next HFE.out, HER.out]
          · exact HBW.out.trans (hbq.mono (by omega)))
        have HP2 : Hid (p + kz = rA b (j + 1)) := Lib.hid (by rw [HA.out]; rfl)
        have hpk : p + kz ≤ n := by omega
        clear hbq HA HX HER HBT HI HR HBW HFE r0 r1 r2 r3 r4 q0 q1 q2 q3 q4
        go_wp2
        go_roundw
        case rel => exact ⟨j + 1, by omega, by go_num, p + kz, by go_num, hpk, HP2, HF⟩
        case measure => simp [intOf]; omega
      · obtain rfl : dk = er := by
          have h1 : fE b (j + 1) = er := by rw [fE_next HFE.out, HER.out]
          have h2 := fE_mono (b := b) (j := j + 1) (k := 5) (by rw [h1]; exact her) (by omega)
          rw [HDC.out, h2, h1, if_neg her]
        have herb : (dk != 0) = true := by simpa using her
        have hq := HR.out.set5 0 0 0 0 0
        have HE1 := Lib.hid (HEE.out _ (Below.sets5 HBW.out (Nat.le_refl tb) 0 0 0 0 0))
        obtain ⟨k0, k1, k2, k3, k4⟩ := hq.cells
        rw [HN.out dk _ her, HN.out dk _ her, HN.out dk _ her, HN.out dk _ her, HN.out dk _ her] at HE1
        clear HEE HDC HXB HO HN hq HA HX HER HBT HI HR HBW HFE
        go_wp2
        exact bodyPost_ret (v := .tuple #[.agg #[.int .i64 0, .int .i64 0, .int .u64 0, .int .u64 0, .int .i64 0], .int .i64 dk]) (by simp [results, Try.results62, go_sem, k0, k1, k2, k3, k4]) rfl HE1.out
    · obtain rfl : j = 5 := by omega
      have hi := HI.out
      rw [ivs_all] at hi
      have i0 := hi.cell (k := 0) (by simp)
      have i1 := hi.cell (k := 1) (by simp)
      have i2 := hi.cell (k := 2) (by simp)
      have i3 := hi.cell (k := 3) (by simp)
      have i4 := hi.cell (k := 4) (by simp)
      simp only [List.getD, List.getElem?_cons_zero, List.getElem?_cons_succ, Option.getD_some] at i0 i1 i2 i3 i4
      have hpl : p < b.length ↔ p < n := by rw [HBL.out]
      have HD1 : Hid (p < n → dk = 3) := Lib.hid (fun h => by rw [HDC.out, if_pos HFE.out, ← HP.out, if_pos (hpl.2 h)])
      have HD2 : Hid (¬ p < n → dk = chkV (rX b 0) (rX b 1) (rX b 4)) := Lib.hid (fun h => by rw [HDC.out, if_pos HFE.out, ← HP.out, if_neg (fun h' => h (hpl.1 h'))])
      obtain ⟨a0, b0⟩ := HXB.out 0
      obtain ⟨a1, b1⟩ := HXB.out 1
      obtain ⟨a2, b2⟩ := HXB.out 2
      obtain ⟨a3, b3⟩ := HXB.out 3
      obtain ⟨a4, b4⟩ := HXB.out 4
      generalize rX b 0 = y0 at *
      generalize rX b 1 = y1 at *
      generalize rX b 2 = y2 at *
      generalize rX b 3 = y3 at *
      generalize rX b 4 = y4 at *
      clear hi HXB HDC HFE HI HBT HP HS HBL hpl
      by_cases hpn : p < n
      · have hpi : (p : Int) < (n : Int) := by omega
        obtain rfl := HD1.out hpn
        have hq := HR.out.set5 0 0 0 0 0
        have HE1 := Lib.hid (HEE.out _ (Below.sets5 HBW.out (Nat.le_refl tb) 0 0 0 0 0))
        obtain ⟨k0, k1, k2, k3, k4⟩ := hq.cells
        rw [HN.out 3 _ (by omega), HN.out 3 _ (by omega), HN.out 3 _ (by omega), HN.out 3 _ (by omega), HN.out 3 _ (by omega)] at HE1
        clear HD1 HD2 HR HBW hq HEE HO HN i0 i1 i2 i3 i4
        go_wp2
        exact bodyPost_ret (v := .tuple #[.agg #[.int .i64 0, .int .i64 0, .int .u64 0, .int .u64 0, .int .i64 0], .int .i64 3]) (by simp [results, Try.results62, go_sem, k0, k1, k2, k3, k4]) rfl HE1.out
      · have hpi : ¬ (p : Int) < (n : Int) := by omega
        obtain rfl := HD2.out hpn
        clear HD1 HD2
        have HK1 : Hid (64 < y0 ∨ 33 < y1 ∨ 29 < y4 → chkV y0 y1 y4 = 1) := Lib.hid (fun h => chk_no (fun h' => by
          have := op_bd h'.2.2.1
          omega))
        have HTWO := Lib.hid (chk_two y0 y1 y4)
        have HCX := Lib.hid (fun W => checkR_any y0 y1 y2 y3 y4 W)
        generalize chkV y0 y1 y4 = k at *
        by_cases u0 : 64 < y0
        · obtain rfl := HK1.out (by omega)
          have hq := HR.out.set5 0 0 0 0 0
          have HE1 := Lib.hid (HEE.out _ (Below.sets5 HBW.out (Nat.le_refl tb) 0 0 0 0 0))
          obtain ⟨k0, k1, k2, k3, k4⟩ := hq.cells
          rw [HN.out 1 _ (by omega), HN.out 1 _ (by omega), HN.out 1 _ (by omega), HN.out 1 _ (by omega), HN.out 1 _ (by omega)] at HE1
          clear HK1 HR HBW hq HEE HO HN HTWO HCX
          go_wp2
          exact bodyPost_ret (v := .tuple #[.agg #[.int .i64 0, .int .i64 0, .int .u64 0, .int .u64 0, .int .i64 0], .int .i64 1]) (by simp [results, Try.results62, go_sem, k0, k1, k2, k3, k4]) rfl HE1.out
        · have u0' : y0 ≤ 64 := by omega
          by_cases u1 : 33 < y1
          · obtain rfl := HK1.out (by omega)
            have hq := HR.out.set5 0 0 0 0 0
            have HE1 := Lib.hid (HEE.out _ (Below.sets5 HBW.out (Nat.le_refl tb) 0 0 0 0 0))
            obtain ⟨k0, k1, k2, k3, k4⟩ := hq.cells
            rw [HN.out 1 _ (by omega), HN.out 1 _ (by omega), HN.out 1 _ (by omega), HN.out 1 _ (by omega), HN.out 1 _ (by omega)] at HE1
            clear HK1 HR HBW hq HEE HO HN HTWO HCX
            go_wp2
            exact bodyPost_ret (v := .tuple #[.agg #[.int .i64 0, .int .i64 0, .int .u64 0, .int .u64 0, .int .i64 0], .int .i64 1]) (by simp [results, Try.results62, go_sem, k0, k1, k2, k3, k4]) rfl HE1.out
          · have u1' : y1 ≤ 33 := by omega
            by_cases u4 : 29 < y4
            · obtain rfl := HK1.out (by omega)
              have hq := HR.out.set5 0 0 0 0 0
              have HE1 := Lib.hid (HEE.out _ (Below.sets5 HBW.out (Nat.le_refl tb) 0 0 0 0 0))
              obtain ⟨k0, k1, k2, k3, k4⟩ := hq.cells
              rw [HN.out 1 _ (by omega), HN.out 1 _ (by omega), HN.out 1 _ (by omega), HN.out 1 _ (by omega), HN.out 1 _ (by omega)] at HE1
              clear HK1 HR HBW hq HEE HO HN HTWO HCX
              go_wp2
              exact bodyPost_ret (v := .tuple #[.agg #[.int .i64 0, .int .i64 0, .int .u64 0, .int .u64 0, .int .i64 0], .int .i64 1]) (by simp [results, Try.results62, go_sem, k0, k1, k2, k3, k4]) rfl HE1.out
            · have u4' : y4 ≤ 29 := by omega
              have hb2 : Below wr.heap.size wr ((wr.alloc (.cells #[.int .i64 y0, .int .i64 y1, .int .u64 y2, .int .u64 y3, .int .i64 y4] 27))) := (Below.refl _ _).alloc (Nat.le_refl _) _
              have HB2 := Lib.hid (Below.then HBW.out hb2 HTB.out)
              have HR2 := Lib.hid (HR.out.go hb2)
              have HV2 := Lib.hid (EvB.new (w := wr) (p := y0) (o := y1) (h := y2) (a := y3) (e := y4))
              have HCK := Lib.hid (HCX.out ((wr.alloc (.cells #[.int .i64 y0, .int .i64 y1, .int .u64 y2, .int .u64 y3, .int .i64 y4] 27))))
              clear hb2 HR HBW HK1 HCX
              go_wp2_with fail
              generalize (wr.alloc (.cells #[.int .i64 y0, .int .i64 y1, .int .u64 y2, .int .u64 y3, .int .i64 y4] 27)) = w2 at *
              refine HCK.out.mono ?_
              rintro e w3 ⟨rfl, hb3⟩
              have hr3 := HR2.out.go hb3
              have hv3 := HV2.out.go hb3
              have HBW := Lib.hid (Below.then HB2.out hb3 HTB.out)
              obtain ⟨c0, c1, c2, c3, c4⟩ := hr3.cells
              obtain ⟨d0, d1, d2, d3, d4⟩ := hv3.cells
              have f0 := hr3.fr 0
              have f1 := hr3.fr 1
              have f2 := hr3.fr 2
              have f3 := hr3.fr 3
              have f4 := hr3.fr 4
              have hlr := hr3.lt
              have HR := Lib.hid hr3
              clear hr3 hv3 hb3 HCK HR2 HV2 HB2 r0 r1 r2 r3 r4 q0 q1 q2 q3 q4 i0 i1 i2 i3 i4 hrl hil
              by_cases hk : k = 0
              · subst hk
                have hq := HR.out.set5 y0 y1 y2 y3 y4
                have HE1 := Lib.hid (HEE.out _ (Below.sets5 HBW.out (Nat.le_refl tb) y0 y1 y2 y3 y4))
                obtain ⟨k0, k1, k2, k3, k4⟩ := hq.cells
                rw [HO.out y0, HO.out y1, HO.out y2, HO.out y3, HO.out y4] at HE1
                clear HEE HO HN HR HBW hq HTWO
                go_wp2
                exact bodyPost_ret (v := .tuple #[.agg #[.int .i64 y0, .int .i64 y1, .int .u64 y2, .int .u64 y3, .int .i64 y4], .int .i64 0]) (by simp [results, Try.results62, go_sem, k0, k1, k2, k3, k4]) rfl HE1.out
              · obtain rfl := HTWO.out hk
                have hq := HR.out.set5 0 0 0 0 0
                have HE1 := Lib.hid (HEE.out _ (Below.sets5 HBW.out (Nat.le_refl tb) 0 0 0 0 0))
                obtain ⟨k0, k1, k2, k3, k4⟩ := hq.cells
                rw [HN.out 1 _ (by omega), HN.out 1 _ (by omega), HN.out 1 _ (by omega), HN.out 1 _ (by omega), HN.out 1 _ (by omega)] at HE1
                clear HEE HO HN HR HBW hq HTWO
                go_wp2
                exact bodyPost_ret (v := .tuple #[.agg #[.int .i64 0, .int .i64 0, .int .u64 0, .int .u64 0, .int .i64 0], .int .i64 1]) (by simp [results, Try.results62, go_sem, k0, k1, k2, k3, k4]) rfl HE1.out
end Go.Proofs.Ytlgoiccekgjhnaa
