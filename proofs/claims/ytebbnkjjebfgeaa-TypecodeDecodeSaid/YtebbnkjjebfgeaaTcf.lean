/-
  Contract of the reference's EncodeType. Conditions: at most forty fields.
-/
import Derived.Test.YtebbnkjjebfgeaaTce
import Derived.Test.YtebbnkjjebfgeaaLaC
namespace Go.Proofs.Ytebbnkjjebfgeaa
open Go.ChangeShapes Go.WideShapes Go.RowKit
set_option linter.unusedVariables false
set_option maxHeartbeats 4000000
set_option maxRecDepth 100000

theorem encodeR_any (n : Int) (A : Option Addr) (m c : Nat) (l : List (Int × Int)) (w : World) (h : Exs w w.heap.size A m c l) (hm : m ≤ 40) :
    Calls Try.prog 12 #[.agg #[.int .i64 n, .slice A m c]] w (EncE w n l) := by
  have hb0 : Below w.heap.size w (w.alloc (.cells #[.int .i64 n, .slice A m c] 24)) := (Below.refl _ _).alloc (Nat.le_refl _) _
  have HB0 := Lib.hid hb0
  have HT0 := Lib.hid (TyB.new (w := w) (n := n) (A := A) (m := m) (c := c))
  have HX0 := Lib.hid h
  have hcap := h.cap
  have hsm := h.small
  have HLN := Lib.hid h.len
  have HCK := Lib.hid (checkR_any n A m c l _ (h.go hb0) hm)
  have HE : Hid (encO n l = if chk n l = 0 then encT n l else []) := Lib.hid rfl
  have HET : Hid (encT n l = enc n.toNat ++ (enc m ++ encF l)) := Lib.hid (by unfold encT; rw [h.len])
  have HK := Lib.hid (fun h0 => chk_0 (n := n) (l := l) h0)
  unfold maxLen at hsm
  have c1 := HT0.out.cell1
  have c0 := HT0.out.cell0
  have HEE : Hid (∀ (W : World) (v : Value), OwnB W w.heap.size v (encO n l) → Below w.heap.size w W → EncE w n l (.returned (.tuple #[v, .int .i64 (chk n l)])) W) := Lib.hid (fun W v h1 h2 => ⟨_, rfl, h1, h2⟩)
  generalize hchk : chk n l = k at *
  clear h hb0
  go_enter Try.func12, Try.ntmps12
  go_wp2_with fail
  refine HCK.out.mono ?_
  generalize w.alloc (.cells #[.int .i64 n, .slice A m c] 24) = w1 at *
  have hts : w.heap.size < w1.heap.size := HT0.out.lt
  generalize htb : w.heap.size = tb at *
  rintro e w2 ⟨rfl, hb2⟩
  have HT2 := Lib.hid (HT0.out.go hb2)
  have HB2 := Lib.hid (Below.then HB0.out hb2 (by omega))
  have hs2 : tb < w2.heap.size := HT2.out.lt
  have htl : tb ≤ w.heap.size := by omega
  clear hb2 HT0 HB0 c0 c1 htb
  by_cases hz : k = 0
  · subst hz
    have HO : Hid (encO n l = enc n.toNat ++ (enc m ++ encF l)) := Lib.hid (by rw [HE.out, if_pos rfl, HET.out])
    obtain ⟨n0, n1, hml, hok, _⟩ := HK.out rfl
    rw [HLN.out] at hml
    have HLOW := Lib.hid (Low.of hok)
    have hmi : (m : Int) ≤ 32 := by omega
    have hmi0 : (0 : Int) ≤ m := by omega
    have c1 := HT2.out.cell1
    have c0 := HT2.out.cell0
    have HP := Lib.hid (putUintR_any none 0 0 [] n w2 Bts.none_ (by omega) n0 (by omega))
    clear hok hchk HE HET HCK HK
    go_wp2_with fail
    refine HP.out.mono ?_
    rintro e w3 ⟨v3, rfl, ho3, hb3⟩
    have HT3 := Lib.hid (HT2.out.go hb3)
    have HB3 := Lib.hid (Below.then HB2.out hb3 htl)
    obtain ⟨A3, n3, c3, rfl, hbt3⟩ := ho3.shape
    have hl3 : n3 ≤ 10 := by
      have h1 := hbt3.len
      have h2 := enc_len3 (n := n.toNat) (by omega)
      simp only [List.nil_append] at h1
      omega
    have HP3 := Lib.hid (putUintR_any A3 n3 c3 _ m w3 hbt3 (by omega) hmi0 (by omega))
    have c1 := HT3.out.cell1
    clear ho3 hb3 HP HT2 HB2 c0 hbt3
    go_wp2_with fail
    refine HP3.out.mono ?_
    rintro e w5 ⟨v5, rfl, ho5, hb5⟩
    have HT5 := Lib.hid (HT3.out.go hb5)
    have HB5 := Lib.hid (Below.then HB3.out hb5 htl)
    have HO5 : Hid (OwnB w5 tb v5 (enc n.toNat ++ (enc m ++ encF (l.take 0)))) := Lib.hid (by
      have := ho5.down (B := tb) (Nat.le_trans htl HB3.out.size)
      simpa [encF] using this)
    clear ho5 hb5 HP3 HT3 HB3 c1
    go_wp2_with fail
    go_loopw [5, 6] (fun bv iv_ wq => ∃ (j : Nat), j ≤ m ∧ iv_ = .int .i64 j ∧ Hid (OwnB wq tb bv (enc n.toNat ++ (enc m ++ encF (l.take j))) ∧ Below tb w wq ∧ TyB wq tb n A m c)) (fun _ iv_ _ => m - (intOf iv_).toNat)
    case atStart => exact ⟨0, by omega, rfl, Lib.hid ⟨HO5.out, HB5.out, HT5.out⟩⟩
    case round =>
      obtain ⟨j, hj, rfl, hh⟩ := hrel
      have HOJ := Lib.hid hh.out.1
      have HB := Lib.hid hh.out.2.1
      have HT := Lib.hid hh.out.2.2
      have c1 := HT.out.cell1
      clear hh HO5 HB5 HT5
      by_cases hjm : j < m
      · have hj1 : (j : Int) < (m : Int) := by omega
        obtain ⟨b, o, u, v, hu, rfl, hb, g0, g1, _⟩ := (HX0.out.below HB.out).at_ hjm
        obtain ⟨hu0, hu1, hv0, hv1⟩ := HLOW.out _ (List.mem_of_getElem? hu)
        simp only at hu0 hu1 hv0 hv1
        have HNX := Lib.hid (encF_next hu)
        obtain ⟨A4, n4, c4, rfl, hbt4⟩ := HOJ.out.shape
        have hlen4 : n4 ≤ 1000 := by
          have h1 := hbt4.len
          have h2 := enc_len3 (n := n.toNat) (by omega)
          have h3 := enc_len3 (n := m) (by omega)
          have h4 := encF_len (l := l.take j) (fun x hx => HLOW.out x (List.mem_of_mem_take hx))
          simp only [List.length_append] at h1
          rw [List.length_take] at h4
          omega
        have hcap4 := hbt4.cap
        have hsm4 := hbt4.small
        unfold maxLen at hsm4
        have HP := Lib.hid (putUintR_any A4 n4 c4 _ u wr hbt4 (by omega) hu0 (by omega))
        have HG := Lib.hid (And.intro g0 g1)
        clear hu hb hbt4 HOJ
        go_wp2_with fail
        refine HP.out.mono ?_
        rintro e w7 ⟨v7, rfl, ho7, hb7⟩
        have HB7 := Lib.hid (Below.then HB.out hb7 htl)
        have HT7 := Lib.hid (HT.out.go hb7)
        have c1' := HT7.out.cell1
        have k1 : w7.cell? ⟨b, o + j * 2 + 1, none⟩ = some (.int .i64 v) := (hb7.cell (p := ⟨b, o + j * 2 + 1, none⟩) (lt_of_some HG.out.2)).trans HG.out.2
        obtain ⟨A8, n8, c8, rfl, hbt8⟩ := ho7.shape
        have hlen8 : n8 ≤ 2000 := by
          have h1 := hbt8.len
          have h2 := enc_len3 (n := n.toNat) (by omega)
          have h3 := enc_len3 (n := m) (by omega)
          have h5 := enc_len3 (n := u.toNat) (by omega)
          have h4 := encF_len (l := l.take j) (fun x hx => HLOW.out x (List.mem_of_mem_take hx))
          simp only [List.length_append] at h1
          rw [List.length_take] at h4
          omega
        have HP8 := Lib.hid (putUintR_any A8 n8 c8 _ v w7 hbt8 (by omega) hv0 (by omega))
        clear hb7 ho7 hbt8 HP HB HT c1 g0 g1 HG
        go_wp2_with fail
        refine HP8.out.mono ?_
        rintro e w9 ⟨v9, rfl, ho9, hb9⟩
        have HB9 := Lib.hid (Below.then HB7.out hb9 htl)
        have HT9 := Lib.hid (HT7.out.go hb9)
        have HO9 : Hid (OwnB w9 tb v9 (enc n.toNat ++ (enc m ++ encF (l.take (j + 1))))) := Lib.hid (by
          have := ho9.down (B := tb) (Nat.le_trans htl HB7.out.size)
          rw [HNX.out]
          simpa using this)
        clear ho9 hb9 HP8 HB7 HT7 HNX c1' k1
        go_wp2
        go_roundw
        case rel => exact ⟨j + 1, by omega, by go_num, Lib.hid ⟨HO9.out, HB9.out, HT9.out⟩⟩
        case measure => simp [intOf]; omega
      · obtain rfl : j = m := by omega
        have HF : Hid (OwnB wr tb _ (encO n l)) := Lib.hid (by
          have := HOJ.out
          rw [List.take_of_length_le (by rw [HLN.out]; exact Nat.le_refl _)] at this
          rw [HO.out]; exact this)
        have hjj : ¬ (j : Int) < (j : Int) := by omega
        go_wp2
        go_ret2
        exact HEE.out wr _ HF.out HB.out
  · have d1 : (k != 0) = true := by simpa using hz
    have HO : Hid (encO n l = []) := Lib.hid (by rw [HE.out, if_neg hz])
    clear hchk
    go_wp2
    go_ret2
    exact HEE.out w2 _ (by rw [HO.out]; exact OwnB.nil _ _) HB2.out
end Go.Proofs.Ytebbnkjjebfgeaa
