/-
  Contract of package typecode's Decode. Conditions: the bytes are bytes, at most a million.
-/
import Derived.Test.YtebbnkjjebfgeaaTct
namespace Go.Proofs.Ytebbnkjjebfgeaa
open Go.ChangeShapes Go.WideShapes Go.RowKit
set_option linter.unusedVariables false
set_option maxHeartbeats 4000000
set_option maxRecDepth 100000

/-- What Decode returns. -/
def DcE (w : World) (b : List Int) (e : Ending) (w' : World) : Prop :=
  ∃ (A : Option Addr) (m c : Nat), e = .returned (.tuple #[.agg #[.int .i64 (dcN b), .slice A m c], .int .i64 (dcK b), .int .i64 (dcE b)]) ∧ Exs w' w'.heap.size A m c (dcL b) ∧ Below w.heap.size w w'
theorem decode_any (A : Option Addr) (n c : Nat) (b : List Int) (w : World) (h : Bts w w.heap.size A n c b) (hs : Small b) (hn : n ≤ 1000000) :
    Calls Try.prog 15 #[.slice A n c] w (DcE w b) := by
  have hb0 : Below w.heap.size w (w.alloc (.cells #[.int .i64 0, .slice none 0 0] 24)) := (Below.refl _ _).alloc (Nat.le_refl _) _
  have hs0 : (w.alloc (.cells #[.int .i64 0, .slice none 0 0] 24)).heap.size = w.heap.size + 1 := by simp
  have hb1 : Below (w.alloc (.cells #[.int .i64 0, .slice none 0 0] 24)).heap.size (w.alloc (.cells #[.int .i64 0, .slice none 0 0] 24)) ((w.alloc (.cells #[.int .i64 0, .slice none 0 0] 24)).alloc (.cells #[.slice A n c, .int .i64 0] 59)) := (Below.refl _ _).alloc (Nat.le_refl _) _
  have HT1 := Lib.hid ((TyB.new (w := w) (n := 0) (A := none) (m := 0) (c := 0)).go hb1)
  have hr : RdB ((w.alloc (.cells #[.int .i64 0, .slice none 0 0] 24)).alloc (.cells #[.slice A n c, .int .i64 0] 59)) (w.heap.size + 1) A n c 0 := by
    have := RdB.new (w := w.alloc (.cells #[.int .i64 0, .slice none 0 0] 24)) (A := A) (n := n) (c := c) (p := 0)
    rwa [hs0] at this
  have HB1 := Lib.hid (Below.then hb0 hb1 (Nat.le_refl _))
  have hbt := (h.go hb0).below hb1
  rw [hs0] at hbt
  have HR1 : Hid (RS ((w.alloc (.cells #[.int .i64 0, .slice none 0 0] 24)).alloc (.cells #[.slice A n c, .int .i64 0] 59)) (w.heap.size + 1) b 0) := Lib.hid ⟨A, n, c, hr, hbt, Nat.zero_le _, hn⟩
  have H1 := Lib.hid (readType_any _ b _ HR1.out hs)
  have HLO := Lib.hid (fun h0 => dc_low hs (h0 : dcR b = 0))
  have HER := Lib.hid (fun e he hne => dc_err (b := b) (e := e) he hne)
  have H0 := Lib.hid (fun he => dc_0 (b := b) he)
  have HDD : Hid (dcE b = if dcR b = 0 then chk (rpX b 0) (dcF b) else dcR b) := Lib.hid rfl
  have HFF : Hid (∀ W : World, dcE b ≠ 0 → Below w.heap.size w W → DcE w b (.returned (.tuple #[.agg #[.int .i64 0, .slice none 0 0], .int .i64 0, .int .i64 (dcE b)])) W) := Lib.hid (fun W h1 h2 => by
    obtain ⟨k1, k2, k3⟩ := dc_err (b := b) rfl h1
    exact ⟨none, 0, 0, by rw [k1, k3], by rw [k2]; exact Exs.none_, h2⟩)
  have HGG : Hid (∀ (W : World) (A : Option Addr) (m c : Nat), dcE b = 0 → Exs W W.heap.size A m c (dcF b) → Below w.heap.size w W → DcE w b (.returned (.tuple #[.agg #[.int .i64 (rpX b 0), .slice A m c], .int .i64 (rfA b (rpY b 0).toNat (rpA b 0)), .int .i64 0])) W) := Lib.hid (fun W A m c h1 h2 h3 => by
    obtain ⟨_, _, k1, k2, k3⟩ := dc_0 h1
    exact ⟨A, m, c, by rw [k1, k3, h1], by rw [k2]; exact h2, h3⟩)
  clear h hb0 hb1 hs hr hbt
  go_enter Try.func15, Try.ntmps15
  go_wp2_with fail
  refine H1.out.mono ?_
  generalize (w.alloc (.cells #[.int .i64 0, .slice none 0 0] 24)).alloc (.cells #[.slice A n c, .int .i64 0] 59) = w1 at *
  clear hs0
  rintro e w2 ⟨n2, A2, m2, c2, l2, rfl, hox, ho2, hbad, hgood⟩
  obtain ⟨A2', m2', c2', e2, hx2⟩ := hox.shape
  cases e2
  have HBLK : Hid (∀ b' o', A2 = some ⟨b', o', none⟩ → b' ≠ w.heap.size) := Lib.hid (fun b' o' e => by
    subst e
    have := (World.ownsRow.lt hox.1 b' (by rcases hox.1.2 with ⟨h0, _⟩ | ⟨g, cap, cur, h0, _⟩ <;> cases h0; rfl)).1
    have := HT1.out.lt
    omega)
  clear hox
  have HT2 := Lib.hid (HT1.out.oth ho2 (by omega))
  have HB2 := Lib.hid (HB1.out.trans (ho2.below (by omega) HB1.out.size))
  have hw1 : w.heap.size < w1.heap.size := HT1.out.lt
  have hw2 := ho2.size
  have hb3 : Below w2.heap.size w2 (w2.alloc (.cells #[.int .i64 n2, .slice A2 m2 c2] 24)) := (Below.refl _ _).alloc (Nat.le_refl _) _
  have HY3 := Lib.hid (TyB.new (w := w2) (n := n2) (A := A2) (m := m2) (c := c2))
  have HT3 := Lib.hid (HT2.out.go hb3)
  have HB3 := Lib.hid (Below.then HB2.out hb3 (Nat.le_refl _))
  have HX3 := Lib.hid (hx2.go hb3)
  by_cases hz : dcR b = 0
  · obtain ⟨rfl, rfl, hrs⟩ := hgood hz
    have HQ3 := Lib.hid (hrs.go hb3)
    have HLN := Lib.hid hx2.len
    obtain ⟨n0, n1, hlow, hlen⟩ := HLO.out hz
    rw [hx2.len] at hlen
    have hcap := hx2.cap
    have hsm := hx2.small
    unfold maxLen at hsm
    have hs3 : (w2.alloc (.cells #[.int .i64 (rpX b 0), .slice A2 m2 c2] 24)).heap.size = w2.heap.size + 1 := by simp
    have HCK := Lib.hid (check_any (rpX b 0) A2 m2 c2 (dcF b) _ HX3.out (by omega))
    have HE : Hid (dcE b = chk (rpX b 0) (dcF b)) := Lib.hid (by rw [HDD.out, if_pos hz])
    have b0 := HY3.out.cell0
    have b1 := HY3.out.cell1
    rw [hz]
    clear hbad hgood hx2 ho2 hb3 hrs hz HLO HER H0 HDD HT1 HB1 HR1 H1 HT2 HB2 hlow
    generalize rpX b 0 = nn at *
    generalize dcF b = ll at *
    generalize hpp : rfA b (rpY b 0).toNat (rpA b 0) = pp at *
    generalize chk nn ll = ck at *
    have htl : w.heap.size ≤ w2.heap.size := by omega
    go_wp2_with fail
    refine HCK.out.mono ?_
    generalize w2.alloc (.cells #[.int .i64 nn, .slice A2 m2 c2] 24) = w3 at *
    generalize w2.heap.size = ty at *
    rintro e w4 ⟨rfl, hb4⟩
    have HY4 := Lib.hid (HY3.out.go hb4)
    have HT4 := Lib.hid (HT3.out.go hb4)
    have HX4 := Lib.hid (HX3.out.go hb4)
    have HQ4 := Lib.hid (HQ3.out.go hb4)
    have HB4 := Lib.hid (Below.then HB3.out hb4 (Nat.le_refl _))
    clear hb4 HCK HY3 HT3 HX3 HQ3 HB3 b0 b1 hpp
    by_cases hz : ck = 0
    · have HF : Hid (∀ W : World, Exs W W.heap.size A2 m2 c2 ll → Below w.heap.size w W → DcE w b (.returned (.tuple #[.agg #[.int .i64 nn, .slice A2 m2 c2], .int .i64 (pp : Int), .int .i64 0])) W) := Lib.hid (fun W h1 h2 => HGG.out W A2 m2 c2 (by rw [HE.out, hz]) h1 h2)
      subst hz
      obtain ⟨A5, n5, c5, hrd, _, _, _⟩ := HQ4.out
      have r1 := hrd.cell1
      have y0 := HY4.out.cell0
      have y1 := HY4.out.cell1
      have q0 := HT4.out.cell0
      have q1 := HT4.out.cell1
      have q2 := HT4.out.fr 0
      have q3 := HT4.out.fr 1
      have hs4 := HT4.out.set (n' := nn) (A' := A2) (m' := m2) (c' := c2)
      have k0 := hs4.cell0
      have k1 := hs4.cell1
      have HT0 := Lib.hid hs4
      have HOF := Lib.hid (((HB4.out.setCell (p := ⟨w.heap.size, 0, none⟩) (Nat.le_refl _) (.int .i64 nn)).setCell (p := ⟨w.heap.size, 1, none⟩) (Nat.le_refl _) (.slice A2 m2 c2)))
      have HXF := Lib.hid (((HX4.out.apart (k := w.heap.size) (o := 0) HBLK.out (.int .i64 nn)).apart (k := w.heap.size) (o := 1) HBLK.out (.slice A2 m2 c2)).more (B' := ((w4.setCell ⟨w.heap.size, 0, none⟩ (.int .i64 nn)).setCell ⟨w.heap.size, 1, none⟩ (.slice A2 m2 c2)).heap.size) (by simp [World.setCell]))
      have HD := Lib.hid (below_drewN (Below.refl ((w4.setCell ⟨w.heap.size, 0, none⟩ (.int .i64 nn)).setCell ⟨w.heap.size, 1, none⟩ (.slice A2 m2 c2)).heap.size ((w4.setCell ⟨w.heap.size, 0, none⟩ (.int .i64 nn)).setCell ⟨w.heap.size, 1, none⟩ (.slice A2 m2 c2))) 1)
      have k2 : (((w4.setCell ⟨w.heap.size, 0, none⟩ (.int .i64 nn)).setCell ⟨w.heap.size, 1, none⟩ (.slice A2 m2 c2)).drew).cell? ⟨w.heap.size, 0, none⟩ = some (.int .i64 nn) := k0
      have k3 : (((w4.setCell ⟨w.heap.size, 0, none⟩ (.int .i64 nn)).setCell ⟨w.heap.size, 1, none⟩ (.slice A2 m2 c2)).drew).cell? ⟨w.heap.size, 1, none⟩ = some (.slice A2 m2 c2) := k1
      clear hs4 HE HFF HGG hrd k0 k1
      go_wp2
      go_region
      go_wp2
      exact bodyPost_ret (v := .tuple #[.agg #[.int .i64 nn, .slice A2 m2 c2], .int .i64 pp, .int .i64 0]) (by simp [results, Try.results15, go_sem, k2, k3]) rfl (HF.out _ (HXF.out.go HD.out) (Below.then HOF.out HD.out (by have := HOF.out.size; omega)))
    · have d1 : (ck != 0) = true := by simpa using hz
      have HF : Hid (∀ W : World, Below w.heap.size w W → DcE w b (.returned (.tuple #[.agg #[.int .i64 0, .slice none 0 0], .int .i64 0, .int .i64 ck])) W) := Lib.hid (fun W h1 => by
        have := HFF.out W (by rw [HE.out]; exact hz) h1
        rwa [HE.out] at this)
      have q0 := HT4.out.cell0
      have q1 := HT4.out.cell1
      have q2 := HT4.out.fr 0
      have q3 := HT4.out.fr 1
      have hs4 := HT4.out.set (n' := 0) (A' := none) (m' := 0) (c' := 0)
      have k0 := hs4.cell0
      have k1 := hs4.cell1
      have HOF := Lib.hid (((HB4.out.setCell (p := ⟨w.heap.size, 0, none⟩) (Nat.le_refl _) (.int .i64 0)).setCell (p := ⟨w.heap.size, 1, none⟩) (Nat.le_refl _) (.slice none 0 0)))
      clear hs4 HE HFF HGG hz HY4 HT4 HX4 HQ4 HB4
      go_wp2
      exact bodyPost_ret (v := .tuple #[.agg #[.int .i64 0, .slice none 0 0], .int .i64 0, .int .i64 ck]) (by simp [results, Try.results15, go_sem, k0, k1]) rfl (HF.out _ HOF.out)
  · obtain ⟨rfl, rfl⟩ := hbad hz
    have HE : Hid (dcE b = dcR b) := Lib.hid (by rw [HDD.out, if_neg hz])
    have HF : Hid (∀ W : World, Below w.heap.size w W → DcE w b (.returned (.tuple #[.agg #[.int .i64 0, .slice none 0 0], .int .i64 0, .int .i64 (dcR b)])) W) := Lib.hid (fun W h1 => by
      have := HFF.out W (by rw [HE.out]; exact hz) h1
      rwa [HE.out] at this)
    have d1 : (dcR b != 0) = true := by simpa using hz
    have q0 := HT3.out.cell0
    have q1 := HT3.out.cell1
    have q2 := HT3.out.fr 0
    have q3 := HT3.out.fr 1
    have hs4 := HT3.out.set (n' := 0) (A' := none) (m' := 0) (c' := 0)
    have k0 := hs4.cell0
    have k1 := hs4.cell1
    have hs5 := (HT2.out.set (n' := 0) (A' := none) (m' := 0) (c' := 0))
    have HOF := Lib.hid (((HB3.out.setCell (p := ⟨w.heap.size, 0, none⟩) (Nat.le_refl _) (.int .i64 0)).setCell (p := ⟨w.heap.size, 1, none⟩) (Nat.le_refl _) (.slice none 0 0)))
    clear hs5 hbad hgood hx2 ho2 hb3 hz hs4 HLO HER H0 HDD HFF HGG HE HT1 HB1 HR1 H1 HT2 HB2 HY3 HT3 HB3 HX3
    generalize dcR b = en at *
    have hne1 : ¬ w2.heap.size = w.heap.size := by omega
    have hne2 : ¬ w.heap.size = w2.heap.size := by omega
    go_wp2
    exact bodyPost_ret (v := .tuple #[.agg #[.int .i64 0, .slice none 0 0], .int .i64 0, .int .i64 en]) (by simp [results, Try.results15, go_sem, k0, k1]) rfl (HF.out _ HOF.out)
end Go.Proofs.Ytebbnkjjebfgeaa
