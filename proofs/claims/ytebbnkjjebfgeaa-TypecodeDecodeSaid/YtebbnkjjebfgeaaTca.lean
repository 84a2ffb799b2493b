/-
  The example of chapter 9 and the comparison of Decode with the definition. Conditions: the bytes are bytes, at most a million.
-/
import Derived.Test.YtebbnkjjebfgeaaTch
import Derived.Test.YtebbnkjjebfgeaaTcf
import Derived.Test.YtebbnkjjebfgeaaSty
namespace Go.Proofs.Ytebbnkjjebfgeaa
open Go.ChangeShapes Go.WideShapes Go.RowKit
set_option linter.unusedVariables false
set_option maxHeartbeats 4000000
set_option maxRecDepth 100000

theorem bts_run {w : World} {B : Nat} {A : Option Addr} {n c : Nat} {l : List Int} (h : Bts w B A n c l) :
    (convert 30 9 (.slice A n c)).run Try.prog w = .ok (.string (strOfNums l)) w :=
  h.text _ _ _ Try.underlying30 Try.underlying5 Try.underlying9
theorem bts_as {w : World} {B : Nat} {A : Option Addr} {n c : Nat} {l : List Int} {T : ByteArray} (h : Bts w B A n c l) (hT : Hid (strOfNums l = T)) :
    (convert 30 9 (.slice A n c)).run Try.prog w = .ok (.string T) w := by
  rw [← hT.out]
  exact bts_run h
theorem aw9_facts : encO 0 [(1, 0), (3, 0), (2, 0)] = [0, 3, 1, 0, 3, 0, 2, 0] ∧ chk 0 [(1, 0), (3, 0), (2, 0)] = 0 := by
  have h : chk 0 [(1, 0), (3, 0), (2, 0)] = 0 := by decide
  refine ⟨?_, h⟩
  unfold encO
  rw [if_pos h]
  simp [encT, encF, enc_small]
theorem awake9_any (w : World) : Calls Try.prog 8 #[] w (Says w (.bool true)) := by
  have hx0 := Exs.new w [(1, 0), (3, 0), (2, 0)] #[.int .i64 1, .int .i64 0, .int .i64 3, .int .i64 0, .int .i64 2, .int .i64 0] 48 3 rfl rfl (by unfold maxLen; omega) (fun x hx => by simp at hx; rcases hx with rfl | rfl | rfl <;> simp)
  have hb0 : Below w.heap.size w (w.alloc (.cells #[.int .i64 1, .int .i64 0, .int .i64 3, .int .i64 0, .int .i64 2, .int .i64 0] 48)) := (Below.refl _ _).alloc (Nat.le_refl _) _
  have hz0 : (w.alloc (.cells #[.int .i64 1, .int .i64 0, .int .i64 3, .int .i64 0, .int .i64 2, .int .i64 0] 48)).heap.size = w.heap.size + 1 := by simp
  rw [← hz0] at hx0
  have HK := Lib.hid (encode_any 0 _ 3 3 _ _ hx0 (by omega))
  have HB0 := Lib.hid hb0
  obtain ⟨f1, f2⟩ := aw9_facts
  unfold EncE at HK
  rw [f1, f2] at HK
  clear hx0 hb0 hz0 f1 f2
  go_enter Try.func8, Try.ntmps8
  go_wp2_with fail
  refine HK.out.mono ?_
  rintro e w2 ⟨v, rfl, ho, hb⟩
  have HB2 := Lib.hid (Below.then HB0.out hb (Nat.le_refl _))
  obtain ⟨A, n, c, rfl, hbt⟩ := ho.shape
  have hcv := bts_as hbt (T := ⟨#[0, 3, 1, 0, 3, 0, 2, 0]⟩) (Lib.hid rfl)
  clear ho hb hbt HK HB0
  go_wp2
  go_ret
  exact ⟨rfl, HB2.out⟩
theorem same9_any (A : Option Addr) (n c : Nat) (b : List Int) (w : World) (h : Bts w w.heap.size A n c b) (hs : Small b) (hn : n ≤ 1000000) :
    Calls Try.prog 13 #[.slice A n c] w (Says w (.bool true)) := by
  have H1 := Lib.hid (decode_any A n c b w h hs hn)
  have H2 := Lib.hid (fun W (hW : Below w.heap.size w W) => decodeR_any A n c b W ((h.below hW).more hW.size) hs hn)
  unfold DcE at H1 H2
  generalize dcN b = dn at *
  generalize dcK b = dk at *
  generalize dcE b = de at *
  generalize dcL b = dl at *
  clear h hs
  go_enter Try.func13, Try.ntmps13
  go_wp2_with fail
  refine H1.out.mono ?_
  rintro e w2 ⟨A2, m2, c2, rfl, hx2, hb2⟩
  have hb3 := hb2.alloc hb2.size (.cells #[.int .i64 dn, .slice A2 m2 c2] 24)
  have HB3 := Lib.hid hb3
  have HT3 := Lib.hid (TyB.new (w := w2) (n := dn) (A := A2) (m := m2) (c := c2))
  have HX3 := Lib.hid (hx2.go ((Below.refl w2.heap.size w2).alloc (Nat.le_refl _) (.cells #[.int .i64 dn, .slice A2 m2 c2] 24)))
  have HD := Lib.hid (H2.out _ hb3)
  clear hx2 hb2 hb3 H1 H2
  go_wp2_with fail
  generalize w2.alloc (.cells #[.int .i64 dn, .slice A2 m2 c2] 24) = w3 at *
  generalize w2.heap.size = t1 at *
  refine HD.out.mono ?_
  rintro e w4 ⟨A4, m4, c4, rfl, hx4, hb4⟩
  have hb5 := hb4.alloc hb4.size (.cells #[.int .i64 dn, .slice A4 m4 c4] 24)
  have hHB5 := Below.then HB3.out hb5 (Nat.le_refl _)
  have HB5 := Lib.hid hHB5
  have HT5 := Lib.hid (HT3.out.go hb5)
  have HX5 := Lib.hid (HX3.out.go hb5)
  have HU5 := Lib.hid (TyB.new (w := w4) (n := dn) (A := A4) (m := m4) (c := c4))
  have HY5 := Lib.hid (hx4.go ((Below.refl w4.heap.size w4).alloc (Nat.le_refl _) (.cells #[.int .i64 dn, .slice A4 m4 c4] 24)))
  have HS := Lib.hid (sameType_any dn dn _ _ _ _ _ _ _ _ _ HX5.out HY5.out)
  rw [eqT_self] at HS
  have c0 := HT5.out.cell0
  have c1 := HT5.out.cell1
  have d0 := HU5.out.cell0
  have d1 := HU5.out.cell1
  clear hx4 hb4 hb5 hHB5 HD HB3 HX3 HT3
  go_wp2_with fail
  refine HS.out.mono ?_
  rintro e w6 ⟨rfl, hb6⟩
  have HB6 := Lib.hid (Below.then HB5.out hb6 (Nat.le_refl _))
  clear hb6 HS c0 c1 d0 d1
  go_wp2
  go_ret
  exact ⟨rfl, HB6.out⟩
end Go.Proofs.Ytebbnkjjebfgeaa
