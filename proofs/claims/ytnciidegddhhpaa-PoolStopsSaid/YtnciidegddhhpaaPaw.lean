/-
  Contract of the laws' check of the chapter's example. No conditions.
-/
import Derived.Test.YtnciidegddhhpaaPst
import Derived.Test.YtnciidegddhhpaaPit
namespace Go.Proofs.Ytnciidegddhhpaa
open Go.ChangeShapes Go.WideShapes Go.RowKit
set_option linter.unusedVariables false
set_option maxHeartbeats 4000000
set_option maxRecDepth 100000

/-- What a pool of a colour writes lies above a bound below which nothing has the colour. -/
theorem rc_below {c : Nat → Nat} {k n : Nat} {w w' : World} {B : Nat} (h : Kept (rc c n k) k w w') (hc : ∀ g, g < B → c g ≠ k) (hB : B ≤ n) (hw : B ≤ w.heap.size) : Below B w w' :=
  h.below (fun g hg => by rw [rc_old (by omega)]; exact hc g hg) hw
theorem awake11_any (w : World) : Calls Try.prog 8 #[] w fun e w' => e = .returned (.bool true) ∧ Below w.heap.size w w' := by
  have hb1 : Below w.heap.size w (w.alloc (.cells #[.string ⟨#[97]⟩, .string ⟨#[98]⟩, .string ⟨#[99]⟩] 9)) := (Below.refl _ _).alloc (Nat.le_refl _) _
  have HB1 := Lib.hid hb1
  have hk : Kws str1 (w.alloc (.cells #[.string ⟨#[97]⟩, .string ⟨#[98]⟩, .string ⟨#[99]⟩] 9)) (w.alloc (.cells #[.string ⟨#[97]⟩, .string ⟨#[98]⟩, .string ⟨#[99]⟩] 9)).heap.size (some ⟨w.heap.size, 0, none⟩) 3 3 [⟨#[97]⟩, ⟨#[98]⟩, ⟨#[99]⟩] := by
    have e := Kws.new (E := str1) w [⟨#[97]⟩, ⟨#[98]⟩, ⟨#[99]⟩] #[.string ⟨#[97]⟩, .string ⟨#[98]⟩, .string ⟨#[99]⟩] 9 3 rfl rfl (by unfold maxLen; omega)
    exact e.more (by simp)
  have HN := Lib.hid (newS_any _ 3 3 _ _ hk (by omega) (fun _ => 0) 1)
  have hz1 : (w.alloc (.cells #[.string ⟨#[97]⟩, .string ⟨#[98]⟩, .string ⟨#[99]⟩] 9)).heap.size = w.heap.size + 1 := by simp
  have hx : tkX (⟨#[]⟩ : ByteArray) [⟨#[97]⟩, ⟨#[98]⟩, ⟨#[99]⟩] 4 = ⟨#[98]⟩ := rfl
  have hl : tkL (⟨#[]⟩ : ByteArray) [⟨#[97]⟩, ⟨#[98]⟩, ⟨#[99]⟩] 4 = [⟨#[97]⟩, ⟨#[99]⟩] := rfl
  have HXL := Lib.hid (And.intro hx hl)
  clear hb1 hk hx hl
  go_enter Try.func8, Try.ntmps8
  go_wp2_with fail
  generalize w.alloc (.cells #[.string ⟨#[97]⟩, .string ⟨#[98]⟩, .string ⟨#[99]⟩] 9) = w1 at *
  refine HN.out.mono ?_
  rintro e w2 ⟨p, rfl, hp, hP, hb2⟩
  have HT := Lib.hid (takeS_any w2 _ 1 p _ 4 hP (by simp) (by omega))
  have HB2 := Lib.hid (Below.then HB1.out hb2 (by omega))
  have hs2 := hb2.size
  clear hP hb2 HN
  unfold TkS at HT
  rw [HXL.out.1, HXL.out.2] at HT
  go_wp2_with fail
  refine HT.out.mono ?_
  rintro e w3 ⟨rfl, hP3, hk3, _⟩
  have HB3 : Hid (Below w.heap.size w w3) := Lib.hid (HB2.out.trans (rc_below hk3 (fun _ _ => by omega) (by omega) HB2.out.size))
  have HL := Lib.hid (lenS_any w3 _ 1 p _ hP3)
  clear hP3 hk3 HT
  go_wp2_with fail
  refine HL.out.mono ?_
  rintro e w4 ⟨rfl, rfl⟩
  go_wp2
  go_ret
  exact ⟨rfl, HB3.out⟩
end Go.Proofs.Ytnciidegddhhpaa
