/-
  Contracts of the functions that read a number: the reference's and package typecode's. Conditions: the bytes are bytes, at most a million.
-/
import Derived.Test.YtebbnkjjebfgeaaTce
namespace Go.Proofs.Ytebbnkjjebfgeaa
open Go.ChangeShapes Go.WideShapes Go.RowKit
set_option linter.unusedVariables false
set_option maxHeartbeats 4000000
set_option maxRecDepth 100000

/-- What a reader of a number at a place returns: the number, the place, the error. -/
def smX (b : List Int) (p : Nat) : Int := if rnE b p = 0 then rnX b p else 0
def smA (b : List Int) (p : Nat) : Int := if rnE b p = 0 then rnA b p else 0
def SmE (w : World) (b : List Int) (p : Nat) (e : Ending) (w' : World) : Prop := e = .returned (.tuple #[.int .i64 (smX b p), .int .i64 (smA b p), .int .i64 (rnE b p)]) ∧ w = w'
theorem smE_ok {w : World} {b : List Int} {p : Nat} {x k : Int} (h : rdE (b.drop p) = 0) (hx : rdX (b.drop p) = x) (hk : rdK (b.drop p) = k) (h0 : 0 ≤ k) (h1 : ¬ 65536 < x) : SmE w b p (.returned (.tuple #[.int .i64 x, .int .i64 (p + k), .int .i64 0])) w := by
  have e : rnE b p = 0 := by unfold rnE; rw [if_pos h, hx, if_neg h1]
  refine ⟨?_, rfl⟩
  unfold smX smA
  rw [if_pos e, if_pos e, e]
  unfold rnX rnA
  rw [hx, hk]
  congr
  omega
theorem smE_big {w : World} {b : List Int} {p : Nat} (h : rdE (b.drop p) = 0) (h1 : 65536 < rdX (b.drop p)) : SmE w b p (.returned (.tuple #[.int .i64 0, .int .i64 0, .int .i64 4])) w := by
  have e : rnE b p = 4 := by unfold rnE; rw [if_pos h, if_pos h1]
  refine ⟨?_, rfl⟩
  unfold smX smA
  rw [if_neg (by omega), if_neg (by omega), e]
theorem smE_bad {w : World} {b : List Int} {p : Nat} {e : Int} (h : rdE (b.drop p) = e) (h0 : e ≠ 0) : SmE w b p (.returned (.tuple #[.int .i64 0, .int .i64 0, .int .i64 e])) w := by
  have e : rnE b p = e := by unfold rnE; rw [if_neg (by omega), h]
  refine ⟨?_, rfl⟩
  unfold smX smA
  rw [if_neg (by omega), if_neg (by omega), e]
theorem smallR_any (A : Option Addr) (n c p : Nat) (l : List Int) (w : World) (h : Bts w w.heap.size A n c l) (hs : Small l) (hn : n ≤ 1000000) (hp : p ≤ n) :
    Calls Try.prog 30 #[.slice A n c, .int .i64 p, .int .u64 65536] w (SmE w l p) := by
  have hcap := h.cap
  have hsm := h.small
  unfold maxLen at hsm
  have hl := h.len
  obtain ⟨x0, x1, k0, k1, k2⟩ := rd_bd (hs.drop p)
  have HD := Lib.hid (uintR_any _ _ _ _ w (h.drop (k := p) hp) (hs.drop p) (by omega))
  rw [List.length_drop, hl] at k1
  have HOK := Lib.hid (fun x k h1 h2 h3 h4 h5 => smE_ok (w := w) (b := l) (p := p) (x := x) (k := k) h1 h2 h3 h4 h5)
  have HBG := Lib.hid (fun h1 h2 => smE_big (w := w) (b := l) (p := p) h1 h2)
  have HBD := Lib.hid (fun e h1 h2 => smE_bad (w := w) (b := l) (p := p) (e := e) h1 h2)
  unfold GotU at HD
  generalize rdX (l.drop p) = x at *
  generalize rdK (l.drop p) = k at *
  generalize rdE (l.drop p) = er at *
  obtain ⟨K, rfl⟩ := Int.eq_ofNat_of_zero_le k0
  have HW : Hid (∃ A2 n2 c2, (Calls Try.prog 39 #[.slice A2 n2 c2] w fun e w' => e = .returned (.tuple #[.int .u64 x, .int .i64 (K : Int), .int .i64 er]) ∧ w = w') ∧
      ((c = p ∧ n2 = 0 ∧ c2 = 0 ∧ A2 = A) ∨ (p < c ∧ n2 = n - p ∧ c2 = c - p ∧ ∃ ad, A = some ad ∧ A2 = some (ad.add p)))) := Lib.hid (by
    by_cases hck : c = p
    · rw [if_pos hck] at HD
      exact ⟨_, _, _, HD.out, .inl ⟨hck, by omega, by omega, rfl⟩⟩
    · rw [if_neg hck] at HD
      refine ⟨_, _, _, HD.out, .inr ⟨by omega, rfl, rfl, ?_⟩⟩
      cases A with
      | none => have := h.nil rfl; omega
      | some ad => exact ⟨ad, rfl, rfl⟩)
  clear HD h hs hl
  obtain ⟨A2, n2, c2, HU0, hw⟩ := HW.out
  have HU := Lib.hid HU0
  clear HU0 HW
  rcases hw with ⟨rfl, rfl, rfl, rfl⟩ | ⟨hcp, rfl, rfl, ad, rfl, rfl⟩
  · obtain rfl : n = c := by omega
    by_cases hz : er = 0
    · subst hz
      by_cases hb : 65536 < x
      · have HR := Lib.hid (HBG.out rfl hb)
        go_enter Try.func30, Try.ntmps30
        go_wp2_with fail
        refine HU.out.mono ?_
        rintro e w' ⟨rfl, rfl⟩
        go_wp2
        go_ret3
        exact HR.out
      · have HR := Lib.hid (HOK.out x K rfl rfl rfl k0 hb)
        go_enter Try.func30, Try.ntmps30
        go_wp2_with fail
        refine HU.out.mono ?_
        rintro e w' ⟨rfl, rfl⟩
        go_wp2
        go_ret3
        exact HR.out
    · have d1 : (er != 0) = true := by simpa using hz
      have HR := Lib.hid (HBD.out er rfl hz)
      go_enter Try.func30, Try.ntmps30
      go_wp2_with fail
      refine HU.out.mono ?_
      rintro e w' ⟨rfl, rfl⟩
      go_wp2
      go_ret3
      exact HR.out
  · by_cases hz : er = 0
    · subst hz
      by_cases hb : 65536 < x
      · have HR := Lib.hid (HBG.out rfl hb)
        go_enter Try.func30, Try.ntmps30
        go_wp2_with fail
        refine HU.out.mono ?_
        rintro e w' ⟨rfl, rfl⟩
        go_wp2
        go_ret3
        exact HR.out
      · have HR := Lib.hid (HOK.out x K rfl rfl rfl k0 hb)
        go_enter Try.func30, Try.ntmps30
        go_wp2_with fail
        refine HU.out.mono ?_
        rintro e w' ⟨rfl, rfl⟩
        go_wp2
        go_ret3
        exact HR.out
    · have d1 : (er != 0) = true := by simpa using hz
      have HR := Lib.hid (HBD.out er rfl hz)
      go_enter Try.func30, Try.ntmps30
      go_wp2_with fail
      refine HU.out.mono ?_
      rintro e w' ⟨rfl, rfl⟩
      go_wp2
      go_ret3
      exact HR.out
end Go.Proofs.Ytebbnkjjebfgeaa
