/-
  The examples of the chapter on numbers and byte strings hold, and reading agrees with the reference for any bytes. Conditions: the slice holds bytes and has a length of at most a million.
-/
import Derived.Test.YtjhlglckdbjgcaaGetB
namespace Go.Proofs.Ytjhlglckdbjgcaa
open Go.ChangeShapes Go.WideShapes Go.ChangeAt Go.RowKit
set_option maxHeartbeats 400000
set_option maxRecDepth 100000

theorem text_run {w : World} {B : Nat} {A : Option Addr} {n c : Nat} {l : List Int} (h : Byt w B A n c l) :
    (convert 22 9 (.slice A n c)).run Try.prog w = .ok (.string (strOfNums l)) w :=
  h.text _ _ _ Try.underlying22 Try.underlying5 Try.underlying9

theorem text_as {w : World} {B : Nat} {A : Option Addr} {n c : Nat} {l : List Int} {T : ByteArray} (h : Byt w B A n c l) (hT : Hid (strOfNums l = T)) :
    (convert 22 9 (.slice A n c)).run Try.prog w = .ok (.string T) w := by
  rw [← hT.out]
  exact text_run h

/-- What a check says. -/
def Yes (w : World) (e : Ending) (w' : World) : Prop := e = .returned (.bool true) ∧ Below w.heap.size w w'

theorem enc300 : enc 300 = [172, 2] := by
  rw [enc_big (by omega), enc_small (by omega)]
  rfl
theorem rd128_0 : Rd [128, 0] 0 0 3 := ⟨by decide, by decide, by decide⟩
theorem rd128 : Rd [128] 0 0 2 := ⟨by decide, by decide, by decide⟩

theorem awake_any (w : World) : Calls Try.prog 10 #[] w (Yes w) := by
  go_enter Try.func10, Try.ntmps10
  go_wp2_with fail
  refine (putUint_any none 0 0 [] 300 w Byt.none_ (by omega) (by omega) (by omega)).mono ?_
  rintro e w1 ⟨v1, rfl, ho1, hb1⟩
  have e3 : ([] : List Int) ++ enc (300 : Int).toNat = [172, 2] := enc300
  rw [e3] at ho1
  obtain ⟨A1, c1, rfl, hB1⟩ := ho1.form
  have HB1 := Lib.hid hB1
  clear ho1 hB1 e3
  go_wp2_with fail
  refine (uint_any _ _ _ [128, 0] _ (Byt.new w1 [128, 0] _ _ rfl (by unfold maxLen; decide)) (by unfold Small; decide) (by decide)).mono ?_
  rintro e w2 ⟨rfl, rfl⟩
  obtain ⟨q1, q2, q3⟩ := rd128_0
  rw [q1, q2, q3]
  clear q1 q2 q3
  go_wp2_with fail
  have hB2 : Byt ((w1.alloc (.cells #[.int .u8 128, .int .u8 0] 5)).alloc (.cells #[.int .u8 128] 5)) (w1.heap.size + 1 + 1) (some ⟨w1.heap.size + 1, 0, none⟩) 1 1 [128] := by
    have := Byt.new (w1.alloc (.cells #[.int .u8 128, .int .u8 0] 5)) [128] #[.int .u8 128] 5 rfl (by unfold maxLen; decide)
    simpa using this
  refine (uint_any _ _ _ [128] _ hB2 (by unfold Small; decide) (by decide)).mono ?_
  rintro e w2 ⟨rfl, rfl⟩
  obtain ⟨q1, q2, q3⟩ := rd128
  rw [q1, q2, q3]
  clear q1 q2 q3
  have hbw : Below w1.heap.size w1 ((w1.alloc (.cells #[.int .u8 128, .int .u8 0] 5)).alloc (.cells #[.int .u8 128] 5)) := ((Below.refl _ _).alloc (Nat.le_refl _) _).alloc (by simp) _
  have hcv := text_run (HB1.out.below hbw)
  rw [show strOfNums [172, 2] = ⟨#[172, 2]⟩ from rfl, show ([172, 2] : List Int).length = 2 from rfl] at hcv
  go_wp2
  go_ret
  exact ⟨rfl, hb1.trans (hbw.mono hb1.size)⟩

theorem same_any (A : Option Addr) (n c : Nat) (l : List Int) (w : World) (h : Byt w w.heap.size A n c l) (hs : Small l) (hn : n ≤ 1000000) :
    Calls Try.prog 15 #[.slice A n c] w (Yes w) := by
  have HB := Lib.hid h
  have H1 := Lib.hid (uint_any A n c l w h hs hn)
  have H2 := Lib.hid (uintR_any A n c l w h hs hn)
  have H3 := Lib.hid (bytes_any A n c l w h hs hn)
  have H4 := Lib.hid (fun w1 h1 => bytesR_any A n c l w1 h1 hs hn)
  clear h hs
  unfold GotU at H1 H2
  unfold GotB at H3 H4
  generalize rdX l = x at *
  generalize rdK l = k at *
  generalize rdE l = e at *
  generalize rbK l = bk at *
  generalize rbE l = be at *
  generalize rbS l = bs at *
  go_enter Try.func15, Try.ntmps15
  go_wp2_with fail
  refine H1.out.mono ?_
  rintro e' w' ⟨rfl, rfl⟩
  go_wp2_with fail
  refine H2.out.mono ?_
  rintro e' w' ⟨rfl, rfl⟩
  go_wp2_with fail
  refine H3.out.mono ?_
  rintro e' w1 ⟨v1, rfl, ho1, hb1⟩
  have HO1 := Lib.hid ho1
  clear ho1
  go_wp2_with fail
  refine (H4.out w1 (HB.out.go hb1)).mono ?_
  rintro e' w2 ⟨v2, rfl, ho2, hb2⟩
  obtain ⟨A1, c1, rfl, hB1⟩ := HO1.out.form
  obtain ⟨A2, c2, rfl, hB2⟩ := ho2.form
  have hcv1 := text_run (hB1.below hb2)
  have hcv2 := text_run hB2
  generalize bs.length = bl at *
  generalize strOfNums bs = S at *
  have hb3 := hb1.trans (hb2.mono hb1.size)
  clear H1 H2 H3 H4 HB HO1 ho2 hB1 hB2 hb1 hb2
  go_wp2
  go_ret
  exact ⟨rfl, hb3⟩
end Go.Proofs.Ytjhlglckdbjgcaa
