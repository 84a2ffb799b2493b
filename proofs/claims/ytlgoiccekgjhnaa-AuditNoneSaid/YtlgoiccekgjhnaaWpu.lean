/-
  Contracts of the functions that write numbers and byte strings, of package wire and of the reference: what they return lies in new memory and holds what came in followed by the encoding; nothing that was there changes. Conditions: lengths of at most some millions.
-/
import Derived.Test.YtlgoiccekgjhnaaRows
import Derived.Test.YtlgoiccekgjhnaaBts
import Derived.Test.YtlgoiccekgjhnaaLeb
import Derived.WalkKit
import Derived.ProofKit
import Derived.Outline
import Derived.WalkLawsBesides
import Derived.WalkSpells
import Derived.Lib.Hide
namespace Go.Proofs.Ytlgoiccekgjhnaa
open Go.ChangeShapes Go.WideShapes Go.ChangeAt Go.RowKit
set_option maxHeartbeats 400000
set_option maxRecDepth 100000

theorem info8 : (Try.prog.info? 5).map (fun i => (i.zero, i.size, i.bytes)) = some (some (.int .u8 0), 1, 1) := by kernel_rfl

/-- What a function that makes a new slice of bytes says. -/
def Made (w : World) (l : List Int) (e : Ending) (w' : World) : Prop := ∃ v, e = .returned v ∧ OwnB w' w.heap.size v l ∧ Below w.heap.size w w'

theorem copyWithRoom_any (A : Option Addr) (n c : Nat) (l : List Int) (r : Nat) (w : World) (h : Bts w w.heap.size A n c l) (hn : n ≤ 1000000) (hr : r ≤ 1000000) :
    Calls Try.prog 75 #[.slice A n c, .int .i64 r] w (Made w l) := by
  obtain ⟨i0, hi, hz0, hz1, hz2⟩ := info_parts info8
  have HB := Lib.hid h
  clear h
  go_enter Try.func75, Try.ntmps75
  go_wp2_with (first
    | (at_make; refine wpList_make_own _ rfl _ _ 52 rfl w.heap.size 5 i0 _ 1 Try.underlying52 hi hz0 hz1 _ _ _ (n + r) rfl rfl (by omega) (by rw [hz2]; omega) (by unfold maxLen; omega) (Nat.le_refl _) ?_
       intro w1 hown hg
       have hb1 : Below w.heap.size w w1 := (Below.refl _ _).grown hg (Nat.le_refl _) (by simp)
       have ho1 : OwnB w1 w.heap.size (.slice (some ⟨w.heap.size, 0, none⟩) 0 (n + r)) [] := hown
       clear hown hg)
    | (at_builtin; refine wpList_appB _ rfl (.tmp 9) (.tmp 10) 52 rfl rfl Try.underlying52 hi hz0 hz1 hz2 ho1 rfl (HB.out.below hb1) rfl (by simp; omega) hb1.size ?_
       intro v2 w2 ho2 hb2))
  go_ret
  exact ⟨_, rfl, by simpa using ho2, hb1.trans hb2⟩

/-- What a function that writes on into a row of the call's own says. -/
def Writes (w : World) (base : Nat) (l : List Int) (e : Ending) (w' : World) : Prop := ∃ v, e = .returned v ∧ OwnB w' base v l ∧ Below base w w'

/-- The bytes that the two functions write. -/
theorem byte_more (x : Int) (h0 : 0 ≤ x) (h1 : x < 18446744073709551616) (hb : 128 ≤ x) : enc x.toNat = (x % 128 + 128) :: enc (x / 128).toNat := by
  rw [enc_big (by omega)]
  have e1 : ((x.toNat % 128 + 128 : Nat) : Int) = x % 128 + 128 := by omega
  have e2 : x.toNat / 128 = (x / 128).toNat := by omega
  rw [e1, e2]
theorem byte_last (x : Int) (h0 : 0 ≤ x) (hb : x < 128) : enc x.toNat = [x] := by
  rw [enc_small (by omega)]
  simp [Int.toNat_of_nonneg h0]

theorem appendUint_any (v : Value) (xs : List Int) (x : Int) (base : Nat) (w : World) (ho : OwnB w base v xs) (hb : base ≤ w.heap.size) (h0 : 0 ≤ x) (h1 : x < 18446744073709551616) (hn : xs.length ≤ 3000000) :
    Calls Try.prog 74 #[v, .int .u64 x] w (Writes w base (xs ++ enc x.toNat)) := by
  obtain ⟨i0, hi, hz0, hz1, hz2⟩ := info_parts info8
  have HX := Lib.hid ho
  clear ho
  go_enter Try.func74, Try.ntmps74
  go_wp2
  go_loopw [0, 1] (fun v nv wr => ∃ (ys : List Int) (y : Int), nv = .int .u64 y ∧ 0 ≤ y ∧ y ≤ x ∧ Hid (OwnB wr base v ys ∧ Below base w wr ∧ xs ++ enc x.toNat = ys ++ enc y.toNat))
    (fun _ nv _ => (intOf nv).toNat)
  case atStart => exact ⟨xs, x, rfl, h0, by omega, Lib.hid ⟨HX.out, Below.refl _ _, rfl⟩⟩
  case round =>
    obtain ⟨ys, y, rfl, hy0, hyx, hh⟩ := hrel
    have hlen : ys.length ≤ 3000010 := by
      have h2 := congrArg List.length hh.out.2.2
      have h3 := enc_len10 (n := x.toNat) (by omega)
      simp only [List.length_append] at h2
      omega
    by_cases hbig : 127 < y
    · obtain ⟨HO, hbw, heq⟩ := hh.out
      have HE := Lib.hid heq
      clear heq hh
      go_wp2_with (first
        | (at_builtin; go_must (refine wpList_appB _ rfl (.tmp 7) (.tmp 12) 52 rfl rfl Try.underlying52 hi hz0 hz1 hz2 (HO.alloc _) rfl (Bts.new wr [_] _ _ rfl (by unfold maxLen; simp)) rfl (by simp; omega) (by have := hbw.size; simp; omega) ?_)
           intro v2 w2 ho2 hb2))
      have hz : bits BinOp.or IntKind.u8 (bits BinOp.and IntKind.u64 y 127 % 256) 128 = y % 128 + 128 := more_byte y hy0 (by omega)
      rw [hz] at ho2 hb2
      refine ⟨⟨_, y / 128, rfl, by omega, by omega, Lib.hid ⟨ho2, ?_, ?_⟩⟩, by simp [intOf]; omega⟩
      · exact (hbw.alloc (Nat.le_trans hb hbw.size) _).trans hb2
      · rw [HE.out, byte_more y hy0 (by omega) (by omega)]
        simp
    · obtain ⟨HO, hbw, heq⟩ := hh.out
      have HE := Lib.hid heq
      have hm : y % 256 = y := by omega
      clear heq hh
      go_wp2_with (first
        | (at_builtin; go_must (refine wpList_appB _ rfl (.tmp 16) (.tmp 19) 52 rfl rfl Try.underlying52 hi hz0 hz1 hz2 (HO.alloc _) rfl (Bts.new wr [_] _ _ rfl (by unfold maxLen; simp)) rfl (by simp; omega) (by have := hbw.size; simp; omega) ?_)
           intro v2 w2 ho2 hb2))
      go_ret
      refine ⟨_, rfl, ?_, (hbw.alloc (Nat.le_trans hb hbw.size) _).trans hb2⟩
      rw [HE.out, byte_last y hy0 (by omega)]
      exact ho2

theorem putUint_any (A : Option Addr) (n c : Nat) (l : List Int) (x : Int) (w : World) (h : Bts w w.heap.size A n c l) (hn : n ≤ 1000000) (h0 : 0 ≤ x) (h1 : x < 18446744073709551616) :
    Calls Try.prog 64 #[.slice A n c, .int .u64 x] w (Made w (l ++ enc x.toNat)) := by
  have HB := Lib.hid h
  have hlen := h.len
  have HC := Lib.hid (copyWithRoom_any A n c l 10 w h hn (by omega))
  clear h
  go_enter Try.func64, Try.ntmps64
  go_wp2_with fail
  refine HC.out.mono ?_
  rintro e w1 ⟨v1, rfl, ho1, hb1⟩
  have hz := hb1.size
  go_wp2_with fail
  refine (appendUint_any v1 l x w.heap.size w1 ho1 hz h0 h1 (by omega)).mono ?_
  rintro e w2 ⟨v2, rfl, ho2, hb2⟩
  go_wp2
  go_ret
  exact ⟨_, rfl, ho2, hb1.trans hb2⟩

theorem putUintR_any (A : Option Addr) (n c : Nat) (l : List Int) (x : Int) (w : World) (h : Bts w w.heap.size A n c l) (hn : n ≤ 1000000) (h0 : 0 ≤ x) (h1 : x < 18446744073709551616) :
    Calls Try.prog 60 #[.slice A n c, .int .u64 x] w (Made w (l ++ enc x.toNat)) := by
  obtain ⟨i0, hi, hz0, hz1, hz2⟩ := info_parts info8
  have HB := Lib.hid h
  have hlen := h.len
  clear h
  go_enter Try.func60, Try.ntmps60
  go_wp2_with (first
    | (at_builtin; go_must (refine wpList_appB _ rfl (.tmp 6) (.tmp 7) 52 rfl rfl Try.underlying52 hi hz0 hz1 hz2 (base := w.heap.size) (xs := []) (World.ownsRow_lit w #[] 0 (Nat.le_refl _) (Nat.zero_le _) rfl) rfl (HB.out.alloc _) rfl (by simp; omega) (by simp) ?_)
       intro v2 w2 ho2 hb2))
  have HX := Lib.hid (show OwnB w2 w.heap.size v2 l by simpa using ho2)
  have hb1 : Below w.heap.size w w2 := ((Below.refl _ _).alloc (Nat.le_refl _) _).trans hb2
  clear ho2 hb2
  go_loopw [5, 1] (fun v nv wr => ∃ (ys : List Int) (y : Int), nv = .int .u64 y ∧ 0 ≤ y ∧ y ≤ x ∧ Hid (OwnB wr w.heap.size v ys ∧ Below w.heap.size w wr ∧ l ++ enc x.toNat = ys ++ enc y.toNat))
    (fun _ nv _ => (intOf nv).toNat)
  case atStart => exact ⟨l, x, rfl, h0, by omega, Lib.hid ⟨HX.out, hb1, rfl⟩⟩
  case round =>
    clear hb1 HX
    obtain ⟨ys, y, rfl, hy0, hyx, hh⟩ := hrel
    have hlen : ys.length ≤ 3000010 := by
      have h2 := congrArg List.length hh.out.2.2
      have h3 := enc_len10 (n := x.toNat) (by omega)
      simp only [List.length_append] at h2
      omega
    obtain ⟨HO, hbw, heq⟩ := hh.out
    have HE := Lib.hid heq
    clear heq hh
    by_cases hbig : 128 ≤ y
    · go_wp2_with (first
        | (at_builtin; go_must (refine wpList_appB _ rfl (.tmp 11) (.tmp 16) 52 rfl rfl Try.underlying52 hi hz0 hz1 hz2 (HO.alloc _) rfl (Bts.new wr [_] _ _ rfl (by unfold maxLen; simp)) rfl (by simp; omega) (by have := hbw.size; simp; omega) ?_)
           intro v2 w2 ho2 hb2))
      refine ⟨⟨_, y / 128, rfl, by omega, by omega, Lib.hid ⟨ho2, ?_, ?_⟩⟩, by simp [intOf]; omega⟩
      · exact (hbw.alloc hbw.size _).trans hb2
      · rw [HE.out, byte_more y hy0 (by omega) (by omega)]
        simp
    · have hm : y % 256 = y := by omega
      go_wp2_with (first
        | (at_builtin; go_must (refine wpList_appB _ rfl (.tmp 20) (.tmp 23) 52 rfl rfl Try.underlying52 hi hz0 hz1 hz2 (HO.alloc _) rfl (Bts.new wr [_] _ _ rfl (by unfold maxLen; simp)) rfl (by simp; omega) (by have := hbw.size; simp; omega) ?_)
           intro v2 w2 ho2 hb2))
      go_ret
      refine ⟨_, rfl, ?_, (hbw.alloc hbw.size _).trans hb2⟩
      rw [HE.out, byte_last y hy0 (by omega)]
      exact ho2

theorem putBytes_any (A : Option Addr) (n c : Nat) (l : List Int) (A2 : Option Addr) (n2 c2 : Nat) (s : List Int) (w : World) (h : Bts w w.heap.size A n c l) (h2 : Bts w w.heap.size A2 n2 c2 s) (hn : n ≤ 1000000) (hn2 : n2 ≤ 100000) :
    Calls Try.prog 59 #[.slice A n c, .slice A2 n2 c2] w (Made w (l ++ encB s)) := by
  obtain ⟨i0, hi, hz0, hz1, hz2⟩ := info_parts info8
  have HB := Lib.hid h
  have HB2 := Lib.hid h2
  have hlen := h.len
  have hlen2 := h2.len
  have HC := Lib.hid (copyWithRoom_any A n c l (10 + n2) w h hn (by omega))
  have hl3 := enc_len10 (n := n2) (by omega)
  have HE : Hid (l ++ encB s = (l ++ enc n2) ++ s) := Lib.hid (by simp [encB, hlen2])
  clear h h2
  go_enter Try.func59, Try.ntmps59
  go_wp2_with fail
  refine HC.out.mono ?_
  rintro e w1 ⟨v1, rfl, ho1, hb1⟩
  have hz := hb1.size
  go_wp2_with fail
  refine (appendUint_any v1 l n2 w.heap.size w1 ho1 hz (by omega) (by omega) (by omega)).mono ?_
  rintro e w2 ⟨v2, rfl, ho2, hb2⟩
  have hb12 := hb1.trans hb2
  have ho3 : OwnB w2 w.heap.size v2 (l ++ enc n2) := ho2
  clear ho1 hb1 hb2 ho2
  go_wp2_with (first
    | (at_builtin; go_must (refine wpList_appB _ rfl (.tmp 15) (.tmp 16) 52 rfl rfl Try.underlying52 hi hz0 hz1 hz2 ho3 rfl (HB2.out.below hb12) rfl (by simp; omega) hb12.size ?_)
       intro v4 w4 ho4 hb4))
  go_ret
  refine ⟨_, rfl, ?_, hb12.trans hb4⟩
  rw [HE.out]
  exact ho4

theorem putBytesR_any (A : Option Addr) (n c : Nat) (l : List Int) (A2 : Option Addr) (n2 c2 : Nat) (s : List Int) (w : World) (h : Bts w w.heap.size A n c l) (h2 : Bts w w.heap.size A2 n2 c2 s) (hn : n ≤ 1000000) (hn2 : n2 ≤ 100000) :
    Calls Try.prog 28 #[.slice A n c, .slice A2 n2 c2] w (Made w (l ++ encB s)) := by
  obtain ⟨i0, hi, hz0, hz1, hz2⟩ := info_parts info8
  have HB2 := Lib.hid h2
  have hlen := h.len
  have hlen2 := h2.len
  have HC := Lib.hid (putUintR_any A n c l n2 w h hn (by omega) (by omega))
  have hl3 := enc_len10 (n := n2) (by omega)
  have HE : Hid (l ++ encB s = (l ++ enc n2) ++ s) := Lib.hid (by simp [encB, hlen2])
  clear h h2
  go_enter Try.func28, Try.ntmps28
  go_wp2_with fail
  refine HC.out.mono ?_
  rintro e w1 ⟨v1, rfl, ho1, hb1⟩
  have ho3 : OwnB w1 w.heap.size v1 (l ++ enc n2) := ho1
  clear ho1
  go_wp2_with (first
    | (at_builtin; go_must (refine wpList_appB _ rfl (.tmp 9) (.tmp 10) 52 rfl rfl Try.underlying52 hi hz0 hz1 hz2 ho3 rfl (HB2.out.below hb1) rfl (by simp; omega) hb1.size ?_)
       intro v4 w4 ho4 hb4))
  go_ret
  refine ⟨_, rfl, ?_, hb1.trans hb4⟩
  rw [HE.out]
  exact ho4
end Go.Proofs.Ytlgoiccekgjhnaa
