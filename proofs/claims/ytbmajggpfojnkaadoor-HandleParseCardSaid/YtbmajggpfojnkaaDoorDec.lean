/-
  Contracts of the reference functions Dec and FormatHandle. Conditions: words are numbers from 0 up to 2^64 - 1.
-/
import Derived.Test.YtbmajggpfojnkaaDoorParse
import Derived.Laws.Cover4
namespace Go.Proofs.YtbmajggpfojnkaaDoor
open Go.ChangeShapes Go.WideShapes Go.ChangeAt Go.RowKit
set_option maxRecDepth 100000
set_option maxHeartbeats 1000000
theorem enc_ascii (x : Int) (h0 : 0 ≤ x) (h1 : x < 128) : Utf8.encode x = ⟨[UInt8.ofNat x.toNat].toArray⟩ := by
  have hv : Utf8.valid x = true := by unfold Utf8.valid; simp; omega
  unfold Utf8.encode
  rw [hv, if_pos rfl]
  have : x.toNat < 0x80 := by omega
  simp only [if_pos this]
theorem digits_step (m : Nat) (h : 10 ≤ m) : Lib.decDigits m = Lib.decDigits (m / 10) ++ [UInt8.ofNat (48 + m % 10)] := by
  conv => lhs; rw [Lib.decDigits, dif_neg (by omega)]
theorem dec_any (n : Nat) (hn : n < 4294967296) (w : World) :
    Calls Tryd.prog 29 #[.int .u64 n] w fun e w' => e = .returned (.string ⟨(Lib.decDigits n).toArray⟩) ∧ w = w' := by
  have hlen := digits_len n hn
  go_enter Tryd.func29, Tryd.ntmps29
  go_wp2
  go_loop [0, 3] (fun vn vs => ∃ (m : Nat) (acc : List UInt8), m ≤ n ∧ vn = .int .u64 m ∧ vs = .string ⟨acc.toArray⟩ ∧ Hid (Lib.decDigits n = Lib.decDigits m ++ acc)) (fun vn _ => (intOf vn).toNat)
  case atStart => exact ⟨n, [], Nat.le_refl _, rfl, rfl, Lib.hid (by simp)⟩
  case round =>
    obtain ⟨m, acc, hm, rfl, rfl, hh⟩ := hrel
    have hl2 : acc.length ≤ 10 := by
      have := congrArg List.length hh.out
      rw [List.length_append] at this; omega
    by_cases h10 : 10 ≤ m
    · go_wp2
      all_goals try (exfalso; have hz := encode_size_le (48 + (m : Int) % 10); omega)
      refine ⟨⟨m / 10, UInt8.ofNat (48 + m % 10) :: acc, by omega, by congr 1, ?_, Lib.hid ?_⟩, by simp [intOf]; omega⟩
      · rw [enc_ascii _ (by omega) (by omega), ba_append]
        rw [show (48 + (m : Int) % 10).toNat = 48 + m % 10 by omega]
        rfl
      · rw [hh.out, digits_step m h10]
        simp
    · go_wp2
      all_goals try (exfalso; have hz := encode_size_le (48 + (m : Int)); omega)
      go_ret
      refine ⟨ret_str ?_, rfl⟩
      rw [enc_ascii _ (by omega) (by omega), ba_append, hh.out, Lib.decDigits_one (by omega)]
      rw [show (48 + (m : Int)).toNat = 48 + m by omega]
theorem formatR_any (x : Int) (h0 : 0 ≤ x) (h1 : x < 18446744073709551616) (w : World) :
    Calls Tryd.prog 22 #[.int .u64 x] w fun e w' => e = .returned (.string ⟨(fmtP (x % 16777216).toNat (x / 16777216 % 4294967296).toNat (x / 72057594037927936).toNat).toArray⟩) ∧ w = w' := by
  have HS := Lib.hid (slotR_any x h0 h1)
  have HG := Lib.hid (genR_any x h0 h1)
  have HT := Lib.hid (tagR_any x h0 h1)
  obtain ⟨a, ha, a1⟩ : ∃ a : Nat, x % 16777216 = a ∧ a < 4294967296 := ⟨(x % 16777216).toNat, by omega, by omega⟩
  obtain ⟨b, hb, b1⟩ : ∃ b : Nat, x / 16777216 % 4294967296 = b ∧ b < 4294967296 := ⟨(x / 16777216 % 4294967296).toNat, by omega, by omega⟩
  obtain ⟨c, hc, c1⟩ : ∃ c : Nat, x / 72057594037927936 = c ∧ c < 4294967296 := ⟨(x / 72057594037927936).toNat, by omega, by omega⟩
  rw [ha, hb, hc]
  rw [ha] at HS
  rw [hb] at HG
  rw [hc] at HT
  clear ha hb hc
  simp only [Int.toNat_natCast]
  have la := digits_len a a1
  have lb := digits_len b b1
  have lc := digits_len c c1
  unfold fmtP
  have HA := Lib.hid (dec_any a a1)
  have HB := Lib.hid (dec_any b b1)
  have HC := Lib.hid (dec_any c c1)
  generalize Lib.decDigits a = la' at *
  generalize Lib.decDigits b = lb' at *
  generalize Lib.decDigits c = lc' at *
  go_enter Tryd.func22, Tryd.ntmps22
  go_wp2_with fail
  refine (HS.out _).mono ?_
  rintro e w' ⟨rfl, rfl⟩
  go_wp2_with fail
  refine (HA.out _).mono ?_
  rintro e w' ⟨rfl, rfl⟩
  go_wp2_with fail
  refine (HG.out _).mono ?_
  rintro e w' ⟨rfl, rfl⟩
  go_wp2_with fail
  refine (HB.out _).mono ?_
  rintro e w' ⟨rfl, rfl⟩
  go_wp2_with fail
  refine (HT.out _).mono ?_
  rintro e w' ⟨rfl, rfl⟩
  go_wp2_with fail
  refine (HC.out _).mono ?_
  rintro e w' ⟨rfl, rfl⟩
  go_wp2
  go_ret
  refine ⟨ret_str ?_, rfl⟩
  rw [show (⟨#[47]⟩ : ByteArray) = ⟨[47].toArray⟩ from rfl]
  simp only [ba_append]
  simp
end Go.Proofs.YtbmajggpfojnkaaDoor
