/-
  Contracts of the functions that compute digests of bytes, of package digest and of the reference: what they return is what the plain functions of the text Fnv say. Conditions: the slices hold bytes and have lengths of at most a million.
-/
import Derived.Test.YtlgoiccekgjhnaaFnv
import Derived.Test.YtlgoiccekgjhnaaWge
import Derived.Lib.SlBytesConst
namespace Go.Proofs.Ytlgoiccekgjhnaa
open Go.ChangeShapes Go.WideShapes Go.ChangeAt Go.RowKit
set_option maxHeartbeats 400000
set_option maxRecDepth 100000

theorem info64 : (Try.prog.info? 23).map (fun i => (i.zero, i.size, i.bytes)) = some (some (.int .u64 0), 1, 8) := by kernel_rfl
theorem infoS : (Try.prog.info? 52).map (fun i => (i.zero, i.size, i.bytes)) = some (some (.slice none 0 0), 1, 24) := by kernel_rfl

/-- What a function that computes a number says. -/
def Num (w : World) (x : Int) (e : Ending) (w' : World) : Prop := e = .returned (.int .u64 x) ∧ w = w'

theorem addByte_any (d c : Int) (w : World) (c0 : 0 ≤ c) (c1 : c ≤ 255) :
    Calls Try.prog 78 #[.int .u64 d, .int .u8 c] w (Num w (stp d c)) := by
  go_enter Try.func78, Try.ntmps78
  go_wp2
  go_ret
  exact ⟨rfl, rfl⟩

theorem addBytes_any (d : Int) (A : Option Addr) (n c : Nat) (l : List Int) (w : World) {B : Nat} (h : Row w B A n c (iv .u8 l)) (hf : Fit .u8 l) (hn : n ≤ 1000000) :
    Calls Try.prog 65 #[.int .u64 d, .slice A n c] w (Num w (fnv d l)) := by
  have HB := Lib.hid h
  have HF := Lib.hid hf
  have hcap := h.cap
  have hsm := h.small
  unfold maxLen at hsm
  clear h hf
  go_enter Try.func65, Try.ntmps65
  go_wp2
  go_loop [0, 9] (fun x i => ∃ (k : Nat) (y : Int), k ≤ n ∧ i = .int .i64 k ∧ x = .int .u64 y ∧ Hid (y = fnv d (l.take k))) (fun _ i => n - (intOf i).toNat)
  case atStart => exact ⟨0, d, Nat.zero_le _, rfl, rfl, Lib.hid (by simp [fnv])⟩
  case round =>
    obtain ⟨k, y, hk, rfl, rfl, HY⟩ := hrel
    by_cases hlt : k < n
    · obtain ⟨b, o, rfl, _, hcell⟩ := HB.out.int hlt
      have hkl : k < l.length := by have := HB.out.len; rw [iv_len] at this; omega
      obtain ⟨c0, hc0⟩ : ∃ c0, l.getD k 0 = c0 := ⟨_, rfl⟩
      obtain ⟨b0, b1⟩ := byte_bd (HF.out.at_ (by decide) k)
      have HS : Hid (stp y c0 = fnv d (l.take (k + 1))) := Lib.hid (by rw [fnv_take hkl, ← HY.out, hc0])
      rw [hc0] at hcell b0 b1
      clear hc0
      go_wp2_with fail
      refine (addByte_any y c0 _ b0 b1).mono ?_
      rintro e w' ⟨rfl, rfl⟩
      go_wp2
      go_round
      case rel => exact ⟨k + 1, _, by omega, by go_num, rfl, HS⟩
      case measure => simp [intOf]; omega
    · obtain rfl : k = n := by omega
      have HE : Hid (y = fnv d l) := Lib.hid (by rw [HY.out, List.take_of_length_le (by have := HB.out.len; rw [iv_len] at this; omega)])
      go_wp2
      go_ret
      rw [HE.out]
      exact ⟨rfl, rfl⟩

theorem addWord_any (d x : Int) (w : World) (x0 : 0 ≤ x) (x1 : x < 18446744073709551616) :
    Calls Try.prog 66 #[.int .u64 d, .int .u64 x] w (Num w (fnv d (low 8 x))) := by
  go_enter Try.func66, Try.ntmps66
  go_wp2
  go_loop [0, 1, 5] (fun dv xv i => ∃ (k : Nat) (y z : Int), k ≤ 8 ∧ i = .int .i64 k ∧ dv = .int .u64 y ∧ xv = .int .u64 z ∧ 0 ≤ z ∧ z ≤ x ∧ Hid (fnv d (low 8 x) = fnv y (low (8 - k) z))) (fun _ _ i => 8 - (intOf i).toNat)
  case atStart => exact ⟨0, d, x, by omega, rfl, rfl, rfl, x0, by omega, Lib.hid rfl⟩
  case round =>
    obtain ⟨k, y, z, hk, rfl, rfl, rfl, z0, z1, HY⟩ := hrel
    by_cases hlt : k < 8
    · have HS : Hid (fnv d (low 8 x) = fnv (stp y (z % 256)) (low (8 - (k + 1)) (z / 256))) := Lib.hid (by
        rw [HY.out, show 8 - k = (8 - (k + 1)) + 1 by omega]; rfl)
      go_wp2_with fail
      refine (addByte_any y (z % 256) _ (by omega) (by omega)).mono ?_
      rintro e w' ⟨rfl, rfl⟩
      go_wp2
      go_round
      case rel => exact ⟨k + 1, _, z / 256, by omega, by go_num, rfl, by go_num, by omega, by omega, HS⟩
      case measure => simp [intOf]; omega
    · obtain rfl : k = 8 := by omega
      have HE : Hid (fnv d (low 8 x) = y) := Lib.hid (by rw [HY.out]; rfl)
      go_wp2
      go_ret
      rw [HE.out]
      exact ⟨rfl, rfl⟩

theorem sum_any (A : Option Addr) (n c : Nat) (l : List Int) (w : World) {B : Nat} (h : Row w B A n c (iv .u8 l)) (hf : Fit .u8 l) (hn : n ≤ 1000000) :
    Calls Try.prog 53 #[.slice A n c] w (Num w (fnv start l)) := by
  have H := Lib.hid (addBytes_any start A n c l w h hf hn)
  clear h hf
  unfold start at H
  go_enter Try.func53, Try.ntmps53
  go_wp2_with fail
  refine H.out.mono ?_
  rintro e w' ⟨rfl, rfl⟩
  go_wp2
  go_ret
  exact ⟨rfl, rfl⟩

theorem chain_any (d : Int) (A : Option Addr) (n c : Nat) (l : List Int) (w : World) {B : Nat} (h : Row w B A n c (iv .u8 l)) (hf : Fit .u8 l) (hn : n ≤ 1000000) (d0 : 0 ≤ d) (d1 : d < 18446744073709551616) :
    Calls Try.prog 40 #[.int .u64 d, .slice A n c] w (Num w (chn d l)) := by
  have H1 := Lib.hid (addWord_any start d w d0 d1)
  have H2 := Lib.hid (addBytes_any (fnv start (low 8 d)) A n c l w h hf hn)
  clear h hf
  rw [show fnv (fnv start (low 8 d)) l = chn d l from rfl] at H2
  generalize chn d l = r at *
  generalize fnv start (low 8 d) = q at *
  unfold start at H1
  go_enter Try.func40, Try.ntmps40
  go_wp2_with fail
  refine H1.out.mono ?_
  rintro e w' ⟨rfl, rfl⟩
  go_wp2_with fail
  refine H2.out.mono ?_
  rintro e w' ⟨rfl, rfl⟩
  go_wp2
  go_ret
  exact ⟨rfl, rfl⟩

theorem sumR_any (A : Option Addr) (n c : Nat) (l : List Int) (w : World) {B : Nat} (h : Row w B A n c (iv .u8 l)) (hf : Fit .u8 l) (hn : n ≤ 1000000) :
    Calls Try.prog 36 #[.slice A n c] w (Num w (fnv start l)) := by
  have HB := Lib.hid h
  have HF := Lib.hid hf
  have hcap := h.cap
  have hsm := h.small
  unfold maxLen at hsm
  clear h hf
  go_enter Try.func36, Try.ntmps36
  go_wp2
  go_loop [3, 4] (fun x i => ∃ (k : Nat) (y : Int), k ≤ n ∧ i = .int .i64 k ∧ x = .int .u64 y ∧ Hid (y = fnv start (l.take k))) (fun _ i => n - (intOf i).toNat)
  case atStart => exact ⟨0, start, Nat.zero_le _, rfl, rfl, Lib.hid (by simp [fnv])⟩
  case round =>
    obtain ⟨k, y, hk, rfl, rfl, HY⟩ := hrel
    by_cases hlt : k < n
    · obtain ⟨b, o, rfl, _, hcell⟩ := HB.out.int hlt
      have hkl : k < l.length := by have := HB.out.len; rw [iv_len] at this; omega
      obtain ⟨c0, hc0⟩ : ∃ c0, l.getD k 0 = c0 := ⟨_, rfl⟩
      obtain ⟨b0, b1⟩ := byte_bd (HF.out.at_ (by decide) k)
      have HS : Hid (stp y c0 = fnv start (l.take (k + 1))) := Lib.hid (by rw [fnv_take hkl, ← HY.out, hc0])
      rw [hc0] at hcell b0 b1
      clear hc0
      go_wp2
      go_round
      case rel => exact ⟨k + 1, _, by omega, by go_num, rfl, HS⟩
      case measure => simp [intOf]; omega
    · obtain rfl : k = n := by omega
      have HE : Hid (y = fnv start l) := Lib.hid (by rw [HY.out, List.take_of_length_le (by have := HB.out.len; rw [iv_len] at this; omega)])
      go_wp2
      go_ret
      rw [HE.out]
      exact ⟨rfl, rfl⟩

/-- What a function that makes a new slice says. -/
def MadeV (t : TypeId) (w : World) (vs : List Value) (e : Ending) (w' : World) : Prop := ∃ v, e = .returned v ∧ Own t w' w.heap.size v vs ∧ Below w.heap.size w w'

theorem shr_low (x : Int) (k : Nat) : x / 2 ^ (8 * k) = x / 256 ^ k := by
  rw [Int.pow_mul]; rfl

theorem eight_any (x : Int) (w : World) :
    Calls Try.prog 29 #[.int .u64 x] w (MadeV 5 w (iv .u8 (low 8 x))) := by
  obtain ⟨i0, hi, hz0, hz1, hz2⟩ := info_parts info8
  go_enter Try.func29, Try.ntmps29
  go_wp2
  go_loopw [3, 4] (fun v i wr => ∃ (k : Nat), k ≤ 8 ∧ i = .int .i64 k ∧ Hid (Own 5 wr w.heap.size v (iv .u8 (low k x)) ∧ Below w.heap.size w wr)) (fun _ i _ => 8 - (intOf i).toNat)
  case atStart => exact ⟨0, by omega, rfl, Lib.hid ⟨Own.nil _ _ _, Below.refl _ _⟩⟩
  case round =>
    obtain ⟨k, hk, rfl, hh⟩ := hrel
    by_cases hlt : k < 8
    · obtain ⟨HO, hbw⟩ := hh.out
      clear hh
      go_wp2_with (first
        | (at_builtin; go_must (refine wpList_app _ rfl (.tmp 9) (.tmp 15) 52 rfl Try.underlying52 hi hz0 rfl hz1 (by omega) (HO.alloc _) rfl (Row.new wr (iv .u8 [_]) _ _ rfl (by unfold maxLen; simp [iv])) rfl iv_one (by simp [iv, low_len]; omega) (by have := hbw.size; simp; omega) ?_)
           intro v2 w2 ho2 hb2))
      rw [iv_app, shr_low, ← low_snoc] at ho2
      refine ⟨⟨k + 1, by omega, by go_num, Lib.hid ⟨ho2, ?_⟩⟩, by simp [intOf]; omega⟩
      rw [shr_low] at hb2
      exact (hbw.alloc hbw.size _).trans hb2
    · obtain rfl : k = 8 := by omega
      obtain ⟨HO, hbw⟩ := hh.out
      clear hh
      go_wp2
      go_ret
      exact ⟨_, rfl, HO, hbw⟩

/-- What a function that computes a number and may make memory says. -/
def NumW (w : World) (x : Int) (e : Ending) (w' : World) : Prop := e = .returned (.int .u64 x) ∧ Below w.heap.size w w'

theorem chainR_any (d : Int) (A : Option Addr) (n c : Nat) (l : List Int) (w : World) (h : Row w w.heap.size A n c (iv .u8 l)) (hf : Fit .u8 l) (hn : n ≤ 900000) :
    Calls Try.prog 30 #[.int .u64 d, .slice A n c] w (NumW w (chn d l)) := by
  obtain ⟨i0, hi, hz0, hz1, hz2⟩ := info_parts info8
  have HB := Lib.hid h
  have HF := Lib.hid hf
  have H1 := Lib.hid (eight_any d w)
  clear h hf
  go_enter Try.func30, Try.ntmps30
  go_wp2_with fail
  refine H1.out.mono ?_
  rintro e w1 ⟨v1, rfl, ho1, hb1⟩
  have hlen : (iv .u8 (low 8 d)).length = 8 := by rw [iv_len, low_len]
  have HL := Lib.hid hlen
  clear H1 hlen
  go_wp2_with (first
    | (at_builtin; go_must (refine wpList_app _ rfl (.tmp 6) (.tmp 7) 52 rfl Try.underlying52 hi hz0 rfl hz1 (by omega) ho1 rfl (HB.out.below hb1) rfl iv_one (by rw [HL.out]; omega) hb1.size ?_)
       intro v2 w2 ho2 hb2)
    | fail)
  obtain ⟨A2, n2, c2, rfl, hB2⟩ := ho2.shape
  rw [iv_app] at hB2
  have hn2 : n2 ≤ 1000000 := by
    have h1 := hB2.len
    have h2 := HB.out.len
    rw [iv_len] at h2
    rw [iv_len, List.length_append, low_len] at h1
    omega
  have H2 := Lib.hid (sumR_any A2 n2 c2 _ w2 hB2 (fun x hx => by
    rcases List.mem_append.1 hx with h | h
    · exact low_fit 8 d x h
    · exact HF.out x h) hn2)
  rw [chn_eq] at H2
  clear ho2 hB2
  refine H2.out.mono ?_
  rintro e w3 ⟨rfl, rfl⟩
  go_wp2
  go_ret
  exact ⟨rfl, hb1.trans hb2⟩

/-- What a check says. -/
def YesS (w : World) (e : Ending) (w' : World) : Prop := e = .returned (.bool true) ∧ Below w.heap.size w w'
end Go.Proofs.Ytlgoiccekgjhnaa
