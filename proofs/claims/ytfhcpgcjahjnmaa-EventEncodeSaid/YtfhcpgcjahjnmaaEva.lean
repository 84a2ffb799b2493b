/-
  The example of the chapter, the comparison of Decode with the definition, and the comparison of events. Conditions: the bytes are bytes, at most a million.
-/
import Derived.Test.YtfhcpgcjahjnmaaEvq
namespace Go.Proofs.Ytfhcpgcjahjnmaa
open Go.ChangeShapes Go.WideShapes Go.ChangeAt Go.RowKit
set_option linter.unusedVariables false
set_option linter.unusedSimpArgs false
set_option maxHeartbeats 4000000
set_option maxRecDepth 100000

theorem bts_run {w : World} {B : Nat} {A : Option Addr} {n c : Nat} {l : List Int} (h : Bts w B A n c l) :
    (convert 32 9 (.slice A n c)).run Try.prog w = .ok (.string (strOfNums l)) w :=
  h.text _ _ _ Try.underlying32 Try.underlying5 Try.underlying9
theorem bts_as {w : World} {B : Nat} {A : Option Addr} {n c : Nat} {l : List Int} {T : ByteArray} (h : Bts w B A n c l) (hT : Hid (strOfNums l = T)) :
    (convert 32 9 (.slice A n c)).run Try.prog w = .ok (.string T) w := by
  rw [← hT.out]
  exact bts_run h
/-- Events are compared number by number. -/
theorem eq_ev (a b c d e x y z u v : Int) (w : World) : (Op.equalIn 10000 26 (.agg #[.int .i64 a, .int .i64 b, .int .u64 c, .int .u64 d, .int .i64 e]) (.agg #[.int .i64 x, .int .i64 y, .int .u64 z, .int .u64 u, .int .i64 v])).run Try.prog w = .ok (decide (a = x ∧ b = y ∧ c = z ∧ d = u ∧ e = v)) w := by
  have u3 := Try.underlying3
  have a3 := Try.isAgg3
  have z3 := Try.sizeOf3
  have u4 := Try.underlying23
  have a4 := Try.isAgg23
  have z4 := Try.sizeOf23
  have u5 := Try.underlying22
  have a5 := Try.isAgg22
  have z5 := Try.sizeOf22
  have u6 := Try.underlying24
  have a6 := Try.isAgg24
  have z6 := Try.sizeOf24
  rw [show (10000 : Nat) = 9999 + 1 from rfl, Op.equalIn]
  simp only [Sem.run_bind, run_underlying Try.underlying26, Result.andThen_ok]
  go_simp
  by_cases h1 : a = x <;> by_cases h2 : b = y <;> by_cases h3 : c = z <;> by_cases h4 : d = u <;> by_cases h5 : e = v <;> simp [h1, h2, h3, h4, h5]
theorem eq_ev_self (a b c d e : Int) (w : World) : (Op.equalIn 10000 26 (.agg #[.int .i64 a, .int .i64 b, .int .u64 c, .int .u64 d, .int .i64 e]) (.agg #[.int .i64 a, .int .i64 b, .int .u64 c, .int .u64 d, .int .i64 e])).run Try.prog w = .ok true w := by
  have := eq_ev a b c d e a b c d e w
  simpa using this
theorem aw16_facts : encO 1 2 0 0 11 = [1, 2, 0, 0, 11] ∧ chkV 1 2 11 = 0 := by
  have h : chkV 1 2 11 = 0 := by decide
  refine ⟨?_, h⟩
  unfold encO
  rw [if_pos h]
  simp [encN, enc_small]
theorem awake16_any (w : World) : Calls Try.prog 14 #[] w (Says w (.bool true)) := by
  have HK := Lib.hid (encode_any 1 2 0 0 11 w (by omega) (by omega))
  obtain ⟨f1, f2⟩ := aw16_facts
  unfold EncE at HK
  rw [f1, f2] at HK
  clear f1 f2
  go_enter Try.func14, Try.ntmps14
  go_wp2_with fail
  refine HK.out.mono ?_
  rintro e w2 ⟨v, rfl, ho, hb⟩
  have HB2 := Lib.hid hb
  obtain ⟨A, n, c, rfl, hbt⟩ := ho.shape
  have hcv := bts_as hbt (T := ⟨#[1, 2, 0, 0, 11]⟩) (Lib.hid rfl)
  clear ho hb hbt HK
  go_wp2
  go_ret
  exact ⟨rfl, HB2.out⟩
theorem same16_any (A : Option Addr) (n c : Nat) (b : List Int) (w : World) (h : Bts w w.heap.size A n c b) (hs : Small b) (hn : n ≤ 1000000) :
    Calls Try.prog 15 #[.slice A n c] w (Says w (.bool true)) := by
  have H1 := Lib.hid (decode_any A n c b w h hs hn)
  have H2 := Lib.hid (fun W (hW : Below w.heap.size w W) => decodeR_any A n c b W ((h.below hW).more hW.size) hs hn)
  unfold EvE at H1 H2
  generalize dcE b = de at *
  generalize okV de (rX b 0) = v0 at *
  generalize okV de (rX b 1) = v1 at *
  generalize okV de (rX b 2) = v2 at *
  generalize okV de (rX b 3) = v3 at *
  generalize okV de (rX b 4) = v4 at *
  clear h hs
  go_enter Try.func15, Try.ntmps15
  go_wp2_with fail
  refine H1.out.mono ?_
  rintro e w2 ⟨rfl, hb2⟩
  have hb3 := hb2.alloc hb2.size (.cells #[.int .i64 v0, .int .i64 v1, .int .u64 v2, .int .u64 v3, .int .i64 v4] 26)
  have HB3 := Lib.hid hb3
  have HT3 := Lib.hid (EvB.new (w := w2) (p := v0) (o := v1) (h := v2) (a := v3) (e := v4))
  have HD := Lib.hid (H2.out _ hb3)
  clear hb2 hb3 H1 H2
  go_wp2_with fail
  generalize (w2).alloc (.cells #[.int .i64 v0, .int .i64 v1, .int .u64 v2, .int .u64 v3, .int .i64 v4] 26) = w3 at *
  generalize w2.heap.size = t1 at *
  refine HD.out.mono ?_
  rintro e w4 ⟨rfl, hb4⟩
  have hb5 := hb4.alloc hb4.size (.cells #[.int .i64 v0, .int .i64 v1, .int .u64 v2, .int .u64 v3, .int .i64 v4] 26)
  have HB5 := Lib.hid (Below.then HB3.out hb5 (Nat.le_refl _))
  obtain ⟨c0, c1, c2, c3, c4⟩ := (HT3.out.go hb5).cells
  obtain ⟨d0, d1, d2, d3, d4⟩ := (EvB.new (w := w4) (p := v0) (o := v1) (h := v2) (a := v3) (e := v4)).cells
  have heq := eq_ev_self v0 v1 v2 v3 v4
  clear hb4 hb5 HD HB3 HT3
  go_wp2
  go_ret
  exact ⟨rfl, HB5.out⟩
end Go.Proofs.Ytfhcpgcjahjnmaa
