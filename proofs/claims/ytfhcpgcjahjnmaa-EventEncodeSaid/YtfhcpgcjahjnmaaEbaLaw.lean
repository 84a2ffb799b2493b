/-
  The law EventBack as a walk: called with any arguments of its types it returns true. No conditions.
-/
import Derived.Test.YtfhcpgcjahjnmaaEvx
import Derived.Test.YtfhcpgcjahjnmaaNub
namespace Go.Proofs.Ytfhcpgcjahjnmaa
open Go.ChangeShapes Go.WideShapes Go.ChangeAt Go.RowKit
set_option linter.unusedVariables false
set_option linter.unusedSimpArgs false
set_option maxHeartbeats 4000000
set_option maxRecDepth 100000

/-- A cut from the right. -/
theorem cut_hi (A : Option Addr) (n c k : Nat) (l : List Int) (hk : k ≤ n) (hc : n ≤ c) :
    ∃ A', (∀ wx : World, (Instr.slice 32 (.slice A n c) none (some (.int .i64 (k : Int))) none).run Try.prog wx = .ok (.slice A' k c) wx) ∧ ∀ (w : World) (B : Nat), Bts w B A n c l → Bts w B A' k c (l.take k) := by
  refine ⟨if c = 0 then A else A.map (·.add 0), fun wx => ?_, fun w B h => ?_⟩
  · rw [run_slice_h (P := Try.prog) wx 32 A n c Try.underlying32 .i64 (k : Int) (by omega) (by omega)]
    simp [sliced, go_sem]
  · have h1 := (h.drop (k := 0) (by omega)).take (k := k) (by omega)
    simpa using h1
/-- The maker's event out of an argument: what it is and that it changes nothing that was there. -/
def MdE (w : World) (x : Ending) (w' : World) : Prop :=
  ∃ (p o h a e : Int), chkV p o e = 0 ∧ (0 ≤ h ∧ h < 18446744073709551616) ∧ (0 ≤ a ∧ a < 18446744073709551616) ∧ x = .returned (.agg #[.int .i64 p, .int .i64 o, .int .u64 h, .int .u64 a, .int .i64 e]) ∧ Below w.heap.size w w'
theorem made_any {w0 w : World} {b : Nat} {L : List Int} (ht : TS w b L 0) (hge : w0.heap.size ≤ b) (hb : Below w0.heap.size w0 w) (hf : Fit .u16 L) :
    Calls Try.prog 8 #[.pointer (some ⟨b, 0, none⟩)] w fun x w' =>
      ∃ (p o h a e : Int), chkV p o e = 0 ∧ (0 ≤ h ∧ h < 18446744073709551616) ∧ (0 ≤ a ∧ a < 18446744073709551616) ∧ x = .returned (.agg #[.int .i64 p, .int .i64 o, .int .u64 h, .int .u64 a, .int .i64 e]) ∧ Below w0.heap.size w0 w' :=
  (event_any b 0 L w ht hf (by omega)).mono fun x w' hx => by
    obtain ⟨p, o, h, a, e, j, hc, hh, ha, _, rfl, _, ho⟩ := hx
    exact ⟨p, o, h, a, e, hc, hh, ha, rfl, hb.trans (ho.below hge hb.size)⟩
theorem eventBack_walk (a0 : Option Addr) (len0 cap0 : Nat) (z0 : List Int) (hv av : Int) (w : World) (h0 : IsRow .u16 w a0 len0 cap0 z0) (h1 : (Lit.int .u64 hv).wf = true) (h2 : (Lit.int .u64 av).wf = true) :
    Calls Try.prog 6 #[.slice a0 len0 cap0, .int .u64 hv, .int .u64 av] w fun e w' => e = .returned (.bool true) ∧ Below w.heap.size w w' := by
  obtain ⟨hrow, hfit⟩ := h0.row
  generalize z0.take len0 = L at hrow hfit
  have HOF := Lib.hid (of_any a0 len0 cap0 L 12 _ hrow (by omega))
  have HFT := Lib.hid (hfit.take 12)
  generalize L.take 12 = T at *
  obtain ⟨hv0, hv1⟩ := u64_bd h1
  obtain ⟨av0, av1⟩ := u64_bd h2
  clear h0 h1 h2 hrow hfit
  go_enter Try.func6, Try.ntmps6
  go_wp2_with fail
  refine HOF.out.mono ?_
  rintro e w2 ⟨b, rfl, hts2, hge, hb2⟩
  have HEV := Lib.hid (made_any hts2 hge hb2 HFT.out)
  clear hts2 hb2 HOF hge
  go_wp2_with fail
  refine HEV.out.mono ?_
  rintro x w3 ⟨p, o, h, a, e, hchk, _, _, rfl, hb3⟩
  have hb4 := hb3.alloc hb3.size (.cells #[.int .i64 p, .int .i64 o, .int .u64 hv, .int .u64 av, .int .i64 e] 26)
  have HB4 := Lib.hid hb4
  have HX4 := Lib.hid (EvB.new (w := w3) (p := p) (o := o) (h := hv) (a := av) (e := e))
  have HE1 := Lib.hid (encode_any p o hv av e (w3.alloc (.cells #[.int .i64 p, .int .i64 o, .int .u64 hv, .int .u64 av, .int .i64 e] 26)) ⟨hv0, hv1⟩ ⟨av0, av1⟩)
  have hWd := five_words hchk ⟨hv0, hv1⟩ ⟨av0, av1⟩
  have hlen := encN_len hWd
  have HDB := Lib.hid (dc_back hchk ⟨hv0, hv1⟩ ⟨av0, av1⟩)
  have HDC := Lib.hid (fun m hm => dc_cut (m := m) hchk ⟨hv0, hv1⟩ ⟨av0, av1⟩ hm)
  have heo : encO p o hv av e = encN [p, o, hv, av, e] := if_pos hchk
  have HES : Hid (Small (encN [p, o, hv, av, e])) := Lib.hid encN_small
  unfold EncE at HE1
  rw [heo, hchk] at HE1
  simp only [List.length_cons, List.length_nil, Nat.zero_add, Nat.reduceAdd, Nat.reduceMul] at hlen
  obtain ⟨c0, c1, c2, c3, c4⟩ := HX4.out.cells
  clear hb3 hb4 HEV hchk hWd heo
  generalize encN [p, o, hv, av, e] = E at *
  go_wp2_with fail
  generalize w3.alloc (.cells #[.int .i64 p, .int .i64 o, .int .u64 hv, .int .u64 av, .int .i64 e] 26) = w4 at *
  generalize w3.heap.size = t3 at *
  refine HE1.out.mono ?_
  rintro x w5 ⟨v5, rfl, ho5, hb5⟩
  obtain ⟨A5, n5, c5, rfl, hr5⟩ := ho5.shape
  have hn5 : E.length = n5 := hr5.len
  have hcap5 := hr5.cap
  have hsm5 := hr5.small
  unfold maxLen at hsm5
  have hn50 : n5 ≤ 50 := by omega
  have HR5 := Lib.hid hr5
  have HB5 := Lib.hid (Below.then HB4.out hb5 (Nat.le_refl _))
  have HX5 := Lib.hid (HX4.out.go hb5)
  have HD := Lib.hid (decode_any A5 n5 c5 E w5 hr5 HES.out (by omega))
  obtain ⟨g0, g1, g2, g3, g4, g5⟩ := HDB.out
  unfold dcV at g1 g2 g3 g4 g5
  unfold EvE okV at HD
  rw [g1, g2, g3, g4, g5, g0] at HD
  have HN5 := Lib.hid hn5
  clear ho5 hr5 hb5 HE1 HB4 HX4 c0 c1 c2 c3 c4 g0 g1 g2 g3 g4 g5 HDB hlen hn5
  go_wp2_with fail
  refine HD.out.mono ?_
  rintro x w6 ⟨rfl, hb6⟩
  have hb7 := hb6.alloc hb6.size (.cells #[.int .i64 p, .int .i64 o, .int .u64 hv, .int .u64 av, .int .i64 e] 26)
  have HB7 := Lib.hid (Below.then HB5.out hb7 (Nat.le_refl _))
  have HR7 := Lib.hid (HR5.out.go hb7)
  have HX7 := Lib.hid (HX5.out.go hb7)
  have HY7 := Lib.hid (EvB.new (w := w6) (p := p) (o := o) (h := hv) (a := av) (e := e))
  have heq := eq_ev_self p o hv av e
  clear hb6 hb7 HD HR5 HB5 HX5
  go_wp2
  generalize w6.alloc (.cells #[.int .i64 p, .int .i64 o, .int .u64 hv, .int .u64 av, .int .i64 e] 26) = w7 at *
  generalize w6.heap.size = t6 at *
  go_loopw [12] (fun kv wr => ∃ (j : Nat), j ≤ n5 ∧ kv = .int .i64 j ∧ Hid (Below w7.heap.size w7 wr)) (fun kv _ => n5 - (intOf kv).toNat)
  case atStart => exact ⟨0, by omega, rfl, Lib.hid (Below.refl _ _)⟩
  case round =>
    obtain ⟨j, hj, rfl, HBR⟩ := hrel
    by_cases hjn : j < n5
    · have hj1 : (j : Int) < (n5 : Int) := by omega
      obtain ⟨A8, hsl, hcut⟩ := cut_hi A5 n5 c5 j E hj hcap5
      have HD := Lib.hid (decode_any A8 j c5 (E.take j) wr (hcut _ _ (HR7.out.go HBR.out)) (HES.out.take j) (by omega))
      have hdc := HDC.out j (by rw [HN5.out]; exact hjn)
      unfold EvE okV at HD
      rw [hdc] at HD
      simp only [show ¬ (2 : Int) = 0 by omega, if_false] at HD
      clear hcut hdc
      go_wp2_with fail
      refine HD.out.mono ?_
      rintro x w8 ⟨rfl, hb8⟩
      have HB9 := Lib.hid (Below.then HBR.out (hb8.alloc hb8.size (.cells #[.int .i64 0, .int .i64 0, .int .u64 0, .int .u64 0, .int .i64 0] 26)) (Nat.le_refl _))
      clear hb8 HD hsl
      go_wp2
      go_roundw
      case rel => exact ⟨j + 1, by omega, by go_num, HB9⟩
      case measure => simp [intOf]; omega
    · obtain rfl : j = n5 := by omega
      have hjj : ¬ (j : Int) < (j : Int) := by omega
      have HX9 := Lib.hid (HX7.out.go HBR.out)
      have HY9 := Lib.hid (HY7.out.go HBR.out)
      have HB9 := Lib.hid (Below.then HB7.out HBR.out (Nat.le_refl _))
      clear HX7 HY7 HB7 HBR HR7
      go_wp2_with fail
      refine (awake16_any wr).mono ?_
      rintro x w9 ⟨rfl, hb9⟩
      obtain ⟨c0, c1, c2, c3, c4⟩ := (HX9.out.go hb9).cells
      obtain ⟨d0, d1, d2, d3, d4⟩ := (HY9.out.go hb9).cells
      have HB10 := Lib.hid (Below.then HB9.out hb9 (Nat.le_refl _))
      clear hb9 HX9 HY9 HB9
      go_wp2
      go_ret
      exact ⟨rfl, HB10.out⟩
end Go.Proofs.Ytfhcpgcjahjnmaa
