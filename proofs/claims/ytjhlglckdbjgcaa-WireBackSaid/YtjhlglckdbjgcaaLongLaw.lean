/-
  The laws WireLong, WireBack and WirePrefix as walks: each returns true and changes nothing that was there. No conditions beyond the types of the arguments.
-/
import Derived.Test.YtjhlglckdbjgcaaWire
namespace Go.Proofs.Ytjhlglckdbjgcaa
open Go.ChangeShapes Go.WideShapes Go.ChangeAt Go.RowKit
set_option maxHeartbeats 1000000
set_option maxRecDepth 100000

theorem zeros_bv (k : Nat) : List.replicate k (Value.int .u8 0) = bv (List.replicate k 0) := by simp [bv]

theorem wireLong_walk (a0 : Int) (w : World) (w0 : (Lit.int .u8 a0).wf = true) :
    Calls Try.prog 9 #[.int .u8 a0] w fun e w' => e = .returned (.bool true) ∧ Below w.heap.size w w' := by
  obtain ⟨i0, hi, hz0, hz1, hz2⟩ := info_parts info8
  obtain ⟨x0, x1⟩ := byte_bd w0
  clear w0
  obtain ⟨k, hk, hk0, hk1⟩ : ∃ k : Nat, 65534 + a0 % 5 = (k : Int) ∧ 65534 ≤ k ∧ k ≤ 65538 := ⟨(65534 + a0 % 5).toNat, by omega, by omega, by omega⟩
  have HK := Lib.hid hk
  clear hk
  go_enter Try.func9, Try.ntmps9
  go_wp2_with (first
    | (at_make
       refine wpList_make_full _ rfl _ _ 22 rfl w.heap.size 5 i0 _ 1 Try.underlying22 hi hz0 hz1 _ _ _ _ k rfl rfl HK.out HK.out (by rw [hz2]; omega) (by unfold maxLen; omega) (Nat.le_refl _) ?_
       intro w1 hown hg))
  have hb1 : Below w.heap.size w w1 := (Below.refl _ _).grown hg (Nat.le_refl _) (by simp)
  have ho1 : Own w1 w.heap.size (.slice (some ⟨w.heap.size, 0, none⟩) k k) (List.replicate k 0) := by
    unfold Own
    rw [← zeros_bv, List.length_replicate]
    have e : (madeCells (Value.int .u8 0).cells (k * 1)).toList = List.replicate k (Value.int .u8 0) := by
      rw [Nat.mul_one]; exact toList_madeCells_one _ _
    rw [← e]
    exact hown
  obtain ⟨A1, n1, c1, e1, hB1⟩ := ho1.shape
  have hn1 := hB1.len
  rw [List.length_replicate] at hn1
  subst hn1
  injection e1 with e1 e2 e3
  subst e1
  subst e3
  clear hown hg ho1 e2
  obtain ⟨s, hs⟩ : ∃ s : List Int, List.replicate k 0 = s := ⟨_, rfl⟩
  have hsl : s.length = k := by rw [← hs]; simp
  have hsm : Small s := by
    rw [← hs]
    intro x hx
    have := (List.mem_replicate.1 hx).2
    omega
  rw [hs] at hB1
  clear hs
  have hel := enc_len10 (n := s.length) (by omega)
  have hes : Small (encB s) := fun x hx => by
    rcases List.mem_append.1 hx with h | h
    · exact enc_bytes _ x h
    · exact hsm x h
  have hlen : (encB s).length ≤ 70000 := by simp [encB]; omega
  have HES := Lib.hid hes
  have HSL := Lib.hid hsl
  clear hsm hel hes hsl
  go_wp2_with fail
  refine (putBytesR_any none 0 0 [] _ _ _ s w1 Byt.none_ hB1 (by omega) (by omega)).mono ?_
  rintro e w2 ⟨v2, rfl, ho2, hb2⟩
  have hb12 := hb1.trans (hb2.mono hb1.size)
  obtain ⟨A2, n2, c2, rfl, hB2⟩ := ho2.shape
  have hB3 : Byt w2 w2.heap.size A2 n2 c2 (encB s) := hB2
  have hn2 := hB3.len
  have HN2 := Lib.hid hn2
  have hn3 : n2 ≤ 70000 := by omega
  clear hn2 hB2 ho2 hB1 hb1 hb2 hlen
  go_wp2_with fail
  refine (bytes_any _ _ _ _ w2 hB3 HES.out (by omega)).mono ?_
  rintro e w3 ⟨v3, rfl, ho3, hb3⟩
  have hb13 := hb12.trans (hb3.mono hb12.size)
  obtain ⟨A3, n3, c3, rfl, hB4⟩ := ho3.shape
  have hn4 := hB4.len
  have HA := Lib.hid (awake_any w3)
  by_cases hbig : 65536 < k
  · obtain ⟨q1, q2, q3⟩ := rb_enc_big (s := s) (by rw [HSL.out]; omega) (by rw [HSL.out]; omega)
    rw [q2] at hn4
    obtain rfl : n3 = 0 := by simpa using hn4.symm
    rw [q1, q3]
    have hbig2 : 65536 < 65534 + a0 % 5 := by rw [HK.out]; omega
    clear q1 q2 q3 hn4 hB4 ho3 hB3 hb12 hb3
    go_wp2_with fail
    refine HA.out.mono ?_
    rintro e w4 ⟨rfl, hb4⟩
    go_wp2
    go_ret
    exact ⟨rfl, hb13.trans (hb4.mono hb13.size)⟩
  · obtain ⟨q1, q2, q3⟩ := rb_enc (s := s) (by rw [HSL.out]; omega) []
    rw [List.append_nil] at q1 q2 q3
    rw [q2] at hn4
    rw [q1, q3, HN2.out]
    have hbig2 : ¬ 65536 < 65534 + a0 % 5 := by rw [HK.out]; omega
    have hq : ((n3 : Int) == 65534 + a0 % 5) = true := by rw [beq_iff_eq, HK.out, ← hn4, HSL.out]
    clear q1 q2 q3 hn4 hB4 ho3 hB3 hb12 hb3
    go_wp2_with fail
    refine HA.out.mono ?_
    rintro e w4 ⟨rfl, hb4⟩
    go_wp2
    go_ret
    exact ⟨rfl, hb13.trans (hb4.mono hb13.size)⟩

theorem wireBack_walk (a0 : Int) (a1 : Option Addr) (len1 cap1 : Nat) (z1 : List Int) (a2 : Option Addr) (len2 cap2 : Nat) (z2 : List Int) (w : World) (w0 : (Lit.int .u64 a0).wf = true) (w1 : IsRow .u8 w a1 len1 cap1 z1) (w2 : IsRow .u8 w a2 len2 cap2 z2) :
    Calls Try.prog 7 #[.int .u64 a0, .slice a1 len1 cap1, .slice a2 len2 cap2] w fun e w' => e = .returned (.bool true) ∧ Below w.heap.size w w' := by
  obtain ⟨i0, hi, hz0, hz1, hz2⟩ := info_parts info8
  obtain ⟨hB1, hS1⟩ := w1.byt
  obtain ⟨hB2, hS2⟩ := w2.byt
  obtain ⟨x0, x1⟩ := u64_bd w0
  have hl1 := hB1.cap
  have hl2 := hB2.cap
  have hm1 := hB1.small
  have hm2 := hB2.small
  unfold maxLen at hm1 hm2
  generalize z1.take len1 = s at *
  generalize z2.take len2 = more at *
  have HB1 := Lib.hid hB1
  have HB2 := Lib.hid hB2
  have HS1 := Lib.hid hS1
  have HS2 := Lib.hid hS2
  have HL1 := Lib.hid hB1.len
  have HL2 := Lib.hid hB2.len
  clear hB1 hB2 hS1 hS2 w0 w1 w2 z1 z2
  by_cases hbig : 300 < len1 ∨ 40 < len2
  · have HA := Lib.hid (awake_any w)
    by_cases hb0 : 300 < len1
    · clear hbig
      go_enter Try.func7, Try.ntmps7
      go_wp2_with fail
      refine HA.out.mono ?_
      rintro e w' ⟨rfl, hb⟩
      go_wp2
      go_ret
      exact ⟨rfl, hb⟩
    · have hb2 : 40 < len2 := by omega
      clear hbig
      go_enter Try.func7, Try.ntmps7
      go_wp2_with fail
      refine HA.out.mono ?_
      rintro e w' ⟨rfl, hb⟩
      go_wp2
      go_ret
      exact ⟨rfl, hb⟩
  · have hb0 : ¬ 300 < len1 := by omega
    have hb2 : ¬ 40 < len2 := by omega
    clear hbig
    have hea := enc_len10 (n := a0.toNat) (by omega)
    have heb := enc_len10 (n := s.length) (by rw [HL1.out]; omega)
    have heB : (encB s).length ≤ 310 := by
      have := HL1.out
      rw [encB, List.length_append]
      omega
    have hsa : Small (enc a0.toNat ++ more) := fun x hx => by
      rcases List.mem_append.1 hx with h | h
      · exact enc_bytes _ x h
      · exact HS2.out x h
    have hsb : Small (encB s ++ more) := fun x hx => by
      rcases List.mem_append.1 hx with h | h
      · rcases List.mem_append.1 h with h | h
        · exact enc_bytes _ x h
        · exact HS1.out x h
      · exact HS2.out x h
    have HSA := Lib.hid hsa
    have HSB := Lib.hid hsb
    have HRA := Lib.hid (rd_enc (n := a0.toNat) (by omega) more)
    have HRB := Lib.hid (rb_enc (s := s) (by rw [HL1.out]; omega) more)
    clear hsa hsb heb
    obtain ⟨ea, hea'⟩ : ∃ ea, enc a0.toNat = ea := ⟨_, rfl⟩
    obtain ⟨eb, heb'⟩ : ∃ eb, encB s = eb := ⟨_, rfl⟩
    have HPA : Hid (∀ W, Calls Try.prog 11 #[.slice none 0 0, .int .u64 a0] W (Made W ea)) := Lib.hid fun W => by
      rw [← hea']
      exact putUint_any none 0 0 [] a0 W Byt.none_ (by omega) x0 x1
    have HPB : Hid (∀ W, Byt W W.heap.size a1 len1 cap1 s → Calls Try.prog 12 #[.slice none 0 0, .slice a1 len1 cap1] W (Made W eb)) := Lib.hid fun W h => by
      rw [← heb']
      exact putBytes_any none 0 0 [] a1 len1 cap1 s W Byt.none_ h (by omega) (by omega)
    rw [hea'] at hea HSA HRA
    rw [heb'] at heB HSB HRB
    clear hea' heb'
    have hmoreL := HL2.out
    go_enter Try.func7, Try.ntmps7
    go_wp2_with fail
    refine (HPA.out w).mono ?_
    rintro e w1 ⟨v1, rfl, ho1, hb1⟩
    have HO1 := Lib.hid ho1
    clear ho1
    go_wp2_with fail
    refine (HPB.out w1 (HB1.out.go hb1)).mono ?_
    rintro e w2 ⟨v2, rfl, ho2, hb2⟩
    obtain ⟨A1, n1, c1, rfl, hB1⟩ := HO1.out.shape
    obtain ⟨A2, n2, c2, rfl, hB2⟩ := ho2.shape
    have hbw := hb1.trans (hb2.mono hb1.size)
    have KA := Lib.hid (hB1.go hb2)
    have KB := Lib.hid hB2
    have KM := Lib.hid ((HB2.out.go hb1).go hb2)
    have KS := Lib.hid ((HB1.out.go hb1).go hb2)
    have hn1 := hB1.len
    have hn2 := hB2.len
    clear HO1 ho2 hB1 hB2 hb1 hb2 HPA HPB
    have hlA : n1 ≤ 10 := by omega
    have hlB : n2 ≤ 310 := by omega
    have HN1 := Lib.hid hn1
    have HN2 := Lib.hid hn2
    clear hn1 hn2
    go_wp2_with (first
      | (at_builtin
         refine wpList_app _ rfl (.tmp 29) (.tmp 30) 22 rfl rfl Try.underlying22 hi hz0 hz1 hz2 (base := w2.heap.size) (xs := []) (World.ownsRow_lit w2 #[] 0 (Nat.le_refl _) (Nat.zero_le _) rfl) rfl (KA.out.alloc _) rfl (by simp; omega) (by simp) ?_
         intro v3 w3 ho3 hb3
         have hb3' : Below w2.heap.size w2 w3 := ((Below.refl _ _).alloc (Nat.le_refl _) _).trans hb3
         clear hb3)
      | (at_builtin
         refine wpList_app _ rfl (.tmp 31) (.tmp 32) 22 rfl rfl Try.underlying22 hi hz0 hz1 hz2 ho3 rfl (KM.out.below hb3') rfl (by simp; omega) hb3'.size ?_
         intro v4 w4 ho4 hb4))
    have hb24 : Below w2.heap.size w2 w4 := hb3'.trans hb4
    obtain ⟨A4, n4, c4, rfl, hB4⟩ := ho4.shape
    rw [List.nil_append] at hB4
    have hn4 : n4 ≤ 50 := by
      have h1 := hB4.len
      have h2 := HN1.out
      rw [List.length_append] at h1
      omega
    have LA := Lib.hid (KB.out.go hb24)
    have LM := Lib.hid (KM.out.go hb24)
    have LS := Lib.hid (KS.out.go hb24)
    have hbw4 := hbw.trans (hb24.mono hbw.size)
    have HU := Lib.hid (uint_any _ _ _ _ w4 hB4 HSA.out (by omega))
    unfold GotU at HU
    obtain ⟨r1, r2, r3⟩ := HRA.out
    rw [r1, r2, r3, HN1.out, Int.toNat_of_nonneg x0] at HU
    clear r1 r2 r3 hB4 ho3 hb3' ho4 hb4 hb24 KA KB KM KS hbw HRA HSA HN1
    refine HU.out.mono ?_
    rintro e w5 ⟨rfl, rfl⟩
    clear HU
    go_wp2_with (first
      | (at_builtin
         refine wpList_app _ rfl (.tmp 39) (.tmp 40) 22 rfl rfl Try.underlying22 hi hz0 hz1 hz2 (base := w4.heap.size) (xs := []) (World.ownsRow_lit w4 #[] 0 (Nat.le_refl _) (Nat.zero_le _) rfl) rfl (LA.out.alloc _) rfl (by simp; omega) (by simp) ?_
         intro v5 w5 ho5 hb5
         have hb5' : Below w4.heap.size w4 w5 := ((Below.refl _ _).alloc (Nat.le_refl _) _).trans hb5
         clear hb5)
      | (at_builtin
         refine wpList_app _ rfl (.tmp 41) (.tmp 42) 22 rfl rfl Try.underlying22 hi hz0 hz1 hz2 ho5 rfl (LM.out.below hb5') rfl (by simp; omega) hb5'.size ?_
         intro v6 w6 ho6 hb6))
    have hb46 : Below w4.heap.size w4 w6 := hb5'.trans hb6
    obtain ⟨A6, n6, c6, rfl, hB6⟩ := ho6.shape
    rw [List.nil_append] at hB6
    have hn6 : n6 ≤ 360 := by
      have h1 := hB6.len
      have h2 := HN2.out
      rw [List.length_append] at h1
      omega
    have HU := Lib.hid (bytes_any _ _ _ _ w6 hB6 HSB.out (by omega))
    unfold GotB at HU
    obtain ⟨r1, r2, r3⟩ := HRB.out
    rw [r1, r2, r3, HN2.out] at HU
    have LS6 := Lib.hid (LS.out.go hb46)
    have hbw6 := hbw4.trans (hb46.mono hbw4.size)
    clear r1 r2 r3 hB6 ho5 hb5' ho6 hb6 hb46 LA LM LS hbw4 HRB HSB HN2
    refine HU.out.mono ?_
    rintro e w7 ⟨v7, rfl, ho7, hb7⟩
    clear HU
    obtain ⟨A7, n7, c7, rfl, hB7⟩ := ho7.shape
    have hbw7 := hbw6.trans (hb7.mono hbw6.size)
    have M7 := Lib.hid hB7
    have MS := Lib.hid (LS6.out.go hb7)
    clear ho7 hB7 hbw6 hb7 LS6
    go_wp2_with fail
    refine (awake_any _).mono ?_
    rintro e w8 ⟨rfl, hb8⟩
    have g1 := text_run (M7.out.go hb8)
    have g2 := text_run (MS.out.go hb8)
    generalize strOfNums s = T at *
    have hbw8 := hbw7.trans (hb8.mono hbw7.size)
    clear hbw7 hb8
    go_wp2
    go_ret
    exact ⟨rfl, hbw8⟩

theorem wirePrefix_walk (a0 : Int) (a1 : Option Addr) (len1 cap1 : Nat) (z1 : List Int) (w : World) (w0 : (Lit.int .u64 a0).wf = true) (w1 : IsRow .u8 w a1 len1 cap1 z1) :
    Calls Try.prog 8 #[.int .u64 a0, .slice a1 len1 cap1] w fun e w' => e = .returned (.bool true) ∧ Below w.heap.size w w' := by
  obtain ⟨hB1, hS1⟩ := w1.byt
  obtain ⟨x0, x1⟩ := u64_bd w0
  have hl1 := hB1.cap
  have hm1 := hB1.small
  unfold maxLen at hm1
  generalize z1.take len1 = s at *
  have HB1 := Lib.hid hB1
  have HS1 := Lib.hid hS1
  have HL1 := Lib.hid hB1.len
  clear hB1 hS1 w0 w1 z1
  by_cases hbig : 60 < len1
  · have HA := Lib.hid (awake_any w)
    go_enter Try.func8, Try.ntmps8
    go_wp2_with fail
    refine HA.out.mono ?_
    rintro e w' ⟨rfl, hb⟩
    go_wp2
    go_ret
    exact ⟨rfl, hb⟩
  · have hea := enc_len10 (n := a0.toNat) (by omega)
    have heB : (encB s).length ≤ 70 := by
      have := HL1.out
      have heb := enc_len10 (n := s.length) (by omega)
      rw [encB, List.length_append]
      omega
    have HSA : Hid (Small (enc a0.toNat)) := Lib.hid (enc_bytes _)
    have HSB : Hid (Small (encB s)) := Lib.hid fun x hx => by
      rcases List.mem_append.1 hx with h | h
      · exact enc_bytes _ x h
      · exact HS1.out x h
    have HRA : Hid (∀ k, k < (enc a0.toNat).length → rdE ((enc a0.toNat).take k) = 2) := Lib.hid fun k hk => (rd_cut (n := a0.toNat) (by omega) hk).2.2
    have HRB : Hid (∀ k, k < (encB s).length → rbE ((encB s).take k) = 2) := Lib.hid fun k hk => rb_prefix (s := s) (by rw [HL1.out]; omega) hk
    obtain ⟨ea, hea'⟩ : ∃ ea, enc a0.toNat = ea := ⟨_, rfl⟩
    obtain ⟨eb, heb'⟩ : ∃ eb, encB s = eb := ⟨_, rfl⟩
    have HPA : Hid (∀ W, Calls Try.prog 11 #[.slice none 0 0, .int .u64 a0] W (Made W ea)) := Lib.hid fun W => by
      rw [← hea']
      exact putUint_any none 0 0 [] a0 W Byt.none_ (by omega) x0 x1
    have HPB : Hid (∀ W, Byt W W.heap.size a1 len1 cap1 s → Calls Try.prog 12 #[.slice none 0 0, .slice a1 len1 cap1] W (Made W eb)) := Lib.hid fun W h => by
      rw [← heb']
      exact putBytes_any none 0 0 [] a1 len1 cap1 s W Byt.none_ h (by omega) (by omega)
    rw [hea'] at hea HSA HRA
    rw [heb'] at heB HSB HRB
    clear hea' heb'
    go_enter Try.func8, Try.ntmps8
    go_wp2_with fail
    refine (HPA.out w).mono ?_
    rintro e w1 ⟨v1, rfl, ho1, hb1⟩
    obtain ⟨A1, n1, c1, rfl, hB1⟩ := ho1.shape
    have KA := Lib.hid hB1
    have hn1 : n1 ≤ 10 := by have := hB1.len; omega
    have hc1 := hB1.cap
    have hs1 := hB1.small
    unfold maxLen at hs1
    have KS := Lib.hid (HB1.out.go hb1)
    clear ho1 hB1 HPA HB1
    go_wp2
    go_loop [6] (fun kv => ∃ k : Nat, k ≤ n1 ∧ kv = .int .i64 k) (fun kv => n1 - (intOf kv).toNat)
    case atStart => exact ⟨0, Nat.zero_le _, rfl⟩
    case round =>
      obtain ⟨k, hk, rfl⟩ := hrel
      by_cases hlt : k < n1
      · have HU := Lib.hid (uint_any _ _ _ _ w1 (KA.out.take (k := k) hk) (fun x hx => HSA.out x (List.mem_of_mem_take hx)) (by omega))
        unfold GotU at HU
        rw [HRA.out k (by rw [KA.out.len]; exact hlt)] at HU
        go_wp2_with fail
        refine HU.out.mono ?_
        rintro e w5 ⟨rfl, rfl⟩
        clear HU
        go_wp2
        go_round
        case rel => exact ⟨k + 1, by omega, by go_num⟩
        case measure => simp [intOf]; omega
      · go_wp2_with fail
        refine (HPB.out w1 KS.out).mono ?_
        rintro e w2 ⟨v2, rfl, ho2, hb2⟩
        obtain ⟨A2, n2, c2, rfl, hB2⟩ := ho2.shape
        have KB := Lib.hid hB2
        have hn2 : n2 ≤ 70 := by have := hB2.len; omega
        have hc2 := hB2.cap
        have hs2 := hB2.small
        unfold maxLen at hs2
        have hbw := hb1.trans (hb2.mono hb1.size)
        clear ho2 hB2 HPB hb1 hb2 KS
        go_wp2
        go_loopw [11] (fun kv wr => ∃ k : Nat, k ≤ n2 ∧ kv = .int .i64 k ∧ Below w.heap.size w wr ∧ Below w2.heap.size w2 wr) (fun kv _ => n2 - (intOf kv).toNat)
        case atStart => exact ⟨0, Nat.zero_le _, rfl, hbw, Below.refl _ _⟩
        case round =>
          obtain ⟨j, hj, rfl, hbr, hbr2⟩ := hrel
          clear hbw
          by_cases hlt2 : j < n2
          · have HU := Lib.hid (bytes_any _ _ _ _ wr ((KB.out.go hbr2).take (k := j) hj) (fun x hx => HSB.out x (List.mem_of_mem_take hx)) (by omega))
            unfold GotB at HU
            rw [HRB.out j (by rw [KB.out.len]; exact hlt2)] at HU
            go_wp2_with fail
            refine HU.out.mono ?_
            rintro e w5 ⟨v5, rfl, _, hb5⟩
            clear HU
            have h1 := hbr.trans (hb5.mono hbr.size)
            have h2 := hbr2.trans (hb5.mono hbr2.size)
            clear hbr hbr2 hb5
            go_wp2
            go_roundw
            case rel => exact ⟨j + 1, by omega, by go_num, h1, h2⟩
            case measure => simp [intOf]; omega
          · go_wp2_with fail
            refine (awake_any _).mono ?_
            rintro e w8 ⟨rfl, hb8⟩
            go_wp2
            go_ret
            exact ⟨rfl, hbr.trans (hb8.mono hbr.size)⟩
end Go.Proofs.Ytjhlglckdbjgcaa
