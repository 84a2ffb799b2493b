/-
  The law WireRead as a walk: it returns true and changes nothing that was there. No conditions beyond the types of the arguments.
-/
import Derived.Test.YtjhlglckdbjgcaaWire
namespace Go.Proofs.Ytjhlglckdbjgcaa
open Go.ChangeShapes Go.WideShapes Go.ChangeAt Go.RowKit
set_option maxHeartbeats 1000000
set_option maxRecDepth 100000

/-- A row of the call's own is kept where another block is written. -/
theorem Own.other {w w' : World} {base : Nat} {v : Value} {l : List Int} {r : Option Nat} (h : Own w base v l) (hg : w.grownBy w' r) (hr : ∀ k, r = some k → k < base) : Own w' base v l := by
  refine ⟨h.1, ?_⟩
  rcases h.2 with h0 | ⟨g, cap, cur, e, hbg, hgg, hnc, hm, hs, ht⟩
  · exact .inl h0
  · refine .inr ⟨g, cap, cur, e, hbg, ?_, hnc, hm, hs, ht⟩
    rw [hg.block g ?_ (fun e => by have := hr g e.symm; omega)]
    · exact hgg
    · rcases Nat.lt_or_ge g w.heap.size with h1 | h1
      · exact h1
      · rw [Array.getElem?_eq_none h1] at hgg; cases hgg

section
variable {P : Program} (w : World)
theorem run_app2 (t ty e : TypeId) (he : e = 5) (i : TypeInfo) (ht : P.underlying t = some (.slice e)) (hi : P.info? e = some i) (hz : i.zero = some (.int .u8 0)) (hsz : i.size = 1) (hby : i.bytes = 1)
    (base : Nat) (v : Value) (xs : List Int) (hown : Own w base v xs) {B : Nat} {A : Option Addr} {m c : Nat} {ys : List Int} (hy : Byt w B A m c ys)
    (hs : xs.length + m ≤ 4294967296) (hb : base ≤ w.heap.size) :
    ∃ v' w', (Builtin.append_ #[t, t] ty #[v, .slice A m c]).run P w = .ok v' w' ∧ Own w' base v' (xs ++ ys) ∧ Below base w w' ∧ w.grownBy w' v.ownBlock := by
  subst he
  rcases A with _ | ad
  · have h0 := hy.nil rfl
    have h1 := hy.cap
    obtain rfl : c = 0 := h0
    obtain rfl : m = 0 := by omega
    have hl : ys = [] := List.eq_nil_of_length_eq_zero hy.len
    subst hl
    exact ⟨v, w, run_append_owned_none (P := P) w base t ty _ i 1 ht hi v _ _ hown, by simpa using hown, Below.refl _ _, rfl, rfl, rfl, Nat.le_refl _, fun _ _ _ => rfl⟩
  · have hcells : ∀ j u, (bv ys)[j]? = some u → w.cell? (ad.add j) = some u := by
      intro j u hu
      obtain ⟨hj, rfl⟩ := bv_get hu
      have := hy.len
      obtain ⟨b, o, e, _, hc⟩ := hy.cells (by omega)
      obtain rfl := Option.some.inj e
      rw [Addr.add_lit]
      exact hc j (by omega)
    obtain ⟨v', w', hr, h2, h3, _, _⟩ := run_append_own_at (P := P) w base t ty _ i (.int .u8 0) 1 1 ht hi hz hsz hby rfl (by omega) v xs.length (bv xs) hown ad m c (bv ys)
      (by rw [bv_len, hy.len, Nat.mul_one]) hcells (bv_one ys) (by unfold maxLen; omega) (by omega) hb
    refine ⟨v', w', hr, ?_, (Below.refl _ _).grown h3 hb (fun k hk => (World.ownsRow.lt hown k hk).1), h3⟩
    unfold Own
    rw [← bv_app, List.length_append, hy.len]
    exact h2

/-- The walk at an append of a slice to a row of the call's own, with what else is kept. -/
theorem wpList_app2 {ops : Array Oper} {rest : List Oper} {o : Oper} {a : Act} {Q : Exit → Act → World → Prop} (hgd : Region.wanted o (yielded ops a.tmps) = true) (s x : Operand) (t : TypeId)
    (ho : o.op = .call { callee := .builtin .append, args := #[s, x], argTypes := #[t, t] })
    {e : TypeId} (he : e = 5) {i : TypeInfo} (ht : P.underlying t = some (.slice e)) (hi : P.info? e = some i) (hz : i.zero = some (.int .u8 0)) (hsz : i.size = 1) (hby : i.bytes = 1)
    {base : Nat} {v : Value} {xs : List Int} (hown : Own w base v xs) (hs : a.eval s = v) {B : Nat} {A : Option Addr} {m c : Nat} {ys : List Int} (hy : Byt w B A m c ys) (hx : a.eval x = .slice A m c)
    (hsm : xs.length + m ≤ 4294967296) (hb : base ≤ w.heap.size)
    (h : ∀ v' w', Own w' base v' (xs ++ ys) → Below base w w' → w.grownBy w' v.ownBlock → wpList P ops Q rest (a.put o.dst v') w') : wpList P ops Q (o :: rest) a w := by
  refine wpList_step fun K hK => ?_
  rw [if_pos hgd]
  obtain ⟨v', w', hrun, h2, h3, h4⟩ := run_app2 (P := P) w t o.type e he i ht hi hz hsz hby base v xs hown hy hsm hb
  unfold Oper.wp execOp
  simp only [ho, resolve, invoke, builtin, Sem.run_bind, Sem.run_pure, Result.andThen_ok, List.map_toArray, List.map_cons, List.map_nil, hs, hx, hrun]
  exact hK _ _ (h v' w' h2 h3 h4)
end

theorem wireRead_walk (a0 : Option Addr) (len0 cap0 : Nat) (z0 : List Int) (a1 : Int) (a2 : Option Addr) (len2 cap2 : Nat) (z2 : List Int) (a3 : Int) (w : World) (w0 : IsRow .u8 w a0 len0 cap0 z0) (w1 : (Lit.int .u64 a1).wf = true) (w2 : IsRow .u8 w a2 len2 cap2 z2) (w3 : (Lit.int .u8 a3).wf = true) :
    Calls Try.prog 5 #[.slice a0 len0 cap0, .int .u64 a1, .slice a2 len2 cap2, .int .u8 a3] w fun e w' => e = .returned (.bool true) ∧ Below w.heap.size w w' := by
  obtain ⟨i0, hi, hz0, hz1, hz2⟩ := info_parts info8
  obtain ⟨hB0, hS0⟩ := w0.byt
  obtain ⟨hB2, hS2⟩ := w2.byt
  obtain ⟨x0, x1⟩ := u64_bd w1
  obtain ⟨c0, c1⟩ := byte_bd w3
  have hl0 := hB0.cap
  have hl2 := hB2.cap
  have hm0 := hB0.small
  have hm2 := hB2.small
  unfold maxLen at hm0 hm2
  generalize z0.take len0 = l at *
  generalize z2.take len2 = more at *
  have HB0 := Lib.hid hB0
  have HB2 := Lib.hid hB2
  have HS0 := Lib.hid hS0
  have HS2 := Lib.hid hS2
  have HL2 := Lib.hid hB2.len
  clear hB0 hB2 hS0 hS2 w0 w1 w2 w3 z0 z2
  by_cases hbig : 200 < len0 ∨ 40 < len2
  · have HA := Lib.hid (awake_any w)
    by_cases hb0 : 200 < len0
    · clear hbig
      go_enter Try.func5, Try.ntmps5
      go_wp2_with fail
      refine HA.out.mono ?_
      rintro e w' ⟨rfl, hb⟩
      go_wp2
      go_ret
      exact ⟨rfl, hb⟩
    · have hb2 : 40 < len2 := by omega
      clear hbig
      go_enter Try.func5, Try.ntmps5
      go_wp2_with fail
      refine HA.out.mono ?_
      rintro e w' ⟨rfl, hb⟩
      go_wp2
      go_ret
      exact ⟨rfl, hb⟩
  · have hb0 : ¬ 200 < len0 := by omega
    have hb2 : ¬ 40 < len2 := by omega
    clear hbig
    have hea := enc_len10 (n := a1.toNat) (by omega)
    have HSE : Hid (Small (enc a1.toNat)) := Lib.hid (enc_bytes _)
    have HEP := Lib.hid (enc_pos a1.toNat)
    obtain ⟨ea, hea'⟩ : ∃ ea, enc a1.toNat = ea := ⟨_, rfl⟩
    have HPA : Hid (∀ W, Calls Try.prog 13 #[.slice none 0 0, .int .u64 a1] W (Made W ea)) := Lib.hid fun W => by
      rw [← hea']
      exact putUintR_any none 0 0 [] a1 W Byt.none_ (by omega) x0 x1
    rw [hea'] at hea HSE HEP
    clear hea'
    go_enter Try.func5, Try.ntmps5
    go_wp2_with fail
    refine (HPA.out w).mono ?_
    rintro e w1 ⟨v1, rfl, ho1, hb1⟩
    obtain ⟨A1, n1, c1, rfl, hB1⟩ := ho1.shape
    have HO1 := Lib.hid ho1
    have KA := Lib.hid hB1
    have hn1 : n1 ≤ 10 := by have := hB1.len; omega
    have hcap1 := hB1.cap
    have hsm1 := hB1.small
    unfold maxLen at hsm1
    have K0 := Lib.hid (HB0.out.go hb1)
    have K2 := Lib.hid (HB2.out.go hb1)
    clear ho1 hB1 HPA HB0 HB2
    have hp1 : 0 < n1 := by have := KA.out.len; have := HEP.out; omega
    obtain ⟨b1, o1, rfl, hlt1, _⟩ := KA.out.cells hp1
    have HLT := Lib.hid hlt1
    clear hlt1
    obtain ⟨q, hq, hq1⟩ : ∃ q : Nat, a3 % ((n1 : Int) + 1) = q ∧ q ≤ n1 := by
      have h1 := Int.emod_nonneg a3 (show (n1 : Int) + 1 ≠ 0 by omega)
      have h2 := Int.emod_lt_of_pos a3 (show (0 : Int) < (n1 : Int) + 1 by omega)
      exact ⟨(a3 % ((n1 : Int) + 1)).toNat, by omega, by omega⟩
    have hnz : ((n1 : Int) + 1 == 0) = false := by rw [beq_eq_false_iff_ne]; omega
    have HQ := Lib.hid (KA.out.take (k := q) hq1)
    go_wp2_with (first
      | (at_builtin
         refine wpList_app2 _ rfl (.tmp 22) (.tmp 30) 22 rfl rfl Try.underlying22 hi hz0 hz1 hz2 (base := w1.heap.size) (xs := []) (World.ownsRow_lit w1 #[] 0 (Nat.le_refl _) (Nat.zero_le _) rfl) rfl (HQ.out.alloc _) rfl (by simp; omega) (by simp) ?_
         intro v3 w3 ho3 hb3 _
         have hb3' : Below w1.heap.size w1 w3 := ((Below.refl _ _).alloc (Nat.le_refl _) _).trans hb3
         clear hb3)
      | (at_builtin
         refine wpList_app2 _ rfl (.tmp 31) (.tmp 32) 22 rfl rfl Try.underlying22 hi hz0 hz1 hz2 ho3 rfl (K2.out.below hb3') rfl (by simp; omega) hb3'.size ?_
         intro v4 w4 ho4 hb4 _
         have hb4' : Below w1.heap.size w1 w4 := hb3'.trans hb4
         clear hb4 ho3 hb3'))
    refine (awake_any _).mono ?_
    rintro e w5 ⟨rfl, hb5⟩
    have s4 := hb4'.size
    have hb15 : Below w1.heap.size w1 w5 := hb4'.trans (hb5.mono s4)
    have O1 := Lib.hid (HO1.out.below hb15)
    have O4 := Lib.hid (ho4.below hb5)
    have L0 := Lib.hid (K0.out.go hb15)
    have L2 := Lib.hid (K2.out.go hb15)
    clear ho4 hb4' hb5 s4 HO1 K0 K2 HQ
    go_wp2_with fail
    refine (same_any _ _ _ _ w5 L0.out HS0.out (by omega)).mono ?_
    rintro e w6 ⟨rfl, hb6⟩
    have hb16 : Below w1.heap.size w1 w6 := hb15.trans (hb6.mono hb15.size)
    have P1 := Lib.hid (O1.out.below hb6)
    have P4 := Lib.hid (O4.out.below hb6)
    have M2 := Lib.hid (L2.out.go hb6)
    clear O1 O4 L2 L0 hb15 hb6
    have hb06 : Below w.heap.size w w6 := hb1.trans (hb16.mono hb1.size)
    go_wp2_with (first
      | (at_builtin
         refine wpList_app2 _ rfl (.tmp 40) (.tmp 41) 22 rfl rfl Try.underlying22 hi hz0 hz1 hz2 P1.out rfl M2.out rfl (by omega) hb06.size ?_
         intro v7 w7 ho7 hb7 hg7
         have P7 := Lib.hid (P4.out.other hg7 (fun k hk => by
           simp [Value.ownBlock] at hk
           have := HLT.out
           omega)))
      | fail)
    obtain ⟨A7, n7, c7, rfl, hB7⟩ := ho7.shape
    have hS7 : Small (ea ++ more) := fun x hx => by
      rcases List.mem_append.1 hx with h | h
      · exact HSE.out x h
      · exact HS2.out x h
    have hn7 : n7 ≤ 1000 := by
      have h1 := hB7.len
      have h2 := HL2.out
      rw [List.length_append] at h1
      omega
    have hb07 : Below w.heap.size w w7 := hb06.trans hb7
    have HC := Lib.hid (same_any _ _ _ _ w7 hB7 hS7 (by omega))
    clear ho7 hB7 hS7 hb7 hg7 P1 P4 M2 hb16 hb06
    refine HC.out.mono ?_
    rintro e w8 ⟨rfl, hb8⟩
    obtain ⟨A4, n4, c4, rfl, hB4⟩ := (P7.out.below hb8).shape
    have hS4 : Small ([] ++ ea.take q ++ more) := fun x hx => by
      rcases List.mem_append.1 hx with h | h
      · exact HSE.out x (List.mem_of_mem_take (by simpa using h))
      · exact HS2.out x h
    have hn4 : n4 ≤ 1000 := by
      have h1 := hB4.len
      have h2 := HL2.out
      simp only [List.nil_append, List.length_append, List.length_take] at h1
      omega
    have HC4 := Lib.hid (same_any _ _ _ _ w8 hB4 hS4 (by omega))
    have hb08 := hb07.trans (hb8.mono hb07.size)
    clear hB4 hS4 P7 HC hb8 hb07
    go_wp2_with fail
    refine HC4.out.mono ?_
    rintro e w9 ⟨rfl, hb9⟩
    go_wp2
    go_ret
    exact ⟨rfl, hb08.trans (hb9.mono hb08.size)⟩
end Go.Proofs.Ytjhlglckdbjgcaa
