/-
  The law AuditDecode as a walk over any log that keeps the bundle. Conditions: the bundle.
-/
import Derived.Test.YtlgoiccekgjhnaaAbkLaw
import Derived.Test.YtlgoiccekgjhnaaNub
import Derived.Deep.RegionLaw
namespace Go.Proofs.Ytlgoiccekgjhnaa
open Go.ChangeShapes Go.WideShapes Go.RowKit
set_option linter.unusedVariables false
set_option maxHeartbeats 4000000
set_option maxRecDepth 100000

section
variable {P : Program}
theorem step_appB (w : World) {ops : Array Oper} {o : Oper} {a : Act} {K : Act → World → Prop} {Q : Exit → Act → World → Prop} {E : Prop} (hgd : o.guard = none) (s x : Operand) (t : TypeId)
    (ho : o.op = .call { callee := .builtin .append, args := #[s, x], argTypes := #[t, t] })
    {i : TypeInfo} (ht : P.underlying t = some (.slice 5)) (hi : P.info? 5 = some i) (hz : i.zero = some (.int .u8 0)) (hsz : i.size = 1) (hby : i.bytes = 1)
    {base : Nat} {v : Value} {xs : List Int} (hown : OwnB w base v xs) (hs : a.eval s = v) {B : Nat} {A : Option Addr} {m c : Nat} {ys : List Int} (hy : Bts w B A m c ys) (hx : a.eval x = .slice A m c)
    (hsm : xs.length + m ≤ 4294967296) (hb : base ≤ w.heap.size)
    (h : ∀ v' w', OwnB w' base v' (xs ++ ys) → Below base w w' → (∀ k, k < w.heap.size → v.ownBlock ≠ some k → w'.heap[k]? = w.heap[k]?) → K (a.put o.dst v') w') :
    if Region.wanted o (yielded ops a.tmps) = true then Oper.wp P o a w K Q else E := by
  have hw : Region.wanted o (yielded ops a.tmps) = true := by simp [Region.wanted, hgd]
  rw [if_pos hw]
  obtain ⟨v', w', hrun, h2, h3, h4⟩ : ∃ v' w', (Builtin.append_ #[t, t] o.type #[v, .slice A m c]).run P w = .ok v' w' ∧ OwnB w' base v' (xs ++ ys) ∧ Below base w w' ∧ w.grownBy w' v.ownBlock := by
    rcases A with _ | ad
    · have h0 := hy.nil rfl
      have h1 := hy.cap
      obtain rfl : c = 0 := h0
      obtain rfl : m = 0 := by omega
      have hl : ys = [] := List.eq_nil_of_length_eq_zero hy.len
      subst hl
      exact ⟨v, w, run_append_owned_none (P := P) w base t o.type _ i 1 ht hi v _ _ hown, by simpa using hown, Below.refl _ _, World.grownBy.refl _ _⟩
    · have hcells : ∀ j u, (bv ys)[j]? = some u → w.cell? (ad.add j) = some u := by
        intro j u hu
        obtain ⟨hj, rfl⟩ := bv_get hu
        have := hy.len
        obtain ⟨b, o, e, _, hc⟩ := hy.cells (by omega)
        obtain rfl := Option.some.inj e
        rw [Addr.add_lit]
        exact hc j (by omega)
      obtain ⟨v', w', hr, h2, h3, _, _⟩ := run_append_own_at (P := P) w base t o.type _ i (.int .u8 0) 1 1 ht hi hz hsz hby rfl (by omega) v xs.length (bv xs) hown ad m c (bv ys)
        (by rw [bv_len, hy.len, Nat.mul_one]) hcells (bv_one ys) (by unfold maxLen; omega) (by omega) hb
      refine ⟨v', w', hr, ?_, (Below.refl _ _).grown h3 hb (fun k hk => (World.ownsRow.lt hown k hk).1), h3⟩
      unfold OwnB
      rw [← bv_app, List.length_append, hy.len]
      exact h2
  unfold Oper.wp execOp
  simp only [ho, resolve, invoke, builtin, Sem.run_bind, Sem.run_pure, Result.andThen_ok, List.map_toArray, List.map_cons, List.map_nil, hs, hx, hrun]
  exact h v' w' h2 h3 (fun k hk hne => h4.block k hk (fun e => hne e.symm))
end
theorem OwnB.made0 (w : World) : OwnB (w.alloc (.cells #[] 5)) w.heap.size (.slice (some ⟨w.heap.size, 0, none⟩) 0 0) [] := World.ownsRow_made w #[] 0 (Nat.le_refl _) (Nat.zero_le _) rfl
theorem bts_one (w : World) (x : Int) : Bts (w.alloc (.cells #[.int .u8 x] 5)) (w.heap.size + 1) (some ⟨w.heap.size, 0, none⟩) 1 1 [x] := Bts.new w [x] #[.int .u8 x] 5 rfl (by unfold maxLen; simp)
theorem Bts.same {w w' : World} {B g n c : Nat} {l : List Int} (h : Bts w B (some ⟨g, 0, none⟩) n c l) (hk : w'.heap[g]? = w.heap[g]?) : Bts w' B (some ⟨g, 0, none⟩) n c l :=
  ⟨h.len, h.cap, h.small, h.nil, fun hn => by
    obtain ⟨b, o, e, hb, hc⟩ := h.cells hn
    cases e
    refine ⟨g, 0, rfl, hb, fun i hi => ?_⟩
    have h1 := hc i hi
    simp only [World.cell?] at h1 ⊢
    rw [hk]
    exact h1⟩
theorem OwnB.num {w : World} {B k : Nat} {v : Value} {l : List Int} (h : OwnB w B v l) (hs : Small l) (hl : l.length ≤ k) : NumB w v k := by
  obtain ⟨A, n, c, e, hb⟩ := h.shape
  exact ⟨A, n, c, _, e, hb, hs, by rw [← hb.len]; exact hl⟩
theorem OwnB.opn {w : World} {base : Nat} {v : Value} {l : List Int} (h : OwnB w base v l) (hl : 0 < l.length) : ∃ g c, v = .slice (some ⟨g, 0, none⟩) l.length c ∧ base ≤ g ∧ g < w.heap.size ∧ Bts w w.heap.size (some ⟨g, 0, none⟩) l.length c l := by
  obtain ⟨A, n, c, e, hb⟩ := h.shape
  obtain ⟨g, cap, e2, h1, h2, _⟩ := h.own.store (k := 0) (by rw [iv_len]; exact hl)
  rw [iv_len] at e2
  have e3 := e.symm.trans e2
  injection e3 with e4 e5 e6
  subst e4 e5 e6
  exact ⟨g, _, e2, h1, h2, hb⟩
theorem OwnB.store {w : World} {base g n c : Nat} {l : List Int} (h : OwnB w base (.slice (some ⟨g, 0, none⟩) n c) l) {k : Nat} (hk : k < l.length) :
    w.cell? ⟨g, k, none⟩ = some (.int .u8 (l.getD k 0)) ∧ w.frozen? ⟨g, k, none⟩ = false ∧ ∀ x : Int, OwnB (w.setCell ⟨g, k, none⟩ (.int .u8 x)) base (.slice (some ⟨g, 0, none⟩) n c) (l.set k x) := by
  obtain ⟨g', cap, e2, h1, h2, h3, h4, h5⟩ := h.own.store (k := k) (by rw [iv_len]; exact hk)
  injection e2 with e4 e5 e6
  injection e4 with e4
  injection e4 with e4
  subst e4 e5 e6
  refine ⟨by rw [h3, iv_at hk], h4, fun x => ?_⟩
  have := h5 (.int .u8 x)
  rw [iv_set] at this
  exact this.bts
theorem ob_neB {a b n c : Nat} (h : a ≠ b) : (Value.slice (some ⟨a, 0, none⟩) n c).ownBlock ≠ some b := fun e => h (Option.some.inj e)
section
variable {Lg : LgP} (C : AuC Lg)
include C
theorem auditDecode_all (a0 : Option Addr) (len0 cap0 : Nat) (z0 : List Int) (a1 : Option Addr) (len1 cap1 : Nat) (z1 : List Int) (an at_ a3 a4 : Int) (w : World) (w0 : IsRow .u8 w a0 len0 cap0 z0) (w1 : IsRow .u16 w a1 len1 cap1 z1) (wn : (Lit.int .u8 an).wf = true) (w2 : (Lit.int .u16 at_).wf = true) (w3 : (Lit.int .u8 a3).wf = true) (w4 : (Lit.int .u8 a4).wf = true) :
    Calls Try.prog 5 #[.slice a0 len0 cap0, .slice a1 len1 cap1, .int .u8 an, .int .u16 at_, .int .u8 a3, .int .u8 a4] w fun e w' => e = .returned (.bool true) ∧ Below w.heap.size w w' := by
  obtain ⟨hrow0, hfit0⟩ := w0.row
  generalize z0.take len0 = R at hrow0 hfit0
  obtain ⟨hrow, hfit⟩ := w1.row
  generalize z1.take len1 = L at hrow hfit
  have HRW := Lib.hid hrow0.bts
  have HRS := Lib.hid hfit0.small
  have hcap0 := hrow0.cap
  have hsm0 := hrow0.small
  unfold maxLen at hsm0
  have HOF := Lib.hid (of_any a1 len1 cap1 L 100 w hrow (by omega))
  have HFT := Lib.hid (hfit.take 100)
  have htl : (L.take 100).length ≤ 900 := by rw [List.length_take]; omega
  generalize L.take 100 = T at *
  have HTL := Lib.hid htl
  obtain ⟨b20, b21⟩ := u16_bd w2
  obtain ⟨bn0, bn1⟩ := byte_bd wn
  have sn0 : 0 ≤ an % 8 := Int.emod_nonneg _ (by omega)
  have sn1 : an % 8 < 8 := Int.emod_lt_of_pos _ (by omega)
  obtain ⟨mst, hmst⟩ := Int.eq_ofNat_of_zero_le sn0
  obtain ⟨b30, b31⟩ := byte_bd w3
  obtain ⟨b40, b41⟩ := byte_bd w4
  obtain ⟨i0, hi, hz0, hz1, hz2⟩ := info_parts info8
  have HI := Lib.hid hi
  have HZ := Lib.hid hz0
  have HZ1 := Lib.hid hz1
  have HZ2 := Lib.hid hz2
  have hq0 : 0 ≤ a3 % 4 := Int.emod_nonneg _ (by omega)
  have hq1 : a3 % 4 < 4 := Int.emod_lt_of_pos _ (by omega)
  clear w0 w1 wn w2 w3 w4 htl hrow hfit hrow0 hfit0 hi hz0 hz1 hz2
  by_cases hm : len0 ≤ 120
  · have hmi : (len0 : Int) ≤ 120 := by omega
    go_enter Try.func5, Try.ntmps5
    go_wp2_with fail
    refine HOF.out.mono ?_
    rintro e w2 ⟨b, rfl, hts2, hge, hb2⟩
    have HEV := Lib.hid (evs_made (w0 := w) (most := mst) hts2 hge hb2 HFT.out HTL.out (by omega))
    clear hts2 hb2 HOF hge
    go_wp2_with fail
    rw [hmst]
    have hm8 : mst < 8 := by omega
    clear hmst sn0 sn1
    refine HEV.out.mono ?_
    rintro x w3 ⟨v3, l, rfl, hgl, hll, hov, hb3⟩
    obtain ⟨A3, n3, c3, rfl, hk3⟩ := hov.shape
    have HB3 := Lib.hid hb3
    have HE1 := Lib.hid (bytesOf_any A3 n3 c3 l w3 hk3 hgl (by have := hk3.len; omega))
    have hlen := (lgB_len (d := start) hgl).1
    have HES : Hid (Small (lgB start l)) := Lib.hid lgB_small
    unfold Made at HE1
    have hlen7 : (lgB start l).length ≤ 413 := by omega
    clear hb3 HEV hgl hov hk3 hlen hll
    generalize lgB start l = E at *
    go_wp2_with fail
    refine HE1.out.mono ?_
    rintro e w4 ⟨v4, rfl, ho4, hb4⟩
    have HO4 := Lib.hid ho4
    have HB4 := Lib.hid (Below.then HB3.out hb4 (Nat.le_refl _))
    have hw3 := HB3.out.size
    by_cases hE0 : E.length = 0
    · obtain ⟨A9, n9, c9, rfl, hr9⟩ := ho4.shape
      have hn9 : n9 = 0 := hr9.len.symm.trans hE0
      subst hn9
      have HN5 : Hid (NumB w4 (.slice A9 0 c9) 450) := Lib.hid ⟨A9, 0, c9, E, rfl, hr9, HES.out, by omega⟩
      have HB5 := HB4
      clear ho4 hb4 hr9 HE1 HB3 HO4 HES
      go_wp2_with fail
      refine (aw17_any C _).mono ?_
      rintro e w6 ⟨rfl, hb6⟩
      have HN6 := Lib.hid (HN5.out.go hb6)
      have HB6 := Lib.hid (Below.then HB5.out hb6 (Nat.le_refl _))
      have HS := Lib.hid (same17_any C a0 len0 cap0 R w6 ((HRW.out.below HB6.out).more HB6.out.size) HRS.out (by omega))
      clear hb6 HN5 HB5
      go_wp2_with fail
      refine HS.out.mono ?_
      rintro e w7 ⟨rfl, hb7⟩
      obtain ⟨A7, n7, c7, l7, hv7, hr7, hs7, hn7⟩ := HN6.out.go hb7
      have HS7 := Lib.hid (same17_any C A7 n7 c7 l7 w7 hr7 hs7 (by omega))
      have HB7 := Lib.hid (Below.then HB6.out hb7 (Nat.le_refl _))
      first | subst hv7 | (cases hv7)
      clear hb7 hr7 hs7 HS HN6 HB6
      go_wp2_with fail
      refine HS7.out.mono ?_
      rintro e w8 ⟨rfl, hb8⟩
      have HB8 := Lib.hid (Below.then HB7.out hb8 (Nat.le_refl _))
      clear hb8 HS7 HB7
      go_wp2
      go_ret
      exact ⟨rfl, HB8.out⟩
    obtain ⟨eb, c4, hv4, hge4, hlt4, hr4⟩ := ho4.opn (by omega)
    obtain ⟨n4, hn4⟩ : ∃ n4, E.length = n4 := ⟨_, rfl⟩
    rw [hn4] at hv4 hr4
    subst hv4
    have hcap4 := hr4.cap
    have hsm4 := hr4.small
    unfold maxLen at hsm4
    have HR4 := Lib.hid hr4
    have hn2 : 1 ≤ n4 := by omega
    have hn36 : n4 ≤ 413 := by omega
    have hn0 : 0 < n4 := by omega
    have HN4 := Lib.hid hn4
    have hk0 : 0 ≤ at_ % (n4 : Int) := Int.emod_nonneg _ (by omega)
    have hk1 : at_ % (n4 : Int) < n4 := Int.emod_lt_of_pos _ (by omega)
    have hrem : at_.tmod (n4 : Int) = at_ % (n4 : Int) := Int.tmod_eq_emod_of_nonneg (by omega)
    obtain ⟨k, hk⟩ := Int.eq_ofNat_of_zero_le hk0
    rw [hk] at hrem hk1 hk0
    have hkn : k < n4 := by omega
    have hz : ¬ (n4 : Int) = 0 := by omega
    clear hk hn4 ho4 hb4 hr4 HE1 HB3 hlen7 hE0
    obtain ⟨q, hq⟩ : ∃ q, a3 % 4 = q := ⟨_, rfl⟩
    rw [hq] at hq0 hq1
    rcases (by omega : q = 0 ∨ q = 1 ∨ q = 2 ∨ q = 3) with hqq | hqq | hqq | hqq
    · -- a byte changed
      have e0 : (a3 % 4 == 0) = true := by rw [hq, hqq]; rfl
      obtain ⟨s1, s2, s3⟩ := HO4.out.store (k := k) (by rw [HN4.out]; exact hkn)
      have HN5 : Hid (NumB (w4.setCell ⟨eb, k, none⟩ (.int .u8 (bits .xor .u8 (E.getD k 0) a4))) (.slice (some ⟨eb, 0, none⟩) n4 c4) 450) := Lib.hid (
        (s3 (bits .xor .u8 (E.getD k 0) a4)).num (k := 450) (fun x hx => by
          rcases List.mem_or_eq_of_mem_set hx with h | h
          · exact HES.out x h
          · subst h; exact ⟨bits_lo_u8 _ _ _, bits_hi_u8 _ _ _⟩) (by rw [List.length_set, HN4.out]; omega))
      have HB5 := Lib.hid (HB4.out.setCell (p := ⟨eb, k, none⟩) (by simp only; omega) (.int .u8 (bits .xor .u8 (E.getD k 0) a4)))
      generalize E.getD k 0 = ek at *
      clear s3 hq hqq
      go_wp2_with fail
      refine (aw17_any C _).mono ?_
      rintro e w6 ⟨rfl, hb6⟩
      have HN6 := Lib.hid (HN5.out.go hb6)
      have HB6 := Lib.hid (Below.then HB5.out hb6 (Nat.le_refl _))
      have HS := Lib.hid (same17_any C a0 len0 cap0 R w6 ((HRW.out.below HB6.out).more HB6.out.size) HRS.out (by omega))
      clear hb6 HN5 HB5
      go_wp2_with fail
      refine HS.out.mono ?_
      rintro e w7 ⟨rfl, hb7⟩
      obtain ⟨A7, n7, c7, l7, hv7, hr7, hs7, hn7⟩ := HN6.out.go hb7
      have HS7 := Lib.hid (same17_any C A7 n7 c7 l7 w7 hr7 hs7 (by omega))
      have HB7 := Lib.hid (Below.then HB6.out hb7 (Nat.le_refl _))
      first | subst hv7 | (cases hv7)
      clear hb7 hr7 hs7 HS HN6 HB6
      go_wp2_with fail
      refine HS7.out.mono ?_
      rintro e w8 ⟨rfl, hb8⟩
      have HB8 := Lib.hid (Below.then HB7.out hb8 (Nat.le_refl _))
      clear hb8 HS7 HB7
      go_wp2
      go_ret
      exact ⟨rfl, HB8.out⟩
    · -- a byte put in
      have e0 : (a3 % 4 == 0) = false := by rw [hq, hqq]; rfl
      have e1 : (a3 % 4 == 1) = true := by rw [hq, hqq]; rfl
      have hkc : (k : Int) ≤ (c4 : Int) := by omega
      have hk4 : (k : Int) ≤ (n4 : Int) := by omega
      have hk5 : (n4 : Int) ≤ (c4 : Int) := by omega
      have hck : ¬ c4 = k := by omega
      have HR1 := Lib.hid (HR4.out.take (k := k) (by omega))
      have HR3 : Hid (Bts w4 w4.heap.size (some ⟨eb, k, none⟩) (n4 - k) (c4 - k) (E.drop k)) := Lib.hid (by
        have h9 := HR4.out.drop (k := k) (by omega)
        rw [if_neg hck] at h9
        simpa [Addr.add_lit] using h9)
      have HD1 : Hid (Below w4.heap.size w4 (w4.drew.alloc (.cells #[] 5))) := Lib.hid ((below_drewN (Below.refl _ _) 1).alloc (Nat.le_refl _) _)
      have HD2 : Hid (Below w4.heap.size w4 ((w4.drew.alloc (.cells #[] 5)).alloc (.cells #[.int .u8 a4] 5))) := Lib.hid (HD1.out.alloc (by simp) _)
      have HD3 : Hid (Below w4.heap.size w4 ((w4.drew.alloc (.cells #[.int .u8 a4] 5)).alloc (.cells #[] 5))) := Lib.hid (((below_drewN (Below.refl _ _) 1).alloc (Nat.le_refl _) _).alloc (by simp) _)
      have HC2 : Hid (Bts ((w4.drew.alloc (.cells #[] 5)).alloc (.cells #[.int .u8 a4] 5)) (w4.heap.size + 1 + 1) (some ⟨w4.heap.size + 1, 0, none⟩) 1 1 [a4]) := Lib.hid (by have := bts_one (w4.drew.alloc (.cells #[] 5)) a4; simpa using this)
      have HC3 : Hid (Bts ((w4.drew.alloc (.cells #[.int .u8 a4] 5)).alloc (.cells #[] 5)) (w4.heap.size + 1) (some ⟨w4.heap.size, 0, none⟩) 1 1 [a4]) := Lib.hid ((bts_one w4.drew a4).below ((Below.refl _ _).alloc (by simp) _))
      have HM3 : Hid (OwnB ((w4.drew.alloc (.cells #[.int .u8 a4] 5)).alloc (.cells #[] 5)) w4.heap.size (.slice (some ⟨w4.heap.size + 1, 0, none⟩) 0 0) []) := Lib.hid (by
        have h9 := (OwnB.made0 (w4.drew.alloc (.cells #[.int .u8 a4] 5))).down (B := w4.heap.size) (by simp)
        simpa using h9)
      clear hq hqq
      go_wp2
      go_region_law
        (first
          | (refine step_appB (w4.drew.alloc (.cells #[] 5)) rfl (.tmp 49) (.tmp 52) 52 rfl Try.underlying52 HI.out HZ.out HZ1.out HZ2.out (OwnB.made0 w4.drew) rfl (HR1.out.below HD1.out) rfl (by simp; omega) (by simp <;> omega) ?_
             intro v5 w5 ho5 hb5 hg5
             have HO5 : Hid (OwnB w5 w4.heap.size v5 (E.take k)) := Lib.hid (by simpa using ho5)
             have HW5 : Hid (Below w4.heap.size w4 w5) := Lib.hid (HD1.out.trans hb5)
             clear ho5 hb5 hg5)
          | (refine step_appB ((w4.drew.alloc (.cells #[] 5)).alloc (.cells #[.int .u8 a4] 5)) rfl (.tmp 49) (.tmp 52) 52 rfl Try.underlying52 HI.out HZ.out HZ1.out HZ2.out ((OwnB.made0 w4.drew).alloc _) rfl (HR1.out.below HD2.out) rfl (by simp; omega) (by simp <;> omega) ?_
             intro v5 w5 ho5 hb5 hg5
             have HO5 : Hid (OwnB w5 w4.heap.size v5 (E.take k)) := Lib.hid (by simpa using ho5)
             have HW5 : Hid (Below w4.heap.size w4 w5) := Lib.hid (HD2.out.trans hb5)
             have HC5 : Hid (Bts w5 (w4.heap.size + 1 + 1) (some ⟨w4.heap.size + 1, 0, none⟩) 1 1 [a4]) := Lib.hid (HC2.out.same (hg5 _ (by simp) (ob_neB (by simp))))
             clear ho5 hb5 hg5)
          | (refine step_appB ((w4.drew.alloc (.cells #[.int .u8 a4] 5)).alloc (.cells #[] 5)) rfl (.tmp 49) (.tmp 52) 52 rfl Try.underlying52 HI.out HZ.out HZ1.out HZ2.out HM3.out rfl (HR1.out.below HD3.out) rfl (by simp; omega) (by simp <;> omega) ?_
             intro v5 w5 ho5 hb5 hg5
             have HO5 : Hid (OwnB w5 w4.heap.size v5 (E.take k)) := Lib.hid (by simpa using ho5)
             have HW5 : Hid (Below w4.heap.size w4 w5) := Lib.hid (HD3.out.trans hb5)
             have HC5 : Hid (Bts w5 (w4.heap.size + 1) (some ⟨w4.heap.size, 0, none⟩) 1 1 [a4]) := Lib.hid (HC3.out.same (hg5 _ (by simp <;> omega) (ob_neB (by simp))))
             clear ho5 hb5 hg5)
          | (refine step_appB (w5.alloc (.cells #[.int .u8 a4] 5)) rfl (.tmp 53) (.tmp 55) 52 rfl Try.underlying52 HI.out HZ.out HZ1.out HZ2.out (HO5.out.alloc _) rfl (bts_one w5 a4) rfl (by rw [List.length_take]; omega) (by have := HW5.out.size; simp; omega) ?_
             intro v6 w6 ho6 hb6 hg6
             have HO6 := Lib.hid ho6
             have HW6 : Hid (Below w4.heap.size w4 w6) := Lib.hid ((HW5.out.alloc HW5.out.size _).trans hb6)
             clear ho6 hb6 hg6)
          | (refine step_appB w5 rfl (.tmp 53) (.tmp 55) 52 rfl Try.underlying52 HI.out HZ.out HZ1.out HZ2.out HO5.out rfl HC5.out rfl (by rw [List.length_take]; omega) HW5.out.size ?_
             intro v6 w6 ho6 hb6 hg6
             have HO6 := Lib.hid ho6
             have HW6 : Hid (Below w4.heap.size w4 w6) := Lib.hid (HW5.out.trans hb6)
             clear ho6 hb6 hg6)
          | (refine step_appB w6 rfl (.tmp 56) (.tmp 59) 52 rfl Try.underlying52 HI.out HZ.out HZ1.out HZ2.out HO6.out rfl (HR3.out.below HW6.out) rfl (by simp; omega) HW6.out.size ?_
             intro v7 w7 ho7 hb7 hg7
             have HN5 : Hid (NumB w7 v7 450) := Lib.hid (ho7.num (((HES.out.take k).app (fun x hx => by simp at hx; subst hx; exact ⟨b40, b41⟩)).app (HES.out.drop k)) (by simp only [List.length_append, List.length_take, List.length_drop, List.length_singleton]; rw [HN4.out]; omega))
             have HB5 : Hid (Below w.heap.size w w7) := Lib.hid (Below.then HB4.out (HW6.out.trans hb7) (Nat.le_refl _))
             clear ho7 hb7 hg7 HO6 HW6))
      all_goals
        go_wp2_with fail
        refine (aw17_any C _).mono ?_
        rintro e w6 ⟨rfl, hb6⟩
        have HN6 := Lib.hid (HN5.out.go hb6)
        have HB6 := Lib.hid (Below.then HB5.out hb6 (Nat.le_refl _))
        have HS := Lib.hid (same17_any C a0 len0 cap0 R w6 ((HRW.out.below HB6.out).more HB6.out.size) HRS.out (by omega))
        clear hb6 HN5 HB5
        go_wp2_with fail
        refine HS.out.mono ?_
        rintro e w7 ⟨rfl, hb7⟩
        obtain ⟨A7, n7, c7, l7, hv7, hr7, hs7, hn7⟩ := HN6.out.go hb7
        have HS7 := Lib.hid (same17_any C A7 n7 c7 l7 w7 hr7 hs7 (by omega))
        have HB7 := Lib.hid (Below.then HB6.out hb7 (Nat.le_refl _))
        first | subst hv7 | (cases hv7)
        clear hb7 hr7 hs7 HS HN6 HB6
        go_wp2_with fail
        refine HS7.out.mono ?_
        rintro e w8 ⟨rfl, hb8⟩
        have HB8 := Lib.hid (Below.then HB7.out hb8 (Nat.le_refl _))
        clear hb8 HS7 HB7
        go_wp2
        go_ret
        exact ⟨rfl, HB8.out⟩
    · -- a byte taken out
      have e0 : (a3 % 4 == 0) = false := by rw [hq, hqq]; rfl
      have e1 : (a3 % 4 == 1) = false := by rw [hq, hqq]; rfl
      have e2 : (a3 % 4 == 2) = true := by rw [hq, hqq]; rfl
      have hkc : (k : Int) ≤ (c4 : Int) := by omega
      have hkw : IntKind.i64.wrap ((k : Int) + 1) = (k : Int) + 1 := by rw [IntKind.wrap_i64]; omega
      have hk2 : (0 : Int) ≤ (k : Int) + 1 := by omega
      have hk3 : ((k : Int) + 1).toNat = k + 1 := by omega
      have hk4 : (k : Int) + 1 ≤ (n4 : Int) := by omega
      have hk5 : (n4 : Int) ≤ (c4 : Int) := by omega
      have hk6 : (k : Int) ≤ (k : Int) + 1 := by omega
      have HR1 := Lib.hid (HR4.out.take (k := k) (by omega))
      have HR2 := Lib.hid (HR4.out.drop (k := k + 1) (by omega))
      have HD1 : Hid (Below w4.heap.size w4 (w4.drew.alloc (.cells #[] 5))) := Lib.hid ((below_drewN (Below.refl _ _) 1).alloc (Nat.le_refl _) _)
      clear hq hqq
      by_cases hc1 : c4 = k + 1
      · rw [if_pos hc1] at HR2
        subst hc1
        have HR3 : Hid (Bts w4 w4.heap.size (some ⟨eb, 0, none⟩) 0 0 (E.drop (k + 1))) := Lib.hid (by have h9 := HR2.out; rwa [Nat.sub_self, show n4 - (k + 1) = 0 by omega] at h9)
        go_wp2
        go_region_law
          (first
            | (refine step_appB (w4.drew.alloc (.cells #[] 5)) rfl (.tmp 63) (.tmp 66) 52 rfl Try.underlying52 HI.out HZ.out HZ1.out HZ2.out (OwnB.made0 w4.drew) rfl (HR1.out.below HD1.out) rfl (by simp; omega) (by simp) ?_
               intro v5 w5 ho5 hb5 hg5
               have HO5 : Hid (OwnB w5 w4.heap.size v5 (E.take k)) := Lib.hid (by simpa using ho5)
               have HW5 : Hid (Below w4.heap.size w4 w5) := Lib.hid (HD1.out.trans hb5)
               clear ho5 hb5 hg5)
            | (refine step_appB w5 rfl (.tmp 67) (.tmp 71) 52 rfl Try.underlying52 HI.out HZ.out HZ1.out HZ2.out HO5.out rfl (HR3.out.below HW5.out) rfl (by rw [List.length_take]; omega) HW5.out.size ?_
               intro v6 w6 ho6 hb6 hg6
               have HN5 : Hid (NumB w6 v6 450) := Lib.hid (ho6.num (HES.out.take k |>.app (HES.out.drop (k + 1))) (by rw [List.length_append, List.length_take, List.length_drop, HN4.out]; omega))
               have HB5 : Hid (Below w.heap.size w w6) := Lib.hid (Below.then HB4.out (HW5.out.trans hb6) (Nat.le_refl _))
               clear ho6 hb6 hg6 HO5 HW5))
        clear HR1 HR2 HD1
        go_wp2_with fail
        refine (aw17_any C _).mono ?_
        rintro e w6 ⟨rfl, hb6⟩
        have HN6 := Lib.hid (HN5.out.go hb6)
        have HB6 := Lib.hid (Below.then HB5.out hb6 (Nat.le_refl _))
        have HS := Lib.hid (same17_any C a0 len0 cap0 R w6 ((HRW.out.below HB6.out).more HB6.out.size) HRS.out (by omega))
        clear hb6 HN5 HB5
        go_wp2_with fail
        refine HS.out.mono ?_
        rintro e w7 ⟨rfl, hb7⟩
        obtain ⟨A7, n7, c7, l7, hv7, hr7, hs7, hn7⟩ := HN6.out.go hb7
        have HS7 := Lib.hid (same17_any C A7 n7 c7 l7 w7 hr7 hs7 (by omega))
        have HB7 := Lib.hid (Below.then HB6.out hb7 (Nat.le_refl _))
        first | subst hv7 | (cases hv7)
        clear hb7 hr7 hs7 HS HN6 HB6
        go_wp2_with fail
        refine HS7.out.mono ?_
        rintro e w8 ⟨rfl, hb8⟩
        have HB8 := Lib.hid (Below.then HB7.out hb8 (Nat.le_refl _))
        clear hb8 HS7 HB7
        go_wp2
        go_ret
        exact ⟨rfl, HB8.out⟩
      · rw [if_neg hc1] at HR2
        have HR3 : Hid (Bts w4 w4.heap.size (some ⟨eb, k + 1, none⟩) (n4 - (k + 1)) (c4 - (k + 1)) (E.drop (k + 1))) := Lib.hid (by simpa [Addr.add_lit] using HR2.out)
        go_wp2
        go_region_law
          (first
            | (refine step_appB (w4.drew.alloc (.cells #[] 5)) rfl (.tmp 63) (.tmp 66) 52 rfl Try.underlying52 HI.out HZ.out HZ1.out HZ2.out (OwnB.made0 w4.drew) rfl (HR1.out.below HD1.out) rfl (by simp; omega) (by simp) ?_
               intro v5 w5 ho5 hb5 hg5
               have HO5 : Hid (OwnB w5 w4.heap.size v5 (E.take k)) := Lib.hid (by simpa using ho5)
               have HW5 : Hid (Below w4.heap.size w4 w5) := Lib.hid (HD1.out.trans hb5)
               clear ho5 hb5 hg5)
            | (refine step_appB w5 rfl (.tmp 67) (.tmp 71) 52 rfl Try.underlying52 HI.out HZ.out HZ1.out HZ2.out HO5.out rfl (HR3.out.below HW5.out) rfl (by rw [List.length_take]; omega) HW5.out.size ?_
               intro v6 w6 ho6 hb6 hg6
               have HN5 : Hid (NumB w6 v6 450) := Lib.hid (ho6.num (HES.out.take k |>.app (HES.out.drop (k + 1))) (by rw [List.length_append, List.length_take, List.length_drop, HN4.out]; omega))
               have HB5 : Hid (Below w.heap.size w w6) := Lib.hid (Below.then HB4.out (HW5.out.trans hb6) (Nat.le_refl _))
               clear ho6 hb6 hg6 HO5 HW5))
        clear HR1 HR2 HD1
        go_wp2_with fail
        refine (aw17_any C _).mono ?_
        rintro e w6 ⟨rfl, hb6⟩
        have HN6 := Lib.hid (HN5.out.go hb6)
        have HB6 := Lib.hid (Below.then HB5.out hb6 (Nat.le_refl _))
        have HS := Lib.hid (same17_any C a0 len0 cap0 R w6 ((HRW.out.below HB6.out).more HB6.out.size) HRS.out (by omega))
        clear hb6 HN5 HB5
        go_wp2_with fail
        refine HS.out.mono ?_
        rintro e w7 ⟨rfl, hb7⟩
        obtain ⟨A7, n7, c7, l7, hv7, hr7, hs7, hn7⟩ := HN6.out.go hb7
        have HS7 := Lib.hid (same17_any C A7 n7 c7 l7 w7 hr7 hs7 (by omega))
        have HB7 := Lib.hid (Below.then HB6.out hb7 (Nat.le_refl _))
        first | subst hv7 | (cases hv7)
        clear hb7 hr7 hs7 HS HN6 HB6
        go_wp2_with fail
        refine HS7.out.mono ?_
        rintro e w8 ⟨rfl, hb8⟩
        have HB8 := Lib.hid (Below.then HB7.out hb8 (Nat.le_refl _))
        clear hb8 HS7 HB7
        go_wp2
        go_ret
        exact ⟨rfl, HB8.out⟩
    · -- as it is
      have e0 : (a3 % 4 == 0) = false := by rw [hq, hqq]; rfl
      have e1 : (a3 % 4 == 1) = false := by rw [hq, hqq]; rfl
      have e2 : (a3 % 4 == 2) = false := by rw [hq, hqq]; rfl
      have HN5 : Hid (NumB w4 (.slice (some ⟨eb, 0, none⟩) n4 c4) 450) := Lib.hid (HO4.out.num HES.out (by rw [HN4.out]; omega))
      have HB5 := HB4
      clear hq hqq
      go_wp2_with fail
      refine (aw17_any C _).mono ?_
      rintro e w6 ⟨rfl, hb6⟩
      have HN6 := Lib.hid (HN5.out.go hb6)
      have HB6 := Lib.hid (Below.then HB5.out hb6 (Nat.le_refl _))
      have HS := Lib.hid (same17_any C a0 len0 cap0 R w6 ((HRW.out.below HB6.out).more HB6.out.size) HRS.out (by omega))
      clear hb6 HN5 HB5
      go_wp2_with fail
      refine HS.out.mono ?_
      rintro e w7 ⟨rfl, hb7⟩
      obtain ⟨A7, n7, c7, l7, hv7, hr7, hs7, hn7⟩ := HN6.out.go hb7
      have HS7 := Lib.hid (same17_any C A7 n7 c7 l7 w7 hr7 hs7 (by omega))
      have HB7 := Lib.hid (Below.then HB6.out hb7 (Nat.le_refl _))
      first | subst hv7 | (cases hv7)
      clear hb7 hr7 hs7 HS HN6 HB6
      go_wp2_with fail
      refine HS7.out.mono ?_
      rintro e w8 ⟨rfl, hb8⟩
      have HB8 := Lib.hid (Below.then HB7.out hb8 (Nat.le_refl _))
      clear hb8 HS7 HB7
      go_wp2
      go_ret
      exact ⟨rfl, HB8.out⟩
  · have hmi : ¬ (len0 : Int) ≤ 120 := by omega
    have hmj : (120 : Int) < (len0 : Int) := by omega
    go_enter Try.func5, Try.ntmps5
    go_wp2_with fail
    refine (aw17_any C w).mono ?_
    rintro e w2 ⟨rfl, hb⟩
    have HB2 := Lib.hid hb
    clear hb
    go_wp2
    go_ret
    exact ⟨rfl, HB2.out⟩
end
end Go.Proofs.Ytlgoiccekgjhnaa
