/-
  Contracts of the model's Add, Sub and Reset. Conditions: what the plugins have lies within the limits; limits and numbers are of 64 bits; at most a hundred thousand shares.
-/
import Derived.Test.YtfhpdjlppblkcaaQrf
namespace Go.Proofs.Ytfhpdjlppblkcaa
open Go.ChangeShapes Go.WideShapes Go.ChangeAt Go.RowKit
set_option linter.unusedVariables false
set_option linter.unusedSimpArgs false
set_option maxHeartbeats 4000000
set_option maxRecDepth 100000

def addS (l : Q3) (z : Int) (q : Q3) (S : List Sh) : List Sh := if fitE l (getS z S) q = 0 then setS z ((getS z S).add q) S else S
def subS (z : Int) (q : Q3) (S : List Sh) : List Sh := if subE (getS z S) q = 0 then setS z ((getS z S).sub q) S else S
section
variable {w w' w1 w2 : World} {c c' : Nat → Nat} {j k m N : Nat} {l : Q3} {S S' : List Sh} {z y : Int} {q : Q3}
theorem get_add : getS y (addS l z q S) = addF l z q (fun p => getS p S) y := by
  unfold addS addF
  by_cases h : fitE l (getS z S) q = 0
  · rw [if_pos h, if_pos h, get_set]
  · rw [if_neg h, if_neg h]
theorem get_sub : getS y (subS z q S) = subF z q (fun p => getS p S) y := by
  unfold subS subF
  by_cases h : subE (getS z S) q = 0
  · rw [if_pos h, if_pos h, get_set]
  · rw [if_neg h, if_neg h]
theorem get_res : getS y (setS z Q3.nul S) = resF z (fun p => getS p S) y := get_set
theorem add_len : (addS l z q S).length ≤ S.length + 1 := by
  unfold addS
  split
  · exact set_len
  · omega
theorem sub_len : (subS z q S).length ≤ S.length + 1 := by
  unfold subS
  split
  · exact set_len
  · omega
theorem MtE.step {r : Value} {e : Ending} (hb : Below w.heap.size w w1) (h : MtE w1 (rc c w.heap.size k) k m l r S e w2) : MtE w c k m l r S e w2 := by
  obtain ⟨h0, h1, h2⟩ := h
  rw [rc_rc hb.size] at h1
  exact ⟨h0, h1, (Kept.ofBelow hb).then (fun g hg => rc_old hg) h2⟩
theorem Mmb.stay (H : Mmb w c k m l S) (hb : Below w.heap.size w w1) (r : Value) : MtE w c k m l r S (.returned r) w1 := ⟨rfl, H.later hb, Kept.ofBelow hb⟩
theorem resetR_any (H : Mmb w c k m l S) (hn : S.length ≤ 100000) (z : Int) : Calls Try.prog 20 #[.pointer (some ⟨m, 0, none⟩), .int .i64 z] w (MtE w c k m l (.tuple #[]) (setS z Q3.nul S)) := by
  have HS := Lib.hid (setR_any H hn z Q3.nul)
  unfold MtE at HS ⊢
  unfold Q3.val Q3.nul at HS
  clear H
  go_enter Try.func20, Try.ntmps20
  go_wp2_with fail
  refine HS.out.mono ?_
  rintro e w1 ⟨rfl, h1, h2⟩
  have H1 := Lib.hid h1
  have H2 := Lib.hid h2
  clear HS h1 h2
  go_wp2
  go_end0
  exact ⟨rfl, H1.out, H2.out⟩
theorem addR_any (H : Mmb w c k m l S) (hn : S.length ≤ 100000) (z : Int) (hG : Gq l (getS z S)) (hl : l.In) (q : Q3) (hi : q.In) : Calls Try.prog 16 #[.pointer (some ⟨m, 0, none⟩), .int .i64 z, q.val] w (MtE w c k m l (.int .i64 (fitE l (getS z S) q)) (addS l z q S)) := by
  have hb := below3 w (.int .i64 q.b) (.int .i64 q.o) (.int .i64 q.h) 25
  have hq0 := heap_alloc_new w (.cells #[.int .i64 q.b, .int .i64 q.o, .int .i64 q.h] 25)
  have HB := Lib.hid hb
  have HH := Lib.hid H
  have HQ0 := Lib.hid hq0
  have HF := Lib.hid (fitsR_any (H.r.go hb) z hG hl q hi)
  have HFE : Hid (addS l z q S = if fitE l (getS z S) q = 0 then setS z ((getS z S).add q) S else S) := Lib.hid rfl
  have HSM : Hid (fitE l (getS z S) q = 0 → (0 ≤ (getS z S).b + q.b ∧ (getS z S).b + q.b ≤ 9223372036854775807) ∧ (0 ≤ (getS z S).o + q.o ∧ (getS z S).o + q.o ≤ 9223372036854775807) ∧ (0 ≤ (getS z S).h + q.h ∧ (getS z S).h + q.h ≤ 9223372036854775807)) := Lib.hid fun e => by
    obtain ⟨h1, h2⟩ := fit_ok.1 e
    obtain ⟨a1, a2, a3⟩ := not_neg h1
    obtain ⟨b1, b2, b3⟩ := not_over h2
    obtain ⟨g1, g2, g3⟩ := hG
    obtain ⟨i1, i2, i3⟩ := hl
    exact ⟨(g1.add a1 b1).small i1, (g2.add a2 b2).small i2, (g3.add a3 b3).small i3⟩
  have HGT := Lib.hid (fun W (hW : Below w.heap.size w W) => getR_any (H.r.go hW) z)
  have HST := Lib.hid (fun W (hW : Below w.heap.size w W) => setR_any (H.later hW) hn z ((getS z S).add q))
  generalize addS l z q S = S' at *
  generalize fitE l (getS z S) q = E at *
  unfold MtE
  clear H hb hG hl hi hn
  by_cases hE : E = 0
  · subst hE
    rw [if_pos rfl] at HFE
    have hs := HSM.out rfl
    clear HSM
    generalize getS z S = x at *
    obtain ⟨b, o, h⟩ := q
    obtain ⟨xb, xo, xh⟩ := x
    unfold MtE at HST
    unfold Q3.val at HF HGT HST ⊢
    unfold Q3.add at HFE HST
    simp only at HF HGT HST HFE HB HQ0 hs ⊢
    have s1 : IntKind.i64.wrap (xb + b) = xb + b := IntWalk.i64_in _ (by omega)
    have s2 : IntKind.i64.wrap (xo + o) = xo + o := IntWalk.i64_in _ (by omega)
    have s3 : IntKind.i64.wrap (xh + h) = xh + h := IntWalk.i64_in _ (by omega)
    clear hs hq0
    go_enter Try.func16, Try.ntmps16
    go_wp2_with fail
    refine HF.out.mono ?_
    rintro e w1 ⟨rfl, hb1⟩
    have hb2 := Below.then HB.out hb1 (Nat.le_refl _)
    have HB2 := Lib.hid hb2
    have HQ1 := Lib.hid ((hb1.block _ (Array.getElem?_eq_some_iff.1 HQ0.out).1).trans HQ0.out)
    clear hb1 hb2 HF HQ0 HB
    go_wp2_with fail
    refine (HGT.out _ HB2.out).mono ?_
    rintro e w2 ⟨rfl, hb3⟩
    have hb4 := Below.then HB2.out hb3 (Nat.le_refl _)
    have hq2 := (hb3.block _ (Array.getElem?_eq_some_iff.1 HQ1.out).1).trans HQ1.out
    have hq3 := (Below.heap_alloc w2 (.cells #[.int .i64 xb, .int .i64 xo, .int .i64 xh] 25) _ (Array.getElem?_eq_some_iff.1 hq2).1).trans hq2
    obtain ⟨q0, q1, q2⟩ := cells3 hq3
    obtain ⟨x0, x1, x2⟩ := new3 w2 (.int .i64 xb) (.int .i64 xo) (.int .i64 xh) 25
    have hb5 : Below w.heap.size w (w2.alloc (.cells #[.int .i64 xb, .int .i64 xo, .int .i64 xh] 25)) := hb4.alloc hb4.size _
    have HB5 := Lib.hid hb5
    have HS := Lib.hid (HST.out _ hb5)
    clear hb3 hb4 hb5 hq2 hq3 HGT HST HB2 HQ1
    go_wp2_with fail
    refine HS.out.mono ?_
    rintro e w5 ⟨rfl, h1, h2⟩
    have HU := Lib.hid (MtE.step (r := .tuple #[]) (e := .returned (.tuple #[])) HB5.out ⟨rfl, h1, h2⟩)
    clear HS h1 h2 q0 q1 q2 x0 x1 x2 s1 s2 s3
    go_wp2
    go_ret
    obtain ⟨_, r1, r2⟩ := HU.out
    exact ⟨rfl, by rw [HFE.out]; exact r1, r2⟩
  · rw [if_neg hE] at HFE
    have hE' : (E != 0) = true := by simpa using hE
    obtain ⟨b, o, h⟩ := q
    unfold Q3.val at HF ⊢
    simp only at HF HB ⊢
    clear HGT HST HQ0 hq0 HSM hE
    go_enter Try.func16, Try.ntmps16
    go_wp2_with fail
    refine HF.out.mono ?_
    rintro e w1 ⟨rfl, hb1⟩
    have HB1 := Lib.hid (Below.then HB.out hb1 (Nat.le_refl _))
    clear hb1 HF HB
    go_wp2
    go_ret
    obtain ⟨_, r1, r2⟩ := HH.out.stay HB1.out (.int .i64 E)
    exact ⟨rfl, by rw [HFE.out]; exact r1, r2⟩
theorem subR_any (H : Mmb w c k m l S) (hn : S.length ≤ 100000) (z : Int) (hG : Gq l (getS z S)) (hl : l.In) (q : Q3) (hi : q.In) : Calls Try.prog 18 #[.pointer (some ⟨m, 0, none⟩), .int .i64 z, q.val] w (MtE w c k m l (.int .i64 (subE (getS z S) q)) (subS z q S)) := by
  have hb := below3 w (.int .i64 q.b) (.int .i64 q.o) (.int .i64 q.h) 25
  have hq0 := heap_alloc_new w (.cells #[.int .i64 q.b, .int .i64 q.o, .int .i64 q.h] 25)
  have HB := Lib.hid hb
  have HH := Lib.hid H
  have HQ0 := Lib.hid hq0
  have HGT := Lib.hid (getR_any (H.r.go hb) z)
  have HST := Lib.hid (fun W (hW : Below w.heap.size w W) => setR_any (H.later hW) hn z ((getS z S).sub q))
  have HFE : Hid (subS z q S = if subE (getS z S) q = 0 then setS z ((getS z S).sub q) S else S) := Lib.hid rfl
  have HSE : Hid (subE (getS z S) q = if q.neg ∨ ((getS z S).sub q).neg then 1 else 0) := Lib.hid rfl
  have HR : Hid ((0 ≤ (getS z S).b ∧ (getS z S).b ≤ 9223372036854775807) ∧ (0 ≤ (getS z S).o ∧ (getS z S).o ≤ 9223372036854775807) ∧ (0 ≤ (getS z S).h ∧ (getS z S).h ≤ 9223372036854775807)) := Lib.hid (by
    obtain ⟨g1, g2, g3⟩ := hG
    obtain ⟨i1, i2, i3⟩ := hl
    exact ⟨g1.small i1, g2.small i2, g3.small i3⟩)
  obtain ⟨⟨_, m1⟩, ⟨_, m2⟩, ⟨_, m3⟩⟩ := hi
  generalize subS z q S = S' at *
  generalize subE (getS z S) q = E at *
  unfold MtE
  clear H hb hG hl hn hq0
  generalize getS z S = x at *
  obtain ⟨b, o, h⟩ := q
  obtain ⟨xb, xo, xh⟩ := x
  unfold MtE at HST
  unfold Q3.val at HGT HST ⊢
  unfold Q3.sub at HFE HST HSE
  unfold Q3.neg at HSE
  simp only at HGT HST HFE HSE HB HQ0 HR m1 m2 m3 ⊢
  have HMM : Hid (b ≤ 9223372036854775807 ∧ o ≤ 9223372036854775807 ∧ h ≤ 9223372036854775807) := Lib.hid ⟨m1, m2, m3⟩
  clear m1 m2 m3
  go_enter Try.func18, Try.ntmps18
  go_wp2_with fail
  refine HGT.out.mono ?_
  rintro e w1 ⟨rfl, hb1⟩
  have hb2 := Below.then HB.out hb1 (Nat.le_refl _)
  have hq1 := (hb1.block _ (Array.getElem?_eq_some_iff.1 HQ0.out).1).trans HQ0.out
  have hq3 := (Below.heap_alloc w1 (.cells #[.int .i64 xb, .int .i64 xo, .int .i64 xh] 25) _ (Array.getElem?_eq_some_iff.1 hq1).1).trans hq1
  obtain ⟨q0, q1, q2⟩ := cells3 hq3
  obtain ⟨x0, x1, x2⟩ := new3 w1 (.int .i64 xb) (.int .i64 xo) (.int .i64 xh) 25
  have hb5 : Below w.heap.size w (w1.alloc (.cells #[.int .i64 xb, .int .i64 xo, .int .i64 xh] 25)) := hb2.alloc hb2.size _
  have HB5 := Lib.hid hb5
  have HS := Lib.hid (HST.out _ hb5)
  clear hb1 hb2 hb5 hq1 hq3 HGT HST HB HQ0
  by_cases t1 : b < 0
  · have d1 : decide (b < 0) = true := decide_eq_true t1
    obtain rfl : E = 1 := by rw [HSE.out, if_pos (by omega)]
    rw [if_neg (by omega)] at HFE
    clear HS HR HMM HSE
    go_wp2
    go_ret
    obtain ⟨_, r1, r2⟩ := HH.out.stay HB5.out (.int .i64 1)
    exact ⟨rfl, by rw [HFE.out]; exact r1, r2⟩
  have d1 : decide (b < 0) = false := decide_eq_false t1
  by_cases t2 : o < 0
  · have d2 : decide (o < 0) = true := decide_eq_true t2
    obtain rfl : E = 1 := by rw [HSE.out, if_pos (by omega)]
    rw [if_neg (by omega)] at HFE
    clear HS HR HMM HSE
    go_wp2
    go_ret
    obtain ⟨_, r1, r2⟩ := HH.out.stay HB5.out (.int .i64 1)
    exact ⟨rfl, by rw [HFE.out]; exact r1, r2⟩
  have d2 : decide (o < 0) = false := decide_eq_false t2
  by_cases t3 : h < 0
  · have d3 : decide (h < 0) = true := decide_eq_true t3
    obtain rfl : E = 1 := by rw [HSE.out, if_pos (by omega)]
    rw [if_neg (by omega)] at HFE
    clear HS HR HMM HSE
    go_wp2
    go_ret
    obtain ⟨_, r1, r2⟩ := HH.out.stay HB5.out (.int .i64 1)
    exact ⟨rfl, by rw [HFE.out]; exact r1, r2⟩
  have d3 : decide (h < 0) = false := decide_eq_false t3
  by_cases t4 : xb < b
  · have d4 : decide (xb < b) = true := decide_eq_true t4
    obtain rfl : E = 1 := by rw [HSE.out, if_pos (by omega)]
    rw [if_neg (by omega)] at HFE
    clear HS HR HMM HSE
    go_wp2
    go_ret
    obtain ⟨_, r1, r2⟩ := HH.out.stay HB5.out (.int .i64 1)
    exact ⟨rfl, by rw [HFE.out]; exact r1, r2⟩
  have d4 : decide (xb < b) = false := decide_eq_false t4
  by_cases t5 : xo < o
  · have d5 : decide (xo < o) = true := decide_eq_true t5
    obtain rfl : E = 1 := by rw [HSE.out, if_pos (by omega)]
    rw [if_neg (by omega)] at HFE
    clear HS HR HMM HSE
    go_wp2
    go_ret
    obtain ⟨_, r1, r2⟩ := HH.out.stay HB5.out (.int .i64 1)
    exact ⟨rfl, by rw [HFE.out]; exact r1, r2⟩
  have d5 : decide (xo < o) = false := decide_eq_false t5
  by_cases t6 : xh < h
  · have d6 : decide (xh < h) = true := decide_eq_true t6
    obtain rfl : E = 1 := by rw [HSE.out, if_pos (by omega)]
    rw [if_neg (by omega)] at HFE
    clear HS HR HMM HSE
    go_wp2
    go_ret
    obtain ⟨_, r1, r2⟩ := HH.out.stay HB5.out (.int .i64 1)
    exact ⟨rfl, by rw [HFE.out]; exact r1, r2⟩
  have d6 : decide (xh < h) = false := decide_eq_false t6
  obtain rfl : E = 0 := by rw [HSE.out, if_neg (by omega)]
  rw [if_pos rfl] at HFE
  have s1 : IntKind.i64.wrap (xb - b) = xb - b := IntWalk.i64_in _ (by have := HR.out; have := HMM.out; omega)
  have s2 : IntKind.i64.wrap (xo - o) = xo - o := IntWalk.i64_in _ (by have := HR.out; have := HMM.out; omega)
  have s3 : IntKind.i64.wrap (xh - h) = xh - h := IntWalk.i64_in _ (by have := HR.out; have := HMM.out; omega)
  clear HR HMM HSE
  go_wp2_with fail
  refine HS.out.mono ?_
  rintro e w5 ⟨rfl, h1, h2⟩
  have HU := Lib.hid (MtE.step (r := .tuple #[]) (e := .returned (.tuple #[])) HB5.out ⟨rfl, h1, h2⟩)
  clear HS h1 h2 q0 q1 q2 x0 x1 x2 s1 s2 s3 d1 d2 d3 d4 d5 d6
  go_wp2
  go_ret
  obtain ⟨_, r1, r2⟩ := HU.out
  exact ⟨rfl, by rw [HFE.out]; exact r1, r2⟩
end
end Go.Proofs.Ytfhpdjlppblkcaa
