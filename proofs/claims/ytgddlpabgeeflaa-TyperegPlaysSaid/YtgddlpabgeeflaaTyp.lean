/-
  Contract of the laws' maker of types. Conditions: at most eight hundred thousand numbers read.
-/
import Derived.Test.YtgddlpabgeeflaaFld
import Derived.Test.YtgddlpabgeeflaaStg
import Derived.Deep.RegionLaw
namespace Go.Proofs.Ytgddlpabgeeflaa
open Go.ChangeShapes Go.WideShapes Go.RowKit
set_option linter.unusedVariables false
set_option maxHeartbeats 4000000
set_option maxRecDepth 100000

section
variable {P : Program}
theorem step_appF (w : World) {ops : Array Oper} {o : Oper} {a : Act} {K : Act → World → Prop} {Q : Exit → Act → World → Prop} {E : Prop} (hgd : o.guard = none) (s x : Operand) (t : TypeId)
    (ho : o.op = .call { callee := .builtin .append, args := #[s, x], argTypes := #[t, t] })
    {e : TypeId} {i : TypeInfo} {z : Value} (ht : P.underlying t = some (.slice e)) (hi : P.info? e = some i) (hz : i.zero = some z) (hzs : z.cells.size = 2) (hsz : i.size = 2) (hby : i.bytes ≤ 64)
    {base : Nat} {v : Value} {xs : List (Int × Int)} (hown : OwnE e w base v xs) (hs : a.eval s = v) {B : Nat} {A : Option Addr} {m c : Nat} {ys : List (Int × Int)} (hy : Exs w B A m c ys) (hx : a.eval x = .slice A m c)
    (hsm : xs.length + m ≤ 4294967296) (hb : base ≤ w.heap.size)
    (h : ∀ v' w', OwnE e w' base v' (xs ++ ys) → Below base w w' → K (a.put o.dst v') w') :
    if Region.wanted o (yielded ops a.tmps) = true then Oper.wp P o a w K Q else E := by
  have hw : Region.wanted o (yielded ops a.tmps) = true := by simp [Region.wanted, hgd]
  rw [if_pos hw]
  obtain ⟨v', w', hrun, h2, h3, h4, _⟩ := run_appE (P := P) w t o.type e i z ht hi hz hzs hsz hby base v xs hown hy hsm hb
  unfold Oper.wp execOp
  simp only [ho, resolve, invoke, builtin, Sem.run_bind, Sem.run_pure, Result.andThen_ok, List.map_toArray, List.map_cons, List.map_nil, hs, hx, hrun]
  exact h v' w' h2 h3
end
theorem step_callF {P : Program} (w : World) {ops : Array Oper} {o : Oper} {a : Act} {K : Act → World → Prop} {Q : Exit → Act → World → Prop} {E : Prop} (hgd : o.guard = none)
    {f : FuncId} {args : Array Value} {v : Value} {fn : Func} {xs : Array Operand} {ts : Array TypeId} {R : World → Prop} (ho : o.op = .call { callee := .value (.func f), args := xs, argTypes := ts }) (hx : xs.map a.eval = args)
    (hf : P.funcs[f]? = some fn) (hb : (fn.body.isNone || (fn.name == "runtime.NumGoroutine")) = false) (hc : Calls P f args w fun e w' => e = .returned v ∧ R w') (hK : ∀ w', R w' → K (a.put o.dst v) w') :
    if Region.wanted o (yielded ops a.tmps) = true then Oper.wp P o a w K Q else E := by
  have hw : Region.wanted o (yielded ops a.tmps) = true := by simp [Region.wanted, hgd]
  rw [if_pos hw]
  unfold Oper.wp
  rw [enter_is ho hx hf hb w]
  simp only [Oper.upon]
  exact hc.mono fun e w'' ⟨he, hR⟩ => by
    subst he
    exact hK w'' hR
section
variable {w w' w'' : World} {b t B m c i : Nat} {n : Int} {A : Option Addr} {L : List Int}
theorem TyB.oth (h : TyB w t n A m c) (ho : Oth b w w') (hne : t ≠ b) : TyB w' t n A m c := (ho.block t h.lt hne).trans h
theorem TyB.low (h : TyB w t n A m c) (hb : Below B w w') (ht : t < B) : TyB w' t n A m c := (hb.block t ht).trans h
theorem TyB.fr (h : TyB w t n A m c) (j : Nat) : w.frozen? ⟨t, j, none⟩ = false := frozen_of_row w t j _ _ h
theorem TyB.set1 {A' : Option Addr} {m' c' : Nat} (h : TyB w t n A m c) : TyB (w.setCell ⟨t, 1, none⟩ (.slice A' m' c')) t n A' m' c' := heap_setCell_same w t 1 _ _ _ h
theorem TyB.set {n' : Int} {A' : Option Addr} {m' c' : Nat} (h : TyB w t n A m c) : TyB ((w.setCell ⟨t, 0, none⟩ (.int .i64 n')).setCell ⟨t, 1, none⟩ (.slice A' m' c')) t n' A' m' c' :=
  heap_setCell_same _ t 1 _ _ _ (heap_setCell_same w t 0 _ _ _ h)
theorem TyB.apart (h : TyB w t n A m c) {k o : Nat} (hne : t ≠ k) (u : Value) : TyB (w.setCell ⟨k, o, none⟩ u) t n A m c := (Below.heap_setCell w ⟨k, o, none⟩ u t hne).trans h
theorem TS.low (h : TS w b L i) (hb : Below B w w') (hB : b < B) : TS w' b L i := by
  obtain ⟨A, m, c, h1, h2⟩ := h
  exact ⟨A, m, c, (hb.block b hB).trans h1, h2.below (hb.mono (Nat.le_of_lt hB))⟩
theorem Oth.upto (h : Oth b w w') (hb : Below B w' w'') (hB : w.heap.size ≤ B) : Oth b w w'' :=
  ⟨hb.os.trans h.os, hb.tape.trans h.tape, hb.output.trans h.output, Nat.le_trans h.size hb.size, fun k hk hne => (hb.block k (by omega)).trans (h.block k hk hne)⟩
theorem OwnE.oth {ty : TypeId} {base : Nat} {v : Value} {l : List (Int × Int)} (h : OwnE ty w base v l) (ho : Oth b w w') (hb : b < base) : OwnE ty w' base v l := by
  refine ⟨⟨h.1.1, ?_⟩, h.2⟩
  rcases h.1.2 with h0 | ⟨g, cap, cur, e, hbg, hg, rest⟩
  · exact .inl h0
  · exact .inr ⟨g, cap, cur, e, hbg, (ho.block g (Array.getElem?_eq_some_iff.1 hg).1 (by omega)).trans hg, rest⟩
theorem Exs.apart {B' n' c' : Nat} {l : List (Int × Int)} (h : Exs w B' A n' c' l) {k o : Nat} (hne : ∀ b' o', A = some ⟨b', o', none⟩ → b' ≠ k) (u : Value) : Exs (w.setCell ⟨k, o, none⟩ u) B' A n' c' l :=
  ⟨h.len, h.cap, h.small, h.nil, h.fits, fun hn => by
    obtain ⟨b', o', e, hb, hc⟩ := h.cells hn
    refine ⟨b', o', e, hb, fun i x hx => ?_⟩
    have hk : ∀ q, (w.setCell ⟨k, o, none⟩ u).cell? ⟨b', q, none⟩ = w.cell? ⟨b', q, none⟩ := fun q => by
      simp only [World.cell?, Below.heap_setCell w ⟨k, o, none⟩ u b' (by simp only; exact hne b' o' e)]
    rw [hk, hk]
    exact hc i x hx⟩
end
/-- The fields that the numbers from place i on make, and the place behind them. -/
def flds (L : List Int) : Nat → Nat → List (Int × Int) × Nat
  | 0, i => ([], i)
  | k + 1, i => (fldV L i :: (flds L k (fldN L i)).1, (flds L k (fldN L i)).2)
theorem flds_len {L : List Int} : ∀ {k i : Nat}, (flds L k i).1.length = k
  | 0, _ => rfl
  | k + 1, i => by simp only [flds, List.length_cons]; rw [flds_len]
theorem flds_ok {L : List Int} : ∀ {k i : Nat}, ∀ f ∈ (flds L k i).1, errF f = 0 ∧ f.2 ≤ 9
  | 0, _, f, h => by simp [flds] at h
  | k + 1, i, f, h => by
    simp only [flds, List.mem_cons] at h
    rcases h with rfl | h
    · exact fldV_ok i
    · exact flds_ok f h
/-- The type that the numbers from place i on make. -/
def typV (L : List Int) (i : Nat) : Int × List (Int × Int) :=
  if num L i % 4 = 0 then (1 + num L (i + 1) % 5, [fldV L (i + 2)]) else (0, (flds L (1 + (num L (i + 1) % 4).toNat) (i + 2)).1)
def typN (L : List Int) (i : Nat) : Nat := if num L i % 4 = 0 then fldN L (i + 2) else (flds L (1 + (num L (i + 1) % 4).toNat) (i + 2)).2
theorem infoFd : (Try.prog.info? 45).map (fun i => (i.zero, i.size, i.bytes)) = some (some (.agg #[.int .i64 0, .int .i64 0]), 2, 16) := by kernel_rfl
/-- What the maker of types says. -/
def TyE (w : World) (b : Nat) (L : List Int) (i : Nat) (T : Int × List (Int × Int)) (e : Ending) (w' : World) : Prop :=
  ∃ A m c, e = .returned (.agg #[.int .i64 T.1, .slice A m c]) ∧ Exs w' w'.heap.size A m c T.2 ∧ TS w' b L i ∧ Oth b w w'
def TyO (w : World) (b : Nat) (L : List Int) (i : Nat) (T : Int × List (Int × Int)) (e : Ending) (w' : World) : Prop :=
  ∃ A m c, e = .returned (.agg #[.int .i64 T.1, .slice A m c]) ∧ OwnE 45 w' w.heap.size (.slice A m c) T.2 ∧ TS w' b L i ∧ Oth b w w'
theorem typeO_any (b i : Nat) (L : List Int) (w : World) (h : TS w b L i) (hf : Fit .u16 L) (hi : i ≤ 800000) :
    Calls Try.prog 11 #[.pointer (some ⟨b, 0, none⟩)] w (TyO w b L (typN L i) (typV L i)) := by
  have hb0 : Below w.heap.size w (w.alloc (.cells #[.int .i64 0, .slice none 0 0] 35)) := (Below.refl _ _).alloc (Nat.le_refl _) _
  have HF := Lib.hid hf
  have HR0 := Lib.hid (TyB.new (w := w) (n := 0) (A := none) (m := 0) (c := 0))
  have HT0 := Lib.hid (h.go hb0)
  have HO0 := Lib.hid (Oth.ofBelow (b := b) hb0)
  have hlt := h.lt
  have HVV : Hid (typV L i = if num L i % 4 = 0 then (1 + num L (i + 1) % 5, [fldV L (i + 2)]) else (0, (flds L (1 + (num L (i + 1) % 4).toNat) (i + 2)).1)) := Lib.hid rfl
  have HNN : Hid (typN L i = if num L i % 4 = 0 then fldN L (i + 2) else (flds L (1 + (num L (i + 1) % 4).toNat) (i + 2)).2) := Lib.hid rfl
  have H1 := Lib.hid (next_any b i 4 L _ (h.go hb0) hf (by omega) (by omega) (by omega))
  rw [show num L i % ((4 : Nat) : Int) = num L i % 4 from rfl] at H1
  have H2 := Lib.hid (fun W (hW : TS W b L (i + 1)) => next_any b (i + 1) 5 L W hW hf (by omega) (by omega) (by omega))
  rw [show num L (i + 1) % ((5 : Nat) : Int) = num L (i + 1) % 5 from rfl] at H2
  have H3 := Lib.hid (fun W (hW : TS W b L (i + 1)) => next_any b (i + 1) 4 L W hW hf (by omega) (by omega) (by omega))
  rw [show num L (i + 1) % ((4 : Nat) : Int) = num L (i + 1) % 4 from rfl] at H3
  have h1 : 0 ≤ num L i % 4 := Int.emod_nonneg _ (by omega)
  have h2 : num L i % 4 < 4 := Int.emod_lt_of_pos _ (by omega)
  have h3 : 0 ≤ num L (i + 1) % 5 := Int.emod_nonneg _ (by omega)
  have h4 : num L (i + 1) % 5 < 5 := Int.emod_lt_of_pos _ (by omega)
  have h5 : 0 ≤ num L (i + 1) % 4 := Int.emod_nonneg _ (by omega)
  have h6 : num L (i + 1) % 4 < 4 := Int.emod_lt_of_pos _ (by omega)
  generalize num L i % 4 = x at *
  generalize num L (i + 1) % 5 = y at *
  generalize num L (i + 1) % 4 = z at *
  generalize typV L i = tv at *
  generalize typN L i = tn at *
  clear h hb0 hf
  go_enter Try.func11, Try.ntmps11
  go_wp2_with fail
  refine H1.out.mono ?_
  generalize w.alloc (.cells #[.int .i64 0, .slice none 0 0] 35) = w1 at *
  generalize htb : w.heap.size = tb at *
  rintro e w2 ⟨rfl, ht2, ho2⟩
  have HR2 := Lib.hid (HR0.out.oth ho2 (by omega))
  have HT2 := Lib.hid ht2
  have HO2 := Lib.hid (HO0.out.trans ho2)
  have hw1 : tb < w1.heap.size := HR0.out.lt
  have hw2 := ho2.size
  clear ht2 ho2 H1 HT0
  by_cases hx : x = 0
  · subst hx
    have HV2 : Hid (tv = (1 + y, [fldV L (i + 2)]) ∧ tn = fldN L (i + 2)) := Lib.hid ⟨by rw [HVV.out, if_pos rfl], by rw [HNN.out, if_pos rfl]⟩
    clear HVV HNN H3
    go_wp2_with fail
    refine (H2.out w2 HT2.out).mono ?_
    rintro e w3 ⟨rfl, ht3, ho3⟩
    have HR3 := Lib.hid (HR2.out.oth ho3 (by omega))
    have HO3 := Lib.hid (HO2.out.trans ho3)
    have hw3 := ho3.size
    have H4 := Lib.hid (field_any b (i + 2) L w3 ht3 HF.out (by omega))
    have hfits := fldV_ok (L := L) (i + 2)
    have hf0 := errF_0 hfits.1
    generalize fldV L (i + 2) = fv at *
    clear ht3 ho3 H2 HR2 HO2 HT2
    go_wp2_with fail
    refine H4.out.mono ?_
    rintro e w4 ⟨rfl, ht4, ho4⟩
    obtain ⟨f0, f1⟩ := fv
    simp only at hf0
    have hr4 := HR3.out.oth ho4 (by omega)
    have hw4 := ho4.size
    have hwle := HO0.out.size
    have hb5 : Below w4.heap.size w4 (w4.alloc (.cells #[.int .i64 f0, .int .i64 f1] 45)) := (Below.refl _ _).alloc (Nat.le_refl _) _
    have hr5 := hr4.go hb5
    have q0 := hr5.cell0
    have q1 := hr5.cell1
    have q2 := hr5.fr 0
    have q3 := hr5.fr 1
    have hx5 := Exs.new w4 [(f0, f1)] #[.int .i64 f0, .int .i64 f1] 45 1 rfl rfl (by unfold maxLen; omega) (fun x hx => by simp at hx; subst hx; simp only; omega)
    have hs6 := hr5.set (n' := 1 + y) (A' := some ⟨w4.heap.size, 0, none⟩) (m' := 1) (c' := 1)
    have HT6 := Lib.hid (((ht4.go hb5).apart (t := tb) (o := 0) (by omega) (.int .i64 (1 + y))).apart (t := tb) (o := 1) (by omega) (.slice (some ⟨w4.heap.size, 0, none⟩) 1 1))
    have HO6 := Lib.hid ((((HO3.out.trans ho4).trans (Oth.ofBelow hb5)).far (t := tb) (o := 0) (by omega) (.int .i64 (1 + y))).far (t := tb) (o := 1) (by omega) (.slice (some ⟨w4.heap.size, 0, none⟩) 1 1))
    have ho5 : OwnE 45 (w4.alloc (.cells #[.int .i64 f0, .int .i64 f1] 45)) (tb + 1) (.slice (some ⟨w4.heap.size, 0, none⟩) 1 1) [(f0, f1)] := ⟨⟨rfl, .inr ⟨w4.heap.size, 1, _, rfl, by omega, heap_alloc_new w4 _, Nat.le_refl _, by unfold maxLen; omega, rfl, rfl⟩⟩, hx5.fits⟩
    have HX6 : Hid (OwnE 45 (((w4.alloc (.cells #[.int .i64 f0, .int .i64 f1] 45)).setCell ⟨tb, 0, none⟩ (.int .i64 (1 + y))).setCell ⟨tb, 1, none⟩ (.slice (some ⟨w4.heap.size, 0, none⟩) 1 1)) tb (.slice (some ⟨w4.heap.size, 0, none⟩) 1 1) [(f0, f1)]) := Lib.hid (OwnE.down ⟨ownsRow_setCell_below (ownsRow_setCell_below ho5.1 (by simp) _) (by simp) _, ho5.2⟩ (by omega))
    have k0 := hs6.cell0
    have k1 := hs6.cell1
    clear hx5 hs6 ht4 ho4 hr4 hr5 hb5
    go_wp2
    exact bodyPost_ret (v := .agg #[.int .i64 (1 + y), .slice (some ⟨w4.heap.size, 0, none⟩) 1 1]) (by simp [results, Try.results11, go_sem, k0, k1]) rfl ⟨_, _, _, by rw [HV2.out.1], by rw [HV2.out.1]; rw [htb]; exact HX6.out, by rw [HV2.out.2]; exact HT6.out, HO6.out⟩
  · obtain ⟨Z, rfl⟩ := Int.eq_ofNat_of_zero_le h5
    have hxb : (x == 0) = false := by simpa using hx
    have HV2 : Hid (tv = (0, (flds L (1 + Z) (i + 2)).1) ∧ tn = (flds L (1 + Z) (i + 2)).2) := Lib.hid ⟨by rw [HVV.out, if_neg hx, Int.toNat_natCast], by rw [HNN.out, if_neg hx, Int.toNat_natCast]⟩
    obtain ⟨TL, hTL⟩ : ∃ TL, flds L (1 + Z) (i + 2) = TL := ⟨_, rfl⟩
    rw [hTL] at HV2
    have HTL := Lib.hid hTL
    have hwle := HO0.out.size
    clear HVV HNN H2 hTL
    have hb3 : Below w2.heap.size w2 (w2.alloc (.cells #[.int .i64 0, .slice none 0 0] 35)) := (Below.refl _ _).alloc (Nat.le_refl _) _
    have HX3 := Lib.hid (TyB.new (w := w2) (n := 0) (A := none) (m := 0) (c := 0))
    have HR3 := Lib.hid (HR2.out.go hb3)
    have HT3 := Lib.hid (HT2.out.go hb3)
    have HO3 := Lib.hid (HO2.out.trans (Oth.ofBelow hb3))
    clear hb3 HR2 HT2 HO2
    go_wp2_with fail
    refine (H3.out _ HT3.out).mono ?_
    generalize w2.alloc (.cells #[.int .i64 0, .slice none 0 0] 35) = w3 at *
    generalize htx : w2.heap.size = tx at *
    rintro e w4 ⟨rfl, ht4, ho4⟩
    have HR4 := Lib.hid (HR3.out.oth ho4 (by omega))
    have HX4 := Lib.hid (HX3.out.oth ho4 (by omega))
    have HT4 := Lib.hid ht4
    have HO4 := Lib.hid (HO3.out.trans ho4)
    have htxl := HX4.out.lt
    obtain ⟨i0, hi0, hz0, hz1, hz2⟩ := info_parts infoFd
    have HI := Lib.hid hi0
    have HZ := Lib.hid hz0
    clear ht4 ho4 H3 HR3 HX3 HT3 HO3 hi0 hz0
    go_wp2
    go_loopw [4] (fun kv wr => ∃ (j : Nat), j ≤ 1 + Z ∧ kv = .int .i64 ((1 + Z - j : Nat) : Int) ∧ Hid (∃ A m c l i', TyB wr tx 0 A m c ∧ TyB wr tb 0 none 0 0 ∧ OwnE 45 wr (tx + 1) (.slice A m c) l ∧ TS wr b L i' ∧ Oth b w wr ∧ i' ≤ i + 2 + 2 * j ∧ l.length = j ∧ TL = (l ++ (flds L (1 + Z - j) i').1, (flds L (1 + Z - j) i').2))) (fun kv _ => (intOf kv).toNat)
    case atStart => exact ⟨0, by omega, by go_num, Lib.hid ⟨none, 0, 0, [], i + 2, HX4.out, HR4.out, OwnE.nil _ _ _, HT4.out, HO4.out, by omega, rfl, by rw [← HTL.out]; simp⟩⟩
    case round =>
      obtain ⟨j, hj, rfl, hh⟩ := hrel
      obtain ⟨A, m, c, l, i', hxr, hrr, hor, htr, hoo, hii, hll, htl⟩ := hh.out
      by_cases hjz : j < 1 + Z
      · have hp : (0 : Int) < ((1 + Z - j : Nat) : Int) := by omega
        have HXr := Lib.hid hxr
        have HRr := Lib.hid hrr
        have HOr := Lib.hid hor
        have HTr := Lib.hid htr
        have HOO := Lib.hid hoo
        have HLL := Lib.hid hll
        have HTl := Lib.hid htl
        have hbd : Below wr.heap.size wr wr.drew := below_drewN (Below.refl _ _) 1
        have H4 := Lib.hid (field_any b i' L wr.drew (htr.go hbd) HF.out (by omega))
        have hfo := fldV_ok (L := L) i'
        have hf0 := errF_0 hfo.1
        have HNX : Hid (flds L (1 + Z - j) i' = (fldV L i' :: (flds L (1 + Z - (j + 1)) (fldN L i')).1, (flds L (1 + Z - (j + 1)) (fldN L i')).2)) := Lib.hid (by
          rw [show 1 + Z - j = (1 + Z - (j + 1)) + 1 by omega]
          rfl)
        have HNI := Lib.hid (fldN_le (L := L) (i := i'))
        have HDX := Lib.hid (hxr.go hbd)
        have HDO := Lib.hid (hor.below hbd)
        have HDR := Lib.hid (hrr.go hbd)
        have HDT := Lib.hid (hoo.trans (Oth.ofBelow hbd))
        generalize fldV L i' = fv at *
        generalize fldN L i' = ni at *
        obtain ⟨f0, f1⟩ := fv
        simp only at hf0 hfo
        have c1 := HDX.out.cell1
        have c1' := hxr.cell1
        have htxr := hxr.lt
        clear hh hxr hrr hor htr hoo hll htl hbd
        go_wp2_with fail
        go_region_law
          (first
            | (refine step_appF (w5.alloc (.cells #[.int .i64 f0, .int .i64 f1] 45)) rfl (.tmp 24) (.tmp 27) 33 rfl Try.underlying33 HI.out HZ.out rfl hz1 (by omega) (HO5.out.alloc _) rfl (Exs.new w5 [(f0, f1)] _ _ 1 rfl rfl (by unfold maxLen; omega) (fun x hx => by simp at hx; subst hx; simp only; omega)) rfl (by have := HLL.out; omega) (by simp; omega) ?_
               intro v6 w6 ho6 hb6
               obtain ⟨A6, n6, c6, rfl, hx6⟩ := ho6.shape
               have HO6 := Lib.hid ho6
               have HB6 : Hid (Below (tx + 1) w5 w6) := Lib.hid (((Below.refl _ _).alloc (by omega) _).trans hb6)
               have c4 := (HX5.out.low HB6.out (by omega)).cell1
               have c5 := (HX5.out.low HB6.out (by omega)).fr 1
               clear ho6 hb6 hx6)
            | (refine step_callF wr.drew rfl (v := .agg #[.int .i64 f0, .int .i64 f1]) (R := fun w' => TS w' b L ni ∧ Oth b wr.drew w') rfl (by kernel_rfl) Try.func20 (by kernel_rfl) H4.out ?_
               rintro w5 ⟨ht5, ho5⟩
               have HX5 := Lib.hid (HDX.out.oth ho5 (by omega))
               have HO5 := Lib.hid (HDO.out.oth ho5 (by omega))
               have HR5 := Lib.hid (HDR.out.oth ho5 (by omega))
               have HT5 := Lib.hid ht5
               have HOO5 := Lib.hid (HDT.out.trans ho5)
               have htx5 := HX5.out.lt
               have c2 := HX5.out.cell1
               clear ht5 ho5))
        all_goals
          have HX7 := Lib.hid ((HX5.out.low HB6.out (by omega)).set1 (A' := A6) (m' := n6) (c' := c6))
          have HR7 := Lib.hid ((HR5.out.low HB6.out (by omega)).apart (k := tx) (o := 1) (by omega) (.slice A6 n6 c6))
          have HO7 := Lib.hid (show OwnE 45 (w6.setCell ⟨tx, 1, none⟩ (.slice A6 n6 c6)) (tx + 1) (.slice A6 n6 c6) (l ++ [(f0, f1)]) from ⟨ownsRow_setCell_below HO6.out.1 (by simp) _, HO6.out.2⟩)
          have HT7 := Lib.hid ((HT5.out.low HB6.out (by omega)).apart (t := tx) (o := 1) (by omega) (.slice A6 n6 c6))
          have HOO7 := Lib.hid ((HOO5.out.upto HB6.out (by omega)).far (t := tx) (o := 1) (by omega) (.slice A6 n6 c6))
          have HTL7 : Hid (TL = ((l ++ [(f0, f1)]) ++ (flds L (1 + Z - (j + 1)) ni).1, (flds L (1 + Z - (j + 1)) ni).2)) := Lib.hid (by rw [HTl.out, HNX.out]; simp)
          have HI7 : Hid (ni ≤ i + 2 + 2 * (j + 1) ∧ (l ++ [(f0, f1)]).length = j + 1) := Lib.hid ⟨by have := HNI.out; omega, by rw [List.length_append, HLL.out]; rfl⟩
          clear HX5 HO5 HR5 HT5 HOO5 HO6 HB6 HDX HDO HDR HDT HNX HTl H4 c4 c5 c2
          have hdec : IntKind.i64.wrap (((1 + Z - j : Nat) : Int) - 1) = ((1 + Z - (j + 1) : Nat) : Int) := by rw [IntKind.wrap_i64]; omega
          go_wp2
          go_roundw
          case rel => exact ⟨j + 1, by omega, by first | rfl | (congr 1; omega), Lib.hid ⟨A6, n6, c6, _, ni, HX7.out, HR7.out, HO7.out, HT7.out, HOO7.out, HI7.out.1, HI7.out.2, HTL7.out⟩⟩
          case measure => simp [intOf]; omega
      · obtain rfl : j = 1 + Z := by omega
        have hp : ¬ (0 : Int) < ((1 + Z - (1 + Z) : Nat) : Int) := by omega
        rw [Nat.sub_self] at htl
        simp only [flds, List.append_nil] at htl
        have HV3 : Hid (tv = (0, l) ∧ tn = i') := Lib.hid ⟨by rw [HV2.out.1, htl], by rw [HV2.out.2, htl]⟩
        obtain ⟨A', m', c', e', hxs⟩ := hor.shape
        cases e'
        have g0 := hxr.cell0
        have g1 := hxr.cell1
        have q0 := hrr.cell0
        have q1 := hrr.cell1
        have q2 := hrr.fr 0
        have q3 := hrr.fr 1
        have hs5 := hrr.set (n' := 0) (A' := A) (m' := m) (c' := c)
        have HT6 := Lib.hid ((htr.apart (t := tb) (o := 0) (by omega) (.int .i64 0)).apart (t := tb) (o := 1) (by omega) (.slice A m c))
        have HO6 := Lib.hid ((hoo.far (t := tb) (o := 0) (by omega) (.int .i64 0)).far (t := tb) (o := 1) (by omega) (.slice A m c))
        have HX6 : Hid (OwnE 45 ((wr.setCell ⟨tb, 0, none⟩ (.int .i64 0)).setCell ⟨tb, 1, none⟩ (.slice A m c)) tb (.slice A m c) l) := Lib.hid (OwnE.down ⟨ownsRow_setCell_below (ownsRow_setCell_below hor.1 (by simp only; omega) _) (by simp only; omega) _, hor.2⟩ (by omega))
        have k0 := hs5.cell0
        have k1 := hs5.cell1
        clear hh hxr hrr hor htr hoo hll htl hxs hs5
        go_wp2
        exact bodyPost_ret (v := .agg #[.int .i64 0, .slice A m c]) (by simp [results, Try.results11, go_sem, k0, k1]) rfl ⟨_, _, _, by rw [HV3.out.1], by rw [HV3.out.1]; rw [htb]; exact HX6.out, by rw [HV3.out.2]; exact HT6.out, HO6.out⟩
theorem type_any (b i : Nat) (L : List Int) (w : World) (h : TS w b L i) (hf : Fit .u16 L) (hi : i ≤ 800000) :
    Calls Try.prog 11 #[.pointer (some ⟨b, 0, none⟩)] w (TyE w b L (typN L i) (typV L i)) := by
  refine (typeO_any b i L w h hf hi).mono ?_
  rintro e w' ⟨A, m, c, rfl, ho, hr⟩
  obtain ⟨A', m', c', e, hx⟩ := ho.shape
  cases e
  exact ⟨A, m, c, rfl, hx, hr⟩
end Go.Proofs.Ytgddlpabgeeflaa
