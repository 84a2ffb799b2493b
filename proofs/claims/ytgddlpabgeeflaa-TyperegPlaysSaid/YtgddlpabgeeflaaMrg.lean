/-
  The reference model's registry in memory; contract of its Register. Conditions: at most 255 types registered, at most forty fields.
-/
import Derived.Test.YtgddlpabgeeflaaReg
import Derived.Test.YtgddlpabgeeflaaLaC
import Derived.Test.YtgddlpabgeeflaaHdt
namespace Go.Proofs.Ytgddlpabgeeflaa
open Go.ChangeShapes Go.WideShapes Go.RowKit
set_option linter.unusedVariables false
set_option linter.unusedSimpArgs false
set_option maxHeartbeats 4000000
set_option maxRecDepth 100000

/-- A slice of types whose block nobody writes. -/
def Kw0 (w : World) (c : Nat → Nat) (A : Option Addr) (m cc : Nat) (rs : List Ty) : Prop := Kws tyE w w.heap.size A m cc rs ∧ ∀ a, A = some a → a.block < w.heap.size ∧ c a.block = 0
section
variable {w w' : World} {c c' : Nat → Nat} {A : Option Addr} {m cc j : Nat} {rs : List Ty}
theorem Kw0.kept (h : Kw0 w c A m cc rs) (hk : Kept c j w w') (hj : j ≠ 0) (hc : ∀ g, g < w.heap.size → c' g = c g) : Kw0 w' c' A m cc rs := by
  refine ⟨⟨h.1.len, h.1.cap, h.1.small, h.1.nil, fun hm => ?_⟩, fun a ha => ?_⟩
  · obtain ⟨b, o, rfl, hb, hcell⟩ := h.1.cells hm
    have h0 := (h.2 _ rfl).2
    exact ⟨b, o, rfl, Nat.lt_of_lt_of_le hb hk.size, fun p u hu => (World.cell?_of_block (hk.block b hb (by simp only at h0; omega))).trans (hcell p u hu)⟩
  · have h0 := h.2 a ha
    exact ⟨Nat.lt_of_lt_of_le h0.1 hk.size, (hc _ h0.1).trans h0.2⟩
end
/-- The block p is the model's registry of the types T. -/
structure Mrg (w : World) (c : Nat → Nat) (k p : Nat) (T : List (Int × List (Int × Int))) : Prop where
  ex : ∃ A n cc rs, w.heap[p]? = some (.cells #[.slice A n cc] 30 (0, 0)) ∧ Kw0 w c A n cc rs ∧ c p = k ∧ (∀ r ∈ rs, Ex0 w c r.A r.m r.c r.l) ∧ tys rs = T
section
variable {w w' : World} {c c' : Nat → Nat} {k j p : Nat} {T : List (Int × List (Int × Int))}
theorem Mrg.lt (h : Mrg w c k p T) : p < w.heap.size := by
  obtain ⟨A, n, cc, rs, h1, _⟩ := h.ex
  exact (Array.getElem?_eq_some_iff.1 h1).1
theorem Mrg.col (h : Mrg w c k p T) : c p = k := by
  obtain ⟨A, n, cc, rs, h1, h2, h3, _⟩ := h.ex
  exact h3
theorem Mrg.kept (h : Mrg w c k p T) (hk : Kept c j w w') (hj : j ≠ 0) (hjk : j ≠ k) (hc : ∀ g, g < w.heap.size → c' g = c g) : Mrg w' c' k p T := by
  have hlt := h.lt
  obtain ⟨A, n, cc, rs, h1, h2, h3, h4, h5⟩ := h.ex
  exact ⟨A, n, cc, rs, (hk.block p hlt (by omega)).trans h1, h2.kept hk hj hc, (hc p hlt).trans h3, fun r hr => (h4 r hr).kept hk hj hc, h5⟩
theorem Mrg.go (h : Mrg w c k p T) (hb : Below w.heap.size w w') : Mrg w' c k p T := h.kept (j := k + 1) (Kept.ofBelow hb) (by omega) (by omega) (fun _ _ => rfl)
theorem Mrg.new (hc : c w.heap.size = k) : Mrg (w.alloc (.cells #[.slice none 0 0] 30)) c k w.heap.size [] :=
  ⟨none, 0, 0, [], heap_alloc_new w _, ⟨Kws.none_, fun a ha => (by cases ha)⟩, hc, fun r hr => (by cases hr), rfl⟩
end
theorem OwnK.at0 {α : Type} {E : Enc α} {t : TypeId} {w : World} {base m cc : Nat} {A : Option Addr} {l : List α} (h : OwnK E t w base (.slice A m cc) l) {a : Addr} (ha : A = some a) : base ≤ a.block ∧ a.block < w.heap.size ∧ (Value.slice A m cc).ownBlock = some a.block := by
  subst ha
  rcases h.2 with ⟨e, _⟩ | ⟨g, cap, cur, e, hbg, hg, _⟩
  · cases e
  · cases e
    exact ⟨hbg, (Array.getElem?_eq_some_iff.1 hg).1, rfl⟩
theorem OwnK.kws {α : Type} {E : Enc α} {t : TypeId} {w : World} {base m cc : Nat} {A : Option Addr} {l : List α} (h : OwnK E t w base (.slice A m cc) l) : Kws E w w.heap.size A m cc l := by
  obtain ⟨A', n', c', e, hx⟩ := h.shape
  cases e
  exact hx
def MgE (w : World) (c : Nat → Nat) (k p : Nat) (T : List (Int × List (Int × Int))) (x : Int × List (Int × Int)) (e : Ending) (w' : World) : Prop :=
  e = .returned (.tuple #[.int .i64 (rgV T x).1, .int .i64 (rgV T x).2]) ∧ Mrg w' (rc c w.heap.size 0) k p (rgT T x) ∧ Kept c k w w'
theorem Mrg.rc_ {w w' : World} {c : Nat → Nat} {k p : Nat} {T : List (Int × List (Int × Int))} (h : Mrg w c k p T) (hb : Below w.heap.size w w') : Mrg w' (rc c w.heap.size 0) k p T := h.kept (j := k + 1) (Kept.ofBelow hb) (by omega) (by omega) (fun _ hg => rc_old hg)

theorem step_appG {P : Program} (w : World) {ops : Array Oper} {o : Oper} {a : Act} {K : Act → World → Prop} {Q : Exit → Act → World → Prop} {E : Prop} (hgd : o.guard = none) (s x : Operand) (t : TypeId)
    (ho : o.op = .call { callee := .builtin .append, args := #[s, x], argTypes := #[t, t] })
    {e : TypeId} {i : TypeInfo} {z : Value} (ht : P.underlying t = some (.slice e)) (hi : P.info? e = some i) (hz : i.zero = some z) (hzs : z.cells.size = 2) (hsz : i.size = 2) (hby : i.bytes ≤ 64)
    {base : Nat} {v : Value} {xs : List (Int × Int)} (hown : OwnE e w base v xs) (hs : a.eval s = v) {B : Nat} {A : Option Addr} {m c : Nat} {ys : List (Int × Int)} (hy : Exs w B A m c ys) (hx : a.eval x = .slice A m c)
    (hsm : xs.length + m ≤ 4294967296) (hb : base ≤ w.heap.size)
    (h : ∀ v' w', OwnE e w' base v' (xs ++ ys) → w.grownBy w' v.ownBlock → (v'.ownBlock = v.ownBlock ∨ v'.ownBlock = some w.heap.size) → K (a.put o.dst v') w') :
    if Region.wanted o (yielded ops a.tmps) = true then Oper.wp P o a w K Q else E := by
  have hw : Region.wanted o (yielded ops a.tmps) = true := by simp [Region.wanted, hgd]
  rw [if_pos hw]
  obtain ⟨v', w', hrun, h2, h3, h4, h5⟩ := run_appE (P := P) w t o.type e i z ht hi hz hzs hsz hby base v xs hown hy hsm hb
  unfold Oper.wp execOp
  simp only [ho, resolve, invoke, builtin, Sem.run_bind, Sem.run_pure, Result.andThen_ok, List.map_toArray, List.map_cons, List.map_nil, hs, hx, hrun]
  exact h v' w' h2 h4 h5
theorem madeK {α : Type} (E : Enc α) (w : World) (t : TypeId) : OwnK E t (w.alloc (.cells #[] t)) w.heap.size (.slice (some ⟨w.heap.size, 0, none⟩) 0 0) [] := World.ownsRow_made w #[] 0 (Nat.le_refl _) (Nat.zero_le _) (by simp)
theorem madeE (w : World) (t : TypeId) : OwnE t (w.alloc (.cells #[] t)) w.heap.size (.slice (some ⟨w.heap.size, 0, none⟩) 0 0) [] := ⟨World.ownsRow_made w #[] 0 (Nat.le_refl _) (Nat.zero_le _) rfl, Fits.nil⟩
/-- Two rows do not share a block. -/
def Dj (v u : Value) : Prop := ∀ g, v.ownBlock = some g → u.ownBlock ≠ some g
/-- The model's registry behind a Register that adds a type. -/
theorem mrg_done {w w7 : World} {c : Nat → Nat} {k p : Nat} {A0 A6 A7 : Option Addr} {n0 c0 m6 c6 n7 c7 : Nat} {n : Int} {l : List (Int × Int)} {rs : List Ty} (hk : k ≠ 0) (hb : Below w.heap.size w w7) (hp : p < w.heap.size) (hcp : c p = k)
    (h5 : ∀ r ∈ rs, Ex0 w c r.A r.m r.c r.l) (ho6 : OwnE 45 w7 w.heap.size (.slice A6 m6 c6) l) (ho7 : OwnK tyE 35 w7 w.heap.size (.slice A7 n7 c7) (rs ++ [⟨n, A6, m6, c6, l⟩]))
    (hbl : w7.heap[p]? = some (.cells #[.slice A0 n0 c0] 30 (0, 0))) :
    Mrg (w7.setCell ⟨p, 0, none⟩ (.slice A7 n7 c7)) (rc c w.heap.size 0) k p (tys rs ++ [(n, l)]) ∧ Kept c k w (w7.setCell ⟨p, 0, none⟩ (.slice A7 n7 c7)) := by
  have hK : Kept c k w (w7.setCell ⟨p, 0, none⟩ (.slice A7 n7 c7)) := (Kept.ofBelow hb).trans (Kept.ofGrown (run_setOwn w7 p _) (fun g e => by cases e; exact hcp))
  have h7 : OwnK tyE 35 (w7.setCell ⟨p, 0, none⟩ (.slice A7 n7 c7)) w.heap.size (.slice A7 n7 c7) (rs ++ [⟨n, A6, m6, c6, l⟩]) := ownsRow_setCell_below ho7 hp _
  have h6 : OwnE 45 (w7.setCell ⟨p, 0, none⟩ (.slice A7 n7 c7)) w.heap.size (.slice A6 m6 c6) l := ⟨ownsRow_setCell_below ho6.1 hp _, ho6.2⟩
  refine ⟨⟨A7, n7, c7, rs ++ [⟨n, A6, m6, c6, l⟩], heap_setCell_same w7 p 0 _ _ _ hbl, ⟨h7.kws, fun a ha => ⟨(h7.at0 ha).2.1, rc_new (h7.at0 ha).1⟩⟩, (rc_old hp).trans hcp, fun r hr => ?_, by rw [tys_app]; rfl⟩, hK⟩
  rcases List.mem_append.1 hr with h | h
  · exact (h5 r h).kept hK hk (fun _ hg => rc_old hg)
  · simp only [List.mem_singleton] at h
    subst h
    exact ⟨h6.exs, fun a ha => ⟨(h6.at0 ha).2.1, rc_new (h6.at0 ha).1⟩⟩
theorem run_noneT {ρ : Operand → Value} {o : Oper} (h : o.op = .buildSlice 23 0 #[]) (w : World) : (execOp ρ o).run Try.prog w = .ok (.value (.slice (some ⟨w.heap.size, 0, none⟩) 0 0)) (w.alloc (.cells #[] 35)) := by
  unfold execOp
  simp only [h]
  go_simp
theorem run_noneF {ρ : Operand → Value} {o : Oper} (h : o.op = .buildSlice 33 0 #[]) (w : World) : (execOp ρ o).run Try.prog w = .ok (.value (.slice (some ⟨w.heap.size, 0, none⟩) 0 0)) (w.alloc (.cells #[] 45)) := by
  unfold execOp
  simp only [h]
  go_simp
theorem run_oneT {ρ : Operand → Value} {o : Oper} {x : Operand} {n : Int} {A : Option Addr} {m c : Nat} (h : o.op = .buildSlice 23 1 #[(0, x)]) (hx : ρ x = .agg #[.int .i64 n, .slice A m c]) (w : World) :
    (execOp ρ o).run Try.prog w = .ok (.value (.slice (some ⟨w.heap.size, 0, none⟩) 1 1)) (w.alloc (.cells #[.int .i64 n, .slice A m c] 35)) := by
  unfold execOp
  simp only [h]
  go_simp
theorem ob_dj {v : Value} {r : Option Nat} (h : ∀ g, v.ownBlock = some g → r ≠ some g) : v.ownBlock = none ∨ v.ownBlock ≠ r := by
  rcases hv : v.ownBlock with _ | g
  · exact .inl rfl
  · exact .inr fun e => h g hv e.symm
theorem registerR_any (w : World) (c : Nat → Nat) (k p : Nat) (T : List (Int × List (Int × Int))) (n : Int) (A : Option Addr) (m cc : Nat) (l : List (Int × Int)) (hr : Mrg w c k p T) (hk : k ≠ 0) (h : Exs w w.heap.size A m cc l) (hm : m ≤ 40) (hT : T.length ≤ 255) :
    Calls Try.prog 13 #[.pointer (some ⟨p, 0, none⟩), .agg #[.int .i64 n, .slice A m cc]] w (MgE w c k p T (n, l)) := by
  have hb1 : Below w.heap.size w (w.alloc (.cells #[.int .i64 n, .slice A m cc] 35)) := (Below.refl _ _).alloc (Nat.le_refl _) _
  have HB1 := Lib.hid hb1
  have HT1 := Lib.hid (TyB.new (w := w) (n := n) (A := A) (m := m) (c := cc))
  have HX1 := Lib.hid (h.go hb1)
  have HC := Lib.hid (checkR_any n A m cc l _ (h.go hb1) hm)
  have HR0 := Lib.hid hr
  have hpw := hr.lt
  have c0 := HT1.out.cell0
  have c1 := HT1.out.cell1
  obtain ⟨RV, hRV⟩ : ∃ RV, rgV T (n, l) = RV := ⟨_, rfl⟩
  obtain ⟨RT, hRT⟩ : ∃ RT, rgT T (n, l) = RT := ⟨_, rfl⟩
  unfold MgE
  rw [hRV, hRT]
  have HV := Lib.hid hRV
  have HTT := Lib.hid hRT
  unfold rgV at HV
  unfold rgT at HTT
  simp only at HV HTT
  clear h hr hb1 hRV hRT
  generalize chk n l = ck at *
  go_enter Try.func13, Try.ntmps13
  go_wp2_with fail
  refine HC.out.mono ?_
  rintro e w2 ⟨rfl, hb2⟩
  have HB2 := Lib.hid (Below.then HB1.out hb2 (by simp))
  have HT2 := Lib.hid (HT1.out.go hb2)
  have HX2 := Lib.hid (HX1.out.go hb2)
  clear HC hb2 HB1 HT1 HX1 c0 c1
  by_cases hck : ck = 0
  · subst hck
    simp only [ne_eq, not_true_eq_false, if_false, true_and] at HV HTT
    obtain ⟨Av, nv, cv, rs, h1, h2, h3, h4, h5⟩ := HR0.out.ex
    have hnv : nv = T.length := by rw [← h5, tys_len, h2.1.len]
    have HLN := Lib.hid hnv
    have H345 := Lib.hid (And.intro h3 (And.intro h4 h5))
    have hcapv := h2.1.cap
    have hsmv := h2.1.small
    unfold maxLen at hsmv
    have H12 := Lib.hid ((HB2.out.block p hpw).trans h1)
    have HK2 := Lib.hid (h2.1.go HB2.out)
    have HF2 : Hid (Flw w2 w2.heap.size rs) := Lib.hid (fun r hr => (h4 r hr).1.go HB2.out)
    have hn255 : nv ≤ 255 := by omega
    clear h1 h2 h3 h4 h5 hnv
    go_wp2
    go_loopw [7] (fun kv wr => ∃ (j : Nat), j ≤ nv ∧ kv = .int .i64 j ∧ Hid ((n, l) ∉ T.take j ∧ Below w2.heap.size w2 wr)) (fun kv _ => nv - (intOf kv).toNat)
    case atStart => exact ⟨0, by omega, rfl, Lib.hid ⟨by simp, Below.refl _ _⟩⟩
    case round =>
      obtain ⟨j, hj, rfl, hh⟩ := hrel
      have HN := Lib.hid hh.out.1
      have HBr := Lib.hid hh.out.2
      have HTr := Lib.hid (HT2.out.go hh.out.2)
      have HXr := Lib.hid (HX2.out.go hh.out.2)
      have h1 := (hh.out.2.block p (Array.getElem?_eq_some_iff.1 H12.out).1).trans H12.out
      have H1r := Lib.hid h1
      have k0 : wr.cell? ⟨p, 0, none⟩ = some (.slice Av nv cv) := cell_of_row wr p 0 _ _ _ h1
      clear h1
      by_cases hjn : j < nv
      · have hj1 : (j : Int) < (nv : Int) := by omega
        obtain ⟨b, o, r, hr, rfl, hb, g0, g1⟩ := (HK2.out.go hh.out.2).ty hjn
        have hrx := (HF2.out.go hh.out.2).at_ hr
        have HT := Lib.hid (show T[j]? = some r.t by rw [← H345.out.2.2]; exact tys_at hr)
        have HS := Lib.hid (fun m' : Later wr => sameType_any r.n n r.A A r.m m r.c cc r.l l m'.val (hrx.go m'.2) (HXr.out.go m'.2))
        obtain ⟨rn, rA, rm, rcap, rl⟩ := r
        simp only [Ty.t] at HT HS g0 g1
        have a0 : ∀ m' : Later wr, m'.val.cell? ⟨p, 0, none⟩ = some (.slice (some ⟨b, o, none⟩) nv cv) := fun m' => later_old m' k0
        have a1 : ∀ m' : Later wr, m'.val.cell? ⟨b, o + j * 2, none⟩ = some (.int .i64 rn) := fun m' => later_old m' g0
        have a2 : ∀ m' : Later wr, m'.val.cell? ⟨b, o + j * 2 + 1, none⟩ = some (.slice rA rm rcap) := fun m' => later_old m' g1
        have a3 : ∀ m' : Later wr, m'.val.cell? ⟨w.heap.size, 0, none⟩ = some (.int .i64 n) := fun m' => later_old m' HTr.out.cell0
        have a4 : ∀ m' : Later wr, m'.val.cell? ⟨w.heap.size, 1, none⟩ = some (.slice A m cc) := fun m' => later_old m' HTr.out.cell1
        clear hr hrx hb g0 g1
        go_wp2
        by_cases he : (n, l) = (rn, rl)
        · have het : eqT rn n rl l = true := by
            cases he
            exact eqT_self _ _
          rw [het] at HS
          have HVV : Hid (RV = ((j : Int) + 1, 0)) := Lib.hid (by
            have hmem : (n, l) ∈ T := List.mem_of_getElem? (by rw [HT.out, he])
            rw [← HV.out, if_pos hmem, ixT_at HN.out (by rw [HT.out, he])])
          have HTV : Hid (RT = T) := Lib.hid (by rw [← HTT.out, if_neg (fun hq => hq.1 (List.mem_of_getElem? (by rw [HT.out, he])))])
          clear he het
          refine wp_region_later (by kernel_rfl) (by kernel_rfl) ?_
          repeat (go_big_quiet_step (first | (go_at_call 18; exact Calls.later (HS.out _))))
          refine wpQuiet_nil ?_
          rintro w7 ⟨⟨_, hq⟩, rfl⟩
          have HQ := Lib.hid (Below.then HB2.out (Below.then HBr.out hq (Nat.le_refl _)) (Nat.le_refl _))
          clear hq HS a0 a1 a2 a3 a4
          go_wp2
          go_ret2
          exact ⟨by rw [HVV.out]; rfl, by rw [HTV.out]; exact HR0.out.rc_ HQ.out, Kept.ofBelow HQ.out⟩
        · have het : eqT rn n rl l = false := by
            unfold eqT
            rw [decide_eq_false_iff_not]
            rintro ⟨rfl, rfl⟩
            exact he rfl
          rw [het] at HS
          have HNN := Lib.hid (not_next HN.out HT.out he)
          clear he het
          refine wp_region_later (by kernel_rfl) (by kernel_rfl) ?_
          repeat (go_big_quiet_step (first | (go_at_call 18; exact Calls.later (HS.out _))))
          refine wpQuiet_nil ?_
          rintro w7 ⟨⟨_, hq⟩, rfl⟩
          have HQ := Lib.hid (Below.then HBr.out hq (Nat.le_refl _))
          clear hq HS a0 a1 a2 a3 a4
          go_wp2
          go_roundw
          case rel => exact ⟨j + 1, by omega, by go_num, Lib.hid ⟨HNN.out, HQ.out⟩⟩
          case measure => simp [intOf]; omega
      · obtain rfl : j = nv := by omega
        have hjj : ¬ (j : Int) < (j : Int) := by omega
        have hin : (n, l) ∉ T := by
          have := HN.out
          rwa [List.take_of_length_le (by have := HLN.out; omega)] at this
        have HB3 := Lib.hid (Below.then HB2.out HBr.out (Nat.le_refl _))
        by_cases h255 : T.length = 255
        · have HV2 : Hid (RV = (0, 4)) := Lib.hid (by rw [← HV.out, if_neg hin, if_pos h255])
          have HT3 : Hid (RT = T) := Lib.hid (by rw [← HTT.out, if_neg (fun hq => hq.2 h255)])
          have hnn : (255 : Int) ≤ (j : Int) := by have := HLN.out; omega
          clear hin HV HTT h255 hh
          go_wp2
          go_ret2
          exact ⟨by rw [HV2.out]; rfl, by rw [HT3.out]; exact HR0.out.rc_ HB3.out, Kept.ofBelow HB3.out⟩
        · have HV2 : Hid (RV = ((j : Int) + 1, 0)) := Lib.hid (by rw [← HV.out, if_neg hin, if_neg h255, HLN.out])
          have HTV : Hid (RT = T ++ [(n, l)]) := Lib.hid (by rw [← HTT.out, if_pos ⟨hin, h255⟩])
          have hnn : ¬ (255 : Int) ≤ (j : Int) := by have := HLN.out; omega
          obtain ⟨w3, rfl⟩ : ∃ w3, w3 = wr := ⟨_, rfl⟩
          obtain ⟨nv, rfl⟩ : ∃ nv, nv = j := ⟨_, rfl⟩
          have hp3 : p < w3.heap.size := (Array.getElem?_eq_some_iff.1 H1r.out).1
          have HX3 := HXr
          have HT3 := HTr
          have H13 := H1r
          have HKW := Lib.hid (HK2.out.go HBr.out)
          have HRL : Hid (rs.length = nv) := Lib.hid (by have := HLN.out; rw [← tys_len, H345.out.2.2]; omega)
          have HOL : Hid (rs.length ≤ 255) := Lib.hid (by have := HLN.out; rw [← tys_len, H345.out.2.2]; omega)
          obtain ⟨i0, hi0, hz0, hz1, hz2⟩ := info_parts infoTy
          have HI := Lib.hid hi0
          have HZ := Lib.hid hz0
          obtain ⟨i1, hi1, hy0, hy1, hy2⟩ := info_parts infoFd
          have HIF := Lib.hid hi1
          have HZF := Lib.hid hy0
          have HDA : Hid (Below w3.heap.size w3 (w3.drew.alloc (.cells #[] 35))) := Lib.hid ((below_drewN (Below.refl _ _) 1).alloc (Nat.le_refl _) _)
          have HDF : Hid (Below w3.heap.size w3 (w3.drew.alloc (.cells #[] 45))) := Lib.hid ((below_drewN (Below.refl _ _) 1).alloc (Nat.le_refl _) _)
          have HDB : Hid (Below w3.heap.size w3 ((w3.drew.alloc (.cells #[] 35)).alloc (.cells #[] 45))) := Lib.hid (HDA.out.alloc (by simp) _)
          have HDC : Hid (Below w3.heap.size w3 ((w3.drew.alloc (.cells #[] 45)).alloc (.cells #[] 35))) := Lib.hid (HDF.out.alloc (by simp) _)
          have HMA : Hid (OwnK tyE 35 (w3.drew.alloc (.cells #[] 35)) w3.heap.size (.slice (some ⟨w3.heap.size, 0, none⟩) 0 0) []) := Lib.hid (madeK tyE w3.drew 35)
          have HMB : Hid (OwnK tyE 35 ((w3.drew.alloc (.cells #[] 35)).alloc (.cells #[] 45)) w3.heap.size (.slice (some ⟨w3.heap.size, 0, none⟩) 0 0) []) := Lib.hid (OwnK.alloc (madeK tyE w3.drew 35) (.cells #[] 45))
          have HMC : Hid (OwnK tyE 35 ((w3.drew.alloc (.cells #[] 45)).alloc (.cells #[] 35)) w3.heap.size (.slice (some ⟨(w3.drew.alloc (.cells #[] 45)).heap.size, 0, none⟩) 0 0) []) := Lib.hid (OwnK.down (madeK tyE (w3.drew.alloc (.cells #[] 45)) 35) (B := w3.heap.size) (by simp))
          have HFB : Hid (OwnE 45 ((w3.drew.alloc (.cells #[] 35)).alloc (.cells #[] 45)) w3.heap.size (.slice (some ⟨(w3.drew.alloc (.cells #[] 35)).heap.size, 0, none⟩) 0 0) []) := Lib.hid (OwnE.down (madeE (w3.drew.alloc (.cells #[] 35)) 45) (B := w3.heap.size) (by simp))
          have HFC : Hid (OwnE 45 ((w3.drew.alloc (.cells #[] 45)).alloc (.cells #[] 35)) w3.heap.size (.slice (some ⟨w3.heap.size, 0, none⟩) 0 0) []) := Lib.hid (OwnE.alloc (madeE w3.drew 45) (.cells #[] 35))
          have HSS : Hid (∀ W, Below w3.heap.size w3 W → W.cell? ⟨p, 0, none⟩ = some (.slice Av nv cv) ∧ W.cell? ⟨w.heap.size, 0, none⟩ = some (.int .i64 n) ∧ W.cell? ⟨w.heap.size, 1, none⟩ = some (.slice A m cc)) := Lib.hid (fun W h => ⟨(h.cell (p := ⟨p, 0, none⟩) hp3).trans k0, (HTr.out.go h).cell0, (HTr.out.go h).cell1⟩)
          clear hi0 hz0 hi1 hy0 hin HV HTT h255 hh HN
          go_wp2_with fail
          clear k0
          refine wp_region_headed 16 (fun W => W.cell? ⟨p, 0, none⟩ = some (.slice Av nv cv) ∧ W.cell? ⟨w.heap.size, 0, none⟩ = some (.int .i64 n) ∧ W.cell? ⟨w.heap.size, 1, none⟩ = some (.slice A m cc)) (by kernel_rfl) (by kernel_rfl) ?_
          simp only [List.take_succ_cons, List.take_zero, List.drop_succ_cons, List.drop_zero]
          have hHeld := HSS.out _ (below_drewN (Below.refl w3.heap.size w3) 1)
          refine held_take (i := 0) (d := 39) (v := .pointer (some ⟨p, 0, none⟩)) rfl rfl (by kernel_rfl) (by kernel_rfl) (by kernel_rfl) (fun _ _ _ h => h) (by rfl) (fun W _ => run_move_is (.tmp 0) rfl rfl W) hHeld ?_
          simp only [Act.put, List.setIfInBounds_toArray, List.set_cons_zero, List.set_cons_succ]
          refine held_take (i := 2) (d := 41) (v := .pointer (some ⟨p, 0, none⟩)) rfl rfl (by kernel_rfl) (by kernel_rfl) (by kernel_rfl) (fun _ _ _ h => h) (by rfl) (fun W _ => run_move_is (.tmp 0) rfl rfl W) hHeld ?_
          simp only [Act.put, List.setIfInBounds_toArray, List.set_cons_zero, List.set_cons_succ]
          refine held_take (i := 3) (d := 42) (v := .pointer (some ⟨p, 0, none⟩)) rfl rfl (by kernel_rfl) (by kernel_rfl) (by kernel_rfl) (fun _ _ _ h => h) (by rfl) (fun W _ => by go_simp) hHeld ?_
          simp only [Act.put, List.setIfInBounds_toArray, List.set_cons_zero, List.set_cons_succ]
          refine held_take (i := 4) (d := 43) (v := .pointer (some ⟨p, 0, none⟩)) rfl rfl (by kernel_rfl) (by kernel_rfl) (by kernel_rfl) (fun _ _ _ h => h) (by rfl) (fun W _ => by go_simp) hHeld ?_
          simp only [Act.put, List.setIfInBounds_toArray, List.set_cons_zero, List.set_cons_succ]
          refine held_take (i := 5) (d := 44) (v := .slice Av nv cv) rfl rfl (by kernel_rfl) (by kernel_rfl) (by kernel_rfl) (fun _ _ _ h => h) (by rfl) (fun W hS => by have h1 := hS.1; go_simp) hHeld ?_
          simp only [Act.put, List.setIfInBounds_toArray, List.set_cons_zero, List.set_cons_succ]
          refine held_take (i := 7) (d := 46) (v := .pointer (some ⟨w.heap.size, 0, none⟩)) rfl rfl (by kernel_rfl) (by kernel_rfl) (by kernel_rfl) (fun _ _ _ h => h) (by rfl) (fun W _ => by go_simp) hHeld ?_
          simp only [Act.put, List.setIfInBounds_toArray, List.set_cons_zero, List.set_cons_succ]
          refine held_take (i := 8) (d := 47) (v := .int .i64 n) rfl rfl (by kernel_rfl) (by kernel_rfl) (by kernel_rfl) (fun _ _ _ h => h) (by rfl) (fun W hS => by have h1 := hS.2.1; go_simp) hHeld ?_
          simp only [Act.put, List.setIfInBounds_toArray, List.set_cons_zero, List.set_cons_succ]
          refine held_take (i := 10) (d := 49) (v := .pointer (some ⟨w.heap.size, 1, none⟩)) rfl rfl (by kernel_rfl) (by kernel_rfl) (by kernel_rfl) (fun _ _ _ h => h) (by rfl) (fun W _ => by go_simp) hHeld ?_
          simp only [Act.put, List.setIfInBounds_toArray, List.set_cons_zero, List.set_cons_succ]
          refine held_take (i := 11) (d := 50) (v := .slice A m cc) rfl rfl (by kernel_rfl) (by kernel_rfl) (by kernel_rfl) (fun _ _ _ h => h) (by rfl) (fun W hS => by have h1 := hS.2.2; go_simp) hHeld ?_
          simp only [Act.put, List.setIfInBounds_toArray, List.set_cons_zero, List.set_cons_succ]
          refine held_two (i := 1) (j := 9) (by kernel_rfl) ?_ ?_
          · skip
            refine held_make (d := 40) rfl rfl (by rfl) (run_noneT rfl _) ⟨HSS.out _ HDA.out, ?_⟩
            clear hHeld
            have hHeld := HSS.out _ HDA.out
            simp only [Act.put, List.setIfInBounds_toArray, List.set_cons_zero, List.set_cons_succ]
            refine held_two (i := 6) (j := 9) (by kernel_rfl) ?_ ?_
            · skip
              refine held_law rfl (step_appK (E' := tyE) (w3.drew.alloc (.cells #[] 35)) rfl (.tmp 40) (.tmp 44) 23 rfl Try.underlying23 HI.out HZ.out rfl hz1 (by omega) HMA.out rfl (HKW.out.below HDA.out) rfl (by simp; omega) (by simp <;> omega) ?_)
              intro v5 w5 ho5 hg5 hv5
              have HO5 : Hid (OwnK tyE 35 w5 w3.heap.size v5 rs) := Lib.hid (by simpa using ho5)
              have HB5 : Hid (Below w3.heap.size w3 w5) := Lib.hid (HDA.out.grown hg5 (by simp <;> omega) (fun g e => by cases e; simp))
              have HV5 : Hid (∀ g, v5.ownBlock = some g → g < w5.heap.size) := Lib.hid (fun g hg => (HO5.out.ge hg).2)
              have hHeld := HSS.out _ HB5.out
              refine ⟨hHeld, ?_⟩
              clear ho5 hg5 hv5
              simp only [Act.put, List.setIfInBounds_toArray, List.set_cons_zero, List.set_cons_succ]
              refine held_one (i := 9) (by kernel_rfl) ?_
              refine held_make (d := 48) rfl rfl (by rfl) (run_noneF rfl _) ⟨HSS.out _ (HB5.out.alloc HB5.out.size _), ?_⟩
              clear hHeld
              have hHeld := HSS.out _ (HB5.out.alloc HB5.out.size (.cells #[] 45))
              simp only [Act.put, List.setIfInBounds_toArray, List.set_cons_zero, List.set_cons_succ]
              refine held_one (i := 12) (by kernel_rfl) ?_
              refine held_law rfl (step_appG (w5.alloc (.cells #[] 45)) rfl (.tmp 48) (.tmp 50) 33 rfl Try.underlying33 HIF.out HZF.out rfl hy1 (by omega) ((madeE w5 _).down (B := w3.heap.size) HB5.out.size) rfl ((HX3.out.below HB5.out).below ((Below.refl _ _).alloc HB5.out.size _)) rfl (by simp; omega) (by have := HB5.out.size; simp <;> omega) ?_)
              intro v6 w6 ho6 hg6 hv6
              have HO6 : Hid (OwnE 45 w6 w3.heap.size v6 l) := Lib.hid (by simpa using ho6)
              have HB6 : Hid (Below w3.heap.size w3 w6) := Lib.hid ((HB5.out.alloc HB5.out.size _).grown hg6 (by have := HB5.out.size; simp; omega) (fun g e => by cases e; exact HB5.out.size))
              have HK6 : Hid (OwnK tyE 35 w6 w3.heap.size v5 rs) := Lib.hid ((HO5.out.alloc _).kept hg6 (ob_dj (fun g hg e => by cases e; exact Nat.lt_irrefl _ (HV5.out _ hg))))
              have HDJ : Hid (Dj v5 v6) := Lib.hid (fun g hg e => by
                have := HV5.out g hg
                rcases hv6 with h | h
                · rw [h] at e
                  cases e
                  exact Nat.lt_irrefl _ this
                · rw [h] at e
                  cases e
                  simp at this <;> omega)
              obtain ⟨A6, n6, c6, rfl, hx6⟩ := ho6.shape
              clear hHeld
              have hHeld := HSS.out _ HB6.out
              refine ⟨hHeld, ?_⟩
              clear ho6 hg6 hv6 hx6
              simp only [Act.put, List.setIfInBounds_toArray, List.set_cons_zero, List.set_cons_succ]
              refine held_take (i := 13) (d := 52) (v := .agg #[.int .i64 n, .slice A6 n6 c6]) rfl rfl (by kernel_rfl) (by kernel_rfl) (by kernel_rfl) (fun _ _ _ h => h) (by rfl) (fun W _ => by go_simp) hHeld ?_
              simp only [Act.put, List.setIfInBounds_toArray, List.set_cons_zero, List.set_cons_succ]
              refine held_one (i := 14) (by kernel_rfl) ?_
              refine held_make (d := 53) rfl rfl (by rfl) (by exact run_oneT (x := .tmp 52) rfl rfl _) ⟨HSS.out _ (HB6.out.alloc HB6.out.size _), ?_⟩
              clear hHeld
              have hHeld := HSS.out _ (HB6.out.alloc HB6.out.size (.cells #[.int .i64 n, .slice A6 n6 c6] 35))
              simp only [Act.put, List.setIfInBounds_toArray, List.set_cons_zero, List.set_cons_succ]
              refine held_one (i := 15) (by kernel_rfl) ?_
              refine held_law rfl (step_appK (E' := tyE) (w6.alloc (.cells #[.int .i64 n, .slice A6 n6 c6] 35)) rfl (.tmp 45) (.tmp 53) 23 rfl Try.underlying23 HI.out HZ.out rfl hz1 (by omega) (HK6.out.alloc _) rfl (Kws.new (E := tyE) w6 [⟨n, A6, n6, c6, l⟩] _ _ 1 rfl rfl (by unfold maxLen; omega)) rfl (by have := HOL.out; omega) (by have := HB6.out.size; simp; omega) ?_)
              intro v7 w7 ho7 hg7 hv7
              obtain ⟨A7, n7, c7, rfl, hx7⟩ := ho7.shape
              have HO7 := Lib.hid ho7
              have HB7 : Hid (Below w3.heap.size w3 w7) := Lib.hid ((HB6.out.alloc HB6.out.size _).grown hg7 (by have := HB6.out.size; simp; omega) (fun g e => (HK6.out.ge e).1))
              have HN7 : Hid (OwnE 45 w7 w3.heap.size (.slice A6 n6 c6) l) := Lib.hid ((HO6.out.alloc _).kept hg7 (ob_dj (fun g hg e => HDJ.out g e hg)))
              have HBL7 : Hid (w7.heap[p]? = some (.cells #[.slice Av nv cv] 30 (0, 0))) := Lib.hid ((HB7.out.block p hp3).trans H13.out)
              have t6 : w7.cell? ⟨p, 0, none⟩ = some (.slice Av nv cv) := cell_of_row w7 p 0 _ _ _ HBL7.out
              have t7 : w7.frozen? ⟨p, 0, none⟩ = false := frozen_of_row w7 p 0 _ _ HBL7.out
              refine ⟨HSS.out _ HB7.out, ?_⟩
              clear ho7 hg7 hv7 hx7 hHeld
              simp only [Act.put, List.setIfInBounds_toArray, List.set_cons_zero, List.set_cons_succ]
              refine wpAnyH_done (by kernel_rfl) ?_ _
              have hz3 := HB3.out.size
              have HW7 := Lib.hid (mrg_done (n := n) hk (Below.then HB3.out HB7.out (Nat.le_refl _)) hpw H345.out.1 H345.out.2.1 (HN7.out.down hz3) (HO7.out.down hz3) HBL7.out)
              have HNN : Hid (n7 = nv + 1) := Lib.hid (by have h1 := HO7.out.num; have h2 := HRL.out; rw [List.length_append] at h1; simp at h1; omega)
              have hbl8 : (w7.setCell ⟨p, 0, none⟩ (.slice A7 n7 c7)).heap[p]? = some (.cells #[.slice A7 n7 c7] 30 (0, 0)) := heap_setCell_same w7 p 0 _ _ _ HBL7.out
              have k8 : (w7.setCell ⟨p, 0, none⟩ (.slice A7 n7 c7)).cell? ⟨p, 0, none⟩ = some (.slice A7 n7 c7) := cell_of_row _ p 0 _ _ _ hbl8
              clear hbl8
              simp only [atEnd]
              go_wp2
              go_ret2
              exact ⟨by rw [HV2.out, HNN.out]; rfl, by rw [HTV.out, ← H345.out.2.2]; exact HW7.out.1, HW7.out.2⟩
            · skip
              refine held_make (d := 48) rfl rfl (by rfl) (run_noneF rfl _) ⟨HSS.out _ HDB.out, ?_⟩
              clear hHeld
              have hHeld := HSS.out _ HDB.out
              simp only [Act.put, List.setIfInBounds_toArray, List.set_cons_zero, List.set_cons_succ]
              refine held_one (i := 6) (by kernel_rfl) ?_
              refine held_law rfl (step_appK (E' := tyE) ((w3.drew.alloc (.cells #[] 35)).alloc (.cells #[] 45)) rfl (.tmp 40) (.tmp 44) 23 rfl Try.underlying23 HI.out HZ.out rfl hz1 (by omega) HMB.out rfl (HKW.out.below HDB.out) rfl (by simp; omega) (by simp <;> omega) ?_)
              intro v5 w5 ho5 hg5 hv5
              have HO5 : Hid (OwnK tyE 35 w5 w3.heap.size v5 rs) := Lib.hid (by simpa using ho5)
              have HB5 : Hid (Below w3.heap.size w3 w5) := Lib.hid (HDB.out.grown hg5 (by simp <;> omega) (fun g e => by cases e; simp))
              have HE5 : Hid (OwnE 45 w5 w3.heap.size (.slice (some ⟨(w3.drew.alloc (.cells #[] 35)).heap.size, 0, none⟩) 0 0) []) := Lib.hid (HFB.out.kept hg5 (.inr (by simp [Value.ownBlock])))
              have HV5 : Hid (∀ g, v5.ownBlock = some g → g < w5.heap.size ∧ g ≠ (w3.drew.alloc (.cells #[] 35)).heap.size) := Lib.hid (fun g hg => ⟨(HO5.out.ge hg).2, fun e => by
                rcases hv5 with h | h
                · rw [h] at hg
                  cases hg
                  simp at e
                · rw [h] at hg
                  cases hg
                  simp at e <;> omega⟩)
              have hHeld := HSS.out _ HB5.out
              refine ⟨hHeld, ?_⟩
              clear ho5 hg5 hv5
              simp only [Act.put, List.setIfInBounds_toArray, List.set_cons_zero, List.set_cons_succ]
              refine held_one (i := 12) (by kernel_rfl) ?_
              refine held_law rfl (step_appG w5 rfl (.tmp 48) (.tmp 50) 33 rfl Try.underlying33 HIF.out HZF.out rfl hy1 (by omega) HE5.out rfl ((HX3.out.below HB5.out).below (Below.refl _ _)) rfl (by simp; omega) (by have := HB5.out.size; simp <;> omega) ?_)
              intro v6 w6 ho6 hg6 hv6
              have HO6 : Hid (OwnE 45 w6 w3.heap.size v6 l) := Lib.hid (by simpa using ho6)
              have HB6 : Hid (Below w3.heap.size w3 w6) := Lib.hid (HB5.out.grown hg6 HB5.out.size (fun g e => by cases e; simp))
              have HK6 : Hid (OwnK tyE 35 w6 w3.heap.size v5 rs) := Lib.hid (HO5.out.kept hg6 (ob_dj (fun g hg e => by cases e; exact (HV5.out _ hg).2 rfl)))
              have HDJ : Hid (Dj v5 v6) := Lib.hid (fun g hg e => by
                have := HV5.out g hg
                rcases hv6 with h | h
                · rw [h] at e
                  cases e
                  exact this.2 rfl
                · rw [h] at e
                  cases e
                  exact Nat.lt_irrefl _ this.1)
              obtain ⟨A6, n6, c6, rfl, hx6⟩ := ho6.shape
              clear hHeld
              have hHeld := HSS.out _ HB6.out
              refine ⟨hHeld, ?_⟩
              clear ho6 hg6 hv6 hx6
              simp only [Act.put, List.setIfInBounds_toArray, List.set_cons_zero, List.set_cons_succ]
              refine held_take (i := 13) (d := 52) (v := .agg #[.int .i64 n, .slice A6 n6 c6]) rfl rfl (by kernel_rfl) (by kernel_rfl) (by kernel_rfl) (fun _ _ _ h => h) (by rfl) (fun W _ => by go_simp) hHeld ?_
              simp only [Act.put, List.setIfInBounds_toArray, List.set_cons_zero, List.set_cons_succ]
              refine held_one (i := 14) (by kernel_rfl) ?_
              refine held_make (d := 53) rfl rfl (by rfl) (by exact run_oneT (x := .tmp 52) rfl rfl _) ⟨HSS.out _ (HB6.out.alloc HB6.out.size _), ?_⟩
              clear hHeld
              have hHeld := HSS.out _ (HB6.out.alloc HB6.out.size (.cells #[.int .i64 n, .slice A6 n6 c6] 35))
              simp only [Act.put, List.setIfInBounds_toArray, List.set_cons_zero, List.set_cons_succ]
              refine held_one (i := 15) (by kernel_rfl) ?_
              refine held_law rfl (step_appK (E' := tyE) (w6.alloc (.cells #[.int .i64 n, .slice A6 n6 c6] 35)) rfl (.tmp 45) (.tmp 53) 23 rfl Try.underlying23 HI.out HZ.out rfl hz1 (by omega) (HK6.out.alloc _) rfl (Kws.new (E := tyE) w6 [⟨n, A6, n6, c6, l⟩] _ _ 1 rfl rfl (by unfold maxLen; omega)) rfl (by have := HOL.out; omega) (by have := HB6.out.size; simp; omega) ?_)
              intro v7 w7 ho7 hg7 hv7
              obtain ⟨A7, n7, c7, rfl, hx7⟩ := ho7.shape
              have HO7 := Lib.hid ho7
              have HB7 : Hid (Below w3.heap.size w3 w7) := Lib.hid ((HB6.out.alloc HB6.out.size _).grown hg7 (by have := HB6.out.size; simp; omega) (fun g e => (HK6.out.ge e).1))
              have HN7 : Hid (OwnE 45 w7 w3.heap.size (.slice A6 n6 c6) l) := Lib.hid ((HO6.out.alloc _).kept hg7 (ob_dj (fun g hg e => HDJ.out g e hg)))
              have HBL7 : Hid (w7.heap[p]? = some (.cells #[.slice Av nv cv] 30 (0, 0))) := Lib.hid ((HB7.out.block p hp3).trans H13.out)
              have t6 : w7.cell? ⟨p, 0, none⟩ = some (.slice Av nv cv) := cell_of_row w7 p 0 _ _ _ HBL7.out
              have t7 : w7.frozen? ⟨p, 0, none⟩ = false := frozen_of_row w7 p 0 _ _ HBL7.out
              refine ⟨HSS.out _ HB7.out, ?_⟩
              clear ho7 hg7 hv7 hx7 hHeld
              simp only [Act.put, List.setIfInBounds_toArray, List.set_cons_zero, List.set_cons_succ]
              refine wpAnyH_done (by kernel_rfl) ?_ _
              have hz3 := HB3.out.size
              have HW7 := Lib.hid (mrg_done (n := n) hk (Below.then HB3.out HB7.out (Nat.le_refl _)) hpw H345.out.1 H345.out.2.1 (HN7.out.down hz3) (HO7.out.down hz3) HBL7.out)
              have HNN : Hid (n7 = nv + 1) := Lib.hid (by have h1 := HO7.out.num; have h2 := HRL.out; rw [List.length_append] at h1; simp at h1; omega)
              have hbl8 : (w7.setCell ⟨p, 0, none⟩ (.slice A7 n7 c7)).heap[p]? = some (.cells #[.slice A7 n7 c7] 30 (0, 0)) := heap_setCell_same w7 p 0 _ _ _ HBL7.out
              have k8 : (w7.setCell ⟨p, 0, none⟩ (.slice A7 n7 c7)).cell? ⟨p, 0, none⟩ = some (.slice A7 n7 c7) := cell_of_row _ p 0 _ _ _ hbl8
              clear hbl8
              simp only [atEnd]
              go_wp2
              go_ret2
              exact ⟨by rw [HV2.out, HNN.out]; rfl, by rw [HTV.out, ← H345.out.2.2]; exact HW7.out.1, HW7.out.2⟩
          · skip
            refine held_make (d := 48) rfl rfl (by rfl) (run_noneF rfl _) ⟨HSS.out _ HDF.out, ?_⟩
            clear hHeld
            have hHeld := HSS.out _ HDF.out
            simp only [Act.put, List.setIfInBounds_toArray, List.set_cons_zero, List.set_cons_succ]
            refine held_one (i := 1) (by kernel_rfl) ?_
            refine held_make (d := 40) rfl rfl (by rfl) (run_noneT rfl _) ⟨HSS.out _ HDC.out, ?_⟩
            clear hHeld
            have hHeld := HSS.out _ HDC.out
            simp only [Act.put, List.setIfInBounds_toArray, List.set_cons_zero, List.set_cons_succ]
            refine held_one (i := 6) (by kernel_rfl) ?_
            refine held_law rfl (step_appK (E' := tyE) ((w3.drew.alloc (.cells #[] 45)).alloc (.cells #[] 35)) rfl (.tmp 40) (.tmp 44) 23 rfl Try.underlying23 HI.out HZ.out rfl hz1 (by omega) HMC.out rfl (HKW.out.below HDC.out) rfl (by simp; omega) (by simp <;> omega) ?_)
            intro v5 w5 ho5 hg5 hv5
            have HO5 : Hid (OwnK tyE 35 w5 w3.heap.size v5 rs) := Lib.hid (by simpa using ho5)
            have HB5 : Hid (Below w3.heap.size w3 w5) := Lib.hid (HDC.out.grown hg5 (by simp <;> omega) (fun g e => by cases e; simp))
            have HE5 : Hid (OwnE 45 w5 w3.heap.size (.slice (some ⟨w3.heap.size, 0, none⟩) 0 0) []) := Lib.hid (HFC.out.kept hg5 (.inr (by simp [Value.ownBlock])))
            have HV5 : Hid (∀ g, v5.ownBlock = some g → g < w5.heap.size ∧ g ≠ w3.heap.size) := Lib.hid (fun g hg => ⟨(HO5.out.ge hg).2, fun e => by
              rcases hv5 with h | h
              · rw [h] at hg
                cases hg
                simp at e
              · rw [h] at hg
                cases hg
                simp at e <;> omega⟩)
            have hHeld := HSS.out _ HB5.out
            refine ⟨hHeld, ?_⟩
            clear ho5 hg5 hv5
            simp only [Act.put, List.setIfInBounds_toArray, List.set_cons_zero, List.set_cons_succ]
            refine held_one (i := 12) (by kernel_rfl) ?_
            refine held_law rfl (step_appG w5 rfl (.tmp 48) (.tmp 50) 33 rfl Try.underlying33 HIF.out HZF.out rfl hy1 (by omega) HE5.out rfl ((HX3.out.below HB5.out).below (Below.refl _ _)) rfl (by simp; omega) (by have := HB5.out.size; simp <;> omega) ?_)
            intro v6 w6 ho6 hg6 hv6
            have HO6 : Hid (OwnE 45 w6 w3.heap.size v6 l) := Lib.hid (by simpa using ho6)
            have HB6 : Hid (Below w3.heap.size w3 w6) := Lib.hid (HB5.out.grown hg6 HB5.out.size (fun g e => by cases e; simp))
            have HK6 : Hid (OwnK tyE 35 w6 w3.heap.size v5 rs) := Lib.hid (HO5.out.kept hg6 (ob_dj (fun g hg e => by cases e; exact (HV5.out _ hg).2 rfl)))
            have HDJ : Hid (Dj v5 v6) := Lib.hid (fun g hg e => by
              have := HV5.out g hg
              rcases hv6 with h | h
              · rw [h] at e
                cases e
                exact this.2 rfl
              · rw [h] at e
                cases e
                exact Nat.lt_irrefl _ this.1)
            obtain ⟨A6, n6, c6, rfl, hx6⟩ := ho6.shape
            clear hHeld
            have hHeld := HSS.out _ HB6.out
            refine ⟨hHeld, ?_⟩
            clear ho6 hg6 hv6 hx6
            simp only [Act.put, List.setIfInBounds_toArray, List.set_cons_zero, List.set_cons_succ]
            refine held_take (i := 13) (d := 52) (v := .agg #[.int .i64 n, .slice A6 n6 c6]) rfl rfl (by kernel_rfl) (by kernel_rfl) (by kernel_rfl) (fun _ _ _ h => h) (by rfl) (fun W _ => by go_simp) hHeld ?_
            simp only [Act.put, List.setIfInBounds_toArray, List.set_cons_zero, List.set_cons_succ]
            refine held_one (i := 14) (by kernel_rfl) ?_
            refine held_make (d := 53) rfl rfl (by rfl) (by exact run_oneT (x := .tmp 52) rfl rfl _) ⟨HSS.out _ (HB6.out.alloc HB6.out.size _), ?_⟩
            clear hHeld
            have hHeld := HSS.out _ (HB6.out.alloc HB6.out.size (.cells #[.int .i64 n, .slice A6 n6 c6] 35))
            simp only [Act.put, List.setIfInBounds_toArray, List.set_cons_zero, List.set_cons_succ]
            refine held_one (i := 15) (by kernel_rfl) ?_
            refine held_law rfl (step_appK (E' := tyE) (w6.alloc (.cells #[.int .i64 n, .slice A6 n6 c6] 35)) rfl (.tmp 45) (.tmp 53) 23 rfl Try.underlying23 HI.out HZ.out rfl hz1 (by omega) (HK6.out.alloc _) rfl (Kws.new (E := tyE) w6 [⟨n, A6, n6, c6, l⟩] _ _ 1 rfl rfl (by unfold maxLen; omega)) rfl (by have := HOL.out; omega) (by have := HB6.out.size; simp; omega) ?_)
            intro v7 w7 ho7 hg7 hv7
            obtain ⟨A7, n7, c7, rfl, hx7⟩ := ho7.shape
            have HO7 := Lib.hid ho7
            have HB7 : Hid (Below w3.heap.size w3 w7) := Lib.hid ((HB6.out.alloc HB6.out.size _).grown hg7 (by have := HB6.out.size; simp; omega) (fun g e => (HK6.out.ge e).1))
            have HN7 : Hid (OwnE 45 w7 w3.heap.size (.slice A6 n6 c6) l) := Lib.hid ((HO6.out.alloc _).kept hg7 (ob_dj (fun g hg e => HDJ.out g e hg)))
            have HBL7 : Hid (w7.heap[p]? = some (.cells #[.slice Av nv cv] 30 (0, 0))) := Lib.hid ((HB7.out.block p hp3).trans H13.out)
            have t6 : w7.cell? ⟨p, 0, none⟩ = some (.slice Av nv cv) := cell_of_row w7 p 0 _ _ _ HBL7.out
            have t7 : w7.frozen? ⟨p, 0, none⟩ = false := frozen_of_row w7 p 0 _ _ HBL7.out
            refine ⟨HSS.out _ HB7.out, ?_⟩
            clear ho7 hg7 hv7 hx7 hHeld
            simp only [Act.put, List.setIfInBounds_toArray, List.set_cons_zero, List.set_cons_succ]
            refine wpAnyH_done (by kernel_rfl) ?_ _
            have hz3 := HB3.out.size
            have HW7 := Lib.hid (mrg_done (n := n) hk (Below.then HB3.out HB7.out (Nat.le_refl _)) hpw H345.out.1 H345.out.2.1 (HN7.out.down hz3) (HO7.out.down hz3) HBL7.out)
            have HNN : Hid (n7 = nv + 1) := Lib.hid (by have h1 := HO7.out.num; have h2 := HRL.out; rw [List.length_append] at h1; simp at h1; omega)
            have hbl8 : (w7.setCell ⟨p, 0, none⟩ (.slice A7 n7 c7)).heap[p]? = some (.cells #[.slice A7 n7 c7] 30 (0, 0)) := heap_setCell_same w7 p 0 _ _ _ HBL7.out
            have k8 : (w7.setCell ⟨p, 0, none⟩ (.slice A7 n7 c7)).cell? ⟨p, 0, none⟩ = some (.slice A7 n7 c7) := cell_of_row _ p 0 _ _ _ hbl8
            clear hbl8
            simp only [atEnd]
            go_wp2
            go_ret2
            exact ⟨by rw [HV2.out, HNN.out]; rfl, by rw [HTV.out, ← H345.out.2.2]; exact HW7.out.1, HW7.out.2⟩
  · have HV2 : Hid (RV = (0, ck)) := Lib.hid (by rw [← HV.out, if_pos hck])
    have HT2 : Hid (RT = T) := Lib.hid (by rw [← HTT.out, if_neg (fun hh => hck hh.1)])
    have hcb : (ck != 0) = true := by simpa using hck
    clear HV HTT
    go_wp2
    go_ret2
    exact ⟨by rw [HV2.out]; rfl, by rw [HT2.out]; exact HR0.out.rc_ HB2.out, Kept.ofBelow HB2.out⟩
end Go.Proofs.Ytgddlpabgeeflaa
