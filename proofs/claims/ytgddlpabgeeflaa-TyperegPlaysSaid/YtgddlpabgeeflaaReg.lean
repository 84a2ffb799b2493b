/-
  The registry of types in memory; contract of Register. Conditions: at most 255 types registered, at most forty fields.
-/
import Derived.Test.YtgddlpabgeeflaaTix
import Derived.Test.YtgddlpabgeeflaaLyc
namespace Go.Proofs.Ytgddlpabgeeflaa
open Go.ChangeShapes Go.WideShapes Go.RowKit
set_option linter.unusedVariables false
set_option maxHeartbeats 4000000
set_option maxRecDepth 100000

section
variable {α : Type} {E : Enc α} {t : TypeId} {w w' : World} {base B k : Nat} {c : Nat → Nat} {v : Value} {l : List α}
theorem OwnK.keptC (h : OwnK E t w base v l) (hk : Kept c k w w') (hne : ∀ g, v.ownBlock = some g → c g ≠ k) : OwnK E t w' base v l := by
  refine ⟨h.1, ?_⟩
  rcases h.2 with h0 | ⟨g, cap, cur, rfl, hbg, hg, rest⟩
  · exact .inl h0
  · exact .inr ⟨g, cap, cur, rfl, hbg, (hk.block g (Array.getElem?_eq_some_iff.1 hg).1 (hne g rfl)).trans hg, rest⟩
end
theorem run_setOwn (w : World) (p : Nat) (u : Value) : w.grownBy (w.setCell ⟨p, 0, none⟩ u) (some p) :=
  ⟨rfl, rfl, rfl, by simp [World.setCell], fun k hk hne => heap_setCell_other w ⟨p, 0, none⟩ k u (fun e => hne (by rw [e]))⟩
/-- A slice of fields whose block nobody writes. -/
def Ex0 (w : World) (c : Nat → Nat) (A : Option Addr) (m cc : Nat) (l : List (Int × Int)) : Prop := Exs w w.heap.size A m cc l ∧ ∀ a, A = some a → a.block < w.heap.size ∧ c a.block = 0
section
variable {w w' : World} {c c' : Nat → Nat} {A : Option Addr} {m cc j : Nat} {l : List (Int × Int)}
theorem Ex0.kept (h : Ex0 w c A m cc l) (hk : Kept c j w w') (hj : j ≠ 0) (hc : ∀ g, g < w.heap.size → c' g = c g) : Ex0 w' c' A m cc l := by
  refine ⟨⟨h.1.len, h.1.cap, h.1.small, h.1.nil, h.1.fits, fun hm => ?_⟩, fun a ha => ?_⟩
  · obtain ⟨b, o, rfl, hb, hcell⟩ := h.1.cells hm
    have h0 := (h.2 _ rfl).2
    have e : ∀ q, w'.cell? ⟨b, q, none⟩ = w.cell? ⟨b, q, none⟩ := fun q => World.cell?_of_block (hk.block b hb (by simp only at h0; omega))
    exact ⟨b, o, rfl, Nat.lt_of_lt_of_le hb hk.size, fun i x hx => by rw [e, e]; exact hcell i x hx⟩
  · have h0 := h.2 a ha
    exact ⟨Nat.lt_of_lt_of_le h0.1 hk.size, (hc _ h0.1).trans h0.2⟩
end
/-- The block p is a registry of the types T; what it writes has the colour k, what it reads only has the colour 0. -/
structure Reg (w : World) (c : Nat → Nat) (k base p : Nat) (T : List (Int × List (Int × Int))) : Prop where
  ex : ∃ v rs, w.heap[p]? = some (.cells #[v] 54 (0, 0)) ∧ OwnK tyE 35 w base v rs ∧ c p = k ∧ (∀ g, v.ownBlock = some g → c g = k ∧ g ≠ p) ∧ (∀ r ∈ rs, Ex0 w c r.A r.m r.c r.l) ∧ tys rs = T
section
variable {w w' : World} {c c' : Nat → Nat} {k j base p : Nat} {T : List (Int × List (Int × Int))}
theorem Reg.lt (h : Reg w c k base p T) : p < w.heap.size := by
  obtain ⟨v, rs, h1, _⟩ := h.ex
  exact (Array.getElem?_eq_some_iff.1 h1).1
theorem Reg.col (h : Reg w c k base p T) : c p = k := by
  obtain ⟨v, rs, h1, h2, h3, _⟩ := h.ex
  exact h3
/-- What other colours write leaves it as it is. -/
theorem Reg.kept (h : Reg w c k base p T) (hk : Kept c j w w') (hj : j ≠ 0) (hjk : j ≠ k) (hc : ∀ g, g < w.heap.size → c' g = c g) : Reg w' c' k base p T := by
  have hlt := h.lt
  obtain ⟨v, rs, h1, h2, h3, h4, h5, h6⟩ := h.ex
  refine ⟨v, rs, (hk.block p hlt (by omega)).trans h1, h2.keptC hk (fun g hg => ?_), (hc p hlt).trans h3, fun g hg => ⟨(hc g (h2.ge hg).2).trans (h4 g hg).1, (h4 g hg).2⟩, fun r hr => (h5 r hr).kept hk hj hc, h6⟩
  have := (h4 g hg).1
  omega
theorem Reg.go (h : Reg w c k base p T) (hb : Below w.heap.size w w') : Reg w' c k base p T := h.kept (j := k + 1) (Kept.ofBelow hb) (by omega) (by omega) (fun _ _ => rfl)
theorem Reg.new (hc : c w.heap.size = k) : Reg (w.alloc (.cells #[.slice none 0 0] 54)) c k base w.heap.size [] :=
  ⟨.slice none 0 0, [], heap_alloc_new w _, OwnK.nil _ _ _ _, hc, fun g hg => (by cases hg), fun r hr => (by cases hr), rfl⟩
end
/-- What Register says, and what is registered behind it. -/
def rgV (T : List (Int × List (Int × Int))) (x : Int × List (Int × Int)) : Int × Int := if chk x.1 x.2 ≠ 0 then (0, chk x.1 x.2) else if x ∈ T then (ixT x T + 1, 0) else if T.length = 255 then (0, 4) else (T.length + 1, 0)
def rgT (T : List (Int × List (Int × Int))) (x : Int × List (Int × Int)) : List (Int × List (Int × Int)) := if chk x.1 x.2 = 0 ∧ x ∉ T ∧ T.length ≠ 255 then T ++ [x] else T
theorem rgT_len {T : List (Int × List (Int × Int))} {x : Int × List (Int × Int)} (h : T.length ≤ 255) : (rgT T x).length ≤ 255 := by
  unfold rgT
  split
  · rw [List.length_append]
    simp
    omega
  · exact h
def RgE (w : World) (c : Nat → Nat) (k base p : Nat) (T : List (Int × List (Int × Int))) (x : Int × List (Int × Int)) (e : Ending) (w' : World) : Prop :=
  ∃ c', e = .returned (.tuple #[.int .i64 (rgV T x).1, .int .i64 (rgV T x).2]) ∧ (∀ g, g < w.heap.size → c' g = c g) ∧ Reg w' c' k base p (rgT T x) ∧ Kept c k w w'

theorem step_callX {P : Program} (w : World) {ops : Array Oper} {o : Oper} {a : Act} {K : Act → World → Prop} {Q : Exit → Act → World → Prop} {E : Prop} (hgd : o.guard = none)
    {f : FuncId} {args : Array Value} {fn : Func} {xs : Array Operand} {ts : Array TypeId} {R : Ending → World → Prop} (ho : o.op = .call { callee := .value (.func f), args := xs, argTypes := ts }) (hx : xs.map a.eval = args)
    (hf : P.funcs[f]? = some fn) (hb : (fn.body.isNone || (fn.name == "runtime.NumGoroutine")) = false) (hc : Calls P f args w R) (hK : ∀ e w', R e w' → ∃ v, e = .returned v ∧ K (a.put o.dst v) w') :
    if Region.wanted o (yielded ops a.tmps) = true then Oper.wp P o a w K Q else E := by
  have hw : Region.wanted o (yielded ops a.tmps) = true := by simp [Region.wanted, hgd]
  rw [if_pos hw]
  unfold Oper.wp
  rw [enter_is ho hx hf hb w]
  simp only [Oper.upon]
  exact hc.mono fun e w'' hR => by
    obtain ⟨v, rfl, h⟩ := hK e w'' hR
    exact h
theorem step_appK {P : Program} {α : Type} {E' : Enc α} (w : World) {ops : Array Oper} {o : Oper} {a : Act} {K : Act → World → Prop} {Q : Exit → Act → World → Prop} {E : Prop} (hgd : o.guard = none) (s x : Operand) (t : TypeId)
    (ho : o.op = .call { callee := .builtin .append, args := #[s, x], argTypes := #[t, t] })
    {e : TypeId} {i : TypeInfo} {z : Value} (ht : P.underlying t = some (.slice e)) (hi : P.info? e = some i) (hz : i.zero = some z) (hzs : z.cells.size = E'.k) (hsz : i.size = E'.k) (hby : i.bytes ≤ 32768)
    {base : Nat} {v : Value} {xs : List α} (hown : OwnK E' e w base v xs) (hs : a.eval s = v) {B : Nat} {A : Option Addr} {m c : Nat} {ys : List α} (hy : Kws E' w B A m c ys) (hx : a.eval x = .slice A m c)
    (hsm : xs.length + m ≤ 4294967296) (hb : base ≤ w.heap.size)
    (h : ∀ v' w', OwnK E' e w' base v' (xs ++ ys) → w.grownBy w' v.ownBlock → (v'.ownBlock = v.ownBlock ∨ v'.ownBlock = some w.heap.size) → K (a.put o.dst v') w') :
    if Region.wanted o (yielded ops a.tmps) = true then Oper.wp P o a w K Q else E := by
  have hw : Region.wanted o (yielded ops a.tmps) = true := by simp [Region.wanted, hgd]
  rw [if_pos hw]
  obtain ⟨v', w', hrun, h2, h3, h4, h5⟩ := run_appK (P := P) w t o.type e i z ht hi hz hzs hsz hby base v xs hown hy hsm hb
  unfold Oper.wp execOp
  simp only [ho, resolve, invoke, builtin, Sem.run_bind, Sem.run_pure, Result.andThen_ok, List.map_toArray, List.map_cons, List.map_nil, hs, hx, hrun]
  exact h v' w' h2 h4 h5
theorem infoTy : (Try.prog.info? 35).map (fun i => (i.zero, i.size, i.bytes)) = some (some (.agg #[.int .i64 0, .slice none 0 0]), 2, 32) := by kernel_rfl

/-- The world behind a Register that adds a type. -/
def RgN (w : World) (c : Nat → Nat) (k base p : Nat) (T : List (Int × List (Int × Int))) (w' : World) : Prop := ∃ c', (∀ g, g < w.heap.size → c' g = c g) ∧ Reg w' c' k base p T ∧ Kept c k w w'
theorem OwnK.num {α : Type} {E : Enc α} {t : TypeId} {w : World} {base n c : Nat} {A : Option Addr} {l : List α} (h : OwnK E t w base (.slice A n c) l) : n = l.length := by
  obtain ⟨A', n', c', e, hx⟩ := h.shape
  cases e
  exact hx.len.symm
theorem OwnE.at0 {t : TypeId} {w : World} {base m cc : Nat} {A : Option Addr} {l : List (Int × Int)} (h : OwnE t w base (.slice A m cc) l) {a : Addr} (ha : A = some a) : base ≤ a.block ∧ a.block < w.heap.size ∧ (Value.slice A m cc).ownBlock = some a.block := by
  subst ha
  rcases h.1.2 with ⟨e, _⟩ | ⟨g, cap, cur, e, hbg, hg, _⟩
  · cases e
  · cases e
    exact ⟨hbg, (Array.getElem?_eq_some_iff.1 hg).1, rfl⟩
theorem reg_done {w w5 w6 : World} {c : Nat → Nat} {k base p : Nat} {Av A5 A6 : Option Addr} {nv cv m5 c5 n6 c6 : Nat} {n : Int} {l : List (Int × Int)} {rs : List Ty} (hk : k ≠ 0) (hb : Below w.heap.size w w5) (hp : p < w.heap.size) (hcp : c p = k)
    (h4 : ∀ g, (Value.slice Av nv cv).ownBlock = some g → c g = k ∧ g ≠ p) (h5 : ∀ r ∈ rs, Ex0 w c r.A r.m r.c r.l) (hvl : ∀ g, (Value.slice Av nv cv).ownBlock = some g → g < w.heap.size) (hn5 : OwnE 45 w5 w.heap.size (.slice A5 m5 c5) l)
    (ho6 : OwnK tyE 35 w6 base (.slice A6 n6 c6) (rs ++ [⟨n, A5, m5, c5, l⟩])) (hg6 : (w5.alloc (.cells #[.int .i64 n, .slice A5 m5 c5] 35)).grownBy w6 (Value.slice Av nv cv).ownBlock)
    (hv6 : (Value.slice A6 n6 c6).ownBlock = (Value.slice Av nv cv).ownBlock ∨ (Value.slice A6 n6 c6).ownBlock = some (w5.alloc (.cells #[.int .i64 n, .slice A5 m5 c5] 35)).heap.size)
    (hbl : w6.heap[p]? = some (.cells #[.slice Av nv cv] 54 (0, 0))) :
    RgN w c k base p (tys rs ++ [(n, l)]) (w6.setCell ⟨p, 0, none⟩ (.slice A6 n6 c6)) := by
  have hz5 := hb.size
  have hza : (w5.alloc (.cells #[.int .i64 n, .slice A5 m5 c5] 35)).heap.size = w5.heap.size + 1 := by simp
  have hK : Kept c k w (w6.setCell ⟨p, 0, none⟩ (.slice A6 n6 c6)) := ((Kept.ofBelow (hb.alloc hz5 _)).trans (Kept.ofGrown hg6 (fun g e => (h4 g e).1))).trans (Kept.ofGrown (run_setOwn w6 p _) (fun g e => by cases e; exact hcp))
  have hne6 : ∀ g, (Value.slice A6 n6 c6).ownBlock = some g → g ≠ p := fun g hg => by
    rcases hv6 with h | h
    · exact (h4 g (h ▸ hg)).2
    · rw [h] at hg
      cases hg
      omega
  have hn7 : OwnE 45 (w6.setCell ⟨p, 0, none⟩ (.slice A6 n6 c6)) w.heap.size (.slice A5 m5 c5) l := by
    have h1 := (hn5.alloc (.cells #[.int .i64 n, .slice A5 m5 c5] 35)).kept hg6 (by
      rcases hb5 : (Value.slice A5 m5 c5).ownBlock with _ | g
      · exact .inl rfl
      · refine .inr fun e => ?_
        have := hn5.blk_ge hb5
        have := hvl g e.symm
        omega)
    refine h1.kept (run_setOwn w6 p _) ?_
    rcases hb5 : (Value.slice A5 m5 c5).ownBlock with _ | g
    · exact .inl rfl
    · refine .inr fun e => ?_
      cases e
      have := hn5.blk_ge hb5
      omega
  have hc' : ∀ g, g < w.heap.size → (fun g => if g < w.heap.size then c g else if (Value.slice A6 n6 c6).ownBlock = some g then k else 0) g = c g := fun g hg => if_pos hg
  refine ⟨fun g => if g < w.heap.size then c g else if (Value.slice A6 n6 c6).ownBlock = some g then k else 0, hc', ⟨.slice A6 n6 c6, rs ++ [⟨n, A5, m5, c5, l⟩], heap_setCell_same w6 p 0 _ _ _ hbl, OwnK.kept ho6 (run_setOwn w6 p _) ?_, (hc' p hp).trans hcp, fun g hg => ⟨?_, hne6 g hg⟩, fun r hr => ?_, by rw [tys_app]; rfl⟩, hK⟩
  · rcases hb6 : (Value.slice A6 n6 c6).ownBlock with _ | g
    · exact .inl rfl
    · refine .inr fun e => ?_
      cases e
      exact hne6 _ hb6 rfl
  · by_cases hlt : g < w.heap.size
    · simp only [if_pos hlt]
      rcases hv6 with h | h
      · exact (h4 g (h ▸ hg)).1
      · rw [h] at hg
        cases hg
        omega
    · simp only [if_neg hlt, if_pos hg]
  · rcases List.mem_append.1 hr with h | h
    · exact (h5 r h).kept hK hk hc'
    · simp only [List.mem_singleton] at h
      subst h
      refine ⟨hn7.exs, fun a ha => ?_⟩
      obtain ⟨g1, g2, g3⟩ := hn7.at0 ha
      refine ⟨g2, ?_⟩
      have g4 := (hn5.at0 ha).2.1
      simp only [if_neg (show ¬ a.block < w.heap.size by omega)]
      rw [if_neg]
      intro e
      rcases hv6 with h | h
      · have := hvl a.block (h ▸ e)
        omega
      · rw [h] at e
        have := Option.some.inj e
        omega
theorem register_any (w : World) (c : Nat → Nat) (k base p : Nat) (T : List (Int × List (Int × Int))) (n : Int) (A : Option Addr) (m cc : Nat) (l : List (Int × Int)) (hr : Reg w c k base p T) (hk : k ≠ 0) (hbase : base ≤ w.heap.size) (h : Exs w w.heap.size A m cc l) (hm : m ≤ 40) (hT : T.length ≤ 255) :
    Calls Try.prog 12 #[.pointer (some ⟨p, 0, none⟩), .agg #[.int .i64 n, .slice A m cc]] w (RgE w c k base p T (n, l)) := by
  have hb1 : Below w.heap.size w (w.alloc (.cells #[.int .i64 n, .slice A m cc] 35)) := (Below.refl _ _).alloc (Nat.le_refl _) _
  have HB1 := Lib.hid hb1
  have HT1 := Lib.hid (TyB.new (w := w) (n := n) (A := A) (m := m) (c := cc))
  have HX1 := Lib.hid (h.go hb1)
  have HC := Lib.hid (check_any n A m cc l _ (h.go hb1) hm)
  have HR1 := Lib.hid (hr.go hb1)
  have HR0 := Lib.hid hr
  have hpw := hr.lt
  have c0 := HT1.out.cell0
  have c1 := HT1.out.cell1
  obtain ⟨RV, hRV⟩ : ∃ RV, rgV T (n, l) = RV := ⟨_, rfl⟩
  obtain ⟨RT, hRT⟩ : ∃ RT, rgT T (n, l) = RT := ⟨_, rfl⟩
  have hmf : ∀ (fn : Fn) (first cap : Array Value) (w : World), (Instr.makeFunc fn first cap).run Try.prog w = .ok (.func fn first cap) w := fun _ _ _ _ => rfl
  unfold RgE
  rw [hRV, hRT]
  have HV := Lib.hid hRV
  have HTT := Lib.hid hRT
  unfold rgV at HV
  unfold rgT at HTT
  simp only at HV HTT
  clear h hr hb1 hRV hRT
  generalize chk n l = ck at *
  go_enter Try.func12, Try.ntmps12
  go_wp2_with fail
  refine HC.out.mono ?_
  rintro e w2 ⟨rfl, hb2⟩
  have HB2 := Lib.hid (Below.then HB1.out hb2 (by simp))
  have HT2 := Lib.hid (HT1.out.go hb2)
  have HX2 := Lib.hid (HX1.out.go hb2)
  have HR2 := Lib.hid (HR1.out.go hb2)
  clear HC hb2 HB1 HT1 HX1 HR1 c0 c1
  by_cases hck : ck = 0
  · subst hck
    simp only [ne_eq, not_true_eq_false, if_false, true_and] at HV HTT
    obtain ⟨v, rs, h1, h2, h3, h4, h5, h6⟩ := HR0.out.ex
    have HVL : Hid (∀ g, v.ownBlock = some g → g < w.heap.size) := Lib.hid (fun g hg => (h2.ge hg).2)
    have h1 := (HB2.out.block p hpw).trans h1
    have h2 := h2.below HB2.out
    obtain ⟨Av, nv, cv, rfl, hks⟩ := h2.shape
    have hnv : nv = T.length := by rw [← h6, tys_len, hks.len]
    have HLN := Lib.hid hnv
    have HI := Lib.hid (index_any Av nv cv rs n A m cc w.heap.size l w2 hks (fun r hr => (h5 r hr).1.go HB2.out) HX2.out HT2.out (by omega))
    rw [h6] at HI
    have H1 := Lib.hid h1
    have H2 := Lib.hid h2
    have H345 := Lib.hid (And.intro h3 (And.intro h4 (And.intro h5 h6)))
    have hcapv := hks.cap
    have hsmv := hks.small
    unfold maxLen at hsmv
    have k0 : w2.cell? ⟨p, 0, none⟩ = some (.slice Av nv cv) := cell_of_row w2 p 0 _ _ _ h1
    have hn255 : nv ≤ 255 := by omega
    clear h1 h2 h3 h4 h5 h6 hks hnv
    go_wp2_with fail
    with_reducible refine HI.out.mono ?_
    rintro e w3 ⟨rfl, hb3⟩
    have HB3 := Lib.hid (Below.then HB2.out hb3 (Nat.le_refl _))
    have HX3 := Lib.hid (HX2.out.go hb3)
    have HT3 := Lib.hid (HT2.out.go hb3)
    have HR3 := Lib.hid (HR2.out.go hb3)
    have h1 : w3.heap[p]? = some (.cells #[.slice Av nv cv] 54 (0, 0)) := (hb3.block p (Array.getElem?_eq_some_iff.1 H1.out).1).trans H1.out
    have H13 := Lib.hid h1
    have H23 := Lib.hid (H2.out.below hb3)
    have hp3 : p < w3.heap.size := (Array.getElem?_eq_some_iff.1 h1).1
    have k0' : w3.cell? ⟨p, 0, none⟩ = some (.slice Av nv cv) := cell_of_row w3 p 0 _ _ _ h1
    clear HI hb3 HX2 HT2 HR2 H1 H2 k0 HB2 h1
    by_cases hin : (n, l) ∈ T
    · have hix := ixT_lt hin
      have HV2 : Hid (RV = (ixT (n, l) T + 1, 0)) := Lib.hid (by rw [← HV.out, if_pos hin])
      have HT2 : Hid (RT = T) := Lib.hid (by rw [← HTT.out, if_neg (fun hh => hh.1 hin)])
      have hix0 := hix.1
      have hix1 : ixT (n, l) T < 256 := by omega
      generalize ixT (n, l) T = ix at *
      clear hin hix HV HTT
      go_wp2
      go_ret2
      exact ⟨c, by rw [HV2.out]; rfl, fun _ _ => rfl, by rw [HT2.out]; exact HR3.out, Kept.ofBelow HB3.out⟩
    · have HIX : ixT (n, l) T = -1 := ixT_no hin
      rw [HIX]
      clear HIX
      by_cases h255 : T.length = 255
      · have HV2 : Hid (RV = (0, 4)) := Lib.hid (by rw [← HV.out, if_neg hin, if_pos h255])
        have HT2 : Hid (RT = T) := Lib.hid (by rw [← HTT.out, if_neg (fun hh => hh.2 h255)])
        have hnn : (nv : Int) = 255 := by have := HLN.out; omega
        have hnb : ((nv : Int) == 255) = true := by simpa using hnn
        clear hin HV HTT h255
        go_wp2
        go_ret2
        exact ⟨c, by rw [HV2.out]; rfl, fun _ _ => rfl, by rw [HT2.out]; exact HR3.out, Kept.ofBelow HB3.out⟩
      · have HV2 : Hid (RV = ((nv : Int) + 1, 0)) := Lib.hid (by rw [← HV.out, if_neg hin, if_neg h255, HLN.out])
        have HT2 : Hid (RT = T ++ [(n, l)]) := Lib.hid (by rw [← HTT.out, if_pos ⟨hin, h255⟩])
        have hnn : ¬ (nv : Int) = 255 := by have := HLN.out; omega
        have hnb : ((nv : Int) == 255) = false := by simpa using hnn
        clear hin HV HTT
        obtain ⟨i0, hi0, hz0, hz1, hz2⟩ := info_parts infoTy
        have HI := Lib.hid hi0
        have HZ := Lib.hid hz0
        have hbd : Below w3.heap.size w3 w3.drew := below_drewN (Below.refl _ _) 1
        have HCL := Lib.hid (cloneT_any n A m cc l w3.drew (HX3.out.go hbd) (by omega))
        have HTD := Lib.hid (HT3.out.go hbd)
        have HBD := Lib.hid hbd
        have d0 := HTD.out.cell0
        have d1 := HTD.out.cell1
        have HOL : Hid (rs.length ≤ 255) := Lib.hid (by have := HLN.out; rw [← tys_len, H345.out.2.2.2]; omega)
        have hbase3 : base ≤ w3.heap.size := by have := HB3.out.size; omega
        clear hi0 hz0 hbd
        go_wp2_with fail
        go_region_law
          (first
            | (refine step_appK (E' := tyE) (w5.alloc (.cells #[.int .i64 n, .slice A5 m5 c5] 35)) rfl (.tmp 35) (.tmp 38) 23 rfl Try.underlying23 HI.out HZ.out rfl hz1 (by omega) (HO5.out.alloc _) rfl (Kws.new (E := tyE) w5 [⟨n, A5, m5, c5, l⟩] _ _ 1 rfl rfl (by unfold maxLen; omega)) rfl (by have := HOL.out; omega) (by simp; omega) ?_
               intro v6 w6 ho6 hg6 hv6
               obtain ⟨A6, n6, c6, rfl, hx6⟩ := ho6.shape
               have HO6 := Lib.hid ho6
               have HG6 := Lib.hid hg6
               have HV6 := Lib.hid hv6
               have HBL6 : Hid (w6.heap[p]? = some (.cells #[.slice Av nv cv] 54 (0, 0))) := Lib.hid ((HG6.out.block p (by simp; omega) (fun e => (H345.out.2.1 p e.symm).2 rfl)).trans ((Below.heap_alloc w5 _ p (by omega)).trans HBL5.out))
               have c4 : w6.cell? ⟨p, 0, none⟩ = some (.slice Av nv cv) := cell_of_row w6 p 0 _ _ _ HBL6.out
               have c5 : w6.frozen? ⟨p, 0, none⟩ = false := frozen_of_row w6 p 0 _ _ HBL6.out
               clear ho6 hg6 hv6 hx6)
            | (refine step_callX w3.drew rfl rfl (by kernel_rfl) Try.func25 (by kernel_rfl) HCL.out ?_
               rintro e w5 ⟨A5, m5, c5, rfl, ho5, hb5⟩
               refine ⟨_, rfl, ?_⟩
               have HN5 := Lib.hid ho5
               have HB5 := Lib.hid (Below.then HBD.out hb5 (Nat.le_refl _))
               have hw5 := HB5.out.size
               have HO5 := Lib.hid (H23.out.below HB5.out)
               have HBL5 : Hid (w5.heap[p]? = some (.cells #[.slice Av nv cv] 54 (0, 0))) := Lib.hid ((HB5.out.block p hp3).trans H13.out)
               have k2 : w5.cell? ⟨p, 0, none⟩ = some (.slice Av nv cv) := cell_of_row w5 p 0 _ _ _ HBL5.out
               have k3 : (w5.alloc (.cells #[.int .i64 n, .slice A5 m5 c5] 35)).cell? ⟨p, 0, none⟩ = some (.slice Av nv cv) := cell_under k2 _
               clear ho5 hb5))
        all_goals
          have hz3 := HB3.out.size
          have HB5' := Lib.hid (Below.then HB3.out HB5.out (Nat.le_refl _))
          have HW7 : Hid (RgN w c k base p RT (w6.setCell ⟨p, 0, none⟩ (.slice A6 n6 c6))) := Lib.hid (by
            rw [HT2.out, ← H345.out.2.2.2]
            exact reg_done hk HB5'.out hpw H345.out.1 H345.out.2.1 H345.out.2.2.1 HVL.out (HN5.out.down (by have := HBD.out.size; omega)) HO6.out HG6.out HV6.out HBL6.out)
          have HNN : Hid (n6 = nv + 1) := Lib.hid (by have h1 := HO6.out.num; have h2 := HO5.out.num; rw [List.length_append] at h1; simp at h1; omega)
          have hbl7 : (w6.setCell ⟨p, 0, none⟩ (.slice A6 n6 c6)).heap[p]? = some (.cells #[.slice A6 n6 c6] 54 (0, 0)) := heap_setCell_same w6 p 0 _ _ _ HBL6.out
          have k7 : (w6.setCell ⟨p, 0, none⟩ (.slice A6 n6 c6)).cell? ⟨p, 0, none⟩ = some (.slice A6 n6 c6) := cell_of_row _ p 0 _ _ _ hbl7
          go_wp2
          go_ret2
          obtain ⟨c', e1, e2, e3⟩ := HW7.out
          exact ⟨c', by rw [HV2.out, HNN.out]; rfl, e1, e2, e3⟩
  · have HV2 : Hid (RV = (0, ck)) := Lib.hid (by rw [← HV.out, if_pos hck])
    have HT2 : Hid (RT = T) := Lib.hid (by rw [← HTT.out, if_neg (fun hh => hck hh.1)])
    have hcb : (ck != 0) = true := by simpa using hck
    clear HV HTT
    go_wp2
    go_ret2
    exact ⟨c, by rw [HV2.out]; rfl, fun _ _ => rfl, by rw [HT2.out]; exact HR2.out, Kept.ofBelow HB2.out⟩
end Go.Proofs.Ytgddlpabgeeflaa
