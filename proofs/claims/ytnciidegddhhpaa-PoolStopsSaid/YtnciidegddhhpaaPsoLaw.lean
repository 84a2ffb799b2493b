/-
  The law PoolStops as a walk: called with any arguments of its types it returns true. No conditions.
-/
import Derived.Test.YtnciidegddhhpaaPaw
import Derived.Test.YtnciidegddhhpaaPal
import Derived.Test.YtnciidegddhhpaaPou
namespace Go.Proofs.Ytnciidegddhhpaa
open Go.ChangeShapes Go.WideShapes Go.ChangeAt Go.RowKit Go.Shelf
attribute [local go_sem] Oper.semAt_some
set_option linter.unusedVariables false
set_option linter.unusedSimpArgs false
set_option maxHeartbeats 8000000
set_option maxRecDepth 100000

/-- What is left after m draws. -/
def tkN (l : List Int) (d : Int) : Nat → List Int
  | 0 => l
  | m + 1 => tkL 0 (tkN l d m) d
theorem tkN_len {l : List Int} {d : Int} : ∀ {m : Nat}, (tkN l d m).length = l.length - m
  | 0 => rfl
  | m + 1 => by rw [tkN, tkL_len, tkN_len]; omega
theorem Cel.kept {c : Nat → Nat} {k b : Nat} {W W' : World} {t : TypeId} {v : Value} (h : Cel W b t v) (hk : Kept c k W W') (hb : c b ≠ k) : Cel W' b t v := (hk.block b h.lt hb).trans h
theorem Df.kept {c : Nat → Nat} {k D : Nat} {W W' : World} (h : Df W D) (hk : Kept c k W W') (hb : c D ≠ k) : Df W' D := (hk.block D h.lt hb).trans h
theorem OwnFrom.or {β : Type} {B : Nat} {I I' : β → World → Prop} (h : OwnFrom B I) (h' : OwnFrom B I') : OwnFrom B (fun s W => I s W ∨ I' s W) := fun s W W' row hs hg hr => hs.imp (fun hs => h s W W' row hs hg hr) (fun hs => h' s W W' row hs hg hr)
theorem pol_own {β : Type} {N k p : Nat} {c : Nat → Nat} (f : β → List Int) : OwnFrom N (fun s W => PolI W c k p (f s)) := fun s W W' row h hg hr => by
  obtain ⟨v, h1, h2, h3, h4⟩ := h.ex
  have hno : ∀ g cs (t : TypeId) fr, W.heap[g]? = some (.cells cs t fr) → row ≠ some g := fun g cs t fr hg e => by
    obtain ⟨_, o, ho, hc⟩ := hr g e
    rw [hg] at ho
    cases ho
    simp [Obj.isCells] at hc
  refine ⟨v, (hg.block p (Array.getElem?_eq_some_iff.1 h1).1 (fun e => hno p _ _ _ h1 e.symm)).trans h1, OwnK.kept h2 hg ?_, h3, h4⟩
  rcases hb : v.ownBlock with _ | g
  · exact .inl rfl
  · obtain ⟨cs, hcs⟩ := h2.cells_at hb
    exact .inr (fun e => hno g _ _ _ hcs e.symm)
/-- The law's boxes. -/
structure Bs (w0 : World) (p pb : Nat) (stop d : Int) (W : World) (c : Nat → Nat) : Prop where
  b0 : Cel W w0.heap.size 5 (.int .u8 stop)
  b1 : Cel W (w0.heap.size + 1) 30 (.int .u64 d)
  b2 : Cel W (w0.heap.size + 1 + 1) 4 (.bool false)
  bp : Cel W pb 26 (.pointer (some ⟨p, 0, none⟩))
  low : ∀ g, g < w0.heap.size + 3 → c g = 0
  cp : c pb = 0
  bel : Below w0.heap.size w0 W
section
variable {w0 W W' : World} {p pb sb : Nat} {stop d : Int} {c c' : Nat → Nat}
theorem Bs.kept (h : Bs w0 p pb stop d W c) (hk : Kept c 1 W W') (hc : ∀ g, g < W.heap.size → c' g = c g) : Bs w0 p pb stop d W' c' := by
  have h2 := h.b2.lt
  exact ⟨h.b0.kept hk (by rw [h.low _ (by omega)]; omega), h.b1.kept hk (by rw [h.low _ (by omega)]; omega), h.b2.kept hk (by rw [h.low _ (by omega)]; omega), h.bp.kept hk (by rw [h.cp]; omega),
    fun g hg => (hc g (by omega)).trans (h.low g hg), (hc pb h.bp.lt).trans h.cp, h.bel.trans (hk.below (fun g hg => by rw [h.low g (by omega)]; omega) h.bel.size)⟩
theorem Bs.go (h : Bs w0 p pb stop d W c) (hb : Below W.heap.size W W') (hc : ∀ g, g < W.heap.size → c' g = c g) : Bs w0 p pb stop d W' c' := h.kept (Kept.ofBelow hb) hc
theorem Bs.set (h : Bs w0 p pb stop d W c) (h1 : w0.heap.size + 3 ≤ sb) (h2 : sb ≠ pb) (u : Value) : Bs w0 p pb stop d (W.setCell ⟨sb, 0, none⟩ u) c :=
  ⟨h.b0.other (by omega) u, h.b1.other (by omega) u, h.b2.other (by omega) u, h.bp.other (by omega) u, h.low, h.cp, h.bel.setCell (p := ⟨sb, 0, none⟩) (by simp only; omega) u⟩
theorem bs_own {β : Type} {N : Nat} (hN : w0.heap.size ≤ N) : OwnFrom N (fun (_ : β) W => Bs w0 p pb stop d W c) := fun s W W' row h hg hr =>
  ⟨(cel_own N _ _ (fun _ : β => _)) s W W' row h.b0 hg hr, (cel_own N _ _ (fun _ : β => _)) s W W' row h.b1 hg hr, (cel_own N _ _ (fun _ : β => _)) s W W' row h.b2 hg hr, (cel_own N _ _ (fun _ : β => _)) s W W' row h.bp hg hr,
    h.low, h.cp, (ownFrom_below (Nat.le_refl _) hN) s W W' row h.bel hg hr⟩
end
/-- A round that returns has seen what cannot come. -/
def SBad (pre : List Int) : Prop := ∃ p x, pre = p ++ [x] ∧ x ≠ (p.length : Int)
theorem sbad_not {K : Nat} {pre : List Int} (hp : pre <+: rng K) : ¬ SBad pre := by
  rintro ⟨p, x, rfl, h⟩
  obtain ⟨t, ht⟩ := hp
  have e : (rng K)[p.length]? = some x := by rw [← ht]; simp
  unfold rng at e
  rw [List.getElem?_map] at e
  have hl : p.length < K := by
    have := congrArg List.length ht
    rw [rng_len] at this
    simp at this
    omega
  rw [List.getElem?_range hl] at e
  simp at e
  exact h e.symm
theorem poolStops_walk (n stop d : Int) (w : World) (w0 : (Lit.int .u8 n).wf = true) (w1 : (Lit.int .u8 stop).wf = true) (w2 : (Lit.int .u64 d).wf = true) :
    Calls Try.prog 7 #[.int .u8 n, .int .u8 stop, .int .u64 d] w fun e w' => e = .returned (.bool true) ∧ Below w.heap.size w w' := by
  have b0 := Go.bounds_u8 w0
  have b1 := Go.bounds_u8 w1
  have hd := u64_bd w2
  obtain ⟨K, hK⟩ : ∃ K : Nat, n % 20 = (K : Int) := ⟨(n % 20).toNat, by omega⟩
  have hK20 : K < 20 := by omega
  have HS2 : Hid (0 ≤ stop % 25 ∧ stop % 25 < 25) := Lib.hid (by omega)
  have hba : Below w.heap.size w (((w.alloc (.cells #[.int .u8 stop] 5)).alloc (.cells #[.int .u64 d] 30)).alloc (.cells #[.bool false] 4)) := (((Below.refl _ _).alloc (Nat.le_refl _) _).alloc (by simp) _).alloc (by simp; omega) _
  have HB0 := Lib.hid hba
  have C0 := Lib.hid (((Cel.new (w := w) (t := 5) (v := .int .u8 stop)).go ((Below.refl _ _).alloc (Nat.le_refl _) (.cells #[.int .u64 d] 30))).go ((Below.refl _ _).alloc (Nat.le_refl _) (.cells #[.bool false] 4)))
  have C1 := Lib.hid ((Cel.new (w := w.alloc (.cells #[.int .u8 stop] 5)) (t := 30) (v := .int .u64 d)).go ((Below.refl _ _).alloc (Nat.le_refl _) (.cells #[.bool false] 4)))
  have C2 := Lib.hid (Cel.new (w := (w.alloc (.cells #[.int .u8 stop] 5)).alloc (.cells #[.int .u64 d] 30)) (t := 4) (v := .bool false))
  rw [show (w.alloc (.cells #[.int .u8 stop] 5)).heap.size = w.heap.size + 1 by simp] at C1
  rw [show ((w.alloc (.cells #[.int .u8 stop] 5)).alloc (.cells #[.int .u64 d] 30)).heap.size = w.heap.size + 1 + 1 by simp] at C2
  clear w0 w1 w2 hba
  refine (callsIn_wide (n := 6)).1 ?_
  refine callsIn_of_wp_marks Try.func7 rfl trivial ?_ rfl
  refine wpIn_wide.2 ?_
  simp only [Try.ntmps7, List.size_toArray, List.length_cons, List.length_nil, Nat.reduceAdd, Nat.reduceSub, Array.replicate_succ, Array.replicate_zero, List.push_toArray, List.append_toArray, List.nil_append, List.cons_append]
  go_wp2_with fail
  generalize (((w.alloc (.cells #[.int .u8 stop] 5)).alloc (.cells #[.int .u64 d] 30)).alloc (.cells #[.bool false] 4)) = wa at *
  refine (awake11_any wa).mono ?_
  rintro e wb ⟨rfl, hb⟩
  have C0 := Lib.hid (C0.out.go hb)
  have C1 := Lib.hid (C1.out.go hb)
  have C2 := Lib.hid (C2.out.go hb)
  have HB1 := Lib.hid (Below.then HB0.out hb (Nat.le_refl _))
  have HN := Lib.hid (newI_any none 0 0 [] wb Kws.none_ (by omega) (fun _ => 0) 1)
  clear hb HB0
  go_wp2_with fail
  rw [hK]
  refine HN.out.mono ?_
  rintro e wc ⟨p, rfl, hp, hP, hb⟩
  have hbd : Below wc.heap.size wc (wc.alloc (.cells #[.pointer (some ⟨p, 0, none⟩)] 26)) := (Below.refl _ _).alloc (Nat.le_refl _) _
  have HPD : Hid (PolI (wc.alloc (.cells #[.pointer (some ⟨p, 0, none⟩)] 26)) (rc (rc (fun _ => 0) wb.heap.size 1) wc.heap.size 0) 1 p (rng 0)) := Lib.hid (hP.kept (j := 2) (Kept.ofBelow hbd) (by omega) (fun _ hg => rc_old hg))
  have HBD : Hid (Bs w p wc.heap.size stop d (wc.alloc (.cells #[.pointer (some ⟨p, 0, none⟩)] 26)) (rc (rc (fun _ => 0) wb.heap.size 1) wc.heap.size 0)) := Lib.hid (by
    have hz := hb.size
    have h2 := C2.out.lt
    refine ⟨(C0.out.go hb).go hbd, (C1.out.go hb).go hbd, (C2.out.go hb).go hbd, Cel.new, fun g hg => ?_, rc_new (Nat.le_refl _), Below.then (Below.then HB1.out hb (Nat.le_refl _)) hbd (Nat.le_refl _)⟩
    rw [rc_old (by omega), rc_old (by omega)])
  have HPB : Hid (w.heap.size + 3 ≤ wc.heap.size) := Lib.hid (by have := (C2.out.go hb).lt; omega)
  clear hP hb hbd HN C0 C1 C2 HB1 hp
  go_wp2_with fail
  generalize rc (rc (fun _ => 0) wb.heap.size 1) wc.heap.size 0 = c0 at *
  generalize wc.alloc (.cells #[.pointer (some ⟨p, 0, none⟩)] 26) = wd at *
  generalize wc.heap.size = pb at *
  go_loopw [9] (fun kv wr => ∃ i : Nat, i ≤ K ∧ kv = .int .i64 i ∧ Hid (∃ c, Bs w p pb stop d wr c ∧ PolI wr c 1 p (rng i))) (fun kv _ => K - (intOf kv).toNat)
  case atStart => exact ⟨0, by omega, rfl, Lib.hid ⟨_, HBD.out, HPD.out⟩⟩
  case round =>
    clear HBD HPD
    obtain ⟨i, hi', rfl, hh⟩ := hrel
    by_cases hik : i < K
    · have hik1 : (i : Int) < (K : Int) := by omega
      obtain ⟨c, hB, hP⟩ := hh.out
      have HB := Lib.hid hB
      have k0 := hB.bp.cell
      have HPT := Lib.hid (putI_any wr c 1 p (rng i) (i : Int) hP (by rw [rng_len]; omega))
      clear hB hP hh
      go_wp2_with fail
      refine HPT.out.mono ?_
      rintro e w3 ⟨⟨v3, rfl⟩, hP3, hk3⟩
      rw [← rng_succ] at hP3
      have HS3 : Hid (∃ c, Bs w p pb stop d w3 c ∧ PolI w3 c 1 p (rng (i + 1))) := Lib.hid ⟨_, HB.out.kept hk3 (fun _ hg => rc_old hg), hP3⟩
      clear hP3 hk3 HPT HB k0
      go_wp2
      go_roundw
      case rel => exact ⟨i + 1, by omega, by go_num, HS3⟩
      case measure => simp [intOf]; omega
    · obtain rfl : i = K := by omega
      have hik1 : ¬ (i : Int) < (i : Int) := by omega
      obtain ⟨c, hB, hP⟩ := hh.out
      have HB := Lib.hid hB
      have HP := Lib.hid hP
      have k0 := hB.bp.cell
      clear hB hP hh
      go_wp2_with fail
      refine (allI_any (some ⟨p, 0, none⟩) wr).mono ?_
      rintro e we ⟨rfl, hwe⟩
      have hbe : Below wr.heap.size wr we := by rw [hwe]; exact (Below.refl _ _).alloc (Nat.le_refl _) _
      have CA0 : Hid (Cel we wr.heap.size 26 (.pointer (some ⟨p, 0, none⟩))) := Lib.hid (by rw [hwe]; exact Cel.new)
      have hze : wr.heap.size < we.heap.size := CA0.out.lt
      have hbf : Below we.heap.size we (we.alloc (.cells #[.int .i64 0] 3)) := (Below.refl _ _).alloc (Nat.le_refl _) _
      have hbef := Below.then hbe hbf (Nat.le_refl _)
      have HBF := Lib.hid (HB.out.go (c' := rc c wr.heap.size 0) hbef (fun _ hg => rc_old hg))
      have HPF : Hid (PolI (we.alloc (.cells #[.int .i64 0] 3)) (rc c wr.heap.size 0) 1 p (tkN (rng i) d 0)) := Lib.hid (HP.out.kept (j := 2) (Kept.ofBelow hbef) (by omega) (fun _ hg => rc_old hg))
      have CA := Lib.hid (CA0.out.go hbf)
      have CS : Hid (Cel (we.alloc (.cells #[.int .i64 0] 3)) we.heap.size 3 (.int .i64 (([] : List Int).length : Int))) := Lib.hid Cel.new
      have HCO : Hid (∀ g, wr.heap.size ≤ g → rc c wr.heap.size 0 g = 0) := Lib.hid (fun g hg => rc_new hg)
      have HNE : Hid (w.heap.size + 3 ≤ wr.heap.size ∧ pb < wr.heap.size ∧ wr.heap.size < we.heap.size) := Lib.hid (by have := HB.out.bp.lt; have := HPB.out; omega)
      clear hwe hbe hbf hbef CA0 HB HP k0 hze
      go_wp2
      have hsf : (we.alloc (.cells #[.int .i64 0] 3)).heap.size = we.heap.size + 1 := by simp
      generalize we.alloc (.cells #[.int .i64 0] 3) = wf at *
      generalize rc c wr.heap.size 0 = c1 at *
      generalize hab : wr.heap.size = ab at *
      generalize hsb : we.heap.size = sb at *
      clear hab hsb
      have HSQ := Lib.hid (pool_stops 5 wf.heap.size ab p c1 1 _ wf (by omega) (by rw [tkN_len, rng_len]; omega) (Nat.le_refl _) CA.out.cell HPF.out)
      refine (wpIn_wide (n := 6)).1 ?_
      refine' wpIn_rangeFunc_ownF rfl (by omega) (gf := 27) (lb := #[.pointer (some ⟨ab, 0, none⟩)]) rfl trivial (enters_of Try.func27 (by kernel_rfl) rfl) HSQ.out Kp.t (Kp.b wf) (Below.refl _ _) (fun _ => rfl)
        (fun (pre : List Int) W => Bs w p pb stop d W c1 ∧ PolI W c1 1 p (tkN (rng i) d pre.length) ∧ Cel W ab 26 (.pointer (some ⟨p, 0, none⟩)) ∧ Cel W sb 3 (.int .i64 (pre.length : Int)) ∧ (pre.length : Int) ≤ stop % 25)
        (fun co (pre : List Int) W => (co = .ret ∧ SBad pre) ∨ ((co = .exit 2 ∧ (pre.length : Int) = stop % 25 + 1) ∧ Bs w p pb stop d W c1 ∧ PolI W c1 1 p (tkN (rng i) d pre.length) ∧ Cel W ab 26 (.pointer (some ⟨p, 0, none⟩)) ∧ Cel W sb 3 (.int .i64 (pre.length : Int))))
        (OwnFrom.and (bs_own (by have := HNE.out; omega)) (OwnFrom.and (pol_own (fun pre : List Int => tkN (rng i) d pre.length)) (OwnFrom.and (cel_own _ _ _ (fun _ => _)) (OwnFrom.and (cel_own _ _ _ (fun (pre : List Int) => .int .i64 (pre.length : Int))) (ownFrom_pure _ _)))))
        (fun co => OwnFrom.or (ownFrom_pure _ (fun (pre : List Int) => co = .ret ∧ SBad pre)) (OwnFrom.and (ownFrom_pure _ (fun (pre : List Int) => co = .exit 2 ∧ (pre.length : Int) = stop % 25 + 1)) (OwnFrom.and (bs_own (by have := HNE.out; omega)) (OwnFrom.and (pol_own (fun pre : List Int => tkN (rng i) d pre.length)) (OwnFrom.and (cel_own _ _ _ (fun _ => _)) (cel_own _ _ _ (fun (pre : List Int) => .int .i64 (pre.length : Int))))))))
        ⟨HBF.out, HPF.out, CA.out, CS.out, HS2.out.1⟩ _ ?assign ?body ?done ?stop
      case assign =>
        intro l x W K hK
        gi_wp2
        exact hK
      case body =>
        rintro lp pre x W ⟨hB, hP, hA, hC, hle⟩ hlen
        rw [tkN_len, rng_len] at hlen
        have HBw := Lib.hid hB
        have HPw := Lib.hid hP
        have HAw := Lib.hid hA
        have HCw := Lib.hid hC
        have HLE := Lib.hid hle
        have e0 := hC.cell
        have f0 := hC.fr
        have e2 := hB.b2.cell
        have f2 := hB.b2.fr
        have hpl : (pre.length : Int) < 20 := by omega
        by_cases hx : x = (pre.length : Int)
        · obtain ⟨hn1, hn2, hn3⟩ := HNE.out
          have hc0 := HCO.out sb (by omega)
          have hk1 : Kept c1 0 W (W.setCell ⟨sb, 0, none⟩ (.int .i64 ((pre.length : Int) + 1))) := Kept.ofGrown (run_setOwn W sb _) (fun g e => by cases e; exact hc0)
          have HB1 := Lib.hid (hB.set (sb := sb) (by omega) (by omega) (.int .i64 ((pre.length : Int) + 1)))
          have HA1 := Lib.hid (hA.other (b' := sb) (by omega) (.int .i64 ((pre.length : Int) + 1)))
          have HC1 := Lib.hid (hC.set (.int .i64 ((pre.length : Int) + 1)))
          have hTK := takeI_any _ c1 1 p _ d (hP.kept hk1 (by omega) (fun _ _ => rfl)) (by rw [tkN_len, rng_len]; omega) hd
          unfold TkI at hTK
          have HTK := Lib.hid hTK
          have e3 := HB1.out.bp.cell
          have e4 := HB1.out.b1.cell
          clear hB hP hA hC hTK hk1 hle
          subst hx
          gi_wp2
          refine ⟨trivial, (CallsIn.inRound lp (callsIn_wide.2 HTK.out)).mono ?_⟩
          have hkp1 : Kp wf.heap.size W (W.setCell ⟨sb, 0, none⟩ (.int .i64 ((pre.length : Int) + 1))) := Kp.set (by omega) _
          have HKP1 := Lib.hid hkp1
          have HKO1 := Lib.hid (KeepsOthers.setCell W ⟨sb, 0, none⟩ (.int .i64 ((pre.length : Int) + 1)))
          clear hkp1
          generalize W.setCell ⟨sb, 0, none⟩ (.int .i64 ((pre.length : Int) + 1)) = W1 at *
          rintro e W2 ⟨rfl, hP2, hk2, ho2⟩
          have HB2 := Lib.hid (HB1.out.kept hk2 (fun _ _ => rfl))
          have HA2 := Lib.hid (HA1.out.kept hk2 (by rw [HCO.out ab (by omega)]; omega))
          have HC2 := Lib.hid (HC1.out.kept hk2 (by rw [hc0]; omega))
          have HP2 := Lib.hid hP2
          have HKP : Hid (Kp wf.heap.size W W2) := Lib.hid (HKP1.out.t ⟨hk2.size, fun g cs t fr hg hcell => (hk2.block g (Array.getElem?_eq_some_iff.1 hcell).1 (by rw [HCO.out g (by omega)]; omega)).trans hcell⟩)
          have HKO := Lib.hid (HKO1.out.trans ho2)
          have e5 := HC2.out.cell
          have e6 := HB2.out.b0.cell
          have HLP : Hid (((pre ++ [(pre.length : Int)]).length : Int) = (pre.length : Int) + 1) := Lib.hid (by simp)
          have HTN : Hid (tkL 0 (tkN (rng i) d pre.length) d = tkN (rng i) d (pre ++ [(pre.length : Int)]).length) := Lib.hid (by rw [List.length_append]; rfl)
          clear hP2 hk2 ho2 HTK HB1 HA1 HC1 HKP1 HKO1 HBw HPw HAw HCw e0 f0 e2 f2 e3 e4 hc0
          by_cases hst : (stop % 25) < (pre.length : Int) + 1
          · gi_wp2
            refine ⟨HKO.out, .inr ⟨⟨rfl, ?_⟩, HB2.out, by rw [← HTN.out]; exact HP2.out, HA2.out, by rw [HLP.out]; exact HC2.out⟩⟩
            have := HLE.out
            rw [HLP.out]
            omega
          · gi_wp2
            refine ⟨HKO.out, HKP.out, HB2.out, by rw [← HTN.out]; exact HP2.out, HA2.out, by rw [HLP.out]; exact HC2.out, ?_⟩
            rw [HLP.out]
            omega
        · have hxb : (x != (pre.length : Int)) = true := by simpa using hx
          clear hB hP hA hC hle
          gi_wp2
          exact ⟨KeepsOthers.setCell _ _ _, .inl ⟨rfl, pre, x, rfl, hx⟩⟩
      case done =>
        rintro D ys W hD hys ⟨hB, hP, hA, hC, hle⟩ hKD
        obtain ⟨m, hm⟩ : ∃ m : Nat, ys.length = m := ⟨_, rfl⟩
        have hmi : m = i := by rw [← hm, hys]; simp only [List.length_nil, tkN]; exact rng_len
        rw [hm] at hP hC hle
        have HMN : Hid ((m : Int) = min (i : Int) (stop % 25 + 1) ∧ m ≤ i) := Lib.hid (by omega)
        have HBw := Lib.hid hB
        have HPw := Lib.hid hP
        have HAw := Lib.hid hA
        have HCw := Lib.hid hC
        have HDw := Lib.hid (show Df W D from hKD)
        have e0 := hB.bp.cell
        have HLn := Lib.hid (lenI_any W c1 1 p _ hP)
        rw [tkN_len, rng_len, show ((i - m : Nat) : Int) = (i : Int) - (m : Int) by have := HMN.out.2; omega] at HLn
        have HPT := Lib.hid (putI_any W c1 1 p _ 100 hP (by rw [tkN_len, rng_len]; omega))
        have hmi2 : (m : Int) ≤ (i : Int) := by have := HMN.out.2; omega
        clear hB hP hA hC hKD hle
        dsimp only
        go_wp2_with fail
        refine HLn.out.mono ?_
        rintro e W1 ⟨rfl, rfl⟩
        go_wp2_with fail
        refine HPT.out.mono ?_
        rintro e W1 ⟨⟨v1, rfl⟩, hP1, hk1⟩
        obtain ⟨hn1, hn2, hn3⟩ := HNE.out
        have hcD : c1 D = 0 := HCO.out D (by omega)
        have HB1 := Lib.hid (HBw.out.kept (c' := rc c1 W.heap.size 1) hk1 (fun _ hg => rc_old hg))
        have HA1 := Lib.hid (HAw.out.kept hk1 (by rw [HCO.out ab (by omega)]; omega))
        have HC1 := Lib.hid (HCw.out.kept hk1 (by rw [HCO.out sb (by omega)]; omega))
        have HD1 := Lib.hid (HDw.out.kept hk1 (by rw [hcD]; omega))
        have hb2 : Below W1.heap.size W1 (W1.alloc (.cells #[.int .i64 0] 3)) := (Below.refl _ _).alloc (Nat.le_refl _) _
        have HB2' := Lib.hid hb2
        have HT := Lib.hid (Cel.new (w := W1) (t := 3) (v := .int .i64 0))
        have HNW : Hid (W1.heap.size < (W1.alloc (.cells #[.int .i64 0] 3)).heap.size) := Lib.hid (by simp)
        have HP2 := Lib.hid (hP1.go hb2)
        have HA2 := Lib.hid (HA1.out.go hb2)
        clear hP1 hk1 hb2 HPT HLn HBw HPw HAw HCw HDw e0 HSQ
        go_wp2
        generalize W1.alloc (.cells #[.int .i64 0] 3) = W2 at *
        have HLL : Hid ((tkN (rng i) d m ++ [(100 : Int)]).length = i - m + 1) := Lib.hid (by rw [List.length_append, tkN_len, rng_len]; rfl)
        have HSQ2 := Lib.hid (pool_stops 5 W2.heap.size ab p (rc c1 W.heap.size 1) 1 (tkN (rng i) d m ++ [100]) W2 (by omega) (by rw [HLL.out]; omega) (Nat.le_refl _) HA2.out.cell HP2.out)
        refine (wpIn_wide (n := 6)).1 ?_
        refine' wpIn_rangeFunc_ownF rfl (by omega) (gf := 27) (lb := #[.pointer (some ⟨ab, 0, none⟩)]) rfl trivial (enters_of Try.func27 (by kernel_rfl) rfl) HSQ2.out Kp.t (Kp.b W2) (Below.refl _ _) (fun _ => rfl)
          (fun (pre : List Int) V => Below W1.heap.size W1 V ∧ Cel V W1.heap.size 3 (.int .i64 (pre.length : Int)))
          (fun _ (pre : List Int) _ => False)
          (OwnFrom.and (ownFrom_below (Nat.le_refl _) HB2'.out.size) (cel_own _ _ _ (fun (pre : List Int) => .int .i64 (pre.length : Int))))
          (fun _ => ownFrom_pure _ _)
          ⟨HB2'.out, HT.out⟩ _ ?assign2 ?body2 ?done2 ?stop2
        case assign2 =>
          intro l x V K hK
          gi_wp2
          exact hK
        case body2 =>
          rintro lp pre x V ⟨hB, ck⟩ hlen
          rw [HLL.out] at hlen
          have HBV := Lib.hid hB
          have HKV := Lib.hid ck
          have ek := ck.cell
          have fk := ck.fr
          have hpl : (pre.length : Int) < 30 := by omega
          clear hB ck hlen
          gi_wp2
          have hlp : ((pre ++ [x]).length : Int) = (pre.length : Int) + 1 := by simp
          refine ⟨KeepsOthers.setCell _ _ _, Kp.set HNW.out _, HBV.out.setCell (p := ⟨W1.heap.size, 0, none⟩) (Nat.le_refl _) _, ?_⟩
          rw [hlp]
          exact HKV.out.set _
        case stop2 =>
          rintro D2 co pre V _ hp hb _
          exact hb.elim
        case done2 =>
          rintro D2 ys2 V hD2 rfl ⟨hB, ck⟩ hK2
          rw [HLL.out, show ((i - m + 1 : Nat) : Int) = (i : Int) - (m : Int) + 1 by have := HMN.out.2; omega] at ck
          have HK2 := Lib.hid (show Df V D2 from hK2)
          have HK1 := Lib.hid (HD1.out.go hB)
          have HBs := Lib.hid (HB1.out.go hB (fun _ _ => rfl))
          have HCs := Lib.hid (HC1.out.go hB)
          have HCK := Lib.hid ck
          have HDD : Hid (D < D2 ∧ w.heap.size ≤ D ∧ w.heap.size ≤ D2) := Lib.hid (by have h1 := HD1.out.lt; have h2 := HNW.out; omega)
          clear hB ck hK2 HD1 HB1 HC1 HA1
          dsimp only
          go_wp2_with fail
          refine (awake11_any V).mono ?_
          rintro e V1 ⟨rfl, hb⟩
          have HK1 := Lib.hid (HK1.out.go hb)
          have HK2 := Lib.hid (HK2.out.go hb)
          have HBs := Lib.hid (HBs.out.go hb (fun _ _ => rfl))
          have HCs := Lib.hid (HCs.out.go hb)
          have HCK := Lib.hid (HCK.out.go hb)
          have g0 := HBs.out.b0.cell
          have g2 := HBs.out.b2.cell
          have f2 := HBs.out.b2.fr
          have gs := HCs.out.cell
          have gk := HCK.out.cell
          have hmn1 : (if (i : Int) < stop % 25 + 1 then (i : Int) else stop % 25 + 1) = (m : Int) := by have := HMN.out.1; split <;> omega
          have hmn2 : (if stop % 25 + 1 < (i : Int) then stop % 25 + 1 else (i : Int)) = (m : Int) := by have := HMN.out.1; split <;> omega
          have HD1s := Lib.hid (HK1.out.set ⟨w.heap.size + 1 + 1, 0, none⟩ (.bool true))
          have HD2s := Lib.hid (HK2.out.set ⟨w.heap.size + 1 + 1, 0, none⟩ (.bool true))
          have H6s := Lib.hid (HBs.out.b2.set (.bool true))
          have HBl := Lib.hid (HBs.out.bel.setCell (p := ⟨w.heap.size + 1 + 1, 0, none⟩) (by simp only; omega) (.bool true))
          clear hb
          go_wp2
          have hdd := HDD.out
          refine leave_one HD2s.out ?_
          have HBl := Lib.hid (HD2s.out.below (by omega) HBl.out (.deferred none))
          have H6s := Lib.hid (H6s.out.put HD2s.out (.deferred none))
          have HD1s := Lib.hid (HD1s.out.put (by omega) (.deferred none) (D' := D2))
          refine leave_one HD1s.out ?_
          have HBl := Lib.hid (HD1s.out.below (by omega) HBl.out (.deferred none))
          have hc6 := (H6s.out.put HD1s.out (.deferred none)).cell
          refine ⟨.bool true, ?_, rfl, HBl.out⟩
          simp [results, Try.f7, go_sem, hc6]
      case stop =>
        rintro D co pre W hD hp hb hKD
        rcases hb with ⟨_, hb⟩ | ⟨⟨rfl, hle⟩, hB, hP, hA, hC⟩
        · exact (sbad_not hp hb).elim
        · obtain ⟨m, hm⟩ : ∃ m : Nat, pre.length = m := ⟨_, rfl⟩
          have hmi : m ≤ i := by
            have := hp.length_le
            simp only [List.length_nil, tkN] at this
            rw [rng_len] at this
            omega
          rw [hm] at hP hC hle
          have HMN : Hid ((m : Int) = min (i : Int) (stop % 25 + 1) ∧ m ≤ i) := Lib.hid (by omega)
          refine wpIn_wide.2 ?_
          have HBw := Lib.hid hB
          have HPw := Lib.hid hP
          have HAw := Lib.hid hA
          have HCw := Lib.hid hC
          have HDw := Lib.hid (show Df W D from hKD)
          have e0 := hB.bp.cell
          have HLn := Lib.hid (lenI_any W c1 1 p _ hP)
          rw [tkN_len, rng_len, show ((i - m : Nat) : Int) = (i : Int) - (m : Int) by have := HMN.out.2; omega] at HLn
          have HPT := Lib.hid (putI_any W c1 1 p _ 100 hP (by rw [tkN_len, rng_len]; omega))
          have hmi2 : (m : Int) ≤ (i : Int) := by have := HMN.out.2; omega
          clear hB hP hA hC hKD hle
          dsimp only
          go_wp2_with fail
          refine HLn.out.mono ?_
          rintro e W1 ⟨rfl, rfl⟩
          go_wp2_with fail
          refine HPT.out.mono ?_
          rintro e W1 ⟨⟨v1, rfl⟩, hP1, hk1⟩
          obtain ⟨hn1, hn2, hn3⟩ := HNE.out
          have hcD : c1 D = 0 := HCO.out D (by omega)
          have HB1 := Lib.hid (HBw.out.kept (c' := rc c1 W.heap.size 1) hk1 (fun _ hg => rc_old hg))
          have HA1 := Lib.hid (HAw.out.kept hk1 (by rw [HCO.out ab (by omega)]; omega))
          have HC1 := Lib.hid (HCw.out.kept hk1 (by rw [HCO.out sb (by omega)]; omega))
          have HD1 := Lib.hid (HDw.out.kept hk1 (by rw [hcD]; omega))
          have hb2 : Below W1.heap.size W1 (W1.alloc (.cells #[.int .i64 0] 3)) := (Below.refl _ _).alloc (Nat.le_refl _) _
          have HB2' := Lib.hid hb2
          have HT := Lib.hid (Cel.new (w := W1) (t := 3) (v := .int .i64 0))
          have HNW : Hid (W1.heap.size < (W1.alloc (.cells #[.int .i64 0] 3)).heap.size) := Lib.hid (by simp)
          have HP2 := Lib.hid (hP1.go hb2)
          have HA2 := Lib.hid (HA1.out.go hb2)
          clear hP1 hk1 hb2 HPT HLn HBw HPw HAw HCw HDw e0 HSQ
          go_wp2
          generalize W1.alloc (.cells #[.int .i64 0] 3) = W2 at *
          have HLL : Hid ((tkN (rng i) d m ++ [(100 : Int)]).length = i - m + 1) := Lib.hid (by rw [List.length_append, tkN_len, rng_len]; rfl)
          have HSQ2 := Lib.hid (pool_stops 5 W2.heap.size ab p (rc c1 W.heap.size 1) 1 (tkN (rng i) d m ++ [100]) W2 (by omega) (by rw [HLL.out]; omega) (Nat.le_refl _) HA2.out.cell HP2.out)
          refine (wpIn_wide (n := 6)).1 ?_
          refine' wpIn_rangeFunc_ownF rfl (by omega) (gf := 27) (lb := #[.pointer (some ⟨ab, 0, none⟩)]) rfl trivial (enters_of Try.func27 (by kernel_rfl) rfl) HSQ2.out Kp.t (Kp.b W2) (Below.refl _ _) (fun _ => rfl)
            (fun (pre : List Int) V => Below W1.heap.size W1 V ∧ Cel V W1.heap.size 3 (.int .i64 (pre.length : Int)))
            (fun _ (pre : List Int) _ => False)
            (OwnFrom.and (ownFrom_below (Nat.le_refl _) HB2'.out.size) (cel_own _ _ _ (fun (pre : List Int) => .int .i64 (pre.length : Int))))
            (fun _ => ownFrom_pure _ _)
            ⟨HB2'.out, HT.out⟩ _ ?assign2 ?body2 ?done2 ?stop2
          case assign2 =>
            intro l x V K hK
            gi_wp2
            exact hK
          case body2 =>
            rintro lp pre x V ⟨hB, ck⟩ hlen
            rw [HLL.out] at hlen
            have HBV := Lib.hid hB
            have HKV := Lib.hid ck
            have ek := ck.cell
            have fk := ck.fr
            have hpl : (pre.length : Int) < 30 := by omega
            clear hB ck hlen
            gi_wp2
            have hlp : ((pre ++ [x]).length : Int) = (pre.length : Int) + 1 := by simp
            refine ⟨KeepsOthers.setCell _ _ _, Kp.set HNW.out _, HBV.out.setCell (p := ⟨W1.heap.size, 0, none⟩) (Nat.le_refl _) _, ?_⟩
            rw [hlp]
            exact HKV.out.set _
          case stop2 =>
            rintro D2 co pre V _ hp hb _
            exact hb.elim
          case done2 =>
            rintro D2 ys2 V hD2 rfl ⟨hB, ck⟩ hK2
            rw [HLL.out, show ((i - m + 1 : Nat) : Int) = (i : Int) - (m : Int) + 1 by have := HMN.out.2; omega] at ck
            have HK2 := Lib.hid (show Df V D2 from hK2)
            have HK1 := Lib.hid (HD1.out.go hB)
            have HBs := Lib.hid (HB1.out.go hB (fun _ _ => rfl))
            have HCs := Lib.hid (HC1.out.go hB)
            have HCK := Lib.hid ck
            have HDD : Hid (D < D2 ∧ w.heap.size ≤ D ∧ w.heap.size ≤ D2) := Lib.hid (by have h1 := HD1.out.lt; have h2 := HNW.out; omega)
            clear hB ck hK2 HD1 HB1 HC1 HA1
            dsimp only
            go_wp2_with fail
            refine (awake11_any V).mono ?_
            rintro e V1 ⟨rfl, hb⟩
            have HK1 := Lib.hid (HK1.out.go hb)
            have HK2 := Lib.hid (HK2.out.go hb)
            have HBs := Lib.hid (HBs.out.go hb (fun _ _ => rfl))
            have HCs := Lib.hid (HCs.out.go hb)
            have HCK := Lib.hid (HCK.out.go hb)
            have g0 := HBs.out.b0.cell
            have g2 := HBs.out.b2.cell
            have f2 := HBs.out.b2.fr
            have gs := HCs.out.cell
            have gk := HCK.out.cell
            have hmn1 : (if (i : Int) < stop % 25 + 1 then (i : Int) else stop % 25 + 1) = (m : Int) := by have := HMN.out.1; split <;> omega
            have hmn2 : (if stop % 25 + 1 < (i : Int) then stop % 25 + 1 else (i : Int)) = (m : Int) := by have := HMN.out.1; split <;> omega
            have HD1s := Lib.hid (HK1.out.set ⟨w.heap.size + 1 + 1, 0, none⟩ (.bool true))
            have HD2s := Lib.hid (HK2.out.set ⟨w.heap.size + 1 + 1, 0, none⟩ (.bool true))
            have H6s := Lib.hid (HBs.out.b2.set (.bool true))
            have HBl := Lib.hid (HBs.out.bel.setCell (p := ⟨w.heap.size + 1 + 1, 0, none⟩) (by simp only; omega) (.bool true))
            clear hb
            go_wp2
            have hdd := HDD.out
            refine leave_one HD2s.out ?_
            have HBl := Lib.hid (HD2s.out.below (by omega) HBl.out (.deferred none))
            have H6s := Lib.hid (H6s.out.put HD2s.out (.deferred none))
            have HD1s := Lib.hid (HD1s.out.put (by omega) (.deferred none) (D' := D2))
            refine leave_one HD1s.out ?_
            have HBl := Lib.hid (HD1s.out.below (by omega) HBl.out (.deferred none))
            have hc6 := (H6s.out.put HD1s.out (.deferred none)).cell
            refine ⟨.bool true, ?_, rfl, HBl.out⟩
            simp [results, Try.f7, go_sem, hc6]
end Go.Proofs.Ytnciidegddhhpaa
