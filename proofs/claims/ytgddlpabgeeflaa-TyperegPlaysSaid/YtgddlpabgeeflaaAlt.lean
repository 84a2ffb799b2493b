/-
  Contract of the law's comparison of a registry with its model. Conditions: at most 255 types, each with at most forty fields.
-/
import Derived.Test.YtgddlpabgeeflaaRit
import Derived.Test.YtgddlpabgeeflaaMrl
import Derived.Test.YtgddlpabgeeflaaRlt
namespace Go.Proofs.Ytgddlpabgeeflaa
open Go.ChangeShapes Go.WideShapes Go.ChangeAt Go.RowKit Go.Shelf
attribute [local go_sem] Oper.semAt_some
set_option linter.unusedVariables false
set_option linter.unusedSimpArgs false
set_option maxHeartbeats 8000000
set_option maxRecDepth 100000

theorem Exs.grown {w w' : World} {A : Option Addr} {m c : Nat} {l : List (Int × Int)} {row : Option Nat} (h : Exs w w.heap.size A m c l) (hg : w.grownBy w' row) (hr : ∀ r, row = some r → ∃ o : Obj, w.heap[r]? = some o ∧ o.isCells = false) : Exs w' w'.heap.size A m c l := by
  refine ⟨h.len, h.cap, h.small, h.nil, h.fits, fun hm => ?_⟩
  obtain ⟨b, o, e, hb, hc⟩ := h.cells hm
  have hne : some b ≠ row := fun e' => by
    obtain ⟨ob, h1, h2⟩ := hr b e'.symm
    have hl : 0 < l.length := by have := h.len; omega
    have h3 := (hc 0 l[0] (List.getElem?_eq_getElem hl)).1
    unfold World.cell? at h3
    simp only [h1] at h3
    cases ob <;> simp [Obj.isCells] at h2 h3
  have e : ∀ q, w'.cell? ⟨b, q, none⟩ = w.cell? ⟨b, q, none⟩ := fun q => World.cell?_of_block (hg.block b hb hne)
  exact ⟨b, o, by assumption, Nat.lt_of_lt_of_le hb hg.size, fun i x hx => by rw [e, e]; exact hc i x hx⟩
/-- What the law's loop knows between two rounds: only the block of its counter has changed since w, and it counts the rounds. -/
def IA (w : World) (kb : Nat) (pre : List (Int × Ty)) (W : World) : Prop := Below kb w W ∧ Cel W kb 3 (.int .i64 pre.length)
theorem ia_own {w : World} {kb N : Nat} (hN : kb ≤ N) : OwnFrom N (IA w kb) := fun s W W' row h hg hr => by
  refine ⟨h.1.grown hg (Nat.le_of_lt h.2.lt) (fun r e => Nat.le_trans hN (hr r e).1), (hg.block kb h.2.lt (fun e => ?_)).trans h.2⟩
  obtain ⟨o, ho1, ho2⟩ := (hr kb e.symm).2
  have h2 := h.2
  unfold Cel at h2
  rw [h2] at ho1
  cases ho1
  simp [Obj.isCells] at ho2
theorem alike_any (w : World) (c : Nat → Nat) (k base p k2 q : Nat) (T : List (Int × List (Int × Int))) (g : Int) (hr : Reg w c k base p T) (hm : Mrg w c k2 q T) (hT : T.length ≤ 255) (hsm : Sm T) (hgb : -9223372036854775808 ≤ g ∧ g ≤ 9223372036854775807) :
    Calls Try.prog 14 #[.pointer (some ⟨p, 0, none⟩), .pointer (some ⟨q, 0, none⟩), .int .i64 g] w (Says w (.bool true)) := by
  have hb0 : Below w.heap.size w (w.alloc (.cells #[.pointer (some ⟨q, 0, none⟩)] 28)) := (Below.refl _ _).alloc (Nat.le_refl _) _
  have hz0 : (w.alloc (.cells #[.pointer (some ⟨q, 0, none⟩)] 28)).heap.size = w.heap.size + 1 := by simp
  have hb1 : Below w.heap.size w ((w.alloc (.cells #[.pointer (some ⟨q, 0, none⟩)] 28)).alloc (.cells #[.bool false] 4)) := hb0.alloc (by simp) _
  have CM := Lib.hid ((Cel.new (w := w) (t := 28) (v := .pointer (some ⟨q, 0, none⟩))).go ((Below.refl _ _).alloc (Nat.le_refl _) (.cells #[.bool false] 4)))
  have hcr := Cel.new (w := w.alloc (.cells #[.pointer (some ⟨q, 0, none⟩)] 28)) (t := 4) (v := .bool false)
  rw [hz0] at hcr
  have CR := Lib.hid hcr
  have HB1 := Lib.hid hb1
  have HR1 := Lib.hid (hr.go hb1)
  have HM1 := Lib.hid (hm.go hb1)
  have HSM := Lib.hid hsm
  have HGB := Lib.hid hgb
  clear hb0 hz0 hb1 hcr hr hm hsm hgb
  refine (callsIn_wide (n := 6)).1 ?_
  refine callsIn_of_wp_marks Try.func14 rfl trivial ?_ rfl
  refine wpIn_wide.2 ?_
  simp only [Try.ntmps14, List.size_toArray, List.length_cons, List.length_nil, Nat.reduceAdd, Nat.reduceSub, Array.replicate_succ, Array.replicate_zero, List.push_toArray, List.append_toArray, List.nil_append, List.cons_append]
  go_wp2_with fail
  generalize ((w.alloc (.cells #[.pointer (some ⟨q, 0, none⟩)] 28)).alloc (.cells #[.bool false] 4)) = w1 at *
  generalize hba : w.heap.size = ba at *
  refine (lookup_any g w1 c k base p T HR1.out hT HSM.out HGB.out).mono ?_
  rintro e w2 ⟨A2, m2, c2, rfl, ho2, hb2⟩
  obtain ⟨⟨xn, xl⟩, hx⟩ : ∃ x, lkT T g = x := ⟨_, rfl⟩
  obtain ⟨er, her⟩ : ∃ er, lkE T g = er := ⟨_, rfl⟩
  have HLX := Lib.hid (And.intro hx her)
  rw [hx] at ho2 ⊢
  rw [her]
  simp only at ho2 ⊢
  have hb3 : Below w1.heap.size w1 (w2.alloc (.cells #[.int .i64 xn, .slice A2 m2 c2] 35)) := hb2.alloc hb2.size _
  have HTB3 := Lib.hid (TyB.new (w := w2) (n := xn) (A := A2) (m := m2) (c := c2))
  have HX3 := Lib.hid (ho2.exs.go ((Below.refl w2.heap.size w2).alloc (Nat.le_refl _) (.cells #[.int .i64 xn, .slice A2 m2 c2] 35)))
  have HR3 := Lib.hid (HR1.out.go hb3)
  have HM3 := Lib.hid (HM1.out.go hb3)
  have CM3 := Lib.hid (CM.out.go hb3)
  have CR3 := Lib.hid (CR.out.go hb3)
  have HB3 := Lib.hid (HB1.out.trans (hb3.mono (by have := HB1.out.size; omega)))
  have e0 := CM3.out.cell
  clear ho2 hb2 hb3 HR1 HM1 CM CR HB1 hx her
  go_wp2_with fail
  generalize w2.alloc (.cells #[.int .i64 xn, .slice A2 m2 c2] 35) = w3 at *
  generalize w2.heap.size = t1 at *
  have HLR := Lib.hid (lookupR_any g w3 c k2 q T HM3.out hT HGB.out)
  rw [HLX.out.1, HLX.out.2] at HLR
  refine HLR.out.mono ?_
  rintro e w4 ⟨A4, m4, c4, rfl, hx4, hb4⟩
  simp only at hx4 ⊢
  have hb5 : Below w3.heap.size w3 (w4.alloc (.cells #[.int .i64 xn, .slice A4 m4 c4] 35)) := hb4.alloc hb4.size _
  have HTA5 := Lib.hid (HTB3.out.go hb5)
  have HXA5 := Lib.hid (HX3.out.go hb5)
  have HTB5 := Lib.hid (TyB.new (w := w4) (n := xn) (A := A4) (m := m4) (c := c4))
  have HXB5 := Lib.hid (hx4.go ((Below.refl w4.heap.size w4).alloc (Nat.le_refl _) (.cells #[.int .i64 xn, .slice A4 m4 c4] 35)))
  have HR5 := Lib.hid (HR3.out.go hb5)
  have HM5 := Lib.hid (HM3.out.go hb5)
  have CM5 := Lib.hid (CM3.out.go hb5)
  have CR5 := Lib.hid (CR3.out.go hb5)
  have HB5 := Lib.hid (HB3.out.trans (hb5.mono (by have := HB3.out.size; omega)))
  clear hx4 hb4 hb5 HR3 HM3 CM3 CR3 HB3 HTB3 HX3 HLR HLX e0
  go_wp2_with fail
  generalize w4.alloc (.cells #[.int .i64 xn, .slice A4 m4 c4] 35) = w5 at *
  generalize w4.heap.size = t2 at *
  obtain ⟨Am, nm, cm, ms, hm1, hm2, hm3, hm4, hm5⟩ := HM5.out.ex
  have hnm : nm = T.length := by rw [← hm5, tys_len, hm2.1.len]
  subst hnm
  have hcapm := hm2.1.cap
  have hsmm := hm2.1.small
  unfold maxLen at hsmm
  have HMK := Lib.hid hm2.1
  have HMF : Hid (Flw w5 w5.heap.size ms) := Lib.hid (fun r hr => (hm4 r hr).1)
  have HMT := Lib.hid hm5
  have HMC : Hid (w5.cell? ⟨q, 0, none⟩ = some (.slice Am T.length cm)) := Lib.hid (cell_of_row w5 q 0 _ _ _ hm1)
  have HS := Lib.hid (fun z : Later w5 => sameType_any xn xn A2 A4 m2 m4 c2 c4 xl xl z.val (HXA5.out.go z.2) (HXB5.out.go z.2))
  rw [eqT_self] at HS
  have HLN : Hid (∀ z : Later w5, Calls Try.prog 15 #[.pointer (some ⟨p, 0, none⟩)] z.val fun e w' => e = .returned (.int .i64 T.length) ∧ Below z.val.heap.size z.val w') := Lib.hid (fun z => (lenT_any z.val c k base p T (HR5.out.go z.2)).mono fun e w' h => ⟨h.1, by rw [h.2]; exact Below.refl _ _⟩)
  have a0 : ∀ z : Later w5, z.val.cell? ⟨ba, 0, none⟩ = some (.pointer (some ⟨q, 0, none⟩)) := fun z => later_old z CM5.out.cell
  have a1 : ∀ z : Later w5, z.val.cell? ⟨q, 0, none⟩ = some (.slice Am T.length cm) := fun z => later_old z HMC.out
  have a2 : ∀ z : Later w5, z.val.cell? ⟨t1, 0, none⟩ = some (.int .i64 xn) := fun z => later_old z HTA5.out.cell0
  have a3 : ∀ z : Later w5, z.val.cell? ⟨t1, 1, none⟩ = some (.slice A2 m2 c2) := fun z => later_old z HTA5.out.cell1
  have a4 : ∀ z : Later w5, z.val.cell? ⟨t2, 0, none⟩ = some (.int .i64 xn) := fun z => later_old z HTB5.out.cell0
  have a5 : ∀ z : Later w5, z.val.cell? ⟨t2, 1, none⟩ = some (.slice A4 m4 c4) := fun z => later_old z HTB5.out.cell1
  clear hm1 hm2 hm3 hm4 hm5 HM5
  refine wp_region_later (by kernel_rfl) (by kernel_rfl) ?_
  repeat (go_big_quiet_step (first | (go_at_call 18; exact Calls.later (HS.out _)) | (go_at_call 15; exact Calls.later (HLN.out _))))
  refine wpQuiet_nil ?_
  rintro w6 ⟨⟨_, hq⟩, rfl⟩
  have HR6 := Lib.hid (HR5.out.go hq)
  have HMK6 := Lib.hid (HMK.out.go hq)
  have HMF6 := Lib.hid (HMF.out.go hq)
  have HMC6 := Lib.hid ((hq.cell (p := ⟨q, 0, none⟩) (lt_of_some HMC.out)).trans HMC.out)
  have CM6 := Lib.hid (CM5.out.go hq)
  have CR6 := Lib.hid (CR5.out.go hq)
  have HB6 := Lib.hid (HB5.out.trans (hq.mono (by have := HB5.out.size; omega)))
  clear hq HS HLN a0 a1 a2 a3 a4 a5 HR5 HMK HMF HMC CM5 CR5 HB5 HTA5 HTB5 HXA5 HXB5
  obtain ⟨vp, rs, r1, r2, _, _, r5, r6⟩ := HR6.out.ex
  obtain ⟨Ap, np, cp, rfl, hkp⟩ := r2.shape
  have hnp : np = T.length := by rw [← r6, tys_len, hkp.len]
  subst hnp
  have HPK := Lib.hid hkp
  have HPF : Hid (Flw w6 w6.heap.size rs) := Lib.hid (fun r hr => (r5 r hr).1)
  have HPC : Hid (w6.cell? ⟨p, 0, none⟩ = some (.slice Ap T.length cp)) := Lib.hid (cell_of_row w6 p 0 _ _ _ r1)
  have HPT := Lib.hid r6
  have hb7 : Below w6.heap.size w6 (w6.alloc (.cells #[.int .i64 0] 3)) := (Below.refl _ _).alloc (Nat.le_refl _) _
  have hz7 : (w6.alloc (.cells #[.int .i64 0] 3)).heap.size = w6.heap.size + 1 := by simp
  have hb8 : Below w6.heap.size w6 ((w6.alloc (.cells #[.int .i64 0] 3)).alloc (.cells #[.pointer (some ⟨p, 0, none⟩)] 26)) := hb7.alloc (by simp) _
  have HB8 := Lib.hid hb8
  have CK8 := Lib.hid ((Cel.new (w := w6) (t := 3) (v := .int .i64 0)).go ((Below.refl _ _).alloc (Nat.le_refl _) (.cells #[.pointer (some ⟨p, 0, none⟩)] 26)))
  have hc8 := Cel.new (w := w6.alloc (.cells #[.int .i64 0] 3)) (t := 26) (v := .pointer (some ⟨p, 0, none⟩))
  rw [hz7] at hc8
  have HC8 := Lib.hid hc8.cell
  have HAL := Lib.hid (allT_any (some ⟨p, 0, none⟩) (w6.alloc (.cells #[.int .i64 0] 3)))
  rw [hz7] at HAL
  have hl1 := CM6.out.lt
  have hl2 := CR6.out.lt
  have hlq := lt_of_some HMC6.out
  have hlp := lt_of_some HPC.out
  clear r1 r2 r5 r6 hkp hb7 hb8 hz7 hc8 HR6
  go_wp2_with fail
  refine HAL.out.mono ?_
  rintro e w8 ⟨rfl, hw8⟩
  rw [← hw8] at HB8 CK8 HC8
  clear hw8 HAL
  have h68 := CK8.out.lt
  have HB80 := Lib.hid (Nat.le_refl w8.heap.size)
  go_wp2
  refine (wpIn_wide (n := 6)).1 ?_
  refine' range_told_box (Kp := Ko w6.heap.size) rfl (by omega) (gf := 28) (lb := #[.pointer (some ⟨w6.heap.size + 1, 0, none⟩)]) rfl trivial (enters_of Try.func28 (by kernel_rfl) rfl)
    (encs := fun x : Int × Ty => #[.int .i64 x.1, .agg #[.int .i64 x.2.n, .slice x.2.A x.2.m x.2.c]]) (fun _ => rfl) (MT T) (fun h k => h.t k) (fun W l o o' _ h hc _ => Ko.b W l o o' h hc) (S := fun xs => xs.length = T.length) ?seq
    (IA w6 w6.heap.size) (ia_own (Nat.le_of_lt h68)) ⟨HB8.out, CK8.out⟩ _ (fun pre x b W => IA w6 w6.heap.size pre W ∧ MT T pre x W ∧ TyB W b x.2.n x.2.A x.2.m x.2.c) ?rr ?assign ?body ?done
  case seq =>
    intro l J W hW hJ hY h0
    have hW6 : Below w6.heap.size w6 W := HB8.out.trans (hW.mono (Nat.le_of_lt h68))
    exact run_all 5 l (w6.heap.size + 1) p w6.heap.size w6.heap.size Ap T.length cp rs J W hT (by omega) (Nat.le_refl _) (Nat.lt_of_lt_of_le h68 hW.size) (by rw [HPT.out]; exact HSM.out) hJ (fun pre x W1 hj hm => hY pre x W1 hj (by rw [← HPT.out]; exact hm))
      ((hW.cell (p := ⟨w6.heap.size + 1, 0, none⟩) (lt_of_some HC8.out)).trans HC8.out) ((hW6.cell (p := ⟨p, 0, none⟩) hlp).trans HPC.out) (HPK.out.below hW6) (HPF.out.below hW6) h0
  case rr =>
    rintro pre x b s A B row ⟨h1, ⟨h2, h3, h4⟩, h5⟩ hg hrow
    have hr' : ∀ r, row = some r → ∃ o : Obj, A.heap[r]? = some o ∧ o.isCells = false := fun r e => (hrow r e).2
    refine ⟨ia_own (Nat.le_of_lt h68) _ _ _ row h1 hg hrow, ⟨h2, h3, h4.grown hg hr'⟩, (hg.block b h5.lt (fun e => ?_)).trans h5⟩
    obtain ⟨o, ho1, ho2⟩ := hr' b e.symm
    unfold TyB at h5
    rw [h5] at ho1
    cases ho1
    simp [Obj.isCells] at ho2
  case assign =>
    intro l pre x W hi hm
    obtain ⟨b, hb⟩ : ∃ b, W.heap.size = b := ⟨_, rfl⟩
    have hbe : Below W.heap.size W (W.alloc (.cells #[.int .i64 x.2.n, .slice x.2.A x.2.m x.2.c] 35)) := (Below.refl _ _).alloc (Nat.le_refl _) _
    have HFA : Hid (IA w6 w6.heap.size pre (W.alloc (.cells #[.int .i64 x.2.n, .slice x.2.A x.2.m x.2.c] 35)) ∧ MT T pre x (W.alloc (.cells #[.int .i64 x.2.n, .slice x.2.A x.2.m x.2.c] 35)) ∧ TyB (W.alloc (.cells #[.int .i64 x.2.n, .slice x.2.A x.2.m x.2.c] 35)) b x.2.n x.2.A x.2.m x.2.c) :=
      Lib.hid ⟨⟨hi.1.alloc hi.1.size _, hi.2.go hbe⟩, ⟨hm.1, hm.2.1, hm.2.2.go hbe⟩, by rw [← hb]; exact TyB.new⟩
    clear hi hm
    gi_wp2
    refine ⟨(KeepsOthers.alloc _ _).from _, Ko.below hbe, b, ?_, HFA.out⟩
    clear HFA hbe hb
    clear W
    exact rfl
  case body =>
    rintro l pre x b W ⟨hi, hm, ht⟩
    have hpl : pre.length < T.length := (List.getElem?_eq_some_iff.1 hm.2.1).1
    obtain ⟨bm, om, r, hr, rfl, hbm, g0, g1⟩ := (HMK6.out.below hi.1).ty hpl
    have hrt : r.t = x.2.t := by
      have h1 := tys_at hr
      rw [HMT.out, hm.2.1] at h1
      exact (Option.some.inj h1).symm
    have hrx := ((HMF6.out r (List.mem_of_getElem? hr)).below hi.1).more hi.1.size
    obtain ⟨rn, rA, rm, rcap, rl⟩ := r
    have hrn : rn = x.2.n := congrArg Prod.fst hrt
    have hrl : rl = x.2.l := congrArg Prod.snd hrt
    subst hrn hrl
    simp only at g0 g1 hrx
    have HS := Lib.hid (fun z : Later W => sameType_any x.2.n x.2.n x.2.A rA x.2.m rm x.2.c rcap x.2.l x.2.l z.val (hm.2.2.go z.2) (hrx.go z.2))
    rw [eqT_self] at HS
    have a0 : ∀ z : Later W, z.val.cell? ⟨w6.heap.size, 0, none⟩ = some (.int .i64 pre.length) := fun z => later_old z hi.2.cell
    have a1 : ∀ z : Later W, z.val.cell? ⟨ba, 0, none⟩ = some (.pointer (some ⟨q, 0, none⟩)) := fun z => later_old z ((hi.1.cell (p := ⟨ba, 0, none⟩) hl1).trans CM6.out.cell)
    have a2 : ∀ z : Later W, z.val.cell? ⟨q, 0, none⟩ = some (.slice (some ⟨bm, om, none⟩) T.length cm) := fun z => later_old z ((hi.1.cell (p := ⟨q, 0, none⟩) hlq).trans HMC6.out)
    have a3 : ∀ z : Later W, z.val.cell? ⟨b, 0, none⟩ = some (.int .i64 x.2.n) := fun z => later_old z ht.cell0
    have a4 : ∀ z : Later W, z.val.cell? ⟨b, 1, none⟩ = some (.slice x.2.A x.2.m x.2.c) := fun z => later_old z ht.cell1
    have a5 : ∀ z : Later W, z.val.cell? ⟨bm, om + pre.length * 2, none⟩ = some (.int .i64 x.2.n) := fun z => later_old z g0
    have a6 : ∀ z : Later W, z.val.cell? ⟨bm, om + pre.length * 2 + 1, none⟩ = some (.slice rA rm rcap) := fun z => later_old z g1
    have d0 : ¬ (T.length : Int) ≤ (pre.length : Int) := by omega
    have d1 : decide ((T.length : Int) ≤ (pre.length : Int)) = false := decide_eq_false d0
    have d2 : (0 : Int) ≤ (pre.length : Int) := by omega
    have d6 : ¬ T.length ≤ pre.length := by omega
    have d7 : decide (T.length ≤ pre.length) = false := decide_eq_false d6
    have d3 : (pre.length : Int) < (T.length : Int) := by omega
    have d4 : IntKind.i64.wrap ((pre.length : Int) + 1) = (pre.length : Int) + 1 := by rw [IntKind.wrap_i64]; omega
    have d5 : x.1 = (pre.length : Int) + 1 := hm.1
    have HI := Lib.hid hi
    clear hi hm ht hr hrt hrx g0 g1
    gi_wp2
    refine round_region (by kernel_rfl) (by kernel_rfl) (by kernel_rfl) ?_
    repeat (go_big_quiet_step (first | (go_at_call 18; exact Calls.later (HS.out _))))
    refine wpQuiet_nil ?_
    rintro w7 ⟨⟨_, hq⟩, rfl⟩
    have HI7 : Hid (IA w6 w6.heap.size pre w7) := Lib.hid ⟨HI.out.1.trans (hq.mono HI.out.1.size), HI.out.2.go hq⟩
    have HQ := Lib.hid hq
    have e0 := HI7.out.2.cell
    have e1 := HI7.out.2.fr
    have HI8 : Hid (IA w6 w6.heap.size (pre ++ [x]) (w7.setCell ⟨w6.heap.size, 0, none⟩ (.int .i64 ((pre.length : Int) + 1)))) := Lib.hid ⟨HI7.out.1.setCell (p := ⟨w6.heap.size, 0, none⟩) (Nat.le_refl _) _, by
      have := HI7.out.2.set (.int .i64 ((pre.length : Int) + 1))
      rw [List.length_append]
      simpa using this⟩
    clear hq HS a0 a1 a2 a3 a4 a5 a6
    gi_wp2
    exact ⟨((keepsOthers_below HQ.out).from _).trans ((KeepsOthers.setCell _ _ _).from _), (Ko.below HQ.out).t (Ko.set _), HI8.out⟩
  case done =>
    rintro D ys W hD hS hi hK
    have HK := Lib.hid (show Df W D from hK)
    have HI := Lib.hid hi
    have hys : ((ys.length : Nat) : Int) = T.length := by rw [hS]
    have a0 : ∀ z : Later W, z.val.cell? ⟨w6.heap.size, 0, none⟩ = some (.int .i64 T.length) := fun z => later_old z (by rw [← hys]; exact hi.2.cell)
    have a1 : ∀ z : Later W, z.val.cell? ⟨ba, 0, none⟩ = some (.pointer (some ⟨q, 0, none⟩)) := fun z => later_old z ((hi.1.cell (p := ⟨ba, 0, none⟩) hl1).trans CM6.out.cell)
    have a2 : ∀ z : Later W, z.val.cell? ⟨q, 0, none⟩ = some (.slice Am T.length cm) := fun z => later_old z ((hi.1.cell (p := ⟨q, 0, none⟩) hlq).trans HMC6.out)
    have CRW := Lib.hid ((CR6.out.below hi.1 hl2))
    have HBW := Lib.hid (HB6.out.trans (hi.1.mono (by have := HB6.out.size; omega)))
    clear hi hK hys
    dsimp only
    go_wp2_with fail
    refine wp_region_later_tail 7 (by kernel_rfl) (by kernel_rfl) ?_
    simp only [List.take_succ_cons, List.take_zero, List.drop_succ_cons, List.drop_zero]
    repeat (go_big_quiet_step (fail))
    refine wpQuiet_nil ?_
    rintro w7 ⟨⟨_, hq⟩, rfl⟩
    have HK7 := Lib.hid (HK.out.go hq)
    have CR7 := Lib.hid (CRW.out.go hq)
    have HB7 := Lib.hid (HBW.out.trans (hq.mono (by have := HBW.out.size; omega)))
    have e2 := CR7.out.cell
    have f2 := CR7.out.fr
    have HD8 := Lib.hid (HK7.out.set ⟨ba + 1, 0, none⟩ (.bool true))
    have HB8' := Lib.hid (HB7.out.setCell (p := ⟨ba + 1, 0, none⟩) (by simp) (.bool true))
    have D2 := Lib.hid (((CR7.out.set (.bool true)).put HD8.out (.deferred none)).cell)
    have HSZ : Hid (ba ≤ D) := Lib.hid (by have := HB6.out.size; omega)
    clear hq a0 a1 a2
    go_wp2
    have d2 := D2.out
    refine leave_one HD8.out ?_
    refine ⟨.bool true, ?_, rfl, by rw [hba]; exact HD8.out.below HSZ.out HB8'.out (.deferred none)⟩
    simp [results, Try.f14, go_sem, d2]
end Go.Proofs.Ytgddlpabgeeflaa
